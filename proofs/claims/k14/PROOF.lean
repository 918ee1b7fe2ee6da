import PyProof.Rows.All
import Wide.All
import OpenK.AllK
import Wide.FinOn
import KE.KExcSuper
import HandS.ForExc
import HandS.TryMany
import HandS.ExcCtx
import HandS.HotCalls
import HandS.ForMost
import HandS.ExcIs
import HandS.ExcField
import KE.KExcIs
import HandS.IsInst
import HandS.Comp
import HandS.Ends
import PyProof.ReprRoads
import HandS.FStrTup
import PyProof.ReprText
import HandS.SetTxt0
import HandS.Set
import HandS.SetFor
import HandS.Strs
import PyProof.Rows.SortStr
import PyProof.Rows.SortShellK
import HandS.DictTup
import HandS.Conv
import HandS.DictSubView
import KE.KDictCopyH
import KE.KDictWalk
import PyProof.TupleOfGen
import HandS.SortKw
import HandS.MakeKw
import KE.DataMinMax
import KE.DataCmp
import PyProof.SliceList
import PyProof.CallFns
import HandS.DictComp
import KE.DataMinKey
import KE.GoesMore
import KE.GoesEnum
import HandS.Walk
import HandS.SortInts
import HandS.TupAny
import HandS.TupMul
import HandS.Dict
import HandS.Star
import HandS.WordsExc
import HandS.Defaults
import HandS.MakeKwOnly
import KE.KOpsOwn
import HandS.OwnEq
import HandS.Evl
import HandS.TupSets
import HandS.SortRule
import KE.SortData
import HandS.List
import HandS.Wide
import HandS.Zip
import HandS.StrMore
import PyProof.Rows.StrCut
import PySem.Challenge.RW_ringclause_k14_whole_nets_agree
import HandS.Deep
import HandS.DictEq
import PyProof.DictFindH
import PyProof.EqKinds
import PyProof.FactsAll.dict_1
import PyProof.FactsAll.subtypes_5
import PyProof.FactsAll.subtypes_6
import HandS.ExcOwn
import PyProof.IsRules
import HandS.Style
import KE.RegKSuper
set_option Elab.async false
set_option linter.all false
set_option maxRecDepth 100000
set_option maxHeartbeats 4000000
/-! An own exception over ValueError whose __init__ is: super().__init__('..'); self.f = f -/
namespace PySem
namespace Sup
open PySem.W PySem.Calls PyProof.Rows PySem.HandSPX

def sArgs (fld : Str) (p1 p2 : Pos) : Arguments :=
  { posonlyargs := [], args := [{ arg := "self", annotation := none, pos := p1 }, { arg := fld, annotation := none, pos := p2 }], vararg := none, kwonlyargs := [], kw_defaults := [], kwarg := none, defaults := [] }
def sBody (fld msg : Str) (a1 a2 a3 a4 a5 a6 b1 b2 b3 b4 : Pos) : List Stmt :=
  [.Expr (.Call (.Attribute (.Call (.Name "super" a1) [] [] a2) "__init__" a3) [.Constant (.str msg) 0 a4] [] a5) a6,
   .Assign [.Attribute (.Name "self" b1) fld b2] (.Name fld b3) b4]
def sScope (fld : Str) : Scope :=
  { kind := .function, names := [(PySem.Str.ofString "self", .local), (fld, .local), (PySem.Str.ofString "__class__", .free), (PySem.Str.ofString "super", .globalImplicit)], isGenerator := false, isCoroutine := false, more := [] }

abbrev sFn (fld msg qual : Str) (p1 p2 a1 a2 a3 a4 a5 a6 b1 b2 b3 b4 : Pos) (doc pm : Value) (an : Option Addr) (cda cc : Addr) (ct : Value) : FuncData :=
  fnX "__init__" qual (sArgs fld p1 p2) (sBody fld msg a1 a2 a3 a4 a5 a6 b1 b2 b3 b4) (sScope fld) [("__class__", cc)] .none .none doc pm an (.ref cda) ct
/-- the field's name is none of the other names; what follows from it, each by rfl -/
structure FldOk (fld : Str) : Prop where
  bd : ∀ (msg qual : Str) (p1 p2 a1 a2 a3 a4 a5 a6 b1 b2 b3 b4 : Pos) (doc pm : Value) (an : Option Addr) (cda cc : Addr) (ct u v : Value),
    bindArgs (sFn fld msg qual p1 p2 a1 a2 a3 a4 a5 a6 b1 b2 b3 b4 doc pm an cda cc ct) ⟨[u, v], []⟩ = pure [(("self" : Str), u), (fld, v)]
  lf : (sScope fld).names.lookup fld = some .local
  lc : (sScope fld).names.lookup ("__class__" : Str) = some .free
  ls : (sScope fld).names.lookup ("super" : Str) = some .globalImplicit
  nd : (fld == ("__debug__" : Str)) = false
  ns : ("self" : Str) ≠ fld

/-- super().__init__('..') is a method's call on one row of the text: by ⟨_, rfl⟩ where the places are written -/
def EvOk (fld msg qual : Str) (p1 p2 a1 a2 a3 a4 a5 a6 b1 b2 b3 b4 : Pos) (doc pm : Value) (an : Option Addr) (cda cc : Addr) (ct : Value) : Prop := ∀ (L a : Addr), ∃ pl : Sem Bool,
    eval (.Call (.Attribute (.Call (.Name "super" a1) [] [] a2) "__init__" a3) [.Constant (.str msg) 0 a4] [] a5) (callEnv (sFn fld msg qual p1 p2 a1 a2 a3 a4 a5 a6 b1 b2 b3 b4 doc pm an cda cc ct) L a) = (do
      let ov ← attributeBase (.Call (.Name "super" a1) [] [] a2) "__init__" (callEnv (sFn fld msg qual p1 p2 a1 a2 a3 a4 a5 a6 b1 b2 b3 b4 doc pm an cda cc ct) L a)
        (eval (.Call (.Name "super" a1) [] [] a2) (callEnv (sFn fld msg qual p1 p2 a1 a2 a3 a4 a5 a6 b1 b2 b3 b4 doc pm an cda cc ct) L a))
      standAt a3.atName
      let (f, first) ← holding [ov] (getMethod ov "__init__" pl)
      callWith a5 f first (backTo a5 (starEach [.Constant (.str msg) 0 a4] (callEnv (sFn fld msg qual p1 p2 a1 a2 a3 a4 a5 a6 b1 b2 b3 b4 doc pm an cda cc ct) L a))) [])
/-- what the written part says of such a class at C, its __init__ at fI, the cell at cc that holds C, the code record at cda -/
structure SupTxt (K : Frag) (mg : Str → Option Value) (prog : Program) (cn fld msg : Str) (C fI : Addr) : Prop where
  gC : mg cn = some (.ref C)
  ok : FldOk fld
  cls : ∃ nm q N bs bm sn sub ab col dd k0 k1 k2 k3 k5, K.lookup C = some (excClassObj nm q C N bs bm true sn sub ab col dd k0 k1 k2 k3 k5 "ValueError.__new__") ∧ refsVE bm = true
  sa : findIn K (.ref C) "__setattr__" = some (some (.builtin "object.__setattr__"))
  ga : findIn K (.ref C) "__getattribute__" = some (some (.builtin "BaseException.__getattribute__"))
  gg : findIn K (.ref C) "__getattr__" = some none
  noF : findIn K (.ref C) fld = some none
  iC : findIn K (.ref C) "__init__" = some (some (.ref fI))
  tF : typeIn K (.ref fI) = some (.type "function")
  kC : keepIn K (.ref C) = true
  exC : subIn K (.ref C) (.type "BaseException") = some true
  veC : subIn K (.ref C) (.type "ValueError") = some true
  tyC : typeIn K (.ref C) = some (.type "type")
  hdC : hasDictIn K C = true
  mC : mroIn K C (.ref C) = some true
  opq : nsIn K cStatics "thirdparty.any" = some none
  sup : ks_superIn K C C "__init__" = some (some (.builtin "ValueError.__init__"))
  htop : (prog.main.scope.names.lookup ("super" : Str)).isSome = false
  mgS : mg "super" = none
  fn : ∃ (oc : Value) (od : Option Addr) (qual : Str) (doc pm : Value) (an : Option Addr) (cda cc : Addr) (ct : Value) (osl : Array (Option Value)) (p1 p2 a1 a2 a3 a4 a5 a6 b1 b2 b3 b4 : Pos),
    K.lookup fI = some ⟨oc, od, .func (sFn fld msg qual p1 p2 a1 a2 a3 a4 a5 a6 b1 b2 b3 b4 doc pm an cda cc ct), osl⟩ ∧ EvOk fld msg qual p1 p2 a1 a2 a3 a4 a5 a6 b1 b2 b3 b4 doc pm an cda cc ct ∧
    codeIn K (.ref cda) qual = true ∧
    (∃ cl cld csl, K.lookup cc = some ⟨cl, cld, .cell (some (.ref C)), csl⟩) ∧
    (∃ ccl cdd vs ccs file tf, K.lookup cda = some ⟨ccl, cdd, .fields vs, ccs⟩ ∧ vs[2]? = some (.str file tf) ∧ ((prog.main.file : Str) == file) = true)

theorem line1 (v : Value) : [v].length ≤ sizeLine := by
  rw [sizeLine_eq]
  exact (by decide : 1 ≤ 16777216)

/-- what __init__ leaves of a fresh exception at x -/
structure SupEnd (h h' : Heap) (x C dx : Addr) (fld : Str) (v : Value) : Prop where
  keep : ∀ b o, b ≠ x → h.get? b = some o → h'.get? b = some o
  obj : ∃ t1 : Addr, h'.get? x = some { cls := .ref C, dict := some dx, data := .fields #[.ref t1, .none, .none, .none, .bool false, .none] }
  dbig : h.objs.size ≤ dx
  dne : dx ≠ x
  ns : h'.Ns1 dx (fun y => if y = fld then some v else none)

section
variable {prog : Program} {w : World} {A : Around} {E : Value → Shared → Prop} {R : Result → Shared → Prop} {s : Shared} {K : Frag} {mg mb : Str → Option Value} {cn fld msg : Str} {C fI : Addr}

/-- the bound ValueError.__init__ called with one argument -/
theorem base_init {u x t0 : Addr} {a : Value} {Q : Value → Shared → Prop} (T : SupTxt K mg prog cn fld msg C fI) (X : K.In s.heap)
    (hu : s.heap.get? u = some (kxs_mw "ValueError.__init__" x)) (hx : s.heap.get? x = some (excO C t0))
    (hq : ∀ h' t1, (∀ b o, b ≠ x → s.heap.get? b = some o → h'.get? b = some o) → h'.get? x = some (excO C t1) → Q .none { s with heap := h' }) :
    wpAny (model prog w) A (call (.ref u) [a]) Q E s := by
  obtain ⟨nm, q, N, bs, bm, sn, sub, ab, col, dd, k0, k1, k2, k3, k5, hC, hbm⟩ := T.cls
  obtain ⟨hh, g, d, tk, os⟩ := s
  have hC' := X _ _ hC
  refine wpAny_call (codeAny_of_tree ?_)
  show wpAny (model prog w) A.in1 (callAny (.ref u) ⟨[a], []⟩) _ _ _
  unfold callAny
  refine wpAny_bind (wpAny_load hu ?_)
  have m1 : (Value.type "method-wrapper" == Value.type "method") = false := by decide
  have m2 : (Value.type "method-wrapper" == Value.type "builtin_function_or_method") = false := by decide
  have m3 : (Value.type "method-wrapper" == Value.type "method-wrapper") = true := by decide
  simp only [kxs_mw, m1, m2, m3, Bool.or_true, Bool.false_or, if_true]
  refine KFB.if_so (by decide) ?_
  refine wpAny_bind (check_bound_init PySem.F.excBase_ValueError.toExcCallFacts hC' hx rfl ?_)
  refine wpAny_bind (wpAny_pure (wpAny_pure ?_))
  refine ⟨plainId_quiet PySem.F.excBase_ValueError.init.plain _, codeAny_builtin PySem.F.excBase_ValueError.initEntry ?_⟩
  exact exc_init_tree (cls := .ref C) (t0 := t0) (dv := none) (c2 := .none) (c3 := .none) (b4 := .bool false) hx (line1 a) fun h' k e _ => hq h' _ k e

theorem sup_init (T : SupTxt K mg prog cn fld msg C fI) {x t0 : Addr} {v : Value} (X : K.In s.heap) (hlim : s.heap.NoLimit) (hG : s.heap.Ns mainGlobals mg) (hB : s.heap.Ns builtinsNs mb) (hmb : mb "super" = some (.type "super"))
    (hx : s.heap.get? x = some (excO C t0)) (hnx : K.lookup x = none) (hroom : A.depth < recursionLimit)
    (hq : ∀ h' tk dx, SupEnd s.heap h' x C dx fld v → R (.ok (.ret .none)) { s with heap := h', toks := tk }) :
    codeAny (model prog w) A (.call (.ref fI) ⟨[.ref x, v], []⟩) R s := by
  obtain ⟨oc, od, qual, doc, pm, an, cda, cc, ct, osl, p1, p2, a1, a2, a3, a4, a5, a6, b1, b2, b3, b4, ho, hevO, hcd, ⟨cl, cld, csl, hcell⟩, ⟨ccl, cdd, vs, ccs, file, tf, hcda, hvs, hfile⟩⟩ := T.fn
  obtain ⟨nm, q, N, bs, bm, sn, sub, ab, col, dd, k0, k1, k2, k3, k5, hC, hbm⟩ := T.cls
  have O := T.ok
  refine ks_codeAny_call_defAt (fd := fnX "__init__" qual (sArgs fld p1 p2) (sBody fld msg a1 a2 a3 a4 a5 a6 b1 b2 b3 b4) (sScope fld) [("__class__", cc)] .none .none doc pm an (.ref cda) ct) (binds := [("self", .ref x), (fld, v)])
    hroom (X _ _ ho) rfl hlim (codeRec_of X hcd) rfl (BindsTo.of_eq (O.bd _ _ _ _ _ _ _ _ _ _ _ _ _ _ _ _ _ _ _ _ _ _)) (by
      intro y hy
      simp only [sScope, List.mem_cons, List.not_mem_nil, or_false] at hy
      rcases hy with rfl | rfl | rfl | rfl <;> (intro z; cases z)) (by
      intro y hy
      simp only [List.mem_cons, List.not_mem_nil, or_false] at hy
      rcases hy with rfl | rfl
      · rfl
      · exact O.lf) (fun h₁ hns k => ?_) rfl rfl rfl
  have X₁ : K.In h₁ := X.keeps k
  have hx₁ := k _ _ hx
  have hvf : ([(("self" : Str), Value.ref x), (fld, v)].reverse).lookup fld = some v := by
    show List.lookup fld [(fld, v), (("self" : Str), Value.ref x)] = some v
    simp [List.lookup]
  have hvs' : ([(("self" : Str), Value.ref x), (fld, v)].reverse).lookup ("self" : Str) = some (.ref x) := by
    show List.lookup ("self" : Str) [(fld, v), (("self" : Str), Value.ref x)] = some (.ref x)
    have e : (("self" : Str) == fld) = false := by simpa using O.ns
    simp [List.lookup, e]
  have hcls : clsIn K C = some { name := nm, bases := bs, mro := .ref C :: bm, ns := N, qualname := q, hasDict := true, slotNames := sn, subclasses := sub, abstract := ab, collection := col, hasDel := false } := by unfold clsIn; rw [hC] <;> rfl
  have hsc : (sScope fld).names.lookup ("self" : Str) = some .local := rfl
  show wpAt (model prog w) _ _ (execs (sBody fld msg a1 a2 a3 a4 a5 a6 b1 b2 b3 b4) _) _ _ _
  obtain ⟨pl, hev⟩ := hevO s.heap.objs.size fI
  refine ks_wpAt_execs_cons (ks_wpAt_Expr_any (ks_wpAt_MethodCall (pl := pl) (he := hev) (ks_wpAt_super_base O.ls O.lc (by decide) rfl (X₁ _ _ ho) rfl rfl rfl (X₁ _ _ hcda) rfl hvs hfile T.htop ?_)))
  refine ks_loadName_global rfl O.ls (loadGlobal_builtin (hG.keeps k) T.mgS (hB.keeps k) hmb ⟨rfl, ?_⟩)
  refine wpAny_loadName_free rfl O.lc rfl ⟨_, X₁ _ _ hcell, rfl⟩ ?_
  refine wpAny_loadName_local rfl hsc hns hvs' ?_
  refine ks_wpAny_isType_cls (X₁ _ _ hC) rfl ⟨rfl, ?_⟩
  refine ks_wpAny_call_super (X₁ _ _ hC) rfl hx₁ rfl (fun c e => by cases e) (looks_mroIn X₁ T.mC) (fun h₂ e₂ k₂ => ?_)
  have X₂ : K.In h₂ := X₁.keeps k₂
  have hx₂ := k₂ _ _ hx₁
  have I₂ : InstAt h₂ x (excO C t0) C none := ⟨hx₂, rfl, rfl, trivial⟩
  have xC : x ≠ C := ks_ne X₂ I₂ hcls
  have hsup : alongIn K "__init__" ((_root_.List.dropWhile (· != Value.ref C) (.ref C :: bm)).drop 1) = some (some (.builtin "ValueError.__init__")) := by
    have z := T.sup
    unfold ks_superIn at z
    rw [hcls] at z
    exact z
  refine kxs_getMethod kxs_ValueError e₂ (looks_opaque X₂ T.opq) (l₀ := .ref C :: bm) (fun A Q E s k q => wpAny_bind ((looks_clsIn X₂ hcls) A _ E s k (wpAny_pure q))) rfl X₂ hsup (I₂.type.andThen (looks_subIn X₂ T.veC)) xC (by decide) ?_
  refine kxs_callWith (i := "ValueError.__init__") (x := x) rfl (evalArgs_plain ?_)
  refine spliced_cons (Constant_str (k := 0) (pos := a4) (spliced_nil ?_))
  have hu₃ : (h₂.push (kxs_mw "ValueError.__init__" x)).get? h₂.objs.size = some (kxs_mw "ValueError.__init__" x) := Heap.get?_push_at rfl rfl
  have k₃ : ∀ b o, h₂.get? b = some o → (h₂.push (kxs_mw "ValueError.__init__" x)).get? b = some o := fun b o e => Heap.get?_push_of_some _ e
  refine ⟨hu₃, base_init T (X₂.keeps k₃) hu₃ (k₃ _ _ hx₂) (fun h₄ t4 k₄ hx₄ => ?_)⟩
  have kx : ∀ b o, b ≠ x → s.heap.get? b = some o → h₄.get? b = some o := fun b o hb e => k₄ b o hb (k₃ _ _ (k₂ _ _ (k _ _ e)))
  have X₄ : K.In h₄ := fun a o e => kx a o (fun z => by rw [z, hnx] at e; cases e) (X a o e)
  have nL : s.heap.objs.size ≠ x := Nat.ne_of_gt (Heap.lt_size hx)
  have hns₄ : h₄.Ns s.heap.objs.size (fun y => ([(("self" : Str), Value.ref x), (fld, v)].reverse).lookup y) := by
    obtain ⟨oL, es, ep, hL, r⟩ := hns
    exact ⟨oL, es, ep, k₄ _ _ nL (k₃ _ _ (k₂ _ _ hL)), r⟩
  show wpAt (model prog w) _ _ (execs [.Assign [.Attribute (.Name "self" b1) fld b2] (.Name fld b3) b4] _) _ _ _
  refine wpAt_of_wpAny (wpAny_execs_cons (plainObj_wpAny_Assign_Attribute ?_))
  refine wpAny_Name (wpAny_loadName_local rfl O.lf hns₄ hvf ?_) O.nd
  refine wpAny_Name (wpAny_loadName_local rfl hsc hns₄ hvs' ?_) (by decide)
  refine set_plain X₄ (ox := excO C t4) (od := none) ⟨hx₄, rfl, rfl, trivial⟩ T.sa ?_
  refine exc_osa X₄ hx₄ hcls (show refsVE (.ref C :: bm) = true from hbm) rfl T.noF (fun h₅ tk₅ dx k₅ dn dne hx₅ hn₅ => ?_)
  have le1 : s.heap.objs.size < h₄.objs.size := by
    obtain ⟨oL, es, ep, hL, r⟩ := hns₄
    exact Heap.lt_size hL
  refine wpAny_execs_nil (hq h₅ tk₅ dx ⟨fun b o hb e => k₅ b o hb (kx b o hb e), ⟨t4, hx₅⟩, Nat.le_of_lt (Nat.lt_of_lt_of_le le1 dn), dne, hn₅⟩)
end

/-- C(v): the exception at e, its own dict at d -/
structure SupMade (h h' : Heap) (e C d : Addr) (fld : Str) (v : Value) : Prop where
  keep : ∀ b o, h.get? b = some o → h'.get? b = some o
  new : h.objs.size ≤ e
  obj : ∃ oe vs, h'.get? e = some oe ∧ oe.cls = .ref C ∧ oe.dict = some d ∧ oe.data = .fields vs ∧ vs[1]? = some .none ∧ vs[2]? = some .none
  dbig : h.objs.size ≤ d
  dne : d ≠ e
  ns : h'.Ns1 d (fun y => if y = fld then some v else none)
section
variable {prog : Program} {w : World} {A : Around} {E : Value → Shared → Prop} {R : Result → Shared → Prop} {s : Shared} {K : Frag} {mg mb : Str → Option Value} {cn fld msg : Str} {C fI : Addr}
theorem sup_made (T : SupTxt K mg prog cn fld msg C fI) {v : Value} (X : K.In s.heap) (hlim : s.heap.NoLimit) (hG : s.heap.Ns mainGlobals mg) (hB : s.heap.Ns builtinsNs mb) (hmb : mb "super" = some (.type "super")) (hroom : A.depth + 1 < recursionLimit)
    (hq : ∀ h' tk e d, SupMade s.heap h' e C d fld v → R (.ok (.ret (.ref e))) { s with heap := h', toks := tk }) :
    codeAny (model prog w) A (.call (.ref C) ⟨[v], []⟩) R s := by
  obtain ⟨nm, q, N, bs, bm, sn, sub, ab, col, dd, k0, k1, k2, k3, k5, hC, hbm⟩ := T.cls
  obtain ⟨hp, g, dr, tk, os⟩ := s
  have k : ∀ b o, hp.get? b = some o → ((hp.push (kdv_tup [v])).push (excO C hp.objs.size)).get? b = some o := fun b o e => Heap.get?_push_of_some _ (Heap.get?_push_of_some _ e)
  have hget : ((hp.push (kdv_tup [v])).push (excO C hp.objs.size)).get? (hp.objs.size + 1) = some (excO C hp.objs.size) := by heap_get
  have hnx : K.lookup (hp.objs.size + 1) = none := by
    cases e : K.lookup (hp.objs.size + 1) with
    | none => rfl
    | some o =>
      have z : hp.get? (hp.objs.size + 1) = some o := X _ _ e
      have z2 : hp.objs.size + 1 < hp.objs.size := Heap.lt_size z
      omega
  refine call_own PySem.F.excBase_ValueError (fun Y => refsVE_contains Y bm hbm) (X _ _ hC) (looks_findIn X T.iC) (fun self => bind_fn X self T.tF) (line1 v) ?_
  refine sup_init (s := ⟨(hp.push (kdv_tup [v])).push (excO C hp.objs.size), g, dr, tk, os⟩) T (X.keeps k) (hlim.keeps k) (hG.keeps k) (hB.keeps k) hmb hget hnx hroom fun h' tk' dx M => ?_
  obtain ⟨kp, ⟨t1, hob⟩, hd, hne, hns⟩ := M
  have sz : ((hp.push (kdv_tup [v])).push (excO C hp.objs.size)).objs.size = hp.objs.size + 1 + 1 := by simp only [Heap.size_push]
  have hd' : hp.objs.size + 2 ≤ dx := by
    have z : ((hp.push (kdv_tup [v])).push (excO C hp.objs.size)).objs.size ≤ dx := hd
    omega
  have old : ∀ b o, hp.get? b = some o → h'.get? b = some o := fun b o e => kp b o (Nat.ne_of_lt (Nat.lt_succ_of_lt (Heap.lt_size e))) (k b o e)
  exact ⟨rfl, hq h' tk' (hp.objs.size + 1) dx ⟨old, Nat.le_succ _, ⟨_, _, hob, rfl, rfl, rfl, rfl, rfl⟩, (by show hp.objs.size ≤ dx; omega), hne, hns⟩⟩
end
theorem fld_value : FldOk "value" := ⟨fun _ _ _ _ _ _ _ _ _ _ _ _ _ _ _ _ _ _ _ _ _ _ => rfl, rfl, rfl, rfl, by decide, by decide +kernel⟩
theorem ev_test (doc pm : Value) (an : Option Addr) (cda cc : Addr) (ct : Value) : EvOk "bounds" "abc" "q" ⟨6, 17, 6, 21⟩ ⟨6, 23, 6, 28⟩ ⟨7, 8, 7, 13⟩ ⟨7, 8, 7, 15⟩ ⟨7, 8, 7, 24⟩ ⟨7, 25, 7, 40⟩ ⟨7, 8, 7, 41⟩ ⟨7, 8, 7, 41⟩ ⟨8, 8, 8, 12⟩ ⟨8, 8, 8, 18⟩ ⟨8, 21, 8, 26⟩ ⟨8, 8, 8, 26⟩ doc pm an cda cc ct := fun _ _ => ⟨_, rfl⟩
end Sup
end PySem
namespace L2
open PySem PySem.Spec PyProof.Rows
theorem relO_one {fld : Str} {v : V} {v' : Value} (r : RelV v v') (f : Str) : RelO (List.lookup f [(fld, v)]) (if f = fld then some v' else none) := by
  by_cases hw : f = fld
  · have q : List.lookup f [(fld, v)] = some v := by simp [List.lookup, hw]
    rw [q, if_pos hw]
    exact r
  · have qw : (f == fld) = false := by simpa using hw
    have q2 : List.lookup f [(fld, v)] = none := by simp [List.lookup, qw]
    rw [q2, if_neg hw]
    trivial
section
variable {X : Cx} {C fI : Addr} {cn fld msg : Str}
/-- X(e), an own error whose __init__ is super().__init__('..'); self.f = f -/
def tMkSup (C : Addr) (fld : Str) (ta : TA) : St → Hp → XK → Prop := fun σ H Q => ta σ H fun vs H1 => ∃ v, vs = [v] ∧ ∀ d, H1 d = none → Q (.ref C) (some d) (upd H1 d (.xd [(fld, v)]))
theorem pmk_sup {a : Expr} {ta : TA} {p pos : Pos} {k : Nat} (T : PySem.Sup.SupTxt X.K X.mg X.prog cn fld msg C fI) (hr : Room k X.A) (ha : PA X [a] ta) (hg : Gl X cn := by rfl) (nd : (cn == ("__debug__" : Str)) = false := by decide)
    (he : starEach (a :: []) X.env = (false, eval a X.env) :: starEach [] X.env := by rfl) (hpl : (backTo pos (starEach [] X.env)).any (·.1) = false := by rfl) :
    PMk X (.Call (.Name cn p) [a] [] pos) (tMkSup C fld ta) := by
  intro pins s σ H Q I h
  refine wpAny_Call_Name_kw (ld_glob I hg T.gC ?_ nd)
  refine PySem.W.callWith_K (h₀ := X.base) I.ok.mod.kin T.kC (thn (ha.run pos pins s σ H _ I h) fun us s1 hh => ?_) he hpl
  obtain ⟨vs, H1, I1, r1, v, ev, q1⟩ := hh
  subst ev
  refine ⟨I1.kIn, ?_⟩
  cases r1 with
  | cons rv rn =>
    rename_i v' us'
    cases rn
    show wpAny _ _ (call (.ref C) [v']) _ _ _
    have hlim := I1.nolimit
    obtain ⟨mb, hb1, hb2⟩ := I1.mod.blt
    have hmb : mb "super" = some (.type "super") := (hb2 "super" (by decide)).trans (by decide +kernel)
    have hGl : s1.heap.Ns mainGlobals X.mg := I1.mod.glob.keeps I1.bk
    have hBl : s1.heap.Ns builtinsNs mb := hb1.keeps I1.bk
    obtain ⟨hp, g, dr, tk, os⟩ := s1
    refine wpAny_call (PySem.Sup.sup_made T I1.kIn hlim hGl hBl hmb (by have := hr.dp; omega) fun h' tk' e d M => ?_)
    show MkP X pins σ Q (.ref e) ⟨h', g, dr, tk', os⟩
    obtain ⟨kp, nw, ⟨oe, fv, hoe, hc, hd, hdat, h1, _⟩, dbig, dne, hns⟩ := M
    obtain ⟨G', g1, g2⟩ := restrict h' fun b => decide (b ≠ e)
    have gk : ∀ b, b ≠ e → G'.get? b = h'.get? b := fun b hb => g1 b (decide_eq_true hb)
    have ge : G'.get? e = none := g2 e (by simp)
    have old : ∀ b o, hp.get? b = some o → G'.get? b = some o := fun b o q => (gk b (Nat.ne_of_lt (Nat.lt_of_lt_of_le (Heap.lt_size q) nw))).trans (kp b o q)
    have ob : ObjOk X.prog X.w (upd H1 d (.xd [(fld, v)])) G' d (.xd [(fld, v)]) :=
      ⟨_, hns.at (fun o q => (gk d dne).trans q), fun f => relO_one rv f⟩
    have J : Inv X pins σ (upd H1 d (.xd [(fld, v)])) ⟨G', g, dr, tk', os⟩ := I1.laid (t' := tk') old dbig ob
    refine ⟨e, oe, fv, ⟨G', g, dr, tk', os⟩, _, .ref C, some d, rfl, J, fun b o q => ?_, ge, hoe, ⟨hc, hd⟩, hdat, h1, ?_, rfl, I1.bare, raises_own T.exC T.tyC, q1 d (I1.hok.fresh dbig)⟩
    · by_cases hb : b = e
      · have q' : G'.get? b = some o := q
        rw [hb, ge] at q'; cases q'
      · exact (gk b hb).symm.trans q
    · rw [upd_ne (Ne.symm dne)]
      exact I1.hok.fresh nw
/-- raise X(e) -/
def tRaiseSup (C : Addr) (fld : Str) (W : WX) (ta : TA) : TS := fun _ σ H => tMkSup C fld ta σ H fun cls d H' => W cls d σ H'
theorem ps_raiseSup {a : Expr} {ta : TA} {W : WX} {p pos pos2 : Pos} {k : Nat} (hc : X.calm = true) (T : PySem.Sup.SupTxt X.K X.mg X.prog cn fld msg C fI) (hr : Room k X.A) (tk : Takes X W) (ha : PA X [a] ta) (hg : Gl X cn := by rfl) (nd : (cn == ("__debug__" : Str)) = false := by decide)
    (he : starEach (a :: []) X.env = (false, eval a X.env) :: starEach [] X.env := by rfl) (hpl : (backTo pos (starEach [] X.env)).any (·.1) = false := by rfl) :
    PS X (.Raise (some (.Call (.Name cn p) [a] [] pos)) none pos2) (tRaiseSup C fld W ta) := ps_raise hc tk (pmk_sup T hr ha hg nd he hpl)
end
end L2
set_option maxRecDepth 100000
set_option maxHeartbeats 4000000
/-! errors whose context is None: raising them, several except clauses with a name, and what is called and walked while one is handled -/
namespace NX
open PySem PySem.Spec PyProof.Rows L2
section
variable {P : Program} {w : World} {K : PySem.W.Frag} {mg : Str → Option Value} {base : Heap}
theorem okX {x qual : Str} {st : Stmt} {f : Addr} {fd : FuncData} {N ps : List Str} {k : Nat} {sp : Sp} (F : Fun K x qual st f fd) (S : FnScope N ps (defScope st)) (len : ∀ vs H Q E, sp vs H Q E → vs.length = ps.length)
    (body : ∀ (cdv : Value) (A : Around) (outer : List Env) (s : Shared) (H : Hp) (vs : List V) (Q : VK) (E : XK), Room k (A.deeper (envOfC qual (defScope st) s.heap.objs.size f cdv)) → sp vs H Q E →
      ∃ t, PSs (cxOf (L2N.CX P w) P w K mg base N qual (defScope st) f cdv A outer s H E) (defBody st) t ∧ t { nx := fun _ H' => Q .non H', rt := Q } (L2.start N vs) H) : FnOk P w K mg base (L2N.CX P w) (k + 1) f fd ps sp := by
  obtain ⟨_, _, _, _, _, _, cdv, _, _, rfl, lk, hcd⟩ := F.ex
  exact fn_of lk hcd S len fun A outer s H vs Q E hr => body cdv A outer s H vs Q E hr
theorem takes0 {X : Cx} : L2N.Takes X (fun _ _ _ _ => False) := fun _ _ x => by
  obtain ⟨_, _, _, _, _, _, _, _, _, _, _, _, _, _, _, _, w⟩ := x
  exact w.elim
end
section
variable {X : Cx} {C fI : Addr} {cn fld msg : Str}
theorem pmk_sup {a : Expr} {ta : TA} {p pos : Pos} {k : Nat} (T : PySem.Sup.SupTxt X.K X.mg X.prog cn fld msg C fI) (hr : Room k X.A) (ha : PA X [a] ta) (hg : Gl X cn := by rfl) (nd : (cn == ("__debug__" : Str)) = false := by decide)
    (he : starEach (a :: []) X.env = (false, eval a X.env) :: starEach [] X.env := by rfl) (hpl : (backTo pos (starEach [] X.env)).any (·.1) = false := by rfl) :
    L2N.PMk X (.Call (.Name cn p) [a] [] pos) (tMkSup C fld ta) := by
  intro pins s σ H Q I h
  refine wpAny_Call_Name_kw (ld_glob I hg T.gC ?_ nd)
  refine PySem.W.callWith_K (h₀ := X.base) I.ok.mod.kin T.kC (thn (ha.run pos pins s σ H _ I h) fun us s1 hh => ?_) he hpl
  obtain ⟨vs, H1, I1, r1, v, ev, q1⟩ := hh
  subst ev
  refine ⟨I1.kIn, ?_⟩
  cases r1 with
  | cons rv rn =>
    rename_i v' us'
    cases rn
    show wpAny _ _ (call (.ref C) [v']) _ _ _
    have hlim := I1.nolimit
    obtain ⟨mb, hb1, hb2⟩ := I1.mod.blt
    have hmb : mb "super" = some (.type "super") := (hb2 "super" (by decide)).trans (by decide +kernel)
    have hGl : s1.heap.Ns mainGlobals X.mg := I1.mod.glob.keeps I1.bk
    have hBl : s1.heap.Ns builtinsNs mb := hb1.keeps I1.bk
    obtain ⟨hp, g, dr, tk, os⟩ := s1
    refine wpAny_call (PySem.Sup.sup_made T I1.kIn hlim hGl hBl hmb (by have := hr.dp; omega) fun h' tk' e d M => ?_)
    show L2N.MkP X pins σ Q (.ref e) ⟨h', g, dr, tk', os⟩
    obtain ⟨kp, nw, ⟨oe, fv, hoe, hc, hd, hdat, h1, h2⟩, dbig, dne, hns⟩ := M
    obtain ⟨G', g1, g2⟩ := restrict h' fun b => decide (b ≠ e)
    have gk : ∀ b, b ≠ e → G'.get? b = h'.get? b := fun b hb => g1 b (decide_eq_true hb)
    have ge : G'.get? e = none := g2 e (by simp)
    have old : ∀ b o, hp.get? b = some o → G'.get? b = some o := fun b o q => (gk b (Nat.ne_of_lt (Nat.lt_of_lt_of_le (Heap.lt_size q) nw))).trans (kp b o q)
    have ob : ObjOk X.prog X.w (upd H1 d (.xd [(fld, v)])) G' d (.xd [(fld, v)]) :=
      ⟨_, hns.at (fun o q => (gk d dne).trans q), fun f => relO_one rv f⟩
    have J : Inv X pins σ (upd H1 d (.xd [(fld, v)])) ⟨G', g, dr, tk', os⟩ := I1.laid (t' := tk') old dbig ob
    refine ⟨e, oe, fv, ⟨G', g, dr, tk', os⟩, _, .ref C, some d, rfl, J, fun b o q => ?_, ge, hoe, ⟨hc, hd, fun vs ev => ?_⟩, hdat, h1, ?_, rfl, I1.bare, raises_own T.exC T.tyC, q1 d (I1.hok.fresh dbig)⟩
    · by_cases hb : b = e
      · have q' : G'.get? b = some o := q
        rw [hb, ge] at q'; cases q'
      · exact (gk b hb).symm.trans q
    · rw [hdat] at ev
      cases ev
      exact h2
    · rw [upd_ne (Ne.symm dne)]
      exact I1.hok.fresh nw
theorem ps_raiseSup {a : Expr} {ta : TA} {W : WX} {p pos pos2 : Pos} {k : Nat} (hc : X.calm = true) (T : PySem.Sup.SupTxt X.K X.mg X.prog cn fld msg C fI) (hr : Room k X.A) (tk : L2N.Takes X W) (ha : PA X [a] ta) (hg : Gl X cn := by rfl) (nd : (cn == ("__debug__" : Str)) = false := by decide)
    (he : starEach (a :: []) X.env = (false, eval a X.env) :: starEach [] X.env := by rfl) (hpl : (backTo pos (starEach [] X.env)).any (·.1) = false := by rfl) :
    PS X (.Raise (some (.Call (.Name cn p) [a] [] pos)) none pos2) (tRaiseSup C fld W ta) := L2N.ps_raise hc tk (pmk_sup T hr ha hg nd he hpl)
end
/-- while the error that a suite names is handled -/
theorem hot {X : Cx} {a : Addr} {oe : Obj} {cls : Value} {d : Option Addr} {pn : List (Addr × Obj)} (hz : L2N.Zn cls d oe) (hf : ∃ vs, oe.data = .fields vs) : L2H.HotC (X.suite a ((a, oe) :: pn)) :=
  let ⟨vs, hv⟩ := hf
  ⟨(a, oe), ⟨rfl, vs, hv, hz.2.2 vs hv⟩, List.mem_cons_self⟩
end NX
namespace NX
open PySem PySem.Spec PyProof.Rows L2
abbrev Cl := Value × Option Nat × (Addr → Value → Option Addr → TS)
/-- what follows the suite, once the name has gone -/
def endA (i : Option Nat) (D : Ends) : Ends := match i with
  | none => D
  | some i => { nx := fun σ' H' => D.nx (σ'.set i none) H', rt := D.rt, bk := fun σ' H' => D.bk (σ'.set i none) H', ct := fun σ' H' => D.ct (σ'.set i none) H' }
def stA (i : Option Nat) (a : Addr) (σ : L2.St) : L2.St := match i with
  | none => σ
  | some i => σ.set i (some (.ref a))
/-- what the clauses wish of an exception of the body -/
def wManyA (K : PySem.W.Frag) (Wout : WX) (D : Ends) : List Cl → WX
  | [] => Wout
  | (c, i, ts) :: r => fun cls d σ H => ∃ b, PySem.W.exmOne K cls c = some b ∧ (b = true → ∀ a, H a = none → ts a cls d (endA i D) (stA i a σ) H) ∧ (b = false → wManyA K Wout D r cls d σ H)
inductive HdsA (X : Cx) : List ExceptHandler → List Cl → Prop
  | nil : HdsA X [] []
  | only {x : Str} {c : Value} {ts : Addr → Value → Option Addr → TS} {b₀ : Stmt} {suite : List Stmt} {np pos' : Pos} {hds : List ExceptHandler} {l : List Cl} (hc : Names X x c)
      (hsu : ∀ (a : Addr) (oe : Obj) (cls : Value) (d : Option Addr) (pn : List (Addr × Obj)), L2N.Zn cls d oe → (∃ vs, oe.data = .fields vs) → PSs (X.suite a ((a, oe) :: pn)) (b₀ :: suite) (ts a cls d)) (r : HdsA X hds l) :
      HdsA X (.ExceptHandler (some (.Name x np)) none (b₀ :: suite) pos' :: hds) ((c, none, ts) :: l)
  | as {x n : Str} {i : Nat} {c : Value} {ts : Addr → Value → Option Addr → TS} {b₀ : Stmt} {suite : List Stmt} {np pos' : Pos} {hds : List ExceptHandler} {l : List Cl} (hN : X.N.Nodup) (hi : X.N[i]? = some n) (hln : X.env.kindOf n = some .local) (hc : Names X x c)
      (hsu : ∀ (a : Addr) (oe : Obj) (cls : Value) (d : Option Addr) (pn : List (Addr × Obj)), L2N.Zn cls d oe → (∃ vs, oe.data = .fields vs) → PSs (X.suite a ((a, oe) :: pn)) (b₀ :: suite) (ts a cls d)) (r : HdsA X hds l) :
      HdsA X (.ExceptHandler (some (.Name x np)) (some n) (b₀ :: suite) pos' :: hds) ((c, some i, ts) :: l)
section
variable {X : Cx} {body : List Stmt} {h₀ : ExceptHandler} {hds : List ExceptHandler} {l : List Cl} {pos : Pos} {tb : WX → TS} {Wout : WX}
theorem ps_try_manyA (hs : X.stack = X.env :: X.outer) (hf : X.env.frame = some X.env.locals) (tk : L2N.Takes X Wout)
    (hb : ∀ (W : WX) (pn : List (Addr × Obj)) (xe : Value → Shared → Prop), L2N.Takes (X.tr pn xe) W → PassesOwn (model X.prog X.w) X.A X.env xe → PSs (X.tr pn xe) body (tb W))
    (hh : HdsA X (h₀ :: hds) l) : PS X (.Try body (h₀ :: hds) [] [] pos) (fun D σ H => tb (wManyA X.K Wout D l) D σ H) := by
  refine ⟨fun pins s σ H D I h => ?_⟩
  have ok := I.ok
  have hfr : X.A.frames = some (X.env :: X.outer) := by rw [ok.frames, hs]
  refine wpAny_Try_except ?_
  refine wpAny_mono ((hb (wManyA X.K Wout D l) (X.pn ++ pins) (fun e s₁ => wpAny (model X.prog X.w) X.A (noteFrame e X.env) (fun _ s₂ => wpAny (model X.prog X.w) X.A (setFlight e none) (fun _ s₃ =>
    wpAny (model X.prog X.w) X.A (handleBy e X.env (h₀ :: hds)) (SP X pins D) X.xe s₃) X.xe s₂) X.xe s₁) (fun u s' xx => ?_) PassesOwn.looking).run [] s σ H D (I.toTry _) h) (fun f s1 hsp => ?_) (fun e s1 he => he)
  · -- the catch
    obtain ⟨a, B, sI, pins', σ', H', cls, d, rfl, J', nb, up, sky, na, os, ag, w⟩ := xx
    have J : Inv X pins σ' H' sI := J'.ofTry ok
    have sky' : Sky B (X.env :: X.outer) a (L2N.Zn cls d) X.env.locals s'.heap := by rw [← hs]; exact sky
    show wpAny (model X.prog X.w) X.A (noteFrame (.ref a) X.env) _ _ _
    refine L2N.Sky.land L2N.Zn.steady hfr hf sky' fun h3 fl3 up3 => ?_
    have J3 : Inv X pins σ' H' { s' with heap := h3 } := J.landed nb fl3.1 (up.trans up3) os ag
    obtain ⟨oe3, vs3, he3, hz3, hd3⟩ := fl3.there
    have notFr : ∀ {h : Heap} {o : Obj} {vs : Array Value}, h.FunFrames B (X.env :: X.outer) → h.get? a = some o → o.data = .fields vs → a ∉ frs (X.env :: X.outer) := fun {h o vs} ff e dd hm => by
      obtain ⟨_, o', e', hnf⟩ := ff.mem hm
      rw [e] at e'; cases e'
      exact hnf _ dd
    have nfr := notFr fl3.2.2.1 he3 hd3
    have nL : a ≠ X.env.locals := fun z => nfr (List.mem_filterMap.mpr ⟨X.env, List.mem_cons_self, by rw [hf, z]⟩)
    have nF : a ∉ X.fs := fun hm => by
      obtain ⟨e, he, q⟩ := List.mem_filterMap.mp hm
      exact nfr (List.mem_filterMap.mpr ⟨e, List.mem_cons_of_mem _ he, q⟩)
    have S3 := J3.suite he3 hd3 na nL nF
    have go : ∀ {hds' : List ExceptHandler} {l' : List Cl}, HdsA X hds' l' → wManyA X.K Wout D l' cls d σ' H' →
        wpAny (model X.prog X.w) X.A (handleBy (.ref a) X.env hds') (SP X pins D) X.xe { s' with heap := h3 } := by
      intro hds' l' hk
      induction hk with
      | nil =>
        intro w
        refine wpAny_handleBy_nil ?_
        obtain ⟨k1, k2, k3, oe, vs, T, oT, ts', he, hz, hd, h1, hr⟩ := id fl3
        unfold PySem.passOn
        refine wpAny_bind (wpAny_field he hd h1 ?_)
        rw [if_neg (show ¬ ((Value.ref T == Value.none) = true) from by simp)]
        have fin : wpAny (model X.prog X.w) X.A (setFlight (.ref a) X.env.frame) (fun _ s4 => wpAny (model X.prog X.w) X.A (throw (.ref a) : Sem Flow) (SP X pins D) X.xe s4) X.xe { s' with heap := h3 } := by
          rw [hf]
          refine HandSPX.setFlight_upZ fl3 fun h4 hh4 up4 => wpAny_throw (tk _ _ ?_)
          exact ⟨a, B, sI, pins, σ', H', cls, d, rfl, J, nb, (up.trans up3).trans up4, .inr (.inr (by rw [hs]; exact hh4)), na, os, ag, w⟩
        first
          | exact wpAny_bind (wpAny_pure (wpAny_bind fin))
          | exact wpAny_bind fin
      | @only x c ts b₀ suite np pos' hds2 l2 hc hsu r ih =>
        intro w
        obtain ⟨b, hb1, hyes, hno⟩ := w
        refine wpAny_handleBy_cons (codeAny_handlers_test ?_) (by intro q; cases q)
        have LT : PySem.W.Looks (model X.prog X.w) h3 (typeOf (.ref a)) cls := fun A Q E s k q => wpAny_typeOf_ref (k _ _ he3) (by rw [hz3.1]; exact q)
        have LM := PySem.W.exm_one (M := model X.prog X.w) (J3.kIn) LT hb1
        have test : ∀ {Q : Value → Shared → Prop} {E : Value → Shared → Prop}, Q c { s' with heap := h3 } → wpAny (model X.prog X.w) (X.A.mark (some (.ref a))) (eval (.Name x np) X.env) Q E { s' with heap := h3 } := fun {Q E} q => by
          obtain ⟨hg, hdbg, hm | ⟨hm, hv, hnn⟩⟩ := hc
          · exact ld_glob (X := X.suite a ((a, oe3) :: (X.pn ++ pins))) S3 hg hm q hdbg
          · exact ld_blt (X := X.suite a ((a, oe3) :: (X.pn ++ pins))) S3 hg hm hv q hnn hdbg
        refine test (LM.here ?_)
        cases b with
        | true =>
          refine codeAny_handlers_suite ?_
          refine HandSPX.lands_againZ fl3 fun h4 fl4 up4 => ?_
          have J4 : Inv X pins σ' H' { s' with heap := h4 } := J.landed nb fl4.1 ((up.trans up3).trans up4) os ag
          obtain ⟨oe4, vs4, he4, hz4, hd4⟩ := fl4.there
          have S4 := J4.suite he4 hd4 na nL nF
          refine wpAny_mono ((hsu a oe4 cls d (X.pn ++ pins) hz4 ⟨_, hd4⟩).run [] _ _ H' _ S4 (hyes rfl a na)) (fun f s6 hsp => ?_) (fun _ _ z => False.elim z)
          cases f with
          | next =>
            obtain ⟨σ6, H6, S6, q6⟩ := hsp
            exact ⟨_, _, S6.unsuite ok, q6⟩
          | brk =>
            obtain ⟨σ6, H6, S6, q6⟩ := hsp
            exact ⟨_, _, S6.unsuite ok, q6⟩
          | cont =>
            obtain ⟨σ6, H6, S6, q6⟩ := hsp
            exact ⟨_, _, S6.unsuite ok, q6⟩
          | ret u =>
            obtain ⟨v6, σ6, H6, S6, r6, q6⟩ := hsp
            exact ⟨_, _, _, S6.unsuite ok, r6, q6⟩
        | false =>
          show wpAny _ X.A (handleBy (.ref a) X.env hds2) _ _ _
          exact ih (hno rfl)
      | @as x n i c ts b₀ suite np pos' hds2 l2 hN hi hln hc hsu r ih =>
        intro w
        obtain ⟨b, hb1, hyes, hno⟩ := w
        have hloc : Loc X.env.scope n := .inl hln
        refine wpAny_handleBy_cons (codeAny_handlers_test ?_) (by intro q; cases q)
        have LT : PySem.W.Looks (model X.prog X.w) h3 (typeOf (.ref a)) cls := fun A Q E s k q => wpAny_typeOf_ref (k _ _ he3) (by rw [hz3.1]; exact q)
        have LM := PySem.W.exm_one (M := model X.prog X.w) (J3.kIn) LT hb1
        have test : ∀ {Q : Value → Shared → Prop} {E : Value → Shared → Prop}, Q c { s' with heap := h3 } → wpAny (model X.prog X.w) (X.A.mark (some (.ref a))) (eval (.Name x np) X.env) Q E { s' with heap := h3 } := fun {Q E} q => by
          obtain ⟨hg, hdbg, hm | ⟨hm, hv, hnn⟩⟩ := hc
          · exact ld_glob (X := X.suite a ((a, oe3) :: (X.pn ++ pins))) S3 hg hm q hdbg
          · exact ld_blt (X := X.suite a ((a, oe3) :: (X.pn ++ pins))) S3 hg hm hv q hnn hdbg
        refine test (LM.here ?_)
        cases b with
        | true =>
          refine codeAny_handlers_suite_as ?_
          refine HandSPX.lands_againZ fl3 fun h4 fl4 up4 => ?_
          have J4 : Inv X pins σ' H' { s' with heap := h4 } := J.landed nb fl4.1 ((up.trans up3).trans up4) os ag
          obtain ⟨oe4, vs4, he4, hz4, hd4⟩ := fl4.there
          have S4 := J4.suite he4 hd4 na nL nF
          refine store_ok (X := X.suite a ((a, oe4) :: (X.pn ++ pins))) (v := .ref a) S4 hN hi hloc rfl (fun s5 S5 => ?_) (.inr hln)
          refine wpAny_mono ((hsu a oe4 cls d (X.pn ++ pins) hz4 ⟨_, hd4⟩).run [] s5 _ H' _ S5 (hyes rfl a na)) (fun f s6 hsp => ?_) (fun _ _ z => False.elim z)
          have end_ : ∀ {σ6 : L2.St} {H6 : Hp} {Q : Shared → Prop}, Inv (X.suite a ((a, oe4) :: (X.pn ++ pins))) [] σ6 H6 s6 → (∀ s7, Inv X pins (σ6.set i none) H6 s7 → Q s7) →
              wpAny (model X.prog X.w) X.A (do bindName X.env n .none; unbindBehindTheSuite X.env n pos') (fun _ s7 => Q s7) X.xe s6 := fun {σ6 H6 Q} S6 hq => gone_ok (S6.unsuite ok) hN hi hln hq
          cases f with
          | next =>
            obtain ⟨σ6, H6, S6, q6⟩ := hsp
            exact end_ S6 fun s7 J7 => ⟨_, _, J7, q6⟩
          | brk =>
            obtain ⟨σ6, H6, S6, q6⟩ := hsp
            exact end_ S6 fun s7 J7 => ⟨_, _, J7, q6⟩
          | cont =>
            obtain ⟨σ6, H6, S6, q6⟩ := hsp
            exact end_ S6 fun s7 J7 => ⟨_, _, J7, q6⟩
          | ret u =>
            obtain ⟨v6, σ6, H6, S6, r6, q6⟩ := hsp
            exact end_ S6 fun s7 J7 => ⟨_, _, _, J7, r6, q6⟩
        | false =>
          show wpAny _ X.A (handleBy (.ref a) X.env hds2) _ _ _
          exact ih (hno rfl)
    exact go hh w
  · cases f with
    | next =>
      obtain ⟨σ', H', J', q⟩ := hsp
      exact wpAny_execs_nil ⟨σ', H', J'.ofTry ok, q⟩
    | brk =>
      obtain ⟨σ', H', J', q⟩ := hsp
      exact ⟨σ', H', J'.ofTry ok, q⟩
    | cont =>
      obtain ⟨σ', H', J', q⟩ := hsp
      exact ⟨σ', H', J'.ofTry ok, q⟩
    | ret u =>
      obtain ⟨v, σ', H', J', r, q⟩ := hsp
      exact ⟨v, σ', H', J'.ofTry ok, r, q⟩
end
end NX
set_option maxRecDepth 100000
set_option maxHeartbeats 4000000
/-! while an error is handled: defs that are handed it and raise nothing, list comprehensions over range -/
namespace NX
open PySem PySem.Spec PyProof.Rows L2 L2H
section
variable {P : Program} {w : World} {K : PySem.W.Frag} {mg : Str → Option Value} {base : Heap}
/-- what a def promises that is called while p's object is the error that is handled; p in the promise -/
structure FnP (P : Program) (w : World) (K : PySem.W.Frag) (mg : Str → Option Value) (base : Heap) (k : Nat) (f : Addr) (fd : FuncData) (ps : List Str) (sp : Addr × Obj → Sp) : Prop where
  len : ∀ p vs H Q E, sp p vs H Q E → vs.length = ps.length
  run : ∀ (A : Around) (outer : List Env) (s : Shared) (H : Hp) (args : Args) (us : List Value) (vs : List V) (Q : VK) (p : Addr × Obj), RoomH k A → Hot1 A p → PinOk outer H s p → Env0 P w K mg base A outer s H → BindsTo s fd args (ps.zip us) → Vals vs us →
    sp p vs H Q (fun _ _ _ => False) → codeAny (model P w) A (.call (.ref f) args) (CR CX0 outer P w H s Q fun _ _ _ => False) s
/-- such a def by its body -/
theorem okP {x qual : Str} {st : Stmt} {f : Addr} {fd : FuncData} {N ps : List Str} {k : Nat} {sp : Addr × Obj → Sp} (F : Fun K x qual st f fd) (S : FnScope N ps (defScope st)) (len : ∀ p vs H Q E, sp p vs H Q E → vs.length = ps.length)
    (body : ∀ (cdv : Value) (A : Around) (outer : List Env) (s : Shared) (H : Hp) (vs : List V) (Q : VK) (p : Addr × Obj), Hot1 (A.deeper (envOfC qual (defScope st) s.heap.objs.size f cdv)) p → RoomH k (A.deeper (envOfC qual (defScope st) s.heap.objs.size f cdv)) → sp p vs H Q (fun _ _ _ => False) →
      ∃ t, PSs (cxH CX0 P w K mg base N qual (defScope st) f cdv A outer s H (fun _ _ _ => False) p) (defBody st) t ∧ t { nx := fun _ H' => Q .non H', rt := Q } (L2.start N vs) H) : FnP P w K mg base (k + 1) f fd ps sp := by
  obtain ⟨oc, od, kV, doc, pm, an, cdv, ct, osl, rfl, lk, hcd⟩ := F.ex
  refine ⟨len, fun A outer s H args us vs Q p room hp pin e0 bind r h => ?_⟩
  have lenV := len _ _ _ _ _ h
  have inS : K.In s.heap := e0.mod.kin.keeps fun b o e => (e0.bs b o e).1
  have noLim : s.heap.NoLimit := e0.mod.nolimit.keeps fun b o e => (e0.bs b o e).1
  have kinds : ∀ y ∈ ps.zip us, (defScope st).names.lookup y.1 = some .local ∨ ((defScope st).names.lookup y.1 = some .cell ∧ ((cellsFrom (s.heap.objs.size + 1) (defScope st).names []).lookup y.1).isSome = true) := by
    rintro ⟨n, v⟩ hy
    cases S.par n (List.of_mem_zip hy).1 with
    | inl q => exact .inl q
    | inr q => exact .inr ⟨q, PySem.W.cellsFrom_some _ _ _ (.inl q)⟩
  refine codeAny_call_function room.depth (inS _ _ lk) rfl S.co S.gen rfl (PySem.W.codeRec_of inS hcd) (bind _ _ _ _ (wpAny_newFunctionEnv_cells S.kind kinds fun env he s1 y => ?_))
  subst he
  refine ⟨noLim.keeps y.toInCall.keep, codeAny_func ?_⟩
  obtain ⟨t, ht, hq⟩ := body cdv A outer s H vs Q p ⟨hp.1, hp.2⟩ (room.deeper _) h
  have I0 := inv_startH (CX := CX0) (E := fun _ _ _ => False) S pin e0 lenV r y
  refine wpAny_mono (ht.run [] s1 (L2.start N vs) H _ I0 hq) (fun fl s' hs => ?_) fun e s' hs => hs
  cases fl with
  | ret u => obtain ⟨v, σ', H', J, rv, q⟩ := hs; exact ⟨v, H', J.os, J.bare, J.base, J.hok, rv, q⟩
  | next => obtain ⟨σ', H', J, q⟩ := hs; exact ⟨V.non, H', J.os, J.bare, J.base, J.hok, rfl, q⟩
  | brk => obtain ⟨_, _, _, q⟩ := hs; exact q.elim
  | cont => obtain ⟨_, _, _, q⟩ := hs; exact q.elim
end
/-- the call, within the suite of the error at a; its object is not named -/
def tCallZ (sp : Addr × Obj → Sp) (a : Addr) (cls : Value) (d : Option Addr) (t : TA) : TE := fun σ H Q => t σ H fun vs H1 => ∀ oe : Obj, L2N.Zn cls d oe → (∃ fs, oe.data = .fields fs) → sp (a, oe) vs H1 Q fun _ _ _ => False
theorem pe_callZ {X : Cx} {k : Nat} {f : Addr} {fd : FuncData} {ps : List Str} {sp : Addr × Obj → Sp} {x : Str} {q pos : Pos} {e : Expr} {es : List Expr} {t : TA} {a : Addr} {oe : Obj} {cls : Value} {d : Option Addr} {pn : List (Addr × Obj)}
    (hz : L2N.Zn cls d oe) (hf : ∃ fs, oe.data = .fields fs) (F : FnP X.prog X.w X.K X.mg X.base k f fd ps sp) (hr : RoomH k X.A) (hg : Gl (X.suite a ((a, oe) :: pn)) x) (hm : X.mg x = some (.ref f)) (hk : PySem.W.keepIn X.K (.ref f) = true) (hb : Binds X.K fd ps [])
    (ha : PA (X.suite a ((a, oe) :: pn)) (e :: es) t) (hdb : (x == ("__debug__" : Str)) = false := by decide) (he : starEach (e :: es) X.env = (false, eval e X.env) :: starEach es X.env := by rfl) (hpl : (backTo pos (starEach es X.env)).any (·.1) = false := by rfl) :
    PE (X.suite a ((a, oe) :: pn)) (.Call (.Name x q) (e :: es) [] pos) (tCallZ sp a cls d t) := by
  refine ⟨fun pins s σ H Q I h => wpAny_Call_Name_kw (ld_glob I hg hm ?_ hdb)⟩
  refine PySem.W.callWith_K (h₀ := X.base) I.ok.mod.kin hk (thn (ha.run pos pins s σ H _ I h) fun us s1 ⟨vs, H1, I1, r, w0⟩ => ⟨I1.kIn, ?_⟩) he hpl
  have w1 := w0 oe hz hf
  have lenU : us.length = ps.length := by rw [← r.length]; exact F.len _ _ _ _ _ w1
  have bd := hb s1 us I1.kIn (by rw [List.append_nil]; exact lenU)
  rw [List.append_nil] at bd
  have P1 := I1.pin (a, oe) (List.mem_append_left _ List.mem_cons_self)
  have pin : PinOk X.stack H1 s1 (a, oe) := ⟨P1.1, P1.2.1, fun z => (List.mem_cons.mp (I1.stkSub a z)).elim P1.2.2.1 P1.2.2.2.1, P1.2.2.2.2⟩
  have hp : Hot1 (X.suite a ((a, oe) :: pn)).A (a, oe) := let ⟨fs, e⟩ := hf; ⟨rfl, fs, e, hz.2.2 fs e⟩
  refine wpAny_call (codeAny_mono (F.run (X.suite a ((a, oe) :: pn)).A X.stack s1 H1 ⟨us, []⟩ us vs Q (a, oe) ⟨hr.dp, hr.un⟩ hp pin I1.env0 bd r w1) fun r s' hq => ?_)
  cases r with
  | error e => exact hq.elim
  | ok fl =>
    cases fl with
    | ret u => exact I1.after hq
    | next => exact hq.elim
    | brk => exact hq.elim
    | cont => exact hq.elim
/-- isinstance(e, c), e the error that p is -/
def rIsP (K : PySem.W.Frag) (p : Addr × Obj) : List V → Hp → VK → Prop := fun xs H Q => ∃ (D dd : Addr) (fs : List (Str × V)) (c : V) (cv : Value) (b : Bool),
  Zc (.ref D) (some dd) p.2 ∧ (∃ vs, p.2.data = .fields vs) ∧ H dd = some (.xd fs) ∧ ExcC K D ∧ xs = [.ref p.1, c] ∧ ClsV c cv ∧ PySem.W.kitOne K (.ref D) cv = some b ∧ Q (.bl b) H
theorem call_isP {X : Cx} {p : Addr × Obj} (hp : p ∈ X.pn) : CallR X (.builtin "isinstance") (rIsP X.K p) := by
  intro pins s σ H xs us Q I r h
  obtain ⟨D, dd, fs, c, cv, b, hz, ⟨vs, hv⟩, hdd, C, rfl, hcv, e, q⟩ := h
  obtain ⟨u1, u2, rfl, r1, r2⟩ := vals2 r
  obtain rfl := hcv.eq r2
  cases (show u1 = Value.ref p.1 from r1)
  obtain ⟨got, _⟩ := I.pin p (List.mem_append_left _ hp)
  have hx : ObjOk X.prog X.w H s.heap dd (.xd fs) := I.hok dd _ hdd
  obtain ⟨mA, hns, _⟩ := hx
  obtain ⟨od, ho, _⟩ := lookIn_ns hns
  have J : PySem.W.InstAt s.heap p.1 p.2 D (some od) := ⟨got, hz.1, by unfold PySem.W.notCls; rw [hv] <;> rfl, by rw [hz.2]; exact ho⟩
  have isC : (PySem.W.clsIn X.K D).isSome = true := by
    obtain ⟨cd, hc, _⟩ := PySem.W.any_some C.hd
    rw [hc]
    rfl
  exact PySem.W.kia_one (PySem.W.kitx_exc isC C.hg C.hk C.hs C.ha C.hn C.ht C.hm) I.kIn J e (fun z => nomatch z) fun tk => ⟨.bl b, H, I.kept (t' := tk) fun _ _ z => z, rfl, q⟩

/-! ### a list comprehension while an error is handled -/
/-- a comprehension's block that bears the handled error -/
abbrev blkH (X : Cx) (p : Addr × Obj) (s : Shared) (H : Hp) (scope : Scope) (ce : Env) (fp : List Addr) : Cx := { X.blk s H scope ce fp with pn := [p] }
section
variable {X : Cx} {p : Addr × Obj}
theorem blkH_start {pins : List (Addr × Obj)} {σ : L2.St} {H : Hp} {s : Shared} {scope : Scope} {own : List (Str × Nat)} {fp : List Addr} (I : Inv X pins σ H s) (hp : p ∈ X.pn) (ok : BlkOk X.N X.env.scope scope own) (hN : X.N.Nodup) (hfp : ∀ b ∈ fp, FpOk X pins H b ∧ b < s.heap.objs.size) :
    Inv (blkH X p s H scope (compEnvC scope (cellsFrom (s.heap.objs.size + 1) scope.names (cloFrom X.env.cells scope.names [])) s.heap.objs.size X.env) fp) [] (wipe σ (own.map (·.2))) H { s with heap := pushCells (s.heap.push { cls := .type "dict", data := .dict #[] }) scope.names } := by
  have J := block_start I ok hN hfp
  have o := J.ok
  obtain ⟨g1, g2, g3, g4, g5⟩ := I.pin p (List.mem_append_left _ hp)
  refine ⟨⟨o.mod, o.kind, o.glob, o.blt, o.above, o.inj, o.has, o.cab, o.hd, o.frames, o.stk, o.exf, o.bs, o.bsz, o.noex, o.exfs, o.funs, o.frf⟩, J.os, J.bare, J.base, J.loc, J.cell, J.free, J.freeC, fun q hq => ?_, J.hok, J.len⟩
  obtain rfl : q = p := by simpa using hq
  refine ⟨pushCells_keeps _ _ _ _ (Heap.get?_push_of_some _ g1), g2, Nat.ne_of_lt (Heap.lt_size g1), fun z => ?_, g5⟩
  exact (List.mem_cons.mp (I.stkSub q.1 z)).elim g3 g4
theorem pe_lcH {elt tg iter : Expr} {ifs : List Expr} {scope : Scope} {own : List (Str × Nat)} {pos : Pos} {wi : TI} {g : TG} {tt : TT} {te : TE} (hp : p ∈ X.pn) (hot : Hot1 X.A p) (hN : X.N.Nodup) (hi : PIH X tg iter wi) (ok : BlkOk X.N X.env.scope scope own)
    (hg : ∀ (s : Shared) (H : Hp) (C : Addr) (cl : List (Str × Addr)) (fp : List Addr), PG (blkH X p s H scope (compEnvC scope cl C X.env) fp) tg g) (ht : ∀ (s : Shared) (H : Hp) (C : Addr) (cl : List (Str × Addr)) (fp : List Addr), PTs (blkH X p s H scope (compEnvC scope cl C X.env) fp) ifs tt)
    (he : ∀ (s : Shared) (H : Hp) (C : Addr) (cl : List (Str × Addr)) (fp : List Addr), PE (blkH X p s H scope (compEnvC scope cl C X.env) fp) elt te) (hs : ∀ x, foldedSetIterable iter X.env x = pure x := by intro _; rfl) :
    PE X (.ListComp elt [⟨tg, iter, ifs, 0⟩] scope pos) (tLc wi g tt te (own.map (·.2))) := by
  refine ⟨fun pins s σ H Q I h => ?_⟩
  rw [eval_ListComp]
  have hfree : ∀ y ∈ scope.names, y.2 = .free → ∃ c, X.env.cells.lookup y.1 = some c := fun y hy e => (ok.free y hy e).elim (fun k => I.ok.has _ (.inl k)) fun k => I.ok.has _ (.inr k)
  refine wpAny_comprehension_free (use := none) rfl hs (closure_ok hfree) ok.kind (fun y hy e => by rw [ok.uniq y hy, e])
    (thn (hi.run pins s σ H _ I h) fun xv s1 hx => thn hx fun itv s2 h2 => ?_)
  obtain ⟨it, fp, tn, J, H2, rfl, I2, T, st2, f2, q⟩ := h2
  refine wpAny_newObj_type (newEnv_comp ?_) (by show 0 ≤ sizeLine; decide)
  generalize hD : s2.heap.objs.size = D
  have hDn : H2 D = none := I2.hok.fresh (Nat.le_of_eq hD)
  obtain ⟨W, ⟨m0, w0⟩, turn⟩ := q D hDn
  generalize hs3 : ({ s2 with heap := s2.heap.push { cls := .type "list", data := .seq ([] : List Value).toArray } } : Shared) = s3
  have h3 : s3.heap = s2.heap.push { cls := .type "list", data := .seq ([] : List Value).toArray } := by rw [← hs3]
  have I3 : Inv X pins σ (upd H2 D (.lst [])) s3 := by
    rw [← hs3]
    exact I2.laid (t' := s2.toks) (fun b o e => Heap.get?_push_of_some _ e) (Nat.le_of_eq hD) ⟨Nat.zero_le _, [], 0, .nil, hD ▸ Heap.get?_push_size _ rfl⟩
  have f3 : ∀ b ∈ fp, FpOk X pins (upd H2 D (.lst [])) b ∧ b < s3.heap.objs.size := fun b hb => by
    obtain ⟨o, e, _⟩ := T.obj _ _ st2 b hb
    have hlt := Heap.lt_size e
    refine ⟨⟨?_, (f2 b hb).2⟩, by rw [h3, Heap.size_push]; exact Nat.lt_succ_of_lt hlt⟩
    rw [upd_ne (hD ▸ Nat.ne_of_lt hlt)]
    exact (f2 b hb).1
  have I4 := blkH_start (p := p) I3 hp ok hN f3
  have pg := hg s3 (upd H2 D (.lst [])) s3.heap.objs.size (cellsFrom (s3.heap.objs.size + 1) scope.names (cloFrom X.env.cells scope.names [])) fp
  have pt := ht s3 (upd H2 D (.lst [])) s3.heap.objs.size (cellsFrom (s3.heap.objs.size + 1) scope.names (cloFrom X.env.cells scope.names [])) fp
  have pe := he s3 (upd H2 D (.lst [])) s3.heap.objs.size (cellsFrom (s3.heap.objs.size + 1) scope.names (cloFrom X.env.cells scope.names [])) fp
  show codeAny _ _ (.compStart (.ListComp elt [⟨tg, iter, ifs, 0⟩] scope pos) 0 (.ref it) (.ref D) (compEnvC scope (cellsFrom (s3.heap.objs.size + 1) scope.names (cloFrom X.env.cells scope.names [])) s3.heap.objs.size X.env)) (compPost (model X.prog X.w) X.A X.xe none (EP X pins σ Q) (.ref D) s3.heap.objs.size) { s3 with heap := pushCells (s3.heap.push { cls := .type "dict", data := .dict #[] }) scope.names }
  generalize hce : compEnvC scope (cellsFrom (s3.heap.objs.size + 1) scope.names (cloFrom X.env.cells scope.names [])) s3.heap.objs.size X.env = ce at I4 pg pt pe ⊢
  have cL : ce.locals = s3.heap.objs.size := by subst hce; rfl
  have nfp : ∀ b ∈ fp, (upd H2 D (.lst [])) b = none := fun b hb => (f3 b hb).1.1
  generalize upd H2 D (.lst []) = H3 at *
  have keepP : ∀ b o, s2.heap.get? b = some o → (pushCells (s3.heap.push { cls := .type "dict", data := .dict #[] }) scope.names).get? b = some o := fun b o e => pushCells_keeps _ _ _ _ (Heap.get?_push_of_some _ (by rw [h3]; exact Heap.get?_push_of_some _ e))
  generalize hs4 : ({ s3 with heap := pushCells (s3.heap.push { cls := .type "dict", data := .dict #[] }) scope.names } : Shared) = s4 at I4 ⊢
  have st4 : tn 0 s4.heap := T.keep _ _ _ st2 fun b _ o e => by rw [← hs4]; exact keepP b o e
  have hotB : HotC (blkH X p s3 H3 scope ce fp) := ⟨p, hot, List.mem_singleton.mpr rfl⟩
  have far : ∀ b ∈ fp, p.1 ≠ b := fun b hb => (f3 b hb).1.2.2.2.2.2 p (List.mem_append_left _ hp)
  have stat : ∀ {σ' : L2.St} {H' : Hp} {s' : Shared}, Inv (blkH X p s3 H3 scope ce fp) [] σ' H' s' → (∀ b ∈ fp, H' b = none) → ∀ b ∈ fp, FpOk (blkH X p s3 H3 scope ce fp) [] H' b := fun {σ' H' s'} I' hn b hb =>
    ⟨hn b hb, (I'.ok.exf b hb).1, I'.ok.exfs b hb, .inl hb, fun x c e => (I'.ok.exf b hb).2 x c e, fun q hq => by
      obtain rfl : q = p := by simpa using hq
      exact far b hb⟩
  refine codeAny_compStart_list ?_ (T.self X.A 0 _ _ _ st4 ?_)
  all_goals
    refine compLoop_any (fun n s' => ∃ i H', Inv (blkH X p s3 H3 scope ce fp) [] (wipe σ (own.map (·.2))) H' s' ∧ tn i s'.heap ∧ (∀ b ∈ fp, H' b = none) ∧ W i n H') ?_ m0 ⟨0, H3, I4, st4, nfp, w0⟩
    rintro n s5 ⟨i, H5, I5, st5, n5, w5⟩
    rcases turn i n H5 w5 with ⟨stop, qq⟩ | ⟨go, Nx, hNx, step⟩
    · refine thnF (T.done (blkH X p s3 H3 scope ce fp) rfl rfl rfl hotB i [] s5 _ H5 (fun _ _ => False) I5 (stat I5 n5) st5 stop) fun r s6 ⟨hr, I6⟩ => ?_
      subst hr
      have I7 : Inv X pins σ H5 s6 := I3.call' (ch := fp) I6.os I6.base I6.hok I6.bare fun b hb => ⟨(f3 b hb).1.2.2.2.1, (f3 b hb).1.2.1, (f3 b hb).1.2.2.2.2.1, (f3 b hb).1.2.2.2.2.2⟩
      have nC : H5 s3.heap.objs.size = none := cL ▸ (show H5 ce.locals = none from I6.free)
      obtain ⟨m, hn, _⟩ := I6.loc
      have hn : s6.heap.Ns ce.locals m := hn
      rw [cL] at hn
      refine ⟨m, hn, fun h'' sb => ?_⟩
      obtain ⟨a0, a1, a2, a3, a4, a5⟩ := I3.fpOk (Nat.le_refl _) nC
      exact ⟨.ref D, H5, I7.turned (t' := s6.toks) (fun b o hb e => (sb.2 b hb).trans e) a0 a1 a3 a4 a5, rfl, qq⟩
    · refine thnF (T.item (blkH X p s3 H3 scope ce fp) rfl rfl rfl hotB i [] s5 _ H5 (fun _ _ => False) I5 (stat I5 n5) st5 go) fun r s6 ⟨u, hr, h6⟩ => ?_
      subst hr
      refine thnF h6 fun _ s7 ⟨x, H7, I7, r7, y7, st7, n7⟩ => ?_
      refine thnF (pg.run _ s7 _ H7 x u _ (I7.pinned (stat I7 n7) (T.obj _ _ st7)) r7 (step x H7 y7)) fun _ s8 ⟨σ8, H8, I8, hw8, q8⟩ => ?_
      refine thnF (pt.run _ s8 σ8 H8 _ I8 q8) fun b s9 ⟨H9, I9, q9⟩ => ?_
      have fin : ∀ {s' : Shared} {H' : Hp}, Inv (blkH X p s3 H3 scope ce fp) ([] ++ pinsAt fp s7.heap) σ8 H' s' → Nx H' → ∃ m, m < n ∧ ∃ i H', Inv (blkH X p s3 H3 scope ce fp) [] (wipe σ (own.map (·.2))) H' s' ∧ tn i s'.heap ∧ (∀ b ∈ fp, H' b = none) ∧ W i m H' := fun {s' H'} I' nx => by
        obtain ⟨m', hm, w'⟩ := hNx H' nx
        have still : ∀ b ∈ fp, ∀ o, s7.heap.get? b = some o → s'.heap.get? b = some o ∧ H' b = none := fun b hb o e =>
          let z := I'.pin (b, o) (List.mem_append_right _ (List.mem_append_right _ (mem_pinsAt hb e)))
          ⟨z.1, z.2.1⟩
        refine ⟨m', hm, i + 1, H', (I'.unpinned (pins := [])).weak (by rw [← hw8, wipe_length]) (fun j v e => ?_), T.keep _ _ _ st7 fun b hb o e => (still b hb o e).1, fun b hb => ?_, w'⟩
        · rw [← hw8] at e
          exact (wipe_some e).1
        · obtain ⟨o, e, _⟩ := T.obj _ _ st7 b hb
          exact (still b hb o e).2
      cases b with
      | false =>
        simp only [Bool.false_eq_true, if_false] at q9 ⊢
        exact fin I9 q9
      | true =>
        simp only [if_true] at q9 ⊢
        refine thnF (pe.run _ s9 σ8 H9 _ I9 q9) fun z s10 ⟨yv, H10, I10, r10, acc, hD10, hz10, nx⟩ => ?_
        exact app_ok (X := blkH X p s3 H3 scope ce fp) I10 hD10 hz10 r10 fun s11 I11 => fin I11 nx
end
end NX
set_option maxRecDepth 100000
set_option maxHeartbeats 4000000
/-! repr of tuples and lists: defs that are called while nothing is being shown -/
namespace GP
open PySem PySem.Spec PyProof.Rows L2
/-- what a def promises that is called while nothing is being shown -/
structure FnG (P : Program) (w : World) (K : PySem.W.Frag) (mg : Str → Option Value) (base : Heap) (k : Nat) (f : Addr) (fd : FuncData) (ps : List Str) (sp : Sp) : Prop where
  len : ∀ vs H Q E, sp vs H Q E → vs.length = ps.length
  run : ∀ (A : Around) (outer : List Env) (s : Shared) (H : Hp) (args : Args) (us : List Value) (vs : List V) (Q : VK) (E : XK), Room k A → A.guards = some [] → Env0 P w K mg base A outer s H → BindsTo s fd args (ps.zip us) → Vals vs us →
    sp vs H Q E → codeAny (model P w) A (.call (.ref f) args) (CR CX0 outer P w H s Q E) s
section
variable {P : Program} {w : World} {K : PySem.W.Frag} {mg : Str → Option Value} {base : Heap}
theorem FnG.of {k : Nat} {f : Addr} {fd : FuncData} {ps : List Str} {sp : Sp} (F : FnOk P w K mg base CX0 k f fd ps sp) : FnG P w K mg base k f fd ps sp :=
  ⟨F.len, fun A outer s H args us vs Q E hr _ => F.run A outer s H args us vs Q E hr⟩
/-- such a def by its body -/
theorem okG {x qual : Str} {st : Stmt} {f : Addr} {fd : FuncData} {N ps : List Str} {k : Nat} {sp : Sp} (F : Fun K x qual st f fd) (S : FnScope N ps (defScope st)) (len : ∀ vs H Q E, sp vs H Q E → vs.length = ps.length)
    (body : ∀ (cdv : Value) (A : Around) (outer : List Env) (s : Shared) (H : Hp) (vs : List V) (Q : VK) (E : XK), Room k (A.deeper (envOfC qual (defScope st) s.heap.objs.size f cdv)) → A.guards = some [] → sp vs H Q E →
      ∃ t, PSs (cxOf CX0 P w K mg base N qual (defScope st) f cdv A outer s H E).nox (defBody st) t ∧ t { nx := fun _ H' => Q .non H', rt := Q } (L2.start N vs) H) : FnG P w K mg base (k + 1) f fd ps sp := by
  obtain ⟨oc, od, kV, doc, pm, an, cdv, ct, osl, rfl, lk, hcd⟩ := F.ex
  refine ⟨len, fun A outer s H args us vs Q E room gd e0 bind r h => ?_⟩
  have lenV := len _ _ _ _ h
  have inS : K.In s.heap := e0.mod.kin.keeps fun b o e => (e0.bs b o e).1
  have noLim : s.heap.NoLimit := e0.mod.nolimit.keeps fun b o e => (e0.bs b o e).1
  have kinds : ∀ y ∈ ps.zip us, (defScope st).names.lookup y.1 = some .local ∨ ((defScope st).names.lookup y.1 = some .cell ∧ ((cellsFrom (s.heap.objs.size + 1) (defScope st).names []).lookup y.1).isSome = true) := by
    rintro ⟨n, v⟩ hy
    cases S.par n (List.of_mem_zip hy).1 with
    | inl q => exact .inl q
    | inr q => exact .inr ⟨q, PySem.W.cellsFrom_some _ _ _ (.inl q)⟩
  refine codeAny_call_function room.depth (inS _ _ lk) rfl S.co S.gen rfl (PySem.W.codeRec_of inS hcd) (bind _ _ _ _ (wpAny_newFunctionEnv_cells S.kind kinds fun env he s1 y => ?_))
  subst he
  refine ⟨noLim.keeps y.toInCall.keep, codeAny_func ?_⟩
  obtain ⟨t, ht0, hq⟩ := body cdv A outer s H vs Q E (room.deeper _) gd h
  have ht := ht0.nox
  have I0 := inv_start (CX := CX0) (E := E) S room.hd e0 lenV r y
  refine wpAny_mono (ht.run [] s1 (L2.start N vs) H _ I0 hq) (fun fl s' hs => ?_) fun e s' hs => hs
  cases fl with
  | ret u => obtain ⟨v, σ', H', J, rv, q⟩ := hs; exact ⟨v, H', J.os, J.bare, J.base, J.hok, rv, q⟩
  | next => obtain ⟨σ', H', J, q⟩ := hs; exact ⟨V.non, H', J.os, J.bare, J.base, J.hok, rfl, q⟩
  | brk => obtain ⟨_, _, _, q⟩ := hs; exact q.elim
  | cont => obtain ⟨_, _, _, q⟩ := hs; exact q.elim
end
section
variable {X : Cx} {k : Nat} {f : Addr} {fd : FuncData} {ps : List Str} {sp : Sp} {x : Str} {q pos : Pos} {e : Expr} {es : List Expr} {t : TA} {E : XK}
/-- the call of such a def -/
theorem pe_callG (F : FnG X.prog X.w X.K X.mg X.base k f fd ps sp) (hr : Room k X.A) (gd : X.A.guards = some []) (hg : Gl X x) (hm : X.mg x = some (.ref f)) (hk : PySem.W.keepIn X.K (.ref f) = true) (hb : Binds X.K fd ps []) (hx : Passes CX0 X E)
    (ha : PA X (e :: es) t) (hdb : (x == ("__debug__" : Str)) = false := by decide) (he : starEach (e :: es) X.env = (false, eval e X.env) :: starEach es X.env := by rfl) (hpl : (backTo pos (starEach es X.env)).any (·.1) = false := by rfl) :
    PE X (.Call (.Name x q) (e :: es) [] pos) (tCall sp [] E t) := by
  refine ⟨fun pins s σ H Q I h => wpAny_Call_Name_kw (ld_glob I hg hm ?_ hdb)⟩
  refine PySem.W.callWith_K (h₀ := X.base) I.ok.mod.kin hk (thn (ha.run pos pins s σ H _ I h) fun us s1 ⟨vs, H1, I1, r, w0⟩ => ⟨I1.kIn, ?_⟩) he hpl
  have w1 : sp (vs ++ []) H1 Q E := w0
  rw [List.append_nil] at w1
  have lenU : us.length = ps.length := by rw [← r.length]; exact F.len _ _ _ _ w1
  have bd := hb s1 us I1.kIn (by rw [List.append_nil]; exact lenU)
  rw [List.append_nil] at bd
  refine wpAny_call (codeAny_mono (F.run X.A X.stack s1 H1 ⟨us, []⟩ us vs Q E hr gd I1.env0 bd r w1) fun r s' hq => ?_)
  cases r with
  | error e => exact hx pins σ H1 s1 e s' I1 hq
  | ok fl =>
    cases fl with
    | ret u => exact I1.after hq
    | next => exact hq.elim
    | brk => exact hq.elim
    | cont => exact hq.elim
/-- repr of a tuple or a list -/
theorem call_reprD (gd : X.A.guards = some []) (hu : X.A.units + 70 < cLine) : CallR X (.builtin "repr") (fun xs H Q => ∃ p d, xs = [.ref p] ∧ Dp X.K H (.ref p) d ∧ d.showable = true ∧ d.hasDict = false ∧ d.depth ≤ 60 ∧ d.shown.length ≤ sizeLine ∧ Q (.str d.shown) H) := by
  intro pins s σ H xs us Q I r h
  obtain ⟨p, d, rfl, hd, sh, nd, dep, hsz, q⟩ := h
  obtain ⟨u, rfl, ru⟩ := vals1 r
  cases (show u = Value.ref p from ru)
  obtain ⟨as, r1⟩ := Dp.reads I d (.ref p) (.ref p) hd rfl
  exact repr_of_reads' r1 sh (fun z => by rw [nd] at z; cases z) gd (by omega) (fun _ _ z => z) (fun h' u tk hk => ⟨.str d.shown, H, I.kept (t' := tk) hk, ⟨u, rfl⟩, q⟩) hsz
end
end GP
set_option maxRecDepth 100000
set_option maxHeartbeats 4000000
namespace GP
open PySem PySem.Spec PyProof.Rows L2
section
variable {P : Program} {w : World} {K : PySem.W.Frag} {mg mb : Str → Option Value} {k : Nat} {fa script : Addr} {fd : FuncData} {x : Str} {sp : Sp} {st : Shared} {cells : List Value} {ns : List Int}
def Fin0 (st : Shared) : Except Value Flow → Shared → Prop := fun r s2 => r = .ok (.ret (.bool true)) ∧ OldK st.heap s2.heap ∧ s2.os = st.os ∧ AllBare s2.gens
/-- the law, from a heap in which at most the script is told -/
theorem law_part (inK : K.In st.heap) (g1 : st.heap.Ns mainGlobals mg) (g2 : st.heap.Ns builtinsNs mb) (g3 : ∀ x : Str, x ≠ "__name__" → mb x = bootBuiltins x) (g4 : st.heap.NoLimit) (g5 : st.gens = #[])
    (is : st.heap.get? script = some { cls := .type "list", data := .seq cells.toArray }) (room : Room k callerA) (F : ∀ base : Heap, K.In base → base.Ns mainGlobals mg → FnG P w K mg base k fa fd [x] sp) (bind : ∀ (s : Shared) (u : Value), BindsTo s fd ⟨[u], []⟩ [(x, u)])
    (H : Hp) (only : Only H) (h : sp [.ref script] H (fun v _ => v = .bl true) fun _ _ _ => False) (ok : HOk P w H st.heap) (one : ∀ b, H b ≠ none → b = script) (notK : H script ≠ none → K.lookup script = none) :
    codeAny (model P w) callerA (.call (.ref fa) ⟨[.ref script], []⟩) (Fin0 st) st := by
  have seen : ∀ {b : Addr} {o : Obj}, st.heap.get? b = some o → H b = none → (hidT st.heap H).get? b = some o := fun a1 a2 => hidT_get a1 a2
  have free : ∀ {b : Addr} {o : Obj} {es : Array DictEntry} {ep : Nat}, st.heap.get? b = some o → o.data = .dict es ep → H b = none := by
    intro b o es ep a1 a2
    rcases e : H b with _ | u
    · rfl
    · have := one b (by rw [e]; exact fun z => nomatch z)
      rw [this, is] at a1
      rw [← Option.some.inj a1] at a2
      cases a2
  have names : ∀ {b : Addr} {m : Str → Option Value}, st.heap.Ns b m → (hidT st.heap H).Ns b m := by
    rintro b m ⟨o, es, ep, a1, a2, a3⟩
    exact ⟨o, es, ep, seen a1 (free a1 a2), a2, a3⟩
  have inB : K.In (hidT st.heap H) := by
    intro b o a1
    refine seen (inK b o a1) ?_
    rcases e : H b with _ | u
    · rfl
    · have := one b (by rw [e]; exact fun z => nomatch z)
      rw [this] at e a1
      rw [notK (by rw [e]; exact fun z => nomatch z)] at a1
      cases a1
  obtain ⟨mc, c1, c2⟩ := g4
  have M : Mod K mg (hidT st.heap H) := ⟨inB, names g1, ⟨mb, names g2, g3⟩, ⟨mc, names c1, c2⟩⟩
  have e0 : Env0 P w K mg (hidT st.heap H) callerA [] st H := ⟨rfl, M, fun b o e => of_hidT e, Nat.le_of_eq (hidT_size _ _), trivial, fun b hb => absurd hb List.not_mem_nil, ok, .of_eq g5⟩
  have R := (F _ inB (names g1)).run callerA [] st H ⟨[.ref script], []⟩ [.ref script] [.ref script] _ _ room rfl e0 (bind st (.ref script)) (.cons rfl .nil) h
  refine codeAny_mono R fun r s2 z => ?_
  match r, z with
  | .error e, z => exact absurd z (fun y => by exact y.elim)
  | .ok .next, z => exact z.elim
  | .ok .brk, z => exact z.elim
  | .ok .cont, z => exact z.elim
  | .ok (.ret u), ⟨v, H2, os, bare, un, ok2, ru, hv⟩ =>
    have hv2 : v = .bl true := hv
    rw [hv2] at ru
    have ru2 : u = Value.bool true := ru
    rw [ru2]
    refine ⟨rfl, OldK.of_keep fun b o a1 => ?_, os, bare⟩
    rcases e : H b with _ | t
    · exact un.keep b o a1 e (fun z => absurd z List.not_mem_nil) List.not_mem_nil
    · rcases only b with z | ⟨ob, xs, z⟩
      · rw [e] at z; cases z
      · have f1 := (ok b _ z).1
        have f2 := (ok2 b _ (un.frzs b ob _ z)).1
        rw [a1] at f1
        rw [Option.some.inj f1]
        exact f2
theorem law_whole (inK : K.In st.heap) (g1 : st.heap.Ns mainGlobals mg) (g2 : st.heap.Ns builtinsNs mb) (g3 : ∀ x : Str, x ≠ "__name__" → mb x = bootBuiltins x) (g4 : st.heap.NoLimit) (g5 : st.gens = #[])
    (is : st.heap.get? script = some { cls := .type "list", data := .seq cells.toArray }) (nums : IntsAre cells ns) (few : ns.length ≤ sizeLine) (room : Room k callerA) (F : ∀ base : Heap, K.In base → base.Ns mainGlobals mg → FnG P w K mg base k fa fd [x] sp)
    (bind : ∀ (s : Shared) (u : Value), BindsTo s fd ⟨[u], []⟩ [(x, u)]) (h : ∀ H : Hp, Only H → SqL K H script (ns.map V.int) → sp [.ref script] H (fun v _ => v = .bl true) fun _ _ _ => False) :
    codeAny (model P w) callerA (.call (.ref fa) ⟨[.ref script], []⟩) (Fin0 st) st := by
  have vals := vals_ints nums
  have len := nums.length
  rcases e : K.lookup script with _ | o
  · let ob : Obj := { cls := .type "list", data := .seq cells.toArray }
    let G : Hp := fun b => if b = script then some (.frz ob (.lst (ns.map V.int))) else none
    have at1 : G script = some (.frz ob (.lst (ns.map V.int))) := if_pos rfl
    have at2 : ∀ b, b ≠ script → G b = none := fun b n => if_neg n
    refine law_part inK g1 g2 g3 g4 g5 is room F bind G (fun b => ?_) (h G (fun b => ?_) (.inl (.inr ⟨ob, at1⟩))) (fun b u z => ?_) (fun b z => ?_) fun _ => e
    · by_cases n : b = script
      · exact .inr ⟨ob, _, by rw [n]; exact at1⟩
      · exact .inl (at2 b n)
    · by_cases n : b = script
      · exact .inr ⟨ob, _, by rw [n]; exact at1⟩
      · exact .inl (at2 b n)
    · by_cases n : b = script
      · subst n
        cases at1.symm.trans z
        exact ⟨is, by rw [List.length_map]; exact few, cells, _, vals, is⟩
      · cases (at2 b n).symm.trans z
    · by_cases n : b = script
      · exact n
      · exact absurd (at2 b n) z
  · have mine := inK script o e
    rw [is] at mine
    cases mine
    let G : Hp := fun _ => none
    exact law_part inK g1 g2 g3 g4 g5 is room F bind G (fun _ => .inl rfl) (h G (fun _ => .inl rfl) (.inr ⟨_, cells.toArray, _, e, rfl, rfl, rfl, by rw [List.size_toArray, len]; exact few, by simpa using vals⟩)) (fun _ _ z => nomatch z) (fun _ z => absurd rfl z) fun z => absurd rfl z
end
theorem walk_ofG {l : PySem.W.OpenLaw} {n k : Nat} {q : Program} {loose : List Str} {XP : (Str → Option Value) → Heap → Prop} {YP : World → Heap → Prop} {d : DefRec} {K : Params → PySem.W.Frag} {sp : World → Sp} {x : Str}
    (most : l.most = some n) (few : n ≤ sizeLine) (plain : d.params.defaults = []) (room : Room k callerA) (inK : ∀ (w : World) (h : Heap), YP w h → (K w.params).In h)
    (F : ∀ (w : World) (mg : Str → Option Value) (fa : Addr) (h : Heap), (K w.params).In h → h.Ns mainGlobals mg → mg d.name = some (.ref fa) →
      ∃ fd : FuncData, (∀ (s : Shared) (u : Value), BindsTo s fd ⟨[u], []⟩ [(x, u)]) ∧ ∀ base : Heap, (K w.params).In base → base.Ns mainGlobals mg → FnG l.prog w (K w.params) mg base k fa fd [x] (sp w))
    (h : ∀ (w : World) (H : Hp) (a : Addr) (ns : List Int), ns.length ≤ n → Only H → SqL (K w.params) H a (ns.map V.int) → sp w [.ref a] H (fun v _ => v = .bl true) fun _ _ _ => False) :
    PySem.W.WalkO q loose XP YP l.row.toRowW d [] (fun f vs => PySem.call f vs) := by
  refine Att.attach_call most plain fun w _ _ mg _ fa _ _ _ _ a cells ns S Y _ _ _ named is nums len gens => ?_
  obtain ⟨fd, bind, G⟩ := F w mg fa _ (inK w _ Y) S.T.g named
  exact law_whole (inK w _ Y) S.T.g S.T.b S.T.builtins S.T.nolimit gens is nums (Nat.le_trans len few) room G bind fun H only z => h w H a ns len only z
end GP
set_option maxRecDepth 100000
set_option maxHeartbeats 4000000
/-! which data repr may be asked of -/
namespace GP
open PySem PySem.Spec PyProof.Rows L2
structure Rp (n c : Nat) (d : PyData) : Prop where
  sh : d.showable = true
  nd : d.hasDict = false
  dp : d.depth ≤ n
  ln : d.shown.length ≤ c
theorem Rp.mono {n c m e : Nat} {d : PyData} (r : Rp n c d) (h1 : n ≤ m) (h2 : c ≤ e) : Rp m e d := ⟨r.sh, r.nd, Nat.le_trans r.dp h1, Nat.le_trans r.ln h2⟩
theorem Rp.none : Rp 0 4 .none := ⟨by simp [PyData.showable], by simp [PyData.hasDict], by simp [PyData.depth], by simp only [PyData.shown]; decide +kernel⟩
theorem Rp.int {i : Int} (h : i.natAbs.log2 < 1920) : Rp 0 1921 (.int i) := ⟨by simp only [PyData.showable]; exact decide_eq_true h, by simp [PyData.hasDict], by simp [PyData.depth], by simp only [PyData.shown]; exact int_text_len_1921 h⟩
theorem Rp.str {x : Str} (h : ∀ c ∈ x.cps.toList, c < 16 ^ 8) : Rp 0 (10 * x.length + 2) (.str x) := ⟨by simp [PyData.showable], by simp [PyData.hasDict], by simp [PyData.depth], by simp only [PyData.shown]; exact StrLaws.reprText_len x h⟩
theorem all_sh : ∀ {n c : Nat} {ds : List PyData}, (∀ d ∈ ds, Rp n c d) → PyData.showableAll ds = true ∧ PyData.hasDictAll ds = false ∧ PyData.depthAll ds ≤ n ∧ piled (PyData.shownAll ds) ≤ ds.length * (c + 2)
  | n, c, [], _ => ⟨by simp [PyData.showableAll], by simp [PyData.hasDictAll], by simp [PyData.depthAll], by simp [PyData.shownAll, piled]⟩
  | n, c, d :: ds, h => by
    have r := h d List.mem_cons_self
    obtain ⟨h1, h2, h3, h4⟩ := all_sh (n := n) (c := c) (ds := ds) fun x hx => h x (List.mem_cons_of_mem _ hx)
    refine ⟨by simp only [PyData.showableAll, r.sh, h1, Bool.and_self], by simp only [PyData.hasDictAll, r.nd, h2, Bool.or_self], ?_, ?_⟩
    · simp only [PyData.depthAll]
      exact Nat.max_le.mpr ⟨r.dp, h3⟩
    · simp only [PyData.shownAll]
      rw [piled_cons, List.length_cons, Nat.add_mul, Nat.one_mul]
      have := r.ln
      omega
theorem Rp.tuple {n c : Nat} {ds : List PyData} (h : ∀ d ∈ ds, Rp n c d) : Rp (n + 1) (ds.length * (c + 2) + 2) (.tuple ds) := by
  obtain ⟨h1, h2, h3, h4⟩ := all_sh h
  refine ⟨by simp only [PyData.showable, h1], by simp only [PyData.hasDict, h2], by simp only [PyData.depth]; omega, ?_⟩
  simp only [PyData.shown]
  exact Nat.le_trans (fmt_text _) (by omega)
theorem list_text (ts : List Str) : (listText ts).length ≤ piled ts + 2 := by
  have e1 : (("[" : Str)).length = 1 := rfl
  have e2 : (("]" : Str)).length = 1 := rfl
  rw [listText_eq_join, strLen_append, strLen_append, e1, e2]
  by_cases h : ts = []
  · subst h
    decide +kernel
  · have := join_length_add ts h
    omega
theorem Rp.list {n c : Nat} {ds : List PyData} (h : ∀ d ∈ ds, Rp n c d) : Rp (n + 1) (ds.length * (c + 2) + 2) (.list ds) := by
  obtain ⟨h1, h2, h3, h4⟩ := all_sh h
  refine ⟨by simp only [PyData.showable, h1], by simp only [PyData.hasDict, h2], by simp only [PyData.depth]; omega, ?_⟩
  simp only [PyData.shown]
  exact Nat.le_trans (list_text _) (by omega)
section
variable {X : Cx}
theorem call_reprR (gd : X.A.guards = some []) (hu : X.A.units + 70 < cLine) : CallR X (.builtin "repr") (fun xs H Q => ∃ p d n c, xs = [.ref p] ∧ Dp X.K H (.ref p) d ∧ Rp n c d ∧ n ≤ 60 ∧ c ≤ sizeLine ∧ Q (.str d.shown) H) := by
  intro pins s σ H xs us Q I r h
  obtain ⟨p, d, n, c, rfl, hd, rp, hn, hc, q⟩ := h
  exact call_reprD gd hu pins s σ H [.ref p] us Q I r ⟨p, d, rfl, hd, rp.sh, rp.nd, Nat.le_trans rp.dp hn, Nat.le_trans rp.ln hc, q⟩
end
end GP
set_option maxRecDepth 100000
set_option maxHeartbeats 3200000
/-! set(texts) and sorted of it -/
namespace TSet
open PySem PySem.Spec PyProof.Rows L2 Froz
def txtOf : Int × Value → Str | (_, .str x _) => x | _ => Str.empty
/-- the payload D of a set holds exactly the texts l, and can be walked -/
structure Txs (P : Program) (w : World) (D : SD) (l : List Str) : Prop where
  ok : TxOk P w D l
  pm : (D.1.toList.map txtOf).Perm l
  all : ∀ e ∈ D.1.toList, ∃ x t, e.2 = Value.str x t
  nd : l.Nodup
  ris : Ris D.2.2.place.toList
  led : w.params.followText "set-order" = true ∨ D.2.2.led = true
section
variable {P : Program} {w : World} {A : Around} {E : Value → Shared → Prop} {s : Shared}
theorem tail_perm (ep : Nat) (es : Array (Int × Value)) (t : SetTable) (b : Bool) : (tailTx ep es t b).1.toList.Perm es.toList := by
  unfold tailTx
  split
  · exact relayAll_perm _ _ _
  · exact List.Perm.refl _
theorem tail_ris (ep : Nat) (es : Array (Int × Value)) (t : SetTable) (b : Bool) (r : Ris t.place.toList) : Ris (tailTx ep es t b).2.2.place.toList := by
  unfold tailTx
  split
  · exact relayAll_ris _ _ _
  · exact r
theorem tail_led (ep : Nat) (es : Array (Int × Value)) (t : SetTable) (b : Bool) : (tailTx ep es t b).2.2.led = t.led := by
  unfold tailTx
  split
  · exact relayAll_led _ _ _
  · rfl
theorem Txs.add {D : SD} {l : List Str} {k : Str} (u : Tok) (F : Txs P w D l) (hk : k ∉ l) : Txs P w (addTx (hashStr w k) (.str k u) D) (k :: l) := by
  have hp : (addTx (hashStr w k) (.str k u) D).1.toList.Perm ((hashStr w k, Value.str k u) :: D.1.toList) := by
    refine (tail_perm _ _ _ _).trans ((layNew_perm _ _ _ _).trans ?_)
    rw [Array.toList_push]
    exact List.perm_append_singleton _ _
  refine ⟨add_ok u F.ok, ?_, fun e he => ?_, List.nodup_cons.mpr ⟨hk, F.nd⟩, tail_ris _ _ _ _ ?_, ?_⟩
  · exact (hp.map txtOf).trans (List.Perm.cons _ F.pm)
  · rcases List.mem_cons.mp (hp.mem_iff.mp he) with z | z
    · exact ⟨k, u, by rw [z]⟩
    · exact F.all e z
  · have r := layNew_ris D.2.2 D.1 (hashStr w k) (.str k u) F.ris
    split <;> exact r
  · refine F.led.imp id fun z => ?_
    refine (tail_led _ _ _ _).trans ?_
    have q := (layNew_led D.2.2 D.1 (hashStr w k) (.str k u)).trans z
    split <;> exact q
/-- a text that is there already -/
theorem add_old {a : Addr} {T : String} {D : SD} {l : List Str} {k : Str} {u : Tok} {Q : Bool → Shared → Prop} (at_ : s.heap.get? a = some (sObj T D)) (F : TxOk P w D l) (hk : k ∈ l) (few : l.length + 1 < scanBound) (h : Q false s) :
    wpAny (model P w) A (setAddHashed a (.str k u) (hashStr w k)) Q E s := by
  obtain ⟨es, ep, t⟩ := D
  have dt : (sObj T (es, ep, t)).data = .set es ep t := rfl
  have el : ElemsOf (strKind P w) es.toList := F.el
  have sz : es.size < scanBound := by have : es.size = l.length := F.sz; omega
  obtain ⟨j, hj⟩ : ∃ j, List.findIdx? (fun e => (strKind P w).is k e.2) es.toList = some j := by
    obtain ⟨e, he, q⟩ := (F.mem k).mp hk
    cases hr : List.findIdx? (fun e => (strKind P w).is k e.2) es.toList with
    | some j => exact ⟨j, rfl⟩
    | none =>
      have c := List.findIdx?_eq_none_iff.mp hr e he
      rw [q] at c
      cases c
  unfold setAddHashed
  unfold setAddHashedIn
  refine wpAny_holding (wpAny_bind (wpAny_setState_of at_ dt F.fit ?_))
  dsimp only
  rw [byScan_of rfl sz el]
  simp only [↓reduceIte]
  unfold setAddByScan
  refine wpAny_bind (wpAny_bind (wpAny_rule (wpAny_bind (wpAny_setScan_of (knd := strKind P w) (k := k) (is_str k u) at_ dt F.fit el ?_))))
  rw [hj]
  dsimp only
  exact wpAny_pure (wpAny_pure h)
theorem add_any {a : Addr} {D : SD} {l : List Str} {k : Str} {u : Tok} {Q : Bool → Shared → Prop} (at_ : s.heap.get? a = some (sObj "set" D)) (F : Txs P w D l) (few : l.length + 1 < scanBound)
    (h : ∀ b h' D' l', Heap.SameBut a s.heap h' → h'.get? a = some (sObj "set" D') → Txs P w D' l' → (∀ z, z ∈ l' ↔ z = k ∨ z ∈ l) → l'.length ≤ l.length + 1 → Q b { s with heap := h' }) :
    wpAny (model P w) A (setAddHashed a (.str k u) (hashStr w k)) Q E s := by
  by_cases hk : k ∈ l
  · exact add_old at_ F.ok hk few (h false s.heap D l (Heap.SameBut.refl a _) at_ F (fun z => ⟨.inr, fun q => q.elim (fun e => e ▸ hk) id⟩) (by omega))
  · refine add_x at_ F.ok hk few (h true _ _ _ ?_ (get_upd _ at_ rfl) (F.add u hk) (fun z => List.mem_cons) (Nat.le_refl _))
    exact ⟨Heap.size_after_update _ _ _, fun b hb => Heap.get?_update_ne _ _ _ _ hb⟩
end
section
variable {P : Program} {w : World} {A : Around} {E : Value → Shared → Prop} {s : Shared}
/-- the loop of set's making, for any way of adding: T i h says what the set is behind i items -/
theorem loop_any {I : Addr} {fp wr : List Addr} {G : Array GenState → Array GenState → Prop} {n : Nat} {Pv : Nat → Value → Prop} {St : Nat → Shared → Prop} {R : Result → Shared → Prop} (W : WalksS P w A.in1 I fp wr G n Pv St)
    {S : Addr} (out : S ∉ fp) (T : Nat → Heap → Prop) (fr : ∀ i h h', T i h → (∀ b o, b ∉ wr → h.get? b = some o → h'.get? b = some o) → T i h')
    (add : ∀ i v (s : Shared) (E : Value → Shared → Prop) (Q : Bool → Shared → Prop), i < n → Pv i v → T i s.heap → (∀ b h' tk, s.toks ≤ tk → Heap.SameBut S s.heap h' → T (i + 1) h' → Q b { s with heap := h', toks := tk }) → wpAny (model P w) A.in1 (setAdd S v) Q E s) :
    ∀ (k i : Nat) (s : Shared), n - i = k → i ≤ n → St i s → T i s.heap → (∀ s', Moved (S :: wr) G s s' → T n s'.heap → R (.ok (.ret .none)) s') → codeAny (model P w) A (.builtin "set.update.loop" ⟨[.ref S, .ref I], []⟩) R s := by
  intro k
  induction k with
  | zero =>
    intro i s ek ei st t r
    obtain rfl : i = n := by omega
    refine codeAny_builtin F.entry_set_update_loop ?_
    rw [Around.under_plainId F.plain_set_update_loop _]
    show wpAny (model P w) A.in1 (pyNext (.ref I) >>= _) _ _ s
    refine wpAny_bind (W.done s _ _ st fun s1 m => ?_)
    show wpAny (model P w) A.in1 (ret Value.none) _ _ s1
    exact wpAny_pure (r s1 ⟨fun b o nb => m.heap b o fun z => nb (List.mem_cons_of_mem _ z), m.gens, m.drawn, m.os, m.toks⟩ (fr i _ _ t m.heap))
  | succ k ih =>
    intro i s ek ei st t r
    have lt : i < n := by omega
    refine codeAny_builtin F.entry_set_update_loop ?_
    rw [Around.under_plainId F.plain_set_update_loop _]
    show wpAny (model P w) A.in1 (pyNext (.ref I) >>= _) _ _ s
    refine wpAny_bind (W.item i s _ _ lt st fun v s1 pv st1 m => ?_)
    show wpAny (model P w) A.in1 (holding [v] (setAdd S v) >>= _) _ _ s1
    refine wpAny_bind (wpAny_holding (add i v s1 _ _ lt pv (fr i _ _ t m.heap) fun b h' tk tk' same t' => ?_))
    refine wpAny_pure ⟨plainId_quiet F.plain_set_update_loop _, ih (i + 1) _ (by omega) lt (W.frame _ s1 _ _ st1 tk' fun c hc o e => ?_) t' fun s2 m2 t2 => r s2 ⟨fun c o nc e => ?_, W.gtrans _ _ _ m.gens m2.gens, m2.drawn.trans m.drawn, m2.os.trans m.os, ?_⟩ t2⟩
    · rw [same.2 c fun z : c = S => out (z ▸ hc)]
      exact e
    · refine m2.heap c o nc ?_
      show h'.get? c = some o
      rw [same.2 c fun z : c = S => nc (by rw [z]; exact List.mem_cons_self)]
      exact m.heap c o (fun z => nc (List.mem_cons_of_mem _ z)) e
    · exact Nat.le_trans m.toks (Nat.le_trans tk' m2.toks)
def freshSet (w : World) : Obj := { cls := .type "set", dict := none, data := .set #[] 0 (.fresh 0 0 (!w.params.followText "set-order")) }
def listIt (l : Addr) : Obj := { cls := .type "list_iterator", data := .fields #[.ref l, .int 0 0] }
/-- set(a list), for any way of adding -/
theorem made_any {l : Addr} {items : Array Value} {Q : Value → Shared → Prop} (hh : A.handled = none) (hl : s.heap.IsList l items) (T : Nat → Heap → Prop)
    (fr : ∀ i h h', T i h → (∀ b o, b ≠ s.heap.objs.size + 1 → h.get? b = some o → h'.get? b = some o) → T i h')
    (zero : ∀ h, h.get? s.heap.objs.size = some (freshSet w) → (∀ b o, s.heap.get? b = some o → h.get? b = some o) → T 0 h)
    (add : ∀ (B : Around) i v (s1 : Shared) (E : Value → Shared → Prop) (Q : Bool → Shared → Prop), B.units ≤ A.units + 3 → items[i]? = some v → T i s1.heap →
      (∀ b h' tk, s1.toks ≤ tk → Heap.SameBut s.heap.objs.size s1.heap h' → T (i + 1) h' → Q b { s1 with heap := h', toks := tk }) → wpAny (model P w) B (setAdd s.heap.objs.size v) Q E s1)
    (k : ∀ (h' : Heap) (tk : Nat), T items.size h' → (∀ b o, s.heap.get? b = some o → h'.get? b = some o) → Q (.ref s.heap.objs.size) { s with heap := h', toks := tk }) :
    wpAny (model P w) A (call (.type "set") [.ref l]) Q E s := by
  obtain ⟨_, _, hmro⟩ := PySem.F.called_set.mro
  have made_ := PySem.F.called_set.made
  have sub_ := PySem.F.called_set.sub
  refine wpAny_call (codeAny_of_tree ?_)
  show wpAny (model P w) _ (callAny (.type "set") _) _ _ _
  refine wpAny_pure ⟨Code.quiet_builtin _ (by decide +kernel), codeAny_builtin PySem.F.entry_type_call ?_⟩
  rw [Around.under_plain (weight_type_call_type "set" [.ref l] []) rfl]
  have notT := PySem.F.called_set.notType
  have canC := PySem.F.called_set.canCreate
  have typC := PySem.F.typeCall_set_1 (.ref l)
  repeat (any_goals (first | assumption | wp_step))
  let S := s.heap.objs.size
  let hp1 := s.heap.push (freshSet w)
  refine codeAny_mono (code_set_led1 (.ref l) (E := E) (Q₁ := fun obj s1 => obj = .ref S ∧ s1 = { s with heap := hp1 }) ⟨rfl, rfl⟩) fun r s1 hr => ?_
  rcases r with _ | e
  case error => exact hr
  cases e with
  | ret obj =>
    obtain ⟨rfl, rfl⟩ := hr
    have atS : hp1.get? S = some (freshSet w) := Heap.get?_push_size _ rfl
    have tyS : Shared.TypeIs { s with heap := hp1 } (.ref S) "set" := ⟨_, atS, rfl⟩
    have iLook := PySem.F.called_set.init.lookup
    have iBind := PySem.F.called_set.init.bind (.ref S)
    repeat (any_goals (first | assumption | wp_step))
    refine codeAny_mono (codeAny_call_builtin (R := wants (fun r s2 => r = .none ∧ ∃ h' tk, s2 = { s with heap := h', toks := tk } ∧ T items.size h' ∧ (∀ b o, s.heap.get? b = some o → h'.get? b = some o)) E)
      PySem.F.called_set.init.plain PySem.F.entry_set_init (check_set_init_1 tyS ?_)) fun r2 s2 hr2 => ?_
    · obtain ⟨ol, hol, cl, nl, dl⟩ := hl
      obtain ⟨ocl, odi, oda, osl⟩ := ol
      simp only at cl dl
      subst cl
      subst dl
      have ltl : l < S := Heap.lt_size hol
      have atl : hp1.get? l = some { cls := .type "list", dict := odi, data := .seq items nl, slots := osl } := Heap.get?_push_of_some _ hol
      have ls1 := PySem.F.sub_list_set
      have ls2 := PySem.F.sub_list_frozenset
      have nd1 : (Value.type "list" == Value.type "dict") = false := by decide
      have isl : hp1.IsList l items := ⟨_, atl, rfl, nl, rfl⟩
      have szI : hp1.objs.size = S + 1 := Heap.size_push ..
      unfold Builtin.«set.__init__» noKeywords Builtin.Frozenset.updateFrom
      generalize ePI : pyIter = PI
      wp_walk
      subst ePI
      refine wpAny_pyIter_list isl (wpAny_bind (wpAny_runValue ?_))
      have h3 : A.in1.in1.in1.handled = none := by simp [hh]
      have nI : l ≠ hp1.objs.size := by rw [szI]; exact Nat.ne_of_lt (Nat.lt_succ_of_lt ltl)
      have nS : S ∉ [hp1.objs.size, l] := by
        rw [szI]
        intro z
        rcases List.mem_cons.mp z with z | z
        · exact absurd z (Nat.ne_of_lt (Nat.lt_succ_self _))
        · exact absurd (List.mem_singleton.mp z) (Nat.ne_of_gt ltl)
      refine loop_any ((Walks.list h3 _ l nI items).toS) nS T (fun i h h' t e => fr i h h' t fun b o nb => e b o (by rw [szI]; simpa using nb)) (fun i v s1 E1 Q1 _ pv t q => add _ i v s1 E1 Q1 (Nat.le_refl _) pv t q)
        (items.size - 0) 0 _ (by omega) (Nat.zero_le _) ⟨⟨_, Heap.get?_push_size _ rfl, rfl, rfl⟩, isl.push _⟩ (zero _ (Heap.get?_push_of_some _ atS) fun b o e => Heap.get?_push_of_some _ (Heap.get?_push_of_some _ e)) ?_
      intro s' m t'
      obtain ⟨h', g', d', tk', os'⟩ := s'
      obtain rfl : g' = s.gens := m.gens
      obtain rfl : d' = s.drawn := m.drawn
      obtain rfl : os' = s.os := m.os
      show wpAny _ _ _ _ _ _
      refine wpAny_pure ?_
      show wpAny _ _ (ret Value.none) _ _ _
      refine wpAny_pure ⟨rfl, h', tk', rfl, t', fun b o e => ?_⟩
      have ltb : b < S := Heap.lt_size e
      refine m.heap b o (fun z => ?_) (Heap.get?_push_of_some _ (Heap.get?_push_of_some _ e))
      rcases List.mem_cons.mp z with z | z
      · exact absurd z (Nat.ne_of_lt ltb)
      · have z2 := List.mem_singleton.mp z
        rw [szI] at z2
        exact absurd z2 (Nat.ne_of_lt (Nat.lt_succ_of_lt ltb))
    · rcases r2 with _ | e2
      case error => exact hr2
      cases e2 with
      | ret r =>
        obtain ⟨rfl, h', tk, rfl, t', keep⟩ := hr2
        repeat (any_goals (first | assumption | wp_step))
        exact k _ _ t' keep
      | _ => exact hr2.elim
  | _ => exact hr.elim
end
section
variable {P : Program} {w : World} {A : Around} {E : Value → Shared → Prop} {s : Shared}
theorem Txs.fresh : Txs P w (#[], 0, .fresh 0 0 (!w.params.followText "set-order")) [] where
  ok := TxOk.nil rfl
  pm := List.Perm.refl _
  all := fun e he => by simp at he
  nd := List.nodup_nil
  ris := List.Pairwise.nil
  led := by
    show _ ∨ (!w.params.followText "set-order") = true
    cases w.params.followText "set-order"
    · exact .inr rfl
    · exact .inl rfl
theorem strs_get : ∀ {vs : List Value} {xs : List Str}, StrsAre vs xs → ∀ {i : Nat} {v : Value}, vs[i]? = some v → ∃ z t, xs[i]? = some z ∧ v = .str z t
  | _, _, .nil, _, _, h => by simp at h
  | _, _, .cons y t r, 0, v, h => ⟨y, t, rfl, (Option.some.inj h).symm⟩
  | _, _, .cons y t r, i + 1, v, h => strs_get r (by simpa using h)
/-- set(a list of texts) -/
theorem set_txt {l : Addr} {items : Array Value} {xs : List Str} {Q : Value → Shared → Prop} (hh : A.handled = none) (hl : s.heap.IsList l items) (hi : StrsAre items.toList xs) (few : xs.length + 1 < scanBound)
    (k : ∀ (h' : Heap) (tk : Nat) D l', h'.get? s.heap.objs.size = some (sObj "set" D) → Txs P w D l' → (∀ z, z ∈ l' ↔ z ∈ xs) → l'.length ≤ xs.length → (∀ b o, s.heap.get? b = some o → h'.get? b = some o) → Q (.ref s.heap.objs.size) { s with heap := h', toks := tk }) :
    wpAny (model P w) A (call (.type "set") [.ref l]) Q E s := by
  have len : items.size = xs.length := by
    have : ∀ {vs : List Value} {ys : List Str}, StrsAre vs ys → vs.length = ys.length := by
      intro vs ys h
      induction h with
      | nil => rfl
      | cons y t r ih => simp [ih]
    rw [← this hi, Array.length_toList]
  refine made_any hh hl (fun i h => ∃ D l', h.get? s.heap.objs.size = some (sObj "set" D) ∧ Txs P w D l' ∧ (∀ z, z ∈ l' ↔ z ∈ xs.take i) ∧ l'.length ≤ i) ?_ ?_ ?_ ?_
  · rintro i h h' ⟨D, l', a, f, m, n⟩ e
    exact ⟨D, l', e _ _ (Nat.ne_of_lt (Nat.lt_succ_self _)) a, f, m, n⟩
  · intro h a _
    exact ⟨(#[], 0, .fresh 0 0 (!w.params.followText "set-order")), [], a, Txs.fresh, fun z => by simp, Nat.le_refl _⟩
  · rintro B i v s1 E1 Q1 _ hv ⟨D, l', a, f, m, n⟩ q
    obtain ⟨z, t, hz, rfl⟩ := strs_get hi (i := i) (v := v) (by rw [Array.getElem?_toList]; exact hv)
    have li : i < xs.length := (List.getElem?_eq_some_iff.mp hz).1
    unfold setAdd
    refine wpAny_holding (wpAny_bind ((strKind P w).pyHash (k := z) (is_str z t) ?_))
    refine add_any (s := { s1 with toks := s1.toks + 1 }) a f (by omega) fun b h' D' l2 same a2 f2 m2 n2 => q b h' (s1.toks + 1) (Nat.le_succ _) same ⟨D', l2, a2, f2, fun y => ?_, by omega⟩
    rw [m2 y, m y, List.take_add_one, hz]
    simp only [Option.toList_some, List.mem_append, List.mem_singleton]
    exact Or.comm
  · rintro h' tk ⟨D, l', a, f, m, n⟩ keep
    exact k h' tk D l' a f (fun z => by rw [m z, List.take_of_length_le (by omega)]) (by omega) keep
/-- sorted(a set of texts) -/
theorem sorted_txt {a : Addr} {D : SD} {l : List Str} {Q : Value → Shared → Prop} (at_ : s.heap.get? a = some (sObj "set" D)) (F : Txs P w D l) (hh : A.handled = none) (few : l.length < 64)
    (k : ∀ s' p (out : Array Value) (c : Nat) (ys : List Str), (∀ b o, s.heap.get? b = some o → s'.heap.get? b = some o) → s'.gens = s.gens → s'.os = s.os → s.heap.objs.size ≤ p →
      s'.heap.get? p = some (seqObj "list" out c) → StrsAre out.toList ys → ys.Perm l → sortedS ys = true → Q (.ref p) s') : wpAny (model P w) A (call (.builtin "sorted") [.ref a]) Q E s := by
  obtain ⟨es, ep, t⟩ := D
  have sz : es.size = l.length := F.ok.sz
  have sc : es.size < scanBound := by unfold scanBound; omega
  refine Calls.call_function_entry kind_sorted plain_sorted entry_sorted (args_sorted1 _) ?_
  unfold Builtin.«sorted»
  refine wpAny_bind (m := checkCount "sorted" 1 1 _) (wpAny_pure (wpAny_bind ?_))
  refine collect_set (A := A.in1) hh ⟨_, at_, rfl, rfl⟩ F.ok.fit sc F.ris F.led fun s1 vs k1 z1 g1 o1 pm => ?_
  have lv : vs.length = l.length := by rw [pm.length_eq, List.length_map, Array.length_toList, sz]
  have sv : ∀ us : List Value, (∀ u ∈ us, ∃ x t, u = Value.str x t) → StrsAre us (us.map fun u => txtOf (0, u)) := by
    intro us
    induction us with
    | nil => exact fun _ => .nil
    | cons u us ih =>
      intro h
      obtain ⟨x, t, rfl⟩ := h u List.mem_cons_self
      exact .cons x t (ih fun v hv => h v (List.mem_cons_of_mem _ hv))
  have hS := sv vs fun u hu => by
    obtain ⟨e, he, rfl⟩ := List.mem_map.mp (pm.mem_iff.mp hu)
    exact F.all e he
  have pl : (vs.map fun u => txtOf (0, u)).Perm l := by
    refine (pm.map _).trans ?_
    rw [List.map_map]
    refine List.Perm.trans (List.Perm.of_eq ?_) F.pm
    exact List.map_congr_left fun e _ => by obtain ⟨h, v⟩ := e; cases v <;> rfl
  refine wpAny_bind (wpAny_newList ?_ (by rw [lv, sizeLine_eq]; omega))
  have oL : (s1.heap.push (seqObj "list" vs.toArray 0)).get? s1.heap.objs.size = some (seqObj "list" vs.toArray 0) := Heap.get?_push_size _ rfl
  refine wpAny_bind (wpAny_holding (wpAny_call_entry slot_list_sort ⟨_, oL, rfl⟩ entry_list_sort
    (list_sort_treeK strKind_oneLt oL hS.keysOf (fun v1 v2 rest e => keyKind_strs (by rw [← e]; exact hS)) (by rw [lv]; exact few) fun st h1 h2 => ⟨_, rfl, ?_⟩) (args_list_sort _)))
  obtain ⟨ys, a1, a2, a3⟩ := sorted_out_str hS h1 h2
  obtain ⟨c, hc⟩ := sortedHeap_at (vs := vs) (out := (arrOf st).map (·.2)) oL
  refine wpAny_pure ⟨_, rfl, k _ s1.heap.objs.size _ c ys (fun b u e => ?_) g1 o1 z1 hc a1 (a2.trans pl) a3⟩
  have q := k1 b u e
  have lt := Heap.lt_size q
  refine (sortedHeap_old (Nat.ne_of_lt lt) (by rw [size_push']; exact Nat.lt_succ_of_lt lt)).trans ?_
  exact Heap.get?_push_of_some _ q
end
/-! ### as calls -/
/-- at a a set of just the texts l -/
def SetX (P : Program) (w : World) (a : Addr) (l : List Str) : HO := .ext fun h => ∃ D, h.get? a = some (sObj "set" D) ∧ Txs P w D l
section
variable {X : Cx}
theorem setX_new {w : World} {P : Program} {H : Hp} {h : Heap} {a : Addr} {l : List Str} (R : ∃ D, h.get? a = some (sObj "set" D) ∧ Txs P w D l) : ObjOk P w H h a (SetX P w a l) := by
  obtain ⟨D, e, F⟩ := id R
  exact ⟨R, ⟨_, e⟩, fun h1 h2 ⟨D2, e2, F2⟩ keep => ⟨D2, keep _ e2, F2⟩⟩
def rSetX (K : PySem.W.Frag) (P : Program) (w : World) : List V → Hp → VK → Prop := fun vs H Q => ∃ (a : Addr) (xs : List Str), vs = [V.ref a] ∧ SqL K H a (xs.map V.str) ∧ xs.length < 64 ∧
  ∀ (l : List Str) (p : Addr), l.Nodup → (∀ z, z ∈ l ↔ z ∈ xs) → l.length ≤ xs.length → H p = none → Q (.ref p) (upd H p (SetX P w p l))
theorem cr_setX (hc : X.calm = true) : CallR X (.type "set") (rSetX X.K X.prog X.w) := by
  intro pins s σ H vs us Q I r h
  obtain ⟨a, xs, rfl, hs, few, q⟩ := h
  obtain ⟨its, rv, hl, _⟩ := I.list hs
  rw [Vals.ref1 r]
  refine set_txt (I.ok.hd hc) hl.isList rv.strs (by unfold scanBound; omega) fun h' tk D l' e F m ll keep => ?_
  exact ⟨.ref _, upd H s.heap.objs.size (SetX X.prog X.w s.heap.objs.size l'), I.laid (t' := tk) keep (Nat.le_refl _) (setX_new ⟨D, e, F⟩), rfl, q l' _ F.nd m ll (I.hok.fresh (Nat.le_refl _))⟩
def rSortedX (P : Program) (w : World) : List V → Hp → VK → Prop := fun vs H Q => ∃ (a : Addr) (l : List Str), vs = [V.ref a] ∧ H a = some (SetX P w a l) ∧ l.length < 64 ∧
  ∀ (ys : List Str) (p : Addr), ys.Perm l → sortedS ys = true → H p = none → Q (.ref p) (upd H p (.lst (ys.map V.str)))
theorem cr_sortedX (hc : X.calm = true) : CallR X (.builtin "sorted") (rSortedX X.prog X.w) := by
  intro pins s σ H vs us Q I r h
  obtain ⟨a, l, rfl, at_, few, q⟩ := h
  obtain ⟨D, e, F⟩ := (I.hok a _ at_).1
  rw [Vals.ref1 r]
  refine sorted_txt e F (I.ok.hd hc) few fun s' p out c ys keep g o hp he hy pm so => ?_
  have hn : H p = none := I.hok.fresh hp
  have hlen : (ys.map V.str).length ≤ sizeLine := by rw [List.length_map, pm.length_eq]; exact small64 few
  have J : Inv X pins σ (upd H p (.lst (ys.map V.str))) { s with heap := s'.heap, gens := s'.gens, drawn := s'.drawn, toks := s'.toks } :=
    I.call (ch := []) (Un.laid keep hp hn) (I.hok.laid keep hp ⟨hlen, out.toList, c, vals_of_strs hy, he⟩) (by rw [g]; exact I.bare) (fun _ z => nomatch z)
  have es : s' = { s with heap := s'.heap, gens := s'.gens, drawn := s'.drawn, toks := s'.toks } := by
    cases s'
    cases s
    cases o
    rfl
  rw [es]
  exact ⟨.ref p, _, J, rfl, q ys p pm so hn⟩
end
end TSet
set_option maxRecDepth 100000
set_option maxHeartbeats 4000000
/-! tuple(d.values()), the keys of d tuples of ints and texts -/
namespace TV
open PySem PySem.Spec PyProof.Rows L2
section
variable {prog : Program} {w : World} {A : Around} {E : Value → Shared → Prop} {s : Shared} {T : String} {r d : Addr} {n : Nat} {P : Nat → Value → Prop} {OK : Heap → Prop}
theorem collect_kdl {Q : List Value → Shared → Prop} (K : PySem.W.KdlSrc prog w T r d n P OK) (hh : A.handled = none) (hok : OK s.heap) (hn : n ≤ sizeLine)
    (hQ : ∀ (h' : Heap) (tk : Nat) (acc : Array Value), (∀ b o, s.heap.get? b = some o → h'.get? b = some o) → ItemsOf P acc n → Q acc.toList { s with heap := h', toks := tk }) :
    wpAny (model prog w) A (collect (.ref r)) Q E s := by
  have hok1 : OK (s.heap.push { cls := .type "list", data := .seq ([] : List Value).toArray }) := K.keep _ _ hok fun b _ o e => Heap.get?_push_of_some _ e
  have hlt := K.there _ hok
  unfold collect
  refine wpAny_bind (wpAny_runValue (codeAny_builtin F.entry_proto_collect ?_))
  rw [Around.under_plainId F.plain_proto_collect _]
  show wpAny _ A.in1 (newList [] >>= fun l => again (.builtin "list.__iadd__" ⟨[l, .ref r], []⟩)) _ _ s
  refine wpAny_bind (wpAny_newObj_type ?_)
  refine wpAny_pure ⟨plainId_quiet F.plain_list_iadd _, codeAny_builtin F.entry_list_iadd ?_⟩
  rw [Around.under_plainId F.plain_list_iadd _]
  show wpAny _ A.in1 (Builtin.List.listExtendWith (.ref s.heap.objs.size) (.ref r) (.ref s.heap.objs.size)) _ _ _
  have hS : (s.heap.push { cls := .type "list", data := .seq ([] : List Value).toArray }).get? s.heap.objs.size = some { cls := .type "list", data := .seq #[] 0 } := Heap.get?_push_size _ rfl
  refine wpAny_mono (PySem.W.kdl_extend (A := A) (R := fun rr s' => rr = .ok (.ret (.ref s.heap.objs.size)) ∧ ∃ (h' : Heap) (tk : Nat) (acc : Array Value) (c' : Nat), s' = { s with heap := h', toks := tk } ∧
      (∀ b o, s.heap.get? b = some o → h'.get? b = some o) ∧ h'.get? s.heap.objs.size = some { cls := .type "list", dict := none, data := .seq acc c', slots := #[] } ∧ ItemsOf P acc n)
    (s := { s with heap := s.heap.push { cls := .type "list", data := .seq ([] : List Value).toArray } }) K hh hok1 s.heap.objs.size (Nat.ne_of_gt hlt.1) (Nat.ne_of_gt hlt.2) _ 0 hS
    (fun h' tk acc c' hk e hi => ⟨rfl, h', tk, acc, c', rfl, fun b o q => hk b o (Nat.ne_of_lt (Heap.lt_size q)) (Heap.get?_push_of_some _ q), e, hi⟩) hn) (fun fin s' h => ?_) (fun e s' h => ?_)
  · cases fin with
    | done f =>
      obtain ⟨e, h', tk, acc, c', rfl, hk, hS', hi⟩ := h
      cases e
      show wpAny _ A (load s.heap.objs.size >>= _) _ _ _
      exact wpAny_bind (wpAny_load hS' (wpAny_pure (hQ h' tk acc hk hi)))
    | again c' =>
      refine ⟨h.1, codeAny_mono h.2 fun rr s'' hr' => ?_⟩
      obtain ⟨rfl, h', tk, acc, c', rfl, hk, hS', hi⟩ := hr'
      show wpAny _ A (load s.heap.objs.size >>= _) _ _ _
      exact wpAny_bind (wpAny_load hS' (wpAny_pure (hQ h' tk acc hk hi)))
  · exact absurd h.1 (by simp)
theorem code_tuple_new_vals {Q₁ : Value → Shared → Prop} (K : PySem.W.KdlSrc prog w "dict_values" r d n P OK) (hh : A.handled = none) (hok : OK s.heap) (hn : n ≤ sizeLine)
    (h : ∀ (h' : Heap) (tk : Nat) (acc : Array Value), (∀ b o, s.heap.get? b = some o → h'.get? b = some o) → ItemsOf P acc n →
      Q₁ (.ref h'.objs.size) { s with heap := h'.push { cls := .type "tuple", data := .seq acc }, toks := tk }) :
    codeAny (model prog w) A (.call (.builtin "tuple.__new__") ⟨[.type "tuple", .ref r], []⟩) (wants Q₁ E) s := by
  refine codeAny_of_tree ?_
  show wpAny _ A.in1 (do checkBuiltinCall "tuple.__new__" ⟨[.type "tuple", .ref r], []⟩; again (.builtin "tuple.__new__" ⟨[.type "tuple", .ref r], []⟩)) _ _ s
  refine wpAny_bind (wpAny_of_eq (F.newCall_tuple_1 _) (wpAny_pure ⟨plainId_quiet F.plain_tuple_new _, codeAny_builtin F.entry_tuple_new ?_⟩))
  rw [Around.under_plainId F.plain_tuple_new _]
  have hsub := sub_tuple_self
  have hinit := init_tuple_lookup
  have hmh := madeHere_tuple
  have hTI : s.TypeIs (.ref r) "dict_values" := K.type s hok
  have hh1 : A.in1.handled = none := hh
  wp_walk using wpAny_typeOf hTI, collect_kdl (A := A.in1) K hh1 hok hn
  intro h' tk acc hk hacc
  show wpAny _ _ (Builtin.Tuple.tupleExact acc.toList.toArray >>= fun v => ret v) _ _ _
  unfold Builtin.Tuple.tupleExact
  refine wpAny_bind (wpAny_newObj_type ?_ (by show acc.toList.toArray.size ≤ sizeLine; simp only [Array.toArray_toList]; rw [hacc.1]; exact hn))
  refine wpAny_pure ?_
  have e : acc.toList.toArray = acc := by simp
  rw [e]
  exact h h' tk acc hk hacc
theorem call_tuple_vals {Q : Value → Shared → Prop} (K : PySem.W.KdlSrc prog w "dict_values" r d n P OK) (hh : A.handled = none) (hok : OK s.heap) (hn : n ≤ sizeLine)
    (hQ : ∀ (h' : Heap) (tk : Nat) (acc : Array Value), (∀ b o, s.heap.get? b = some o → h'.get? b = some o) → ItemsOf P acc n →
      Q (.ref h'.objs.size) { s with heap := h'.push { cls := .type "tuple", data := .seq acc }, toks := tk }) :
    wpAny (model prog w) A (call (.type "tuple") [.ref r]) Q E s := by
  refine callType_codes (Q₁ := fun obj s₁ => s₁.TypeIs obj "tuple" ∧ Q obj s₁) F.called_tuple (F.typeCall_tuple_1 _) F.entry_object_init
    (code_tuple_new_vals (A := A.in1) K hh hok hn fun h' tk acc hk hacc => ⟨⟨_, Heap.get?_push_size _ rfl, rfl⟩, hQ h' tk acc hk hacc⟩) fun obj s₁ h₁ => ?_
  exact ⟨h₁.1, F.args_object_init_2 obj _, object_init_meets F.called_tuple.init.lookup F.called_tuple.made (by decide) prog w A.in1 _ s₁ ⟨h₁.1, rfl, h₁.2⟩⟩
end
section
variable {X : Cx} {e : Expr} {td : TE} {apos cpos : Pos}
theorem raw_of {P : Program} {w : World} {h : Heap} {a : Addr} {xs : List (List L2.Key × Addr × Value)} (x : h.DictOfH (tupleKind (mixKind P w)) a xs) : ∃ es ep, h.DictRaw a es ep ∧ es.toList = xs.map (entryOfKey (tupleKind (mixKind P w))) := by
  obtain ⟨o, es, ep, h1, h2, h3, h4, _⟩ := x
  exact ⟨es, ep, ⟨o, h1, h2, h3⟩, h4⟩
def tValsT (td : TE) : TE := fun σ H Q => td σ H fun x H1 => ∃ d, x = .ref d ∧ (∃ kvs, H1 d = some (.dT kvs)) ∧ ∀ p, H1 p = none → Q (.ref p) (upd H1 p (viewO "dict_values" p d))
theorem pe_valsT (he : PE X e td) (hbase : attributeBase e "values" X.env (eval e X.env) = eval e X.env := by rfl) (hline : (apos.endLine == cpos.line) = true := by rfl) : PE X (.Call (.Attribute e "values" apos) [] [] cpos) (tValsT td) := by
  refine ⟨fun pins s σ H Q I h => ?_⟩
  refine wpAny_Call_method (T := "dict") (id := "dict.values") hbase rfl hline F.plainAttrs_dict F.slot_dict_values F.type_dict_values (thn (he.run pins s σ H _ I h) fun u s1 ⟨x, H1, I1, rx, d, ex, ⟨kvs, hd⟩, q⟩ => ?_)
  subst ex
  obtain rfl : u = Value.ref d := rx
  obtain ⟨z, hs, xs, rel, dd⟩ := dt_of I1.hok hd
  obtain ⟨es, ep, raw, _⟩ := raw_of dd
  refine ⟨raw.typeIs, fun b e => ?_, ?_⟩
  · cases e
    obtain ⟨o, h1, h2, _⟩ := raw
    exact ⟨o, h1, h2.2.1⟩
  show wpAny _ _ (callWith cpos (.builtin "dict.values") [.ref d] [] []) _ X.xe s1
  exact method_meetsIn F.slot_dict_values F.entry_dict_values rfl (PySem.evalArgs_none ⟨rfl, raw.typeIs, F.args_dict_values_1 _, _, meets_dict_values_raw d hs, ⟨⟨es, ep, raw⟩, ⟨.ref s1.heap.objs.size, _, I1.laid (t' := s1.toks) (fun b o q => Heap.get?_push_of_some _ q) (Nat.le_refl _) (viewO_ok (Heap.get?_push_size _ rfl)), rfl, q _ (I1.hok.fresh (Nat.le_refl _))⟩⟩⟩)
theorem pair_get {α β : Type} {F : α → β → Prop} : ∀ {l : List α} {m : List β}, Paired F l m → ∀ {j : Nat} {a : α}, l[j]? = some a → ∃ b, m[j]? = some b ∧ F a b
  | _, _, .nil, _, _, h => by simp at h
  | _, _, .cons (a := c) (b := b) hq r, 0, a, h => ⟨b, rfl, by have e : c = a := Option.some.inj h; rw [← e]; exact hq⟩
  | _, _, .cons hq r, j + 1, a, h => pair_get r (j := j) (by simpa using h)
def rTupVals : List V → Hp → VK → Prop := fun xs H Q => ∃ (p d : Addr) (kvs : List (List L2.Key × V)), xs = [.ref p] ∧ H p = some (viewO "dict_values" p d) ∧ H d = some (.dT kvs) ∧ ∀ q, H q = none → Q (.ref q) (upd H q (.tup (kvs.map (·.2))))
theorem cr_tupVals (hc : X.calm = true) : CallR X (.type "tuple") rTupVals := by
  intro pins s σ H xs us Q I rx h
  obtain ⟨p, d, kvs, rfl, hp, hd, q⟩ := h
  rw [Vals.ref1 rx]
  have hv : s.heap.get? p = some (DSub.viewOb "dict_values" d) := (show ObjOk X.prog X.w H s.heap p (viewO "dict_values" p d) from I.hok p _ hp).1
  obtain ⟨z, hs, ys, rel, dd⟩ := dt_of I.hok hd
  obtain ⟨es, ep, raw, he⟩ := raw_of dd
  have hl : kvs.length = ys.length := Paired.length rel
  have hes : es.size = ys.length := by
    have := congrArg List.length he
    rwa [List.length_map, Array.length_toList] at this
  refine call_tuple_vals (PySem.KdlSrc.rawValues (r := p) (d := d) (es := es) (ep := ep)) (I.ok.hd hc) ⟨⟨_, hv, rfl, rfl⟩, raw⟩ (by omega) fun h' tk acc hk hacc => ?_
  have I1 : Inv X pins σ H { s with heap := h', toks := tk } := I.kept hk
  refine ⟨.ref h'.objs.size, upd H h'.objs.size (.tup (kvs.map (·.2))), I1.laid (t' := tk) (fun b o q => Heap.get?_push_of_some _ q) (Nat.le_refl _) (show ObjOk X.prog X.w _ _ _ (.tup (kvs.map (·.2))) from ⟨by rw [List.length_map]; exact z, acc.toList, ?_, ?_⟩), rfl, q _ (I1.hok.fresh (Nat.le_refl _))⟩
  · have el : acc.toList.length = acc.size := by simp
    refine vals_of_at (by rw [List.length_map, el, hacc.1, hl, hes]) fun j x w h1 h2 => ?_
    obtain ⟨hi, hw⟩ := hacc.2 j w (by rw [← Array.getElem?_toList]; exact h2)
    rw [List.getElem?_map] at h1
    obtain ⟨kv, hkv, rfl⟩ := Option.map_eq_some_iff.mp h1
    obtain ⟨y, hy, hr⟩ := pair_get rel hkv
    have e1 : es.toList[j]? = some (entryOfKey (tupleKind (mixKind X.prog X.w)) y) := by rw [he, List.getElem?_map, hy]; rfl
    have e2 : es.toList[j]? = some es[j] := by rw [Array.getElem?_toList, Array.getElem?_eq_getElem hi]
    have e3 := Option.some.inj (e2.symm.trans e1)
    rw [hw, e3]
    exact hr.2.2
  · have := IsTup.new h' acc.toList.toArray
    rw [Array.toArray_toList] at this ⊢
    exact this
end
end TV
set_option maxRecDepth 100000
set_option maxHeartbeats 4000000
/-! rules for sets of ints, min with default=, data compared by <, a list turned round, dict.update -/
namespace HR
open PySem PySem.Spec PyProof.Rows L2 PySem.W
section
variable {X : Cx}
theorem ints_get : ∀ {us : List Value} {ns : List Int}, IntsAre us ns → ∀ {i : Nat} {v : Value}, us[i]? = some v → ∃ z t, ns[i]? = some z ∧ v = .int z t
  | _, _, .nil, _, _, h => by simp at h
  | _, _, .cons n t _, 0, v, h => ⟨n, t, rfl, (Option.some.inj h).symm⟩
  | _, _, .cons n t r, i + 1, v, h => ints_get r (i := i) (by simpa using h)
/-- set(a list or tuple of ints) -/
def rSetI (K : PySem.W.Frag) (w : World) : List V → Hp → VK → Prop := fun vs H Q => ∃ (a : Addr) (ns : List Int), vs = [V.ref a] ∧ (SqL K H a (ns.map V.int) ∨ SqT K H a (ns.map V.int)) ∧ ns.length < 64 ∧
  ∀ (n : Nat) (p : Addr), n ≤ ns.length → H p = none → Q (.ref p) (upd H p (SetO w p (fun j => decide (j ∈ ns)) n))
theorem cr_setI (hc : X.calm = true) : CallR X (.type "set") (rSetI X.K X.w) := by
  intro pins s σ H vs us Q I r h
  obtain ⟨a, ns, rfl, hs, few, q⟩ := h
  rw [Vals.ref1 r]
  rcases hs with hs | hs
  · obtain ⟨its, rv, hl, _⟩ := I.list hs
    have hit : IntsAre its.toArray.toList ns := intsAre_of rv
    refine TSet.made_any (P := X.prog) (w := X.w) (items := its.toArray) (I.ok.hd hc) hl.isList (fun i h => ∃ c, c ≤ i ∧ SetR X.w h s.heap.objs.size (fun j => decide (j ∈ ns.take i)) c) (fun i h h' ⟨c, hc, S⟩ k => ⟨c, hc, S.at fun o e => k _ o (by omega) e⟩)
      (fun h e _ => ⟨0, Nat.le_refl _, setR_new_at e⟩) (fun B i v s1 E' Q' hB hv ⟨c, hc, S⟩ k => ?_) fun h' tk ⟨c, hc, S⟩ keep => ?_
    · obtain ⟨z, t, hz, rfl⟩ := ints_get hit (i := i) (v := v) (by rw [Array.getElem?_toList]; exact hv)
      have hi : i < ns.length := (List.getElem?_eq_some_iff.mp hz).1
      unfold setAdd
      refine wpAny_holding ?_
      refine wpAny_bind ((intKind X.prog X.w).pyHash (k := z) (intKind_is _ _ _ _) ?_)
      refine setR_add_hashed (s := { s1 with toks := s1.toks + 1 }) S (by unfold scanBound; omega) fun h' hsb hS2 => ?_
      have hS3 : SetR X.w h' s.heap.objs.size (fun j => decide (j ∈ ns.take (i + 1))) (if decide (z ∈ ns.take i) = true then c else c + 1) := hS2.congr fun j => by
        rw [List.take_add_one, hz]
        simp [List.mem_append]
      exact k _ h' _ (Nat.le_succ _) hsb ⟨_, by split <;> omega, hS3⟩
    · have e : ns.take its.toArray.size = ns := List.take_of_length_le (by
        have := IntsAre.length hit
        rw [← this]
        simp)
      rw [e] at S
      have hl2 : its.toArray.size = ns.length := by
        have := IntsAre.length hit
        simpa using this
      exact ⟨.ref _, upd H s.heap.objs.size (SetO X.w s.heap.objs.size (fun j => decide (j ∈ ns)) c), I.laid (t' := tk) keep (Nat.le_refl _) (setO_new S), rfl, q c _ (by omega) (I.hok.fresh (Nat.le_refl _))⟩
  · obtain ⟨its, rv, hl, _⟩ := I.tuple hs
    have hit : IntsAre its.toArray.toList ns := intsAre_of rv
    refine call_set_tupI ns (I.ok.hd hc) (show s.heap.IsTuple a its.toArray from hl) hit (by unfold scanBound; omega) fun h' tk c S hcl keep => ?_
    exact ⟨.ref _, upd H s.heap.objs.size (SetO X.w s.heap.objs.size (fun j => decide (j ∈ ns)) c), I.laid (t' := tk) keep (Nat.le_refl _) (setO_new S), rfl, q c _ hcl (I.hok.fresh (Nat.le_refl _))⟩
/-- min(a list of ints, default=d) -/
def minI (d : Int) : List Int → Int
  | [] => d
  | x :: r => r.foldl (fun a y => if y < a then y else a) x
theorem minD_ints (x : Int) : ∀ (r : List Int), minD (.int x) (r.map .int) = .int (r.foldl (fun a y => if y < a then y else a) x) := by
  intro r
  induction r generalizing x with
  | nil => rfl
  | cons y r ih =>
    unfold minD at ih ⊢
    rw [List.map_cons, List.foldl_cons, List.foldl_cons, dataLt_int]
    by_cases h : y < x
    · rw [decide_eq_true h, if_pos rfl, if_pos h]
      exact ih y
    · rw [decide_eq_false h, if_neg Bool.false_ne_true, if_neg h]
      exact ih x
def rMinDef (K : PySem.W.Frag) : List V → List V → Hp → VK → Prop := fun vs zs H Q => ∃ (a : Addr) (ns : List Int) (d : Int), vs = [V.ref a] ∧ zs = [V.int d] ∧ SqL K H a (ns.map V.int) ∧ Q (.int (minI d ns)) H
theorem dp_ints {K : PySem.W.Frag} {H : Hp} : ∀ ns : List Int, DpAll K H (ns.map V.int) (ns.map .int)
  | [] => .nil
  | n :: ns => .cons (.int n) (dp_ints ns)
theorem depth_ints : ∀ ns : List Int, PyData.depthAll (ns.map .int) ≤ 1
  | [] => by simp [PyData.depthAll]
  | n :: ns => by
    rw [List.map_cons, PyData.depthAll]
    exact Nat.max_le.mpr ⟨by simp [PyData.depth], depth_ints ns⟩
theorem cr_minDef (hc : X.calm = true) (hu : X.A.units + 64 < cLine) : CallRK X (.builtin "min") [Str.ofString "default"] (rMinDef X.K) := by
  intro pins s σ H xs zs us ws Q I rx rz h
  obtain ⟨a, ns, d, rfl, rfl, hs, q⟩ := h
  obtain ⟨wd, rfl, rd⟩ := vals1 rz
  obtain ⟨t, rfl⟩ := rd
  obtain ⟨its, rv, hl, _⟩ := I.list hs
  rw [Vals.ref1 rx]
  obtain ⟨as, rr⟩ := Dp.readsAll I (ns.map .int) (ns.map V.int) its (dp_ints ns) rv
  show wpAny _ _ (call (.builtin "min") [.ref a] [(Str.ofString "default", .int d t)]) _ _ s
  refine min_list_default (vs := its.toArray) (xs := ns.map .int) (as := as) (I.ok.hd hc) hl.isList rr ⟨fun x hx y hy => ?_, fun x hx => ?_⟩ (by have := depth_ints ns; omega) (fun e h' tk keep => ?_) fun y ys i v h' tk bs e hv rd keep => ?_
  · obtain ⟨n, _, rfl⟩ := List.mem_map.mp hx
    obtain ⟨m, _, rfl⟩ := List.mem_map.mp hy
    rfl
  · obtain ⟨n, _, rfl⟩ := List.mem_map.mp hx
    exact fun e => by cases e
  · have : ns = [] := by
      cases ns with
      | nil => rfl
      | cons _ _ => cases e
    subst this
    exact ⟨.int d, H, I.kept (t' := tk) keep, ⟨t, rfl⟩, q⟩
  · cases ns with
    | nil => cases e
    | cons n ns =>
      obtain ⟨rfl, rfl⟩ : .int n = y ∧ ns.map .int = ys := by
        have := List.cons.inj e
        exact ⟨this.1, this.2⟩
      rw [minD_ints] at rd
      obtain ⟨z, t2, hz, rfl⟩ := ints_get (show IntsAre its.toArray.toList (n :: ns) from intsAre_of rv) (i := i) (v := v) (by rw [Array.getElem?_toList]; exact hv)
      refine ⟨.int (minI d (n :: ns)), H, I.kept (t' := tk) keep, ?_, q⟩
      show ∃ t', Value.int z t2 = Value.int (ns.foldl (fun a y => if y < a then y else a) n) t'
      cases rd
      exact ⟨_, rfl⟩
/-- x < y, data of one shape -/
def rLtD (K : PySem.W.Frag) : R2 := fun x y H Q => ∃ d e, Dp K H x d ∧ Dp K H y e ∧ alike d e = true ∧ d ≠ .none ∧ d.depth ≤ 60 ∧ Q (.bl (dataLt d e)) H
theorem op_ltD (hu : X.A.units + 64 < cLine) : OpR X (compareOp .Lt) (rLtD X.K) := by
  intro pins s σ H x y v u Q I rx ry h
  obtain ⟨d, e, hd, he, al, nn, dep, q⟩ := h
  obtain ⟨as, r1⟩ := Dp.reads I d x v hd rx
  obtain ⟨bs, r2⟩ := Dp.reads I e y u he ry
  refine lt_data r1 r2 al nn (by have := Nat.min_le_left d.depth e.depth; omega) ⟨.bl (dataLt d e), H, I, rfl, q⟩
/-- repr(None) -/
theorem call_reprN (gd : X.A.guards = some []) (hu : X.A.units + 70 < cLine) : CallR X (.builtin "repr") (fun xs H Q => xs = [.non] ∧ Q (.str "None") H) := by
  intro pins s σ H xs us Q I r h
  obtain ⟨rfl, q⟩ := h
  obtain ⟨u, rfl, ru⟩ := vals1 r
  have e : u = .none := ru
  subst e
  exact PySem.P.repr_of_none ⟨.str "None", H, I.tok _, ⟨_, rfl⟩, q⟩
/-- xs[::-1] of a list -/
def tRev (K : PySem.W.Frag) (te : TE) : TE := fun σ H Q => te σ H fun x H1 => ∃ a xs, x = .ref a ∧ SqL K H1 a xs ∧ ∀ p, H1 p = none → Q (.ref p) (upd H1 p (.lst xs.reverse))
/-- d.update(e), dicts by ints and texts -/
def rUpdK : V → List V → Hp → VK → Prop := fun x xs H Q => ∃ (a b : Addr) (kvs more : List (L2.Key × V)), x = .ref a ∧ xs = [.ref b] ∧ a ≠ b ∧ H a = some (.dK kvs) ∧ H b = some (.dK more) ∧ kvs.length + more.length ≤ sizeLine ∧ Q .non (upd H a (.dK (mergeK kvs more)))
theorem mt_updK : MtR X "dict.update" rUpdK := by
  intro pins s σ H x xs v us Q I rx rxs h
  obtain ⟨a, b, kvs, more, rfl, rfl, nab, ha, hb, few, q⟩ := h
  cases rx
  rw [Vals.ref1 rxs]
  obtain ⟨z, hs, vs, rel, dd⟩ := dk_of I.hok ha
  obtain ⟨z2, hs2, ms, rel2, dd2⟩ := dk_of I.hok hb
  have l1 : kvs.length = vs.length := Paired.length rel
  have l2 : more.length = ms.length := Paired.length rel2
  refine call_meetsIn F.slot_dict_update dd.typeIs F.entry_dict_update (F.args_dict_update_2 _ _) (meets_dict_update (mixKind X.prog X.w) a b nab hs2) ⟨vs, ms, dd, dd2, by omega, fun h' d1 d2 same => ?_⟩
  have hz : (mergeK kvs more).length ≤ sizeLine := Nat.le_trans (length_mergeK more kvs) few
  have I2 : Inv X pins σ (upd H a (.dK (mergeK kvs more))) { s with heap := h', toks := s.toks } := d_write I (by rw [ha]; exact True.intro) same (by obtain ⟨ep, o, es, ho, _⟩ := d1.dictAt; exact ⟨o, ho⟩) (dk_new hz hs (KV.merge rel2 rel) d1)
  exact ⟨.non, _, I2, rfl, q⟩
end
end HR
set_option maxRecDepth 100000
set_option maxHeartbeats 4000000
/-! {k: v for ..} with keys that are tuples of ints and texts -/
namespace HR
open PySem PySem.Spec PyProof.Rows L2
/-- one more entry, by a tuple -/
theorem put_tup {X : Cx} {pp : List (Addr × Obj)} {st : L2.St} {G : Hp} {sh : Shared} {EE : Value → Shared → Prop} {D b : Addr} {kvs : List (List L2.Key × V)} {k : List L2.Key} {v : V} {r : Value} {Q : Unit → Shared → Prop} (roomy : X.A.units < cLine)
    (J : Inv X pp st G sh) (at_ : G D = some (.dT kvs)) (few : kvs.length < sizeLine) (key : G b = some (.tup (k.map kV))) (rv : RelV v r) (nxt : ∀ sh', Inv X pp st (upd G D (.dT (putK kvs k v))) sh' → Q () sh') :
    wpAny (model X.prog X.w) X.A (dictSet D (.ref b) r) Q EE sh := by
  obtain ⟨z, notSys, ys, rel, dd⟩ := dt_of J.hok at_
  have ly : ys.length ≤ sizeLine := by rw [← Paired.length rel]; exact z
  have lk : (putK kvs k v).length ≤ sizeLine := by have := length_putK kvs k v; omega
  refine wpAny_dictSet_heap (hsz := ly) (knd := tupleKind (mixKind X.prog X.w)) (k := k) (show X.A.units < cLine from roomy) (key_of J.hok key) dd fun h' dd' same => nxt _ ?_
  obtain ⟨o, es, ep, ho, h2, h3, h4, _, h5⟩ := dd'
  refine d_write J (by rw [at_]; exact True.intro) same ⟨o, ho⟩ ⟨lk, notSys, _, (rel.put k key rv).keeps fun c zs ec => ?_, o, es, ep, ho, h2, h3, h4, h5⟩
  rw [upd_ne (ne_of ec at_ (fun z => nomatch z))]
  exact ec
def tDcT (wi : TI) (g : TG) (tt : TT) (tk tv : TE) (own : List Nat) : TE := fun st G Q => wi st G fun J G1 => ∀ D, G1 D = none → ∃ W : Nat → Nat → Hp → Prop, (∃ m, W 0 m (upd G1 D (.dT []))) ∧ ∀ i m G, W i m G →
  (J.stop i G ∧ Q (.ref D) G) ∨ (J.go i G ∧ ∃ Nx : Hp → Prop, (∀ G', Nx G' → ∃ m', m' < m ∧ W (i + 1) m' G') ∧ ∀ x G', J.yld i G x G' → g x (wipe st own) G' fun st2 G2 => wipe st2 own = wipe st own ∧ tt st2 G2 fun yes G3 =>
    if yes = true then tk st2 G3 fun y G4 => tv st2 G4 fun z G5 => ∃ kvs k b, y = .ref b ∧ G5 b = some (.tup (k.map kV)) ∧ G5 D = some (.dT kvs) ∧ kvs.length < sizeLine ∧ Nx (upd G5 D (.dT (putK kvs k z))) else Nx G3)
section
variable {X : Cx} {kx vx tg iter : Expr} {ifs : List Expr} {scope : Scope} {own : List (Str × Nat)} {wi : TI} {g : TG} {tt : TT} {tk tv : TE}
theorem pe_dcT {pos : Pos} (calm : X.calm = true) (roomy : X.A.units < cLine) (diff : X.N.Nodup) (walk : PI X tg iter wi) (blk : BlkOk X.N X.env.scope scope own)
    (aim : ∀ (sh : Shared) (G : Hp) (C : Addr) (cl : List (Str × Addr)) (feet : List Addr), PG (X.blk sh G scope (compEnvC scope cl C X.env) feet) tg g)
    (tests : ∀ (sh : Shared) (G : Hp) (C : Addr) (cl : List (Str × Addr)) (feet : List Addr), PTs (X.blk sh G scope (compEnvC scope cl C X.env) feet) ifs tt)
    (keys : ∀ (sh : Shared) (G : Hp) (C : Addr) (cl : List (Str × Addr)) (feet : List Addr), PE (X.blk sh G scope (compEnvC scope cl C X.env) feet) kx tk)
    (vals : ∀ (sh : Shared) (G : Hp) (C : Addr) (cl : List (Str × Addr)) (feet : List Addr), PE (X.blk sh G scope (compEnvC scope cl C X.env) feet) vx tv)
    (plain : ∀ x, foldedSetIterable iter X.env x = pure x := by intro _; rfl) : PE X (.DictComp kx vx [⟨tg, iter, ifs, 0⟩] scope pos) (tDcT wi g tt tk tv (own.map (·.2))) := by
  refine ⟨fun pp sh0 st G0 Q I0 ask => ?_⟩
  rw [arm_eval_DictComp]
  have frees : ∀ y ∈ scope.names, y.2 = .free → ∃ c, X.env.cells.lookup y.1 = some c := fun y hy e => (blk.free y hy e).elim (fun k => I0.ok.has _ (.inl k)) fun k => I0.ok.has _ (.inr k)
  refine wpAny_comprehension_free (use := none) rfl plain (closure_ok frees) blk.kind (fun y hy e => by rw [blk.uniq y hy, e]) (thn (walk.run pp sh0 st G0 _ I0 ask) fun xv sh1 came => thn came fun itv sh2 more => ?_)
  obtain ⟨it, feet, ten, J, G2, rfl, I2, T, at0, free2, turn⟩ := more
  refine wpAny_newObj_type (newEnv_comp ?_)
  have new : G2 sh2.heap.objs.size = none := I2.hok.fresh (Nat.le_refl _)
  obtain ⟨W, ⟨m0, w0⟩, step⟩ := turn _ new
  -- the dict is laid
  obtain ⟨G3, eG3⟩ : ∃ G3, G3 = upd G2 sh2.heap.objs.size (.dT []) := ⟨_, rfl⟩
  rw [← eG3] at w0
  obtain ⟨sh3, e3⟩ : ∃ sh3 : Shared, sh3 = { sh2 with heap := sh2.heap.push { cls := .type "dict", data := .dict #[] } } := ⟨_, rfl⟩
  have I3 : Inv X pp st G3 sh3 := by
    rw [e3, eG3]
    exact I2.laid (t' := sh2.toks) (fun b o q => Heap.get?_push_of_some _ q) (Nat.le_refl _) (dt_empty sh2.heap I2.big)
  have heap3 : sh3.heap = sh2.heap.push { cls := .type "dict", data := .dict #[] } := by rw [e3]
  have low : ∀ b ∈ feet, b < sh2.heap.objs.size := fun b hb => Heap.lt_size (T.obj _ _ at0 b hb).choose_spec.1
  have free3 : ∀ b ∈ feet, FpOk X pp G3 b ∧ b < sh3.heap.objs.size := fun b hb => ⟨⟨by rw [eG3, upd_ne (Nat.ne_of_lt (low b hb))]; exact (free2 b hb).1, (free2 b hb).2⟩, by rw [heap3, Heap.size_push]; exact Nat.lt_succ_of_lt (low b hb)⟩
  have at3 : ten 0 sh3.heap := T.keep _ _ _ at0 fun b _ o q => by rw [heap3]; exact Heap.get?_push_of_some _ q
  have I4 := block_start I3 blk diff free3
  obtain ⟨C, eC⟩ : ∃ C, C = sh3.heap.objs.size := ⟨_, rfl⟩
  obtain ⟨cl, ecl⟩ : ∃ cl, cl = cellsFrom (sh3.heap.objs.size + 1) scope.names (cloFrom X.env.cells scope.names []) := ⟨_, rfl⟩
  obtain ⟨sh4, e4⟩ : ∃ sh4 : Shared, sh4 = { sh3 with heap := pushCells (sh3.heap.push { cls := .type "dict", data := .dict #[] }) scope.names } := ⟨_, rfl⟩
  rw [← ecl, ← eC, ← e4] at I4
  have at4 : ten 0 sh4.heap := T.keep _ _ _ at3 fun b _ o q => by rw [e4]; exact pushCells_keeps _ _ _ _ (Heap.get?_push_of_some _ q)
  have none3 : ∀ b ∈ feet, G3 b = none := fun b hb => (free3 b hb).1.1
  obtain ⟨Y, eY⟩ : ∃ Y, Y = X.blk sh3 G3 scope (compEnvC scope cl C X.env) feet := ⟨_, rfl⟩
  rw [← eY] at I4
  have held : ∀ {st' : L2.St} {G' : Hp} {sh' : Shared}, Inv Y [] st' G' sh' → (∀ b ∈ feet, G' b = none) → ∀ b ∈ feet, FpOk Y [] G' b := by
    subst eY
    exact fun {_ _ _} I' no b hb => ⟨no b hb, (I'.ok.exf b hb).1, I'.ok.exfs b hb, .inl hb, fun x c q => (I'.ok.exf b hb).2 x c q, fun p hp => absurd (show p ∈ ([] : List (Addr × Obj)) ++ [] from hp) (by simp)⟩
  have locC : (compEnvC scope cl C X.env).locals = C := rfl
  have loop : codeAny (model X.prog X.w) X.A (.compLoop (.DictComp kx vx [⟨tg, iter, ifs, 0⟩] scope pos) 0 (.ref it) (.ref sh2.heap.objs.size) (compEnvC scope cl C X.env)) (compPost (model X.prog X.w) X.A X.xe none (EP X pp st Q) (.ref sh2.heap.objs.size) C) sh4 := by
    subst eY
    refine compLoop_anyD (fun left sh => ∃ i G, Inv (X.blk sh3 G3 scope (compEnvC scope cl C X.env) feet) [] (wipe st (own.map (·.2))) G sh ∧ ten i sh.heap ∧ (∀ b ∈ feet, G b = none) ∧ W i left G) ?_ m0 ⟨0, G3, I4, at4, none3, w0⟩
    rintro left sh5 ⟨i, G5, I5, at5, no5, w5⟩
    rcases step i left G5 w5 with ⟨over, good⟩ | ⟨on, Nx, fewer, go⟩
    · -- the walk is over
      refine thnF (T.done (X.blk sh3 G3 scope (compEnvC scope cl C X.env) feet) rfl rfl rfl calm i [] sh5 _ G5 (fun _ _ => False) I5 (held I5 no5) at5 over) fun r sh6 ⟨er, I6⟩ => ?_
      subst er
      have I7 : Inv X pp st G5 sh6 := I3.call' (ch := feet) I6.os I6.base I6.hok I6.bare fun b hb => let f := (free3 b hb).1.2; ⟨f.2.2.1, f.1, f.2.2.2.1, f.2.2.2.2⟩
      have noC : G5 C = none := I6.free
      obtain ⟨m, names, _⟩ := I6.loc
      obtain ⟨f0, f1, f2, f3, f4, f5⟩ := I3.fpOk (Nat.le_of_eq eC.symm) noC
      exact ⟨m, names, fun h'' sb => ⟨.ref sh2.heap.objs.size, G5, I7.turned (t' := sh6.toks) (fun b o hb q => (sb.2 b hb).trans q) f0 f1 f3 f4 f5, rfl, good⟩⟩
    · -- one turn
      refine thnF (T.item (X.blk sh3 G3 scope (compEnvC scope cl C X.env) feet) rfl rfl rfl calm i [] sh5 _ G5 (fun _ _ => False) I5 (held I5 no5) at5 on) fun r sh6 ⟨u, er, rest⟩ => ?_
      subst er
      refine thnF rest fun _ sh7 ⟨x, G7, I7, rx, y7, at7, no7⟩ => ?_
      have P7 := I7.pinned (held I7 no7) (T.obj _ _ at7)
      refine thnF ((aim sh3 G3 C cl feet).run _ sh7 _ G7 x u _ P7 rx (go x G7 y7)) fun _ sh8 ⟨st8, G8, I8, same8, q8⟩ => ?_
      refine thnF ((tests sh3 G3 C cl feet).run _ sh8 st8 G8 _ I8 q8) fun yes sh9 ⟨G9, I9, q9⟩ => ?_
      have back : ∀ {sh' : Shared} {G' : Hp}, Inv (X.blk sh3 G3 scope (compEnvC scope cl C X.env) feet) ([] ++ pinsAt feet sh7.heap) st8 G' sh' → Nx G' →
          ∃ m, m < left ∧ ∃ i G, Inv (X.blk sh3 G3 scope (compEnvC scope cl C X.env) feet) [] (wipe st (own.map (·.2))) G sh' ∧ ten i sh'.heap ∧ (∀ b ∈ feet, G b = none) ∧ W i m G := by
        intro sh' G' I' nx
        obtain ⟨m', less, w'⟩ := fewer G' nx
        have pin : ∀ b ∈ feet, ∀ o, sh7.heap.get? b = some o → sh'.heap.get? b = some o ∧ G' b = none := fun b hb o q => by
          have z := I'.pin (b, o) (List.mem_append_right _ (List.mem_append_right _ (mem_pinsAt hb q)))
          exact ⟨z.1, z.2.1⟩
        have len : (wipe st (own.map (·.2))).length = st8.length := by rw [← same8, wipe_length]
        refine ⟨m', less, i + 1, G', (I'.unpinned (pins := [])).weak len (fun j v q => ?_), T.keep _ _ _ at7 fun b hb o q => (pin b hb o q).1, fun b hb => ?_, w'⟩
        · rw [← same8] at q
          exact (wipe_some q).1
        · obtain ⟨o, q, _⟩ := T.obj _ _ at7 b hb
          exact (pin b hb o q).2
      cases yes with
      | false => exact back I9 q9
      | true =>
        refine thnF ((keys sh3 G3 C cl feet).run _ sh9 st8 G9 _ I9 q9) fun ku sh10 ⟨yk, G10, I10, rk, q10⟩ => ?_
        refine thnF ((vals sh3 G3 C cl feet).run _ sh10 st8 G10 _ I10 q10) fun vu sh11 ⟨yv, G11, I11, rv, kvs, k, b, ek, hb, hD, few, nx⟩ => ?_
        subst ek
        obtain rfl : ku = .ref b := rk
        exact put_tup (X := X.blk sh3 G3 scope (compEnvC scope cl C X.env) feet) roomy I11 hD few hb rv fun sh12 I12 => back I12 nx
  show codeAny _ _ (.compStart (.DictComp kx vx [⟨tg, iter, ifs, 0⟩] scope pos) 0 (.ref it) (.ref sh2.heap.objs.size) (compEnvC scope (cellsFrom (sh2.heap.push { cls := .type "dict", data := .dict #[] }).objs.size.succ scope.names (cloFrom X.env.cells scope.names [])) (sh2.heap.push { cls := .type "dict", data := .dict #[] }).objs.size X.env)) _ _
  rw [heap3] at eC ecl
  subst e3
  subst e4 ecl eC
  exact codeAny_compStart_dict loop (T.self X.A 0 _ _ _ at4 loop)
end
end HR
set_option maxRecDepth 100000
set_option maxHeartbeats 4000000
/-! min(rows, key=len); xs[::-1]; list(d), d by tuples -/
namespace HR
open PySem PySem.Spec PyProof.Rows L2 PySem.W
section
variable {X : Cx} {e : Expr} {te : TE} {t : TA} {p p2 pos kpos : Pos}
theorem tups_at {pp : List (Addr × Obj)} {st : L2.St} {H : Hp} {s : Shared} (I : Inv X pp st H s) {xs : List V} {its : List Value} (r : Vals xs its) (all : ∀ v ∈ xs, ∃ b ys, v = V.ref b ∧ SqT X.K H b ys) :
    ∀ (i : Nat) (v : Value), its[i]? = some v → ∃ b ys us, v = Value.ref b ∧ xs[i]? = some (V.ref b) ∧ Vals ys us ∧ IsTup s.heap b us.toArray ∧ us.length ≤ sizeLine := by
  intro i v hv
  have hi : i < xs.length := by rw [r.length]; exact (List.getElem?_eq_some_iff.mp hv).1
  obtain ⟨u, hu, ru⟩ := r.get (List.getElem?_eq_getElem hi)
  obtain ⟨b, ys, eb, hb⟩ := all _ (List.getElem_mem hi)
  obtain ⟨us, rv, ht, z⟩ := I.tuple hb
  rw [eb] at ru
  have ev : u = Value.ref b := ru
  rw [hv] at hu
  exact ⟨b, ys, us, by rw [← ev]; exact (Option.some.inj hu), by rw [List.getElem?_eq_getElem hi, eb], rv, ht, by rw [← rv.length]; exact z⟩
/-- some row of a list of tuples (the shortest; which is not told) -/
def tMinLen (K : PySem.W.Frag) (t : TA) : TE := fun σ H Q => t σ H fun vs H1 => ∃ a xs, vs = [V.ref a] ∧ SqL K H1 a xs ∧ xs ≠ [] ∧ (∀ v ∈ xs, ∃ b ys, v = V.ref b ∧ SqT K H1 b ys) ∧ ∀ v ∈ xs, Q v H1
theorem pe_minLen (calm : X.calm = true) (hu : X.A.units + 64 < cLine) (g1 : Gl X "min") (m1 : X.mg "min" = none) (g2 : Gl X "len") (m2 : X.mg "len" = none) (ha : PA X [e] t)
    (h1 : backTo pos (starEach [e] X.env) = (false, eval e X.env) :: backTo pos (starEach [] X.env) := by rfl) (h2 : (backTo pos (starEach [e] X.env)).any (·.1) = false := by rfl) :
    PE X (.Call (.Name "min" p) [e] [⟨some "key", .Name "len" p2, kpos⟩] pos) (tMinLen X.K t) := by
  refine ⟨fun pins s σ H Q I h => ?_⟩
  refine wpAny_Call_Name_kw (ld_blt I g1 m1 (u := .builtin "min") (by first | rfl | decide +kernel) ?_)
  refine PyProof.Rows.callWith_kw (thn (ha.run pos pins s σ H _ I h) fun us s1 ⟨vs, H1, I1, r1, a, xs, ev, hs, ne, all, q⟩ => ?_) h1 h2
  subst ev
  obtain ⟨u, rfl, ru⟩ := vals1 r1
  have eu : u = Value.ref a := ru
  subst eu
  show wpAny _ _ (evalAll ((do let v ← eval (.Name "len" p2) X.env; standAt pos; pure v) :: [])) _ _ s1
  refine wpAny_evalAll_cons (wpAny_bind (ld_blt I1 g2 m2 (u := .builtin "len") (by first | rfl | decide +kernel) (wpAny_bind (wpAny_standAt (wpAny_pure ?_)))))
  refine wpAny_evalAll_nil ?_
  show wpAny _ _ (call (.builtin "min") [.ref a] [(Str.ofString "key", .builtin "len")]) _ _ s1
  obtain ⟨its, rv, hl, z⟩ := I1.list hs
  have hd : X.A.in1.handled = none := I1.ok.hd calm
  have at_ := tups_at I1 rv all
  have lx : xs.length = its.length := rv.length
  let lens : List Nat := its.map fun v => match v with | Value.ref b => (match s1.heap.get? b with | some o => (match o.data with | .seq vs _ => vs.size | _ => 0) | none => 0) | _ => 0
  have lenAt : ∀ (i : Nat) (v : Value), its[i]? = some v → ∃ b, ∃ us : List Value, v = Value.ref b ∧ IsTup s1.heap b us.toArray ∧ us.length ≤ sizeLine ∧ lens.getD i 0 = us.length := fun i v hv => by
    obtain ⟨b, ys, us, rfl, _, _, ht, zu⟩ := at_ i v hv
    refine ⟨b, us, rfl, ht, zu, ?_⟩
    obtain ⟨o, ho, _, n, hdt⟩ := id ht
    show (its.map _).getD i 0 = _
    rw [List.getD_eq_getElem?_getD, List.getElem?_map, hv]
    show (match s1.heap.get? b with | some o => (match o.data with | .seq vs _ => vs.size | _ => 0) | none => 0) = _
    rw [ho]
    show (match o.data with | .seq vs _ => vs.size | _ => 0) = _
    rw [hdt]
    simp
  refine call_min_walkKB (iter_listW (A := X.A.in1) hd hl.isList fun s2 e2 W st0 hfp hw hk => ?_)
  have hn : 0 < its.toArray.size := by
    rw [List.size_toArray, ← lx]
    exact List.length_pos_iff.mpr ne
  refine ⟨_, _, _, _, _, _, _, (fun s' => ∃ h' tk, s' = { s1 with heap := h', toks := tk } ∧ ∀ b o, s1.heap.get? b = some o → h'.get? b = some o), (fun i k _ => ∃ tk, k = Value.int (lens.getD i 0 : Nat) tk), (fun i j => (fun (m n : Nat) => decide (m < n)) (lens.getD i 0) (lens.getD j 0)), rfl, W, st0, hfp, hn, ?_, ⟨s2.heap, s2.toks, by rw [e2], hk⟩, fun v s' hv ⟨h', tk, es, keep⟩ => ?_⟩
  · exact {
      keep := fun s s' ⟨h', tk, es, keep⟩ m => by
        subst es
        obtain ⟨hp, g, d, tk', os⟩ := s'
        have hg : g = s1.gens := m.gens
        have hdr : d = s1.drawn := m.drawn
        have hos : os = s1.os := m.os
        subst hg hdr hos
        refine ⟨hp, tk', rfl, fun b o q => m.heap b o (fun hb => ?_) (keep b o q)⟩
        have hlt := Heap.lt_size q
        have e3 : s2.heap.objs.size = s1.heap.objs.size + 1 := by rw [e2]; exact Heap.size_push _ _
        simp only [List.mem_cons, List.not_mem_nil, or_false] at hb
        rcases hb with hb | hb
        · rw [hb, e3] at hlt
          exact absurd hlt (Nat.not_lt.mpr (Nat.le_succ _))
        · rw [hb] at hlt
          exact absurd hlt (Nat.lt_irrefl _)
      keepV := fun i k s s' hv _ => hv
      turn := fun i v s o Q' E' hi hv ⟨h', tk, es, keep⟩ st ho nxt => by
        subst es
        obtain ⟨b, us, rfl, ht, zu, el⟩ := lenAt i v (by simpa using hv)
        have ht2 : IsTup h' b us.toArray := by
          obtain ⟨o2, h1, h2, h3⟩ := ht
          exact ⟨o2, keep _ _ h1, h2, h3⟩
        refine len_tuple (s := { s1 with heap := h', toks := tk }) ht2 (by have := line63; rw [List.size_toArray]; omega) (nxt _ _ ⟨h', tk + 1 + 1, rfl, keep⟩ st ho ⟨tk + 1, ?_⟩ fun j k' z => z)
        rw [el, List.size_toArray]
      cmp := fun i j ki kj s Q' E' _ ⟨t1, e1⟩ ⟨t2, e2⟩ q' => by
        subst e1 e2
        refine P.lt_int ?_
        rw [show decide (((lens.getD i 0 : Nat) : Int) < ((lens.getD j 0 : Nat) : Int)) = decide (lens.getD i 0 < lens.getD j 0) from decide_eq_decide.mpr (by omega)]
        exact q' }
  · subst es
    have hb : argBest (fun i j => (fun (m n : Nat) => decide (m < n)) (lens.getD i 0) (lens.getD j 0)) (its.toArray.size - 1) < its.length := by
      have le : lens.length = its.length := List.length_map _
      cases hle : lens with
      | nil => rw [hle] at le; rw [List.size_toArray] at hn; simp at le; omega
      | cons x ls =>
        have ab := (argBest_fold (fun (m n : Nat) => decide (m < n)) 0 x ls (its.toArray.size - 1) (by rw [hle] at le; rw [List.size_toArray]; simp at le; omega)).1
        rw [List.size_toArray] at ab hn ⊢
        exact Nat.lt_of_le_of_lt ab (by omega)
    have hv2 : its[argBest (fun i j => (fun (m n : Nat) => decide (m < n)) (lens.getD i 0) (lens.getD j 0)) (its.toArray.size - 1)]? = some v := by simpa using hv
    obtain ⟨b, ys, us, rfl, hx, _⟩ := at_ _ v hv2
    exact ⟨.ref b, H1, I1.kept (t' := tk) keep, rfl, q _ (List.mem_of_getElem? hx)⟩
end
end HR
set_option maxRecDepth 100000
set_option maxHeartbeats 4000000
/-! xs[::-1]; list(d), d by tuples -/
namespace HR
open PySem PySem.Spec PyProof.Rows L2
theorem pick_back (l : List Value) : slicePick l.toArray none none (some (-1)) = l.reverse.toArray := by
  unfold slicePick
  rw [List.size_toArray]
  show ((sliceRange ((l.length : Int) - 1) (-1) (-1)).filterMap (l.toArray[·]?)).toArray = _
  congr 1
  unfold sliceRange
  by_cases h0 : l.length = 0
  · have : l = [] := List.eq_nil_of_length_eq_zero h0
    subst this
    rfl
  have c : (if (-1 : Int) > 0 then (if ((l.length : Int) - 1) < -1 then (-1 - ((l.length : Int) - 1) + -1 - 1) / -1 else 0) else (if ((l.length : Int) - 1) > -1 then ((l.length : Int) - 1 - -1 - -1 - 1) / (- -1) else 0)) = (l.length : Int) := by
    rw [if_neg (by decide), if_pos (by omega), show (- -1 : Int) = 1 from rfl, Int.ediv_one]
    omega
  dsimp only
  rw [c, Int.toNat_natCast]
  apply List.ext_getElem?
  intro i
  have fm : ∀ (n : Nat), n ≤ l.length → ((List.range n).map fun (k : Nat) => (((l.length : Int) - 1) + -1 * (k : Int)).toNat).filterMap (l.toArray[·]?) = l.reverse.take n := by
    intro n
    induction n with
    | zero => intro _; rfl
    | succ n ih =>
      intro hn
      rw [List.range_succ, List.map_append, List.filterMap_append, ih (by omega), List.take_add_one]
      congr 1
      have e : ((l.length : Int) - 1 + -1 * (n : Int)).toNat = l.length - 1 - n := by omega
      simp only [List.map_cons, List.map_nil, List.filterMap_cons, List.filterMap_nil, e]
      rw [List.getElem?_reverse (by omega)]
      have hi : l.length - 1 - n < l.length := by omega
      simp [List.getElem?_eq_getElem hi]
  rw [fm l.length (Nat.le_refl _), List.take_of_length_le (by simp)]
section
variable {X : Cx} {e st : Expr} {te ts : TE} {p2 pos : Pos}
/-- xs[::k] with k = -1 -/
def tBack (K : PySem.W.Frag) (te ts : TE) : TE := fun σ H Q => te σ H fun x H1 => ts σ H1 fun y H2 => y = .int (-1) ∧ ∃ a xs, x = .ref a ∧ SqL K H2 a xs ∧ ∀ p, H2 p = none → Q (.ref p) (upd H2 p (.lst xs.reverse))
theorem pe_back (he : PE X e te) (hs : PE X st ts) : PE X (.Subscript e (.Slice none none (some st) p2) pos) (tBack X.K te ts) := by
  refine ⟨fun pins s σ H Q I h => ?_⟩
  refine Subscript_ (thn (he.run pins s σ H _ I h) fun v s1 ⟨x, H1, I1, r1, q1⟩ => ?_)
  refine wpAny_Slice ?_
  rw [evalPart_none]
  refine wpAny_pure (wpAny_pure ?_)
  rw [evalPart_some]
  refine thn (hs.run pins s1 σ H1 _ I1 q1) fun u s2 ⟨y, H2, I2, r2, ey, a, xs, ex, hx, q⟩ => ?_
  subst ey ex
  obtain ⟨tk, rfl⟩ := r2
  obtain rfl : v = .ref a := r1
  have I3 : Inv X pins σ H2 { s2 with heap := s2.heap.push { cls := .type "slice", data := .fields #[.none, .none, .int (-1) tk] } } := I2.kept (t' := s2.toks) fun b ob q => Heap.get?_push_of_some _ q
  obtain ⟨its, r, ht, hz⟩ := I3.list hx
  show wpAny (model X.prog X.w) X.A (subscriptTail e (.Slice none none (some st) p2) (.ref a) (.ref s2.heap.objs.size)) (EP X pins σ Q) X.xe { s2 with heap := s2.heap.push { cls := .type "slice", data := .fields #[.none, .none, .int (-1) tk] } }
  refine tail_any (ops := [.ref a, .ref s2.heap.objs.size]) ht.isList.typeIs slot_list_getitem.lookup ?_ (by with_unfolding_all rfl)
  refine wpAny_getItem_list_slice ht.isList (Heap.IsSliceOf.new ..) .none .none (.int (-1) tk) (by simp) ?_ (by rw [List.size_toArray, ← r.length]; exact hz)
  rw [pick_back]
  refine ⟨.ref _, _, I3.laid (t' := s2.toks) (o := .lst xs.reverse) (fun b ob q => Heap.get?_push_of_some _ q) (Nat.le_refl _) ⟨by rw [List.length_reverse]; exact hz, its.reverse, 0, r.reverse, Heap.get?_push_size _ rfl⟩, rfl, q _ (I3.hok.fresh (Nat.le_refl _))⟩
/-- list(d), d by tuples: its keys -/
def rKeysT : List V → Hp → VK → Prop := fun xs H Q => ∃ (d : Addr) (kvs : List (List L2.Key × V)), xs = [.ref d] ∧ H d = some (.dT kvs) ∧ ∀ (ks : List Addr) q, ks.length = kvs.length → (∀ (i : Nat) (b : Addr) (kv : List L2.Key × V), ks[i]? = some b → kvs[i]? = some kv → H b = some (.tup (kv.1.map kV))) → H q = none → Q (.ref q) (upd H q (.lst (ks.map V.ref)))
theorem cr_keysT (hc : X.calm = true) : CallR X (.type "list") rKeysT := by
  intro pins s σ H xs us Q I rx h
  obtain ⟨d, kvs, rfl, hd, q⟩ := h
  rw [Vals.ref1 rx]
  obtain ⟨z, hs, ys, rel, dd⟩ := dt_of I.hok hd
  obtain ⟨es, ep, raw, he⟩ := TV.raw_of dd
  have hl : kvs.length = ys.length := Paired.length rel
  have hes : es.size = ys.length := by
    have := congrArg List.length he
    rwa [List.length_map, Array.length_toList] at this
  refine PySem.W.kdl_call (PySem.KdlSrc.rawDict (d := d) (es := es) (ep := ep) hs) (I.ok.hd hc) raw (by omega) fun h' tk acc c hk hS hacc => ?_
  have ent : ∀ (j : Nat) (w : Value), acc.toList[j]? = some w → ∃ y : List L2.Key × Addr × Value, ys[j]? = some y ∧ w = .ref y.2.1 := fun j w hw => by
    obtain ⟨hi, hv⟩ := hacc.2 j w (by rw [← Array.getElem?_toList]; exact hw)
    have hj : j < ys.length := by omega
    refine ⟨ys[j], List.getElem?_eq_getElem hj, ?_⟩
    have e1 : es.toList[j]? = some (entryOfKey (tupleKind (mixKind X.prog X.w)) ys[j]) := by rw [he, List.getElem?_map, List.getElem?_eq_getElem hj]; rfl
    have e2 : es.toList[j]? = some es[j] := by rw [Array.getElem?_toList, Array.getElem?_eq_getElem hi]
    rw [hv, Option.some.inj (e2.symm.trans e1)]
    rfl
  have la : acc.toList.length = ys.length := by rw [Array.length_toList, hacc.1, hes]
  refine ⟨.ref s.heap.objs.size, upd H s.heap.objs.size (.lst ((ys.map fun y => y.2.1).map V.ref)), I.laid (t' := tk) hk (Nat.le_refl _) (show ObjOk X.prog X.w _ _ _ (.lst _) from ⟨by rw [List.length_map, List.length_map, ← hl]; exact z, acc.toList, c, ?_, ?_⟩), rfl, q _ _ (by rw [List.length_map, hl]) (fun i b kv hb hkv => ?_) (I.hok.fresh (Nat.le_refl _))⟩
  · refine vals_of_at (by rw [List.length_map, List.length_map, la]) fun j x w h1 h2 => ?_
    obtain ⟨y, hy, rfl⟩ := ent j w h2
    rw [List.map_map, List.getElem?_map, hy] at h1
    cases h1
    rfl
  · rw [Array.toArray_toList]; exact hS
  · rw [List.getElem?_map] at hb
    obtain ⟨y, hy, rfl⟩ := Option.map_eq_some_iff.mp hb
    obtain ⟨y2, hy2, hr⟩ := TV.pair_get rel hkv
    rw [hy] at hy2
    cases hy2
    exact hr.2.1
end
end HR
set_option maxRecDepth 100000
set_option maxHeartbeats 4000000
/-! enumerate(a list or tuple) -/
namespace HR
open PySem PySem.Spec PyProof.Rows L2 PySem.W
/-- the tuple at a, its items in new pairs -/
def ItT (K : PySem.W.Frag) (a : Addr) : It :=
  ⟨fun i H => ∃ (xs : List V) (x : V), SqT K H a xs ∧ xs[i]? = some x, fun i H v H' => ∃ T x, v = .ref T ∧ H T = none ∧ H' = upd H T (.tup [.int (i : Nat), x]) ∧ ∀ xs, SqT K H a xs → xs[i]? = some x, fun i H => ∃ xs : List V, SqT K H a xs ∧ xs.length ≤ i⟩
theorem walk_enT {K : PySem.W.Frag} {a : Addr} {xs : List V} : L2.Walk (ItT K a) xs.length (fun H => SqT K H a xs) (YPair (fun i => some (.int (i : Nat))) (fun i => xs[i]?)) :=
  ⟨fun i _ hi q => ⟨xs, xs[i], q, by simp [hi]⟩, fun _ q => ⟨xs, q, Nat.le_refl _⟩, fun i H v H' _ q ⟨T, x, h1, h2, h3, h4⟩ => ⟨T, .int (i : Nat), x, h1, h2, h3, rfl, h4 xs q⟩⟩
theorem turn_enT {P : Program} {w : World} {K : PySem.W.Frag} {elts : List Expr} {kk : Nat} {tpos : Pos} (a e it : Addr) :
    Turn P w K (.Tuple elts kk tpos) (ItT K a) [e, it] e (fun i h => (∃ old, IsEnum h e it ((i : Nat) : Int) old) ∧ h.IsTupleIter it a i ∧ e ≠ it) where
  mem := List.mem_cons_self
  obj := fun i h st b hb => by
    obtain ⟨⟨old, he⟩, ⟨o, ho, _, hd⟩, _⟩ := st
    rcases List.mem_cons.mp hb with z | hb
    · rw [z]
      exact ⟨_, he, fun v q => nomatch q⟩
    · exact ⟨o, by rw [List.mem_singleton.mp hb]; exact ho, fun v q => by rw [hd] at q; cases q⟩
  keep := fun i h h' ⟨⟨old, he⟩, hi, ne⟩ k => ⟨⟨old, k e List.mem_cons_self _ he⟩, hi.at fun o q => k it (List.mem_cons_of_mem _ List.mem_cons_self) o q, ne⟩
  item := by
    intro X hP hw hK calm i pp s σ H E I feet ⟨⟨old, he⟩, hit, ne⟩ ⟨xs, x, hx, hi⟩
    subst hP hw hK
    obtain ⟨its, rv, pt, few⟩ := I.tuple hx
    obtain ⟨u, hu, ru⟩ := rv.get hi
    have he' : e < s.heap.objs.size := Heap.lt_size he
    have hit' : it < s.heap.objs.size := by obtain ⟨o, q, _⟩ := hit; exact Heap.lt_size q
    obtain ⟨f1, f2⟩ := feet it (List.mem_cons_of_mem _ List.mem_cons_self)
    obtain ⟨ob, hob, _⟩ := id hit
    have hai : a ≠ it := fun z => by
      obtain ⟨o2, h2, c2, _⟩ := pt
      obtain ⟨o3, h3, c3, _⟩ := id hit
      rw [z] at h2
      rw [h2] at h3
      cases h3
      rw [c2] at c3
      exact absurd (Value.type.inj c3) (by decide)
    have hae : e ∉ [it, a] := by
      intro z
      rcases List.mem_cons.mp z with z | z
      · exact ne z
      · rw [List.mem_singleton.mp z] at he
        obtain ⟨o2, h2, c2, _⟩ := pt
        rw [show s.heap.get? a = some _ from he] at h2
        cases h2
        exact absurd (Value.type.inj c2) (by decide)
    refine wpAny_pyNext_enum_itemD (Draws.tuple (prog := X.prog) (w := X.w) (A := X.A.in1) (I.ok.hd calm) it a hai its.toArray) he ⟨hit, pt⟩ (i := i) (by rw [List.size_toArray]; exact (List.getElem?_eq_some_iff.mp hu).1) ne hae fun y h' tk hy ho st' hT hsz hk => ?_
    have ey : y = u := by
      have : its[i]? = some y := by simpa using hy
      rw [hu] at this
      exact (Option.some.inj this).symm
    subst ey
    refine ⟨_, rfl, wpAny_letOwnedTupleGo_enum (s := { s with heap := h', toks := tk + 1 }) ho fun h'' he2 sb => ?_⟩
    have hT2 : h''.get? s.heap.objs.size = some { cls := .type "tuple", data := .seq #[.int i tk, y] } := (sb.2 _ (Nat.ne_of_gt he')).trans hT
    have new : ObjOk X.prog X.w (upd H s.heap.objs.size (.tup [.int (i : Nat), x])) h'' s.heap.objs.size (.tup [.int (i : Nat), x]) := ⟨by show 2 ≤ sizeLine; decide, [.int i tk, y], .cons ⟨_, rfl⟩ (.cons ru .nil), ⟨_, hT2, rfl, _, rfl⟩⟩
    have I2 : Inv X pp σ (upd H s.heap.objs.size (.tup [.int (i : Nat), x])) { s with heap := h'', toks := tk + 1 } :=
      I.turnedNew (ch := [e, it]) (fun b o hb q => (sb.2 b (fun z => hb (by rw [z]; exact List.mem_cons_self))).trans (hk b o (fun z => hb (by rw [z]; exact List.mem_cons_self)) (fun z => hb (by rw [z]; exact List.mem_cons_of_mem _ List.mem_cons_self)) q)) feet (Nat.le_refl _) new
    refine ⟨.ref s.heap.objs.size, _, I2, rfl, ⟨_, x, rfl, I.hok.fresh (Nat.le_refl _), rfl, fun ys hy2 => by rw [I.tuple_inj hy2 hx]; exact hi⟩, ⟨⟨y, ?_⟩, st'.1.at fun o q => (sb.2 it (Ne.symm ne)).trans q, ne⟩, fun b hb => ?_⟩
    · have e1 : ((i + 1 : Nat) : Int) = (i : Int) + 1 := by omega
      rw [e1]; exact he2
    · have lt : b < s.heap.objs.size := by
        rcases List.mem_cons.mp hb with z | z
        · rw [z]; exact he'
        · rw [List.mem_singleton.mp z]; exact hit'
      rw [upd_ne (Nat.ne_of_lt lt)]
      exact (feet b hb).1
  done := by
    intro X hP hw hK calm i pp s σ H E I feet ⟨⟨old, he⟩, hit, ne⟩ ⟨xs, hx, over⟩
    subst hP hw hK
    obtain ⟨its, rv, pt, few⟩ := I.tuple hx
    obtain ⟨f0, f1, f2, f3, f4, f5⟩ := feet it (List.mem_cons_of_mem _ List.mem_cons_self)
    have hai : a ≠ it := fun z => by
      obtain ⟨o2, h2, c2, _⟩ := pt
      obtain ⟨o3, h3, c3, _⟩ := id hit
      rw [z] at h2
      rw [h2] at h3
      cases h3
      rw [c2] at c3
      exact absurd (Value.type.inj c3) (by decide)
    have hl := rv.length
    have none_ : its.toArray[i]? = none := by simp; omega
    have hT : s.TypeIs (.ref e) "enumerate" := ⟨_, he, rfl⟩
    unfold pyNext
    refine wpAny_bind (wpAny_attempt (wpAny_callSpecial?_slot (name := Str.ofString "__next__") hT F.slot_enumerate_next (wpAny_call_entry F.slot_enumerate_next hT F.entry_enumerate_next ?_ (F.args_enumerate_next_1 _))))
    show wpAny _ _ (field (.ref e) 2 >>= _) _ _ _
    refine wpAny_bind (wpAny_field he rfl (x := .ref it) rfl ?_)
    refine wpAny_bind (wpAny_nextOf_tuple_end (I.ok.hd calm) hit pt none_ fun h' x eb hx' => ?_)
    obtain ⟨o, ho, hc⟩ := hx'
    refine wpAny_bind (wpAny_isInstance (T := "StopIteration") (b := true) ⟨o, ho, hc⟩ isSubtype_stop ?_)
    exact wpAny_pure ⟨rfl, I.turned (t' := s.toks) (fun b o hb q => eb b o hb q) f0 f1 f3 f4 f5⟩
  self := fun A i s Q E ⟨⟨_, he⟩, _⟩ h => wpAny_pyIter_enum he h
set_option maxHeartbeats 4000000 in
theorem meets_enum_new {v : Value} {o : Obj} {Hh : Heap → Prop} (B : Begins v o Hh) :
    Meets (Builtin.«enumerate.__new__» ⟨[.type "enumerate", v], []⟩) (fun _ R s => Hh s.heap ∧
      R (.ok (.ret (.ref (s.heap.push o).objs.size))) { s with heap := (s.heap.push o).push { cls := .type "enumerate", data := .fields #[.none, .bool false, .ref s.heap.objs.size, rawInt 0, .none, .none] } }) :=
  .of_wp fun prog w A R s both => by
    obtain ⟨hp, g, d, tk, os⟩ := s
    obtain ⟨h1, h⟩ := both
    have sub := sub_enumerate
    have it_ : ∀ {A' : Around} {E : Value → Shared → Prop} {Q : Value → Shared → Prop}, Q (.ref hp.objs.size) ⟨hp.push o, g, d, tk, os⟩ → wpAny (model prog w) A' (pyIter v) Q E ⟨hp, g, d, tk, os⟩ := fun q => B.iter prog w _ _ ⟨hp, g, d, tk, os⟩ _ h1 q
    wp_walk using it_
    refine wpAny_stack_any fun st => wpAny_pure ?_
    split
    · rename_i c _ _ _ _ _
      cases (c == Value.type "enumerate") <;> (wp_walk using it_; exact ⟨_, rfl, h⟩)
    · wp_walk using it_
      exact ⟨_, rfl, h⟩
section
variable {X : Cx} {e : Expr} {ta : TA} {p pos tpos : Pos} {elts : List Expr} {kk : Nat}
/-- enumerate(a list or tuple) -/
def iEnS (K : PySem.W.Frag) (ta : TA) : TI := fun σ H R => ta σ H fun vs H1 => ∃ a xs, vs = [.ref a] ∧ ((SqL K H1 a xs ∧ R (Ite K a) H1) ∨ (SqT K H1 a xs ∧ R (ItT K a) H1))
theorem pi_enS (hg : Gl X "enumerate") (hm : X.mg "enumerate" = none) (ha : PA X [e] ta) (hs : starEach [e] X.env = [(false, eval e X.env)] := by rfl) : PI X (.Tuple elts kk tpos) (.Call (.Name "enumerate" p) [e] [] pos) (iEnS X.K ta) := by
  refine ⟨fun pins s σ H R I h => ?_⟩
  refine Call_ (ld_blt I hg hm boot_enumerate (PyProof.Rows.callWith_type1 (thn (ha.run pos pins s σ H _ I h) fun us s1 ⟨vs, H1, I1, r1, a, xs, ex, q⟩ => ?_) hs rfl))
  subst ex
  obtain ⟨u, rfl, ru⟩ := vals1 r1
  have eu : u = Value.ref a := ru
  subst eu
  have low : ∀ b ∈ [s1.heap.objs.size + 1, s1.heap.objs.size], s1.heap.objs.size ≤ b := fun b hb => by
    rcases List.mem_cons.mp hb with z | z
    · rw [z]; exact Nat.le_succ _
    · rw [List.mem_singleton.mp z]; exact Nat.le_refl _
  rcases q with ⟨hq, q⟩ | ⟨hq, q⟩
  · obtain ⟨its, rv, p', hz⟩ := I1.list hq
    refine call_enumerate_list p'.isList fun h' he hit hsz hk => wpAny_pyIter_enum he ?_
    have I2 : Inv X pins σ H1 { s1 with heap := h' } := I1.kept (t' := s1.toks) hk
    exact ⟨s1.heap.objs.size + 1, [s1.heap.objs.size + 1, s1.heap.objs.size], _, _, H1, rfl, I2, turn_enum a (s1.heap.objs.size + 1) s1.heap.objs.size, ⟨⟨.none, he⟩, hit, Nat.succ_ne_self _⟩, fun b hb => I1.fpOk (low b hb) (I1.hok.fresh (low b hb)), q⟩
  · obtain ⟨its, rv, p', hz⟩ := I1.tuple hq
    refine callType_new F.called_enumerate (by decide) (F.typeCall_enumerate_1 _) (F.newCall_enumerate_1 _) (fun obj => F.args_object_init_2 obj _) F.entry_enumerate_new (meets_enum_new (begins_tuple a its.toArray)) ⟨p', ?_⟩
    have hz : (s1.heap.push { cls := .type "tuple_iterator", data := .fields #[.ref a, .int 0 0] }).objs.size = s1.heap.objs.size + 1 := Heap.size_push ..
    show _ ∧ _
    rw [hz]
    have he : IsEnum ((s1.heap.push { cls := .type "tuple_iterator", data := .fields #[.ref a, .int 0 0] }).push { cls := .type "enumerate", data := .fields #[.none, .bool false, .ref s1.heap.objs.size, rawInt 0, .none, .none] }) (s1.heap.objs.size + 1) s1.heap.objs.size 0 .none := by
      have z := Heap.get?_push_size (s1.heap.push { cls := .type "tuple_iterator", data := .fields #[.ref a, .int 0 0] }) (o := { cls := .type "enumerate", data := .fields #[.none, .bool false, .ref s1.heap.objs.size, rawInt 0, .none, .none] }) rfl
      rw [hz] at z
      exact z
    refine ⟨⟨_, he, rfl⟩, wpAny_pyIter_enum he ?_⟩
    have hk : ∀ b o, s1.heap.get? b = some o → ((s1.heap.push { cls := .type "tuple_iterator", data := .fields #[.ref a, .int 0 0] }).push { cls := .type "enumerate", data := .fields #[.none, .bool false, .ref s1.heap.objs.size, rawInt 0, .none, .none] }).get? b = some o := fun b o x => Heap.get?_push_of_some _ (Heap.get?_push_of_some _ x)
    exact ⟨s1.heap.objs.size + 1, [s1.heap.objs.size + 1, s1.heap.objs.size], _, _, H1, rfl, I1.kept (t' := s1.toks) hk, turn_enT a (s1.heap.objs.size + 1) s1.heap.objs.size, ⟨⟨.none, he⟩, ⟨_, Heap.get?_push_of_some _ (Heap.get?_push_size _ rfl), rfl, rfl⟩, Nat.succ_ne_self _⟩, fun b hb => I1.fpOk (low b hb) (I1.hok.fresh (low b hb)), q⟩
end
end HR
set_option maxRecDepth 100000
set_option maxHeartbeats 4000000
/-! sorted(a tuple of ints); what is walked, one of two ways -/
namespace HR
open PySem PySem.Spec PyProof.Rows L2 SrtO
section
variable {prog : Program} {w : World} {A : Around} {E : Value → Shared → Prop} {s : Shared}
theorem collect_tup {t : Addr} {vs : List Value} {Q : List Value → Shared → Prop} (ht : IsTup s.heap t vs.toArray) (few : vs.length ≤ sizeLine) (nxt : Q vs { s with heap := (s.heap.push (seqObj "list" #[] 0)).update s.heap.objs.size (Obj.mapSeq (· ++ vs.toArray)) }) :
    wpAny (model prog w) A (collect (.ref t)) Q E s := by
  obtain ⟨o, at_, cls, n, dat⟩ := id ht
  have new : (s.heap.push (seqObj "list" #[] 0)).get? s.heap.objs.size = some (seqObj "list" #[] 0) := Heap.get?_push_size _ rfl
  have at1 : (s.heap.push (seqObj "list" #[] 0)).get? t = some o := Heap.get?_push_of_some _ at_
  have ne : s.heap.objs.size ≠ t := Nat.ne_of_gt (Heap.lt_size at_)
  unfold collect
  refine wpAny_bind (wpAny_runValue (codeAny_builtin F.entry_proto_collect ?_))
  show wpAny _ _ (do again (.builtin "list.__iadd__" ⟨[← newList [], .ref t], []⟩)) _ _ s
  refine wpAny_bind (wpAny_newList (wpAny_pure ⟨Code.quiet_builtin _ (by decide +kernel), codeAny_builtin F.entry_list_iadd ?_⟩))
  show wpAny _ _ (Builtin.List.listExtendWith (.ref s.heap.objs.size) (.ref t) (.ref s.heap.objs.size)) _ _ { s with heap := s.heap.push (seqObj "list" #[] 0) }
  unfold Builtin.List.listExtendWith
  refine wpAny_bind (wpAny_typeOf (T := "tuple") ⟨o, at1, cls⟩ ?_)
  have same : Builtin.List.listSameRef (.ref s.heap.objs.size) (.ref t) = false := by simp [Builtin.List.listSameRef, ne]
  rw [if_pos (by rw [show (Value.type "tuple" == Value.type "tuple") = true from rfl]; simp)]
  refine wpAny_bind (listItems_at at1 dat ?_)
  refine wpAny_bind (listItems_at (xs := #[]) (n := 0) new rfl ?_)
  rw [if_neg (by simp)]
  refine wpAny_bind (listUpdate_at (xs := #[]) (n := 0) new rfl ?_ (Nat.zero_le _) (by show (#[] ++ vs.toArray).size ≤ sizeLine + 1; simp only [Array.size_append, List.size_toArray, List.length_nil]; omega))
  refine wpAny_pure ?_
  show wpAny (model prog w) A (load s.heap.objs.size >>= _) Q E _
  refine wpAny_bind (wpAny_load (get?_update_seq new _) ?_)
  show wpAny _ _ (pure ((#[] : Array Value) ++ vs.toArray).toList) Q E _
  rw [show ((#[] : Array Value) ++ vs.toArray).toList = vs by simp]
  exact wpAny_pure nxt
end
section
variable {X : Cx}
theorem pi_or {tg e : Expr} {t1 t2 : TI} (h1 : PI X tg e t1) (h2 : PI X tg e t2) : PI X tg e (fun σ H R => t1 σ H R ∨ t2 σ H R) :=
  ⟨fun pins s σ H R I h => h.elim (h1.run pins s σ H R I) (h2.run pins s σ H R I)⟩
def rSortedTI (K : PySem.W.Frag) : List V → Hp → VK → Prop := fun vs H Q => ∃ (a : Addr) (ns : List Int), vs = [V.ref a] ∧ SqT K H a (ns.map V.int) ∧ ∀ (ms : List Int) (p : Addr), ms.Perm ns → ms.Pairwise (· ≤ ·) → H p = none → Q (.ref p) (upd H p (.lst (ms.map V.int)))
theorem cr_sortedTI : CallR X (.builtin "sorted") (rSortedTI X.K) := by
  intro pins s σ H vs us Q I r h
  obtain ⟨a, ns, rfl, hs, q⟩ := h
  obtain ⟨its, rv, ht, few⟩ := I.tuple hs
  rw [Vals.ref1 r]
  have hi : IntsAre its ns := intsAre_of rv
  have hz : its.length ≤ sizeLine := by rw [← rv.length]; exact few
  refine Calls.call_function_entry kind_sorted plain_sorted entry_sorted (args_sorted1 _) ?_
  unfold Builtin.«sorted»
  refine wpAny_bind (m := checkCount "sorted" 1 1 _) (wpAny_pure ?_)
  refine wpAny_bind (collect_tup ht hz ?_)
  refine wpAny_bind (wpAny_newList ?_ hz)
  have size2 : ((s.heap.push (seqObj "list" #[] 0)).update s.heap.objs.size (Obj.mapSeq (· ++ its.toArray))).objs.size = s.heap.objs.size + 1 := by rw [Heap.size_update, size_push']
  show wpAny _ _ _ _ _ { s with heap := ((s.heap.push (seqObj "list" #[] 0)).update s.heap.objs.size (Obj.mapSeq (· ++ its.toArray))).push (seqObj "list" its.toArray 0) }
  rw [size2]
  have laid : (((s.heap.push (seqObj "list" #[] 0)).update s.heap.objs.size (Obj.mapSeq (· ++ its.toArray))).push (seqObj "list" its.toArray 0)).get? (s.heap.objs.size + 1) = some (seqObj "list" its.toArray 0) := by
    rw [← size2]
    exact Heap.get?_push_size _ rfl
  refine wpAny_bind (wpAny_holding (wpAny_call_entry slot_list_sort ⟨_, laid, rfl⟩ entry_list_sort (list_sort_ord swo_int laid hz (fun h2 => ints_sortable hi h2) fun out h1 h2 => ⟨_, rfl, ?_⟩) (args_list_sort _)))
  obtain ⟨k1, k2, k3⟩ := ints_out hi h1 h2
  obtain ⟨ep, he'⟩ := PyProof.Rows.sortedAll_at s.heap its out.toArray
  have few2 : ((out.map iv).map V.int).length ≤ sizeLine := by rw [List.length_map, k2.length_eq]; rw [List.length_map] at few; exact few
  exact wpAny_pure ⟨_, rfl, .ref _, upd H (s.heap.objs.size + 1) (.lst ((out.map iv).map V.int)), I.laid (t' := s.toks) (fun _ _ => PyProof.Rows.sortedAll_old) (Nat.le_succ _) ⟨few2, out, ep, vals_of_ints k1, he'⟩, rfl, q _ _ k2 k3 (I.hok.fresh (Nat.le_succ _))⟩
end
end HR
set_option maxRecDepth 100000
set_option maxHeartbeats 4000000
/-! x = {k: v for ..} with keys that are tuples of ints and texts -/
namespace HR
open PySem PySem.Spec PyProof.Rows L2
section
variable {X : Cx} {kx vx tg iter : Expr} {ifs : List Expr} {scope : Scope} {own : List (Str × Nat)} {wi : TI} {g : TG} {tt : TT} {tk tv : TE}
theorem ps_setDcT {pos spos py : Pos} {i : Nat} {y : Str} (calm : X.calm = true) (roomy : X.A.units < cLine) (diff : X.N.Nodup) (hN : X.N[i]? = some y) (hv : X.env.scope.names.lookup y = some NameKind.local) (hs : swapsWith (.DictComp kx vx [⟨tg, iter, ifs, 0⟩] scope pos) (some (.Name y py)) spos.line X.env = pure true) (walk : PI X tg iter wi) (blk : BlkOk X.N X.env.scope scope own)
    (aim : ∀ (sh : Shared) (G : Hp) (C : Addr) (cl : List (Str × Addr)) (feet : List Addr), PG (X.blk sh G scope (compEnvC scope cl C X.env) feet) tg g)
    (tests : ∀ (sh : Shared) (G : Hp) (C : Addr) (cl : List (Str × Addr)) (feet : List Addr), PTs (X.blk sh G scope (compEnvC scope cl C X.env) feet) ifs tt)
    (keys : ∀ (sh : Shared) (G : Hp) (C : Addr) (cl : List (Str × Addr)) (feet : List Addr), PE (X.blk sh G scope (compEnvC scope cl C X.env) feet) kx tk)
    (vals : ∀ (sh : Shared) (G : Hp) (C : Addr) (cl : List (Str × Addr)) (feet : List Addr), PE (X.blk sh G scope (compEnvC scope cl C X.env) feet) vx tv)
    (plain : ∀ x, foldedSetIterable iter X.env x = pure x := by intro _; rfl) : PS X (.Assign [.Name y py] (.DictComp kx vx [⟨tg, iter, ifs, 0⟩] scope pos) spos) (tAsg (tDcT wi g tt tk tv (own.map (·.2))) (gName i)) := by
  refine ⟨fun pp sh0 st G0 D0 I0 ask => ?_⟩
  rw [exec_Assign_Name_used _ _ _ _ hs, arm_evalThenUse_DictComp]
  refine wpAny_bind (wpAny_standAt ?_)
  have frees : ∀ y ∈ scope.names, y.2 = .free → ∃ c, X.env.cells.lookup y.1 = some c := fun y hy e => (blk.free y hy e).elim (fun k => I0.ok.has _ (.inl k)) fun k => I0.ok.has _ (.inr k)
  refine wpAny_bind (wpAny_bind (wpAny_comprehension_free (use := some (assign (.Name y py) X.env)) rfl plain (closure_ok frees) blk.kind (fun y hy e => by rw [blk.uniq y hy, e]) (thn (walk.run pp sh0 st G0 _ I0 ask) fun xv sh1 came => thn came fun itv sh2 more => ?_)))
  obtain ⟨it, feet, ten, J, G2, rfl, I2, T, at0, free2, turn⟩ := more
  refine wpAny_newObj_type (newEnv_comp ?_)
  have new : G2 sh2.heap.objs.size = none := I2.hok.fresh (Nat.le_refl _)
  obtain ⟨W, ⟨m0, w0⟩, step⟩ := turn _ new
  -- the dict is laid
  obtain ⟨G3, eG3⟩ : ∃ G3, G3 = upd G2 sh2.heap.objs.size (.dT []) := ⟨_, rfl⟩
  rw [← eG3] at w0
  obtain ⟨sh3, e3⟩ : ∃ sh3 : Shared, sh3 = { sh2 with heap := sh2.heap.push { cls := .type "dict", data := .dict #[] } } := ⟨_, rfl⟩
  have I3 : Inv X pp st G3 sh3 := by
    rw [e3, eG3]
    exact I2.laid (t' := sh2.toks) (fun b o q => Heap.get?_push_of_some _ q) (Nat.le_refl _) (dt_empty sh2.heap I2.big)
  have heap3 : sh3.heap = sh2.heap.push { cls := .type "dict", data := .dict #[] } := by rw [e3]
  have low : ∀ b ∈ feet, b < sh2.heap.objs.size := fun b hb => Heap.lt_size (T.obj _ _ at0 b hb).choose_spec.1
  have free3 : ∀ b ∈ feet, FpOk X pp G3 b ∧ b < sh3.heap.objs.size := fun b hb => ⟨⟨by rw [eG3, upd_ne (Nat.ne_of_lt (low b hb))]; exact (free2 b hb).1, (free2 b hb).2⟩, by rw [heap3, Heap.size_push]; exact Nat.lt_succ_of_lt (low b hb)⟩
  have at3 : ten 0 sh3.heap := T.keep _ _ _ at0 fun b _ o q => by rw [heap3]; exact Heap.get?_push_of_some _ q
  have I4 := block_start I3 blk diff free3
  obtain ⟨C, eC⟩ : ∃ C, C = sh3.heap.objs.size := ⟨_, rfl⟩
  obtain ⟨cl, ecl⟩ : ∃ cl, cl = cellsFrom (sh3.heap.objs.size + 1) scope.names (cloFrom X.env.cells scope.names []) := ⟨_, rfl⟩
  obtain ⟨sh4, e4⟩ : ∃ sh4 : Shared, sh4 = { sh3 with heap := pushCells (sh3.heap.push { cls := .type "dict", data := .dict #[] }) scope.names } := ⟨_, rfl⟩
  rw [← ecl, ← eC, ← e4] at I4
  have at4 : ten 0 sh4.heap := T.keep _ _ _ at3 fun b _ o q => by rw [e4]; exact pushCells_keeps _ _ _ _ (Heap.get?_push_of_some _ q)
  have none3 : ∀ b ∈ feet, G3 b = none := fun b hb => (free3 b hb).1.1
  obtain ⟨Y, eY⟩ : ∃ Y, Y = X.blk sh3 G3 scope (compEnvC scope cl C X.env) feet := ⟨_, rfl⟩
  rw [← eY] at I4
  have held : ∀ {st' : L2.St} {G' : Hp} {sh' : Shared}, Inv Y [] st' G' sh' → (∀ b ∈ feet, G' b = none) → ∀ b ∈ feet, FpOk Y [] G' b := by
    subst eY
    exact fun {_ _ _} I' no b hb => ⟨no b hb, (I'.ok.exf b hb).1, I'.ok.exfs b hb, .inl hb, fun x c q => (I'.ok.exf b hb).2 x c q, fun p hp => absurd (show p ∈ ([] : List (Addr × Obj)) ++ [] from hp) (by simp)⟩
  have locC : (compEnvC scope cl C X.env).locals = C := rfl
  have loop : codeAny (model X.prog X.w) X.A (.compLoop (.DictComp kx vx [⟨tg, iter, ifs, 0⟩] scope pos) 0 (.ref it) (.ref sh2.heap.objs.size) (compEnvC scope cl C X.env)) (compPost (model X.prog X.w) X.A X.xe (some (assign (.Name y py) X.env)) (fun _ sh => wpAny (model X.prog X.w) X.A (pure ()) (fun _ sh => wpAny (model X.prog X.w) X.A (pure Flow.next) (SP X pp D0) X.xe sh) X.xe sh) (.ref sh2.heap.objs.size) C) sh4 := by
    subst eY
    refine compLoop_anyD (fun left sh => ∃ i G, Inv (X.blk sh3 G3 scope (compEnvC scope cl C X.env) feet) [] (wipe st (own.map (·.2))) G sh ∧ ten i sh.heap ∧ (∀ b ∈ feet, G b = none) ∧ W i left G) ?_ m0 ⟨0, G3, I4, at4, none3, w0⟩
    rintro left sh5 ⟨i, G5, I5, at5, no5, w5⟩
    rcases step i left G5 w5 with ⟨over, good⟩ | ⟨on, Nx, fewer, go⟩
    · -- the walk is over
      refine thnF (T.done (X.blk sh3 G3 scope (compEnvC scope cl C X.env) feet) rfl rfl rfl calm i [] sh5 _ G5 (fun _ _ => False) I5 (held I5 no5) at5 over) fun r sh6 ⟨er, I6⟩ => ?_
      subst er
      have I7 : Inv X pp st G5 sh6 := I3.call' (ch := feet) I6.os I6.base I6.hok I6.bare fun b hb => let f := (free3 b hb).1.2; ⟨f.2.2.1, f.1, f.2.2.2.1, f.2.2.2.2⟩
      have noC : G5 C = none := I6.free
      obtain ⟨m, names, _⟩ := I6.loc
      obtain ⟨oC, esC, epC, hoC, hdC, restC⟩ := id names
      have pinC := I7.pinned (fp := [C]) (fun b hb => by rw [List.mem_singleton.mp hb]; exact I3.fpOk (Nat.le_of_eq eC.symm) noC) (fun b hb => by rw [List.mem_singleton.mp hb]; exact ⟨oC, hoC, fun v q => by rw [hdC] at q; cases q⟩)
      refine thn ((pg_name diff hN (.inl hv) (Or.inr hv)).run _ sh6 st G5 (.ref sh2.heap.objs.size) (.ref sh2.heap.objs.size) _ pinC rfl good) fun _ sh7 ⟨st7, G7, I8, q8⟩ => ?_
      have hp := I8.pin (C, oC) (List.mem_append_right _ (List.mem_append_right _ (mem_pinsAt (List.mem_singleton.mpr rfl) hoC)))
      obtain ⟨f0, f1, f2, f3, f4, f5⟩ := I3.fpOk (Nat.le_of_eq eC.symm) hp.2.1
      exact ⟨m, ⟨oC, esC, epC, hp.1, hdC, restC⟩, fun h'' sb => wpAny_pure (wpAny_pure ⟨st7, G7, I8.unpinned.turned (t' := sh7.toks) (fun b o hb q => (sb.2 b hb).trans q) f0 f1 f3 f4 f5, q8⟩)⟩
    · -- one turn
      refine thnF (T.item (X.blk sh3 G3 scope (compEnvC scope cl C X.env) feet) rfl rfl rfl calm i [] sh5 _ G5 (fun _ _ => False) I5 (held I5 no5) at5 on) fun r sh6 ⟨u, er, rest⟩ => ?_
      subst er
      refine thnF rest fun _ sh7 ⟨x, G7, I7, rx, y7, at7, no7⟩ => ?_
      have P7 := I7.pinned (held I7 no7) (T.obj _ _ at7)
      refine thnF ((aim sh3 G3 C cl feet).run _ sh7 _ G7 x u _ P7 rx (go x G7 y7)) fun _ sh8 ⟨st8, G8, I8, same8, q8⟩ => ?_
      refine thnF ((tests sh3 G3 C cl feet).run _ sh8 st8 G8 _ I8 q8) fun yes sh9 ⟨G9, I9, q9⟩ => ?_
      have back : ∀ {sh' : Shared} {G' : Hp}, Inv (X.blk sh3 G3 scope (compEnvC scope cl C X.env) feet) ([] ++ pinsAt feet sh7.heap) st8 G' sh' → Nx G' →
          ∃ m, m < left ∧ ∃ i G, Inv (X.blk sh3 G3 scope (compEnvC scope cl C X.env) feet) [] (wipe st (own.map (·.2))) G sh' ∧ ten i sh'.heap ∧ (∀ b ∈ feet, G b = none) ∧ W i m G := by
        intro sh' G' I' nx
        obtain ⟨m', less, w'⟩ := fewer G' nx
        have pin : ∀ b ∈ feet, ∀ o, sh7.heap.get? b = some o → sh'.heap.get? b = some o ∧ G' b = none := fun b hb o q => by
          have z := I'.pin (b, o) (List.mem_append_right _ (List.mem_append_right _ (mem_pinsAt hb q)))
          exact ⟨z.1, z.2.1⟩
        have len : (wipe st (own.map (·.2))).length = st8.length := by rw [← same8, wipe_length]
        refine ⟨m', less, i + 1, G', (I'.unpinned (pins := [])).weak len (fun j v q => ?_), T.keep _ _ _ at7 fun b hb o q => (pin b hb o q).1, fun b hb => ?_, w'⟩
        · rw [← same8] at q
          exact (wipe_some q).1
        · obtain ⟨o, q, _⟩ := T.obj _ _ at7 b hb
          exact (pin b hb o q).2
      cases yes with
      | false => exact back I9 q9
      | true =>
        refine thnF ((keys sh3 G3 C cl feet).run _ sh9 st8 G9 _ I9 q9) fun ku sh10 ⟨yk, G10, I10, rk, q10⟩ => ?_
        refine thnF ((vals sh3 G3 C cl feet).run _ sh10 st8 G10 _ I10 q10) fun vu sh11 ⟨yv, G11, I11, rv, kvs, k, b, ek, hb, hD, few, nx⟩ => ?_
        subst ek
        obtain rfl : ku = .ref b := rk
        exact put_tup (X := X.blk sh3 G3 scope (compEnvC scope cl C X.env) feet) roomy I11 hD few hb rv fun sh12 I12 => back I12 nx
  show codeAny _ _ (.compStart (.DictComp kx vx [⟨tg, iter, ifs, 0⟩] scope pos) 0 (.ref it) (.ref sh2.heap.objs.size) (compEnvC scope (cellsFrom (sh2.heap.push { cls := .type "dict", data := .dict #[] }).objs.size.succ scope.names (cloFrom X.env.cells scope.names [])) (sh2.heap.push { cls := .type "dict", data := .dict #[] }).objs.size X.env)) _ _
  rw [heap3] at eC ecl
  subst e3
  subst e4 ecl eC
  exact codeAny_compStart_dict loop (T.self X.A 0 _ _ _ at4 loop)
end
theorem sw_trueD {kx vx : Expr} {gs : List Comprehension} {scope : Scope} {pos py : Pos} {y : Str} {l : Nat} {env : Env} (h1 : env.scope.kind = ScopeKind.function) (h2 : List.lookup y env.scope.names = some NameKind.local) (h3 : (py.line == pos.line) = true)
   (h4 : (scope.names.any fun x => match x with | (n, k) => n == y && (k == NameKind.local || k == NameKind.cell)) = false) : swapsWith (.DictComp kx vx gs scope pos) (some (.Name y py)) l env = pure true := sw_true (elt := kx) (gs := gs) (l := l) h1 h2 h3 h4
end HR
set_option maxRecDepth 100000
set_option maxHeartbeats 4000000
/-! a + b of tuples, a empty or not, b not empty; calls by one of two rules -/
namespace HR
open PySem PySem.Spec PyProof.Rows L2
def rCatTx (K : PySem.W.Frag) : R2 := fun x y H Q => ∃ (a b : Addr) (xs ys : List V), x = .ref a ∧ y = .ref b ∧ SqT K H a xs ∧ SqT K H b ys ∧ ys ≠ [] ∧ xs.length + ys.length ≤ sizeLine ∧ (xs = [] → Q (.ref b) H) ∧ (xs ≠ [] → ∀ p : Addr, H p = none → Q (.ref p) (upd H p (.tup (xs ++ ys))))
theorem op_catTx {X : Cx} {K : PySem.W.Frag} (hK : X.K = K := by rfl) : OpR X (binaryOp .Add) (rCatTx K) := by
  subst hK
  intro pins s σ H x y v u Q I rx ry h
  obtain ⟨a, b, xs, ys, rfl, rfl, ha, hb, ny, few, q0, q1⟩ := h
  cases xs with
  | cons x0 xr => exact op_catT pins s σ H _ _ v u Q I rx ry ⟨a, b, _, ys, rfl, rfl, ha, hb, List.cons_ne_nil _ _, few, fun e => absurd e ny, fun _ => q1 (List.cons_ne_nil _ _)⟩
  | nil =>
    cases rx
    cases ry
    obtain ⟨i1, v1, t1, _⟩ := I.tuple ha
    obtain ⟨i2, v2, t2, _⟩ := I.tuple hb
    have e1 : i1 = [] := List.eq_nil_of_length_eq_zero (by rw [← v1.length]; rfl)
    subst e1
    refine wpAny_binaryOp_concat t1.typeIs t2.typeIs noFill_tuple_add seq_tuple_add ?_
    obtain ⟨⟨c1, dd1, da1, sl1⟩, g1, k1, n1, d1⟩ := id t1
    obtain ⟨⟨c2, dd2, da2, sl2⟩, g2, k2, n2, d2⟩ := id t2
    dsimp only at k1 k2 d1 d2
    subst k1 k2 d1 d2
    exact call_meetsIn F.slot_tuple_add t1.typeIs F.entry_tuple_add (F.args_tuple_add_2 _ _) ((tuple_addW0 a b #[] _ n1 n2 dd1 dd2 sl1 sl2 rfl).inModel _ _) ⟨g1, g2, ⟨.ref b, H, I, rfl, q0 rfl⟩⟩
theorem cr_or {X : Cx} {f : Value} {r1 r2 : List V → Hp → VK → Prop} (h1 : CallR X f r1) (h2 : CallR X f r2) : CallR X f (fun vs H Q => r1 vs H Q ∨ r2 vs H Q) := by
  intro pins s σ H vs us Q I r h
  rcases h with h | h
  · exact h1 pins s σ H vs us Q I r h
  · exact h2 pins s σ H vs us Q I r h
end HR
set_option maxRecDepth 100000
set_option maxHeartbeats 4000000
/-! tuple(a list), the object told too; dict(such a tuple of pairs) -/
namespace HR
open PySem PySem.Spec PyProof.Rows L2
section
variable {X : Cx}
/-- tuple(a list): a tuple that has no attributes of its own -/
def rTupF (K : PySem.W.Frag) : List V → Hp → VK → Prop := fun xs H Q => ∃ (p : Addr) (ys : List V), xs = [.ref p] ∧ SqL K H p ys ∧ ∀ (l : Addr) (o : Obj), o.cls = .type "tuple" → o.dict = none → H l = none → Q (.ref l) (upd H l (.frz o (.tup ys)))
theorem cr_tupF {K : PySem.W.Frag} (hK : X.K = K := by rfl) : CallR X (.type "tuple") (rTupF K) := by
  subst hK
  intro pins s σ H xs us Q I rx h
  obtain ⟨p, ys, rfl, hs, q⟩ := h
  rw [Vals.ref1 rx]
  obtain ⟨its, rv, hl, few⟩ := I.list hs
  have len := rv.length
  refine call_tuple_list hl.isList (fun h' keep => ?_) (by rw [List.size_toArray, ← len]; exact few)
  have I1 : Inv X pins σ H { s with heap := h', toks := s.toks } := I.kept keep
  refine ⟨.ref h'.objs.size, upd H h'.objs.size (.frz { cls := .type "tuple", data := .seq its.toArray } (.tup ys)), I1.laid (t' := s.toks) (fun b o q => Heap.get?_push_of_some _ q) (Nat.le_refl _) ⟨Heap.get?_push_size _ rfl, few, its, rv, ⟨_, Heap.get?_push_size _ rfl, rfl, _, rfl⟩⟩, rfl, q _ _ rfl rfl (I1.hok.fresh (Nat.le_refl _))⟩
/-- dict(a tuple of pairs) -/
def rDictF (K : PySem.W.Frag) : List V → Hp → VK → Prop := fun xs H Q => ∃ (a : Addr) (o : Obj) (ps : List Addr) (kvs : List (L2.Key × V)), xs = [.ref a] ∧ H a = some (.frz o (.tup (ps.map V.ref))) ∧ o.dict = none ∧ Paired (fun p kv => SqT K H p [kV kv.1, kv.2]) ps kvs ∧
  ∀ p, H p = none → Q (.ref p) (upd H p (.dK (mergeK [] kvs)))
theorem key_rel {k : L2.Key} {u : Value} (h : RelV (kV k) u) : keyIs k u = true := by
  cases k with
  | inl i =>
    obtain ⟨t, rfl⟩ := h
    exact decide_eq_true rfl
  | inr x =>
    obtain ⟨t, rfl⟩ := h
    exact decide_eq_true rfl
theorem pairs_told {pins : List (Addr × Obj)} {σ : L2.St} {H : Hp} {s : Shared} (I : Inv X pins σ H s) : ∀ {ps : List Addr} {kvs : List (L2.Key × V)}, Paired (fun p kv => SqT X.K H p [kV kv.1, kv.2]) ps kvs →
    ∃ (us : List Value) (vs : List (L2.Key × Value)), KV kvs vs ∧ us.length = ps.length ∧ vs.length = ps.length ∧ ∀ (j : Nat) (p : Addr) (u : Value) (kv : L2.Key × Value), ps[j]? = some p → us[j]? = some u → vs[j]? = some kv → keyIs kv.1 u = true ∧ IsTup s.heap p #[u, kv.2]
  | _, _, .nil => ⟨[], [], .nil, rfl, rfl, fun j p u kv h => by simp at h⟩
  | _, _, .cons (a := p) (b := kv) (l₁ := ps) (l₂ := kvs) h r => by
    obtain ⟨us, vs, k, l1, l2, w⟩ := pairs_told I r
    obtain ⟨its, rv, t, _⟩ := I.tuple h
    obtain ⟨u, v, rfl, ru, rw'⟩ := vals2 rv
    refine ⟨u :: us, (kv.1, v) :: vs, .cons ⟨rfl, rw'⟩ k, by simp [l1], by simp [l2], fun j q x y h1 h2 h3 => ?_⟩
    cases j with
    | zero =>
      cases h1
      cases h2
      cases h3
      exact ⟨key_rel ru, t⟩
    | succ j => exact w j q x y (by simpa using h1) (by simpa using h2) (by simpa using h3)
theorem cr_dictF {K : PySem.W.Frag} (hc : X.calm = true) (hK : X.K = K := by rfl) : CallR X (.type "dict") (rDictF K) := by
  subst hK
  intro pins s σ H xs us Q I rx h
  obtain ⟨a, o, ps, kvs, rfl, ha, hd, pr, q⟩ := h
  rw [Vals.ref1 rx]
  obtain ⟨g, few, its, rv, t⟩ := I.hok a _ ha
  obtain ⟨us, vs, kv, l1, l2, w⟩ := pairs_told I pr
  have li := rv.length
  rw [List.length_map] at li few
  obtain ⟨o2, g2, c2, n, d2⟩ := t
  rw [g] at g2
  cases g2
  have lz : (List.zip us (vs.map Prod.snd)).length = ps.length := by rw [List.length_zip, List.length_map, l1, l2, Nat.min_self]
  refine call_dict_pairs (knd := mixKind X.prog X.w) (kvs := vs) (PairArg.tuple a its.toArray (fun j => ps.getD j 0) (List.zip us (vs.map Prod.snd))) (I.ok.hd hc) ⟨⟨o, n, g, c2, hd, d2⟩, by rw [List.size_toArray, lz, ← li], fun j k v hj => ?_⟩ ⟨by rw [lz, l2], fun i key v hj => ?_⟩ (by rw [lz]; exact few) fun h' tk dd keep => ?_
  · obtain ⟨h1, h2⟩ := List.getElem?_zip_eq_some.mp hj
    have hjl : j < ps.length := by rw [← l1]; exact (List.getElem?_eq_some_iff.mp h1).1
    rw [List.getElem?_map] at h2
    obtain ⟨y, hy, rfl⟩ := Option.map_eq_some_iff.mp h2
    have hp : ps[j]? = some (ps.getD j 0) := by rw [List.getD_eq_getElem?_getD, List.getElem?_eq_getElem hjl]; rfl
    obtain ⟨u, hu, ru⟩ := rv.get (i := j) (x := V.ref (ps.getD j 0)) (by rw [List.getElem?_map, hp]; rfl)
    have eu : u = .ref (ps.getD j 0) := ru
    subst eu
    refine ⟨by simpa using hu, .inl ?_⟩
    exact (w j _ _ _ hp h1 hy).2
  · obtain ⟨h1, h2⟩ := List.getElem?_zip_eq_some.mp hj
    have hjl : i < ps.length := by rw [← l1]; exact (List.getElem?_eq_some_iff.mp h1).1
    rw [List.getElem?_map] at h2
    obtain ⟨y, hy, rfl⟩ := Option.map_eq_some_iff.mp h2
    exact ⟨y.1, hy, (w i _ _ _ (List.getElem?_eq_getElem hjl) h1 hy).1⟩
  · have hz : (mergeK [] kvs).length ≤ sizeLine := Nat.le_trans (length_mergeK kvs []) (by rw [← Paired.length pr]; simpa using few)
    have hs : (s.heap.objs.size == sysModules) = false := by
      have := I.big
      exact beq_false_of_ne (Nat.ne_of_gt this)
    exact ⟨.ref s.heap.objs.size, upd H s.heap.objs.size (.dK (mergeK [] kvs)), I.laid (t' := tk) (fun b o q => keep b o (by simp) q) (Nat.le_refl _) (dk_new hz hs (KV.merge kv .nil) dd), rfl, q _ (I.hok.fresh (Nat.le_refl _))⟩
/-- repr(True) -/
theorem call_reprBl (gd : X.A.guards = some []) (hu : X.A.units + 70 < cLine) : CallR X (.builtin "repr") (fun xs H Q => ∃ b, xs = [.bl b] ∧ Q (.str (PyData.bool b).shown) H) := by
  intro pins s σ H xs us Q I r h
  obtain ⟨b, rfl, q⟩ := h
  obtain ⟨u, rfl, ru⟩ := vals1 r
  have e : u = .bool b := ru
  subst e
  have e2 : (PyData.bool b).shown = if b = true then Str.ofString "True" else Str.ofString "False" := by
    simp only [PyData.shown]
  rw [e2] at q
  exact PySem.P.repr_of_bool ⟨.str _, H, I.tok _, ⟨_, rfl⟩, q⟩
end
end HR
set_option maxRecDepth 100000
set_option maxHeartbeats 4000000
/-! {text for .. if .. for ..} -/
namespace SC
open PySem PySem.Spec PyProof.Rows L2 TSet
abbrev tests (ifs : List Expr) (env : Env) : Sem Bool := forIn ifs true fun c r => if r = true then (do
  let ok ← PySem.isTrue c env (eval c env)
  pure (ForInStep.yield ok)) else pure (ForInStep.yield r)
section
variable {prog : Program} {w : World} {A : Around} {R : Result → Shared → Prop} {s : Shared} {elt t0 i0 t1 i1 : Expr} {ifs0 ifs1 : List Expr} {scope : Scope} {pos : Pos} {it acc : Value} {env : Env}
theorem turn_out : compTurn (.SetComp elt [⟨t0, i0, ifs0, 0⟩, ⟨t1, i1, ifs1, 0⟩] scope pos) 0 it acc env =
    (standAt i0.pos >>= fun _ => pyNext it >>= fun r => match r with
      | none => pure (Fin.done Flow.next)
      | some v => letOwnedTupleGo t0 it v >>= fun _ => assign t0 env v >>= fun _ => tests ifs0 env >>= fun ok =>
        if ok = true then eval i1 env >>= fun x => standAt i1.pos >>= fun _ => foldedSetIterable i1 env x >>= fun x => holding [x] (pyIter x) >>= fun u => runOwn (.compStart (.SetComp elt [⟨t0, i0, ifs0, 0⟩, ⟨t1, i1, ifs1, 0⟩] scope pos) 1 u acc env) env >>= fun _ => PySem.again (.compLoop (.SetComp elt [⟨t0, i0, ifs0, 0⟩, ⟨t1, i1, ifs1, 0⟩] scope pos) 0 it acc env)
        else PySem.again (.compLoop (.SetComp elt [⟨t0, i0, ifs0, 0⟩, ⟨t1, i1, ifs1, 0⟩] scope pos) 0 it acc env)) := rfl
theorem turn_in : compTurn (.SetComp elt [⟨t0, i0, ifs0, 0⟩, ⟨t1, i1, ifs1, 0⟩] scope pos) 1 it acc env =
    (standAt i1.pos >>= fun _ => pyNext it >>= fun r => match r with
      | none => pure (Fin.done Flow.next)
      | some v => letOwnedTupleGo t1 it v >>= fun _ => assign t1 env v >>= fun _ => tests ifs1 env >>= fun ok =>
        if ok = true then (eval elt env >>= fun v => standAt elt.pos >>= fun _ => call (.builtin "set.add") [acc, v] >>= fun _ => pure ()) >>= fun _ => PySem.again (.compLoop (.SetComp elt [⟨t0, i0, ifs0, 0⟩, ⟨t1, i1, ifs1, 0⟩] scope pos) 1 it acc env)
        else PySem.again (.compLoop (.SetComp elt [⟨t0, i0, ifs0, 0⟩, ⟨t1, i1, ifs1, 0⟩] scope pos) 1 it acc env)) := rfl
theorem loop_in (I : Nat → Shared → Prop) (hyp : ∀ n s, I n s → wpAny (model prog w) A (pyNext it) (fun r s1 => match r with
      | none => R (.ok .next) s1
      | some v => wpAny (model prog w) A (letOwnedTupleGo t1 it v) (fun _ s2 => wpAny (model prog w) A (assign t1 env v) (fun _ s3 => wpAny (model prog w) A (tests ifs1 env) (fun ok s4 =>
          if ok = true then wpAny (model prog w) A (eval elt env) (fun x s5 => wpAny (model prog w) A (call (.builtin "set.add") [acc, x]) (fun _ s6 => ∃ m, m < n ∧ I m s6) (fun _ _ => False) s5) (fun _ _ => False) s4
          else ∃ m, m < n ∧ I m s4) (fun _ _ => False) s3) (fun _ _ => False) s2) (fun _ _ => False) s1) (fun _ _ => False) s) (n : Nat) (hI : I n s) :
    codeAny (model prog w) A (.compLoop (.SetComp elt [⟨t0, i0, ifs0, 0⟩, ⟨t1, i1, ifs1, 0⟩] scope pos) 1 it acc env) R s := by
  refine codeAny_loop rfl I (fun n s hI => ?_) n hI
  show wpAny _ _ ((compTurn (.SetComp elt [⟨t0, i0, ifs0, 0⟩, ⟨t1, i1, ifs1, 0⟩] scope pos) 1 it acc env).onRaise _) _ _ _
  refine wpAny_onRaise ?_
  rw [turn_in]
  refine wpAny_bind (wpAny_standAt ?_)
  refine wpAny_bind (thnF (hyp n s hI) fun r s1 h1 => ?_)
  cases r with
  | none => exact wpAny_pure h1
  | some v =>
    refine wpAny_bind (thnF h1 fun _ s2 h2 => ?_)
    refine wpAny_bind (thnF h2 fun _ s3 h3 => ?_)
    refine wpAny_bind (thnF h3 fun ok s4 h4 => ?_)
    cases ok with
    | false => exact wpAny_pure ⟨rfl, h4⟩
    | true =>
      refine wpAny_bind (wpAny_bind (thnF h4 fun x s5 h5 => ?_))
      refine wpAny_bind (wpAny_standAt ?_)
      refine wpAny_bind (thnF h5 fun _ s6 h6 => ?_)
      exact wpAny_pure (wpAny_pure ⟨rfl, h6⟩)
theorem loop_out (plain : ∀ x, foldedSetIterable i1 env x = pure x) (I : Nat → Shared → Prop) (hyp : ∀ n s, I n s → wpAny (model prog w) A (pyNext it) (fun r s1 => match r with
      | none => R (.ok .next) s1
      | some v => wpAny (model prog w) A (letOwnedTupleGo t0 it v) (fun _ s2 => wpAny (model prog w) A (assign t0 env v) (fun _ s3 => wpAny (model prog w) A (tests ifs0 env) (fun ok s4 =>
          if ok = true then wpAny (model prog w) A (eval i1 env) (fun x s5 => wpAny (model prog w) A (pyIter x) (fun u s6 => codeAny (model prog w) A (.compStart (.SetComp elt [⟨t0, i0, ifs0, 0⟩, ⟨t1, i1, ifs1, 0⟩] scope pos) 1 u acc env) (fun r s7 => match r with | .ok _ => ∃ m, m < n ∧ I m s7 | .error _ => False) s6) (fun _ _ => False) s5) (fun _ _ => False) s4
          else ∃ m, m < n ∧ I m s4) (fun _ _ => False) s3) (fun _ _ => False) s2) (fun _ _ => False) s1) (fun _ _ => False) s) (n : Nat) (hI : I n s) :
    codeAny (model prog w) A (.compLoop (.SetComp elt [⟨t0, i0, ifs0, 0⟩, ⟨t1, i1, ifs1, 0⟩] scope pos) 0 it acc env) R s := by
  refine codeAny_loop rfl I (fun n s hI => ?_) n hI
  show wpAny _ _ ((compTurn (.SetComp elt [⟨t0, i0, ifs0, 0⟩, ⟨t1, i1, ifs1, 0⟩] scope pos) 0 it acc env).onRaise _) _ _ _
  refine wpAny_onRaise ?_
  rw [turn_out]
  refine wpAny_bind (wpAny_standAt ?_)
  refine wpAny_bind (thnF (hyp n s hI) fun r s1 h1 => ?_)
  cases r with
  | none => exact wpAny_pure h1
  | some v =>
    refine wpAny_bind (thnF h1 fun _ s2 h2 => ?_)
    refine wpAny_bind (thnF h2 fun _ s3 h3 => ?_)
    refine wpAny_bind (thnF h3 fun ok s4 h4 => ?_)
    cases ok with
    | false => exact wpAny_pure ⟨rfl, h4⟩
    | true =>
      refine wpAny_bind (thnF h4 fun x s5 h5 => ?_)
      refine wpAny_bind (wpAny_standAt ?_)
      rw [plain]
      refine wpAny_bind (wpAny_pure ?_)
      refine wpAny_bind (wpAny_holding (thnF h5 fun u s6 h6 => ?_))
      refine wpAny_bind (wpAny_runOwn (codeAny_mono h6 fun r s7 h7 => ?_))
      cases r with
      | error e => exact h7.elim
      | ok f => exact wpAny_pure ⟨rfl, h7⟩
theorem start_at {d : Nat} (hd : ((clausesOf (.SetComp elt [⟨t0, i0, ifs0, 0⟩, ⟨t1, i1, ifs1, 0⟩] scope pos))[d]?.elim false fun x => x.is_async != 0) = false)
    (h : codeAny (model prog w) A (.compLoop (.SetComp elt [⟨t0, i0, ifs0, 0⟩, ⟨t1, i1, ifs1, 0⟩] scope pos) d it acc env) R s)
    (h2 : wpAny (model prog w) A (pyIter it) (fun it' s' => codeAny (model prog w) A (.compLoop (.SetComp elt [⟨t0, i0, ifs0, 0⟩, ⟨t1, i1, ifs1, 0⟩] scope pos) d it' acc env) R s') (fun _ _ => False) s) :
    codeAny (model prog w) A (.compStart (.SetComp elt [⟨t0, i0, ifs0, 0⟩, ⟨t1, i1, ifs1, 0⟩] scope pos) d it acc env) R s := by
  refine codeAny_of_tree ?_
  show wpAny _ _ ((compStart (.SetComp elt [⟨t0, i0, ifs0, 0⟩, ⟨t1, i1, ifs1, 0⟩] scope pos) d it acc env).onRaise _) _ _ _
  refine wpAny_onRaise ?_
  unfold compStart
  rw [hd, if_neg Bool.false_ne_true]
  refine wpAny_bind (wpAny_askSetting ?_)
  by_cases g : (model prog w).w.params.followText "comprehension-iter-twice" = true
  · rw [if_pos g]
    exact wpAny_pure ⟨rfl, h⟩
  · rw [if_neg g]
    refine wpAny_bind (wpAny_rule ?_)
    cases hg : (clausesOf (.SetComp elt [⟨t0, i0, ifs0, 0⟩, ⟨t1, i1, ifs1, 0⟩] scope pos))[d]? with
    | none => exact wpAny_bind (thnF h2 fun it' s' h3 => wpAny_pure ⟨rfl, h3⟩)
    | some g => exact wpAny_bind (wpAny_standAt (wpAny_bind (thnF h2 fun it' s' h3 => wpAny_pure ⟨rfl, h3⟩)))
end
end SC
set_option maxRecDepth 100000
set_option maxHeartbeats 4000000
namespace SC
open PySem PySem.Spec PyProof.Rows L2 TSet Froz
section
variable {P : Program} {w : World} {A : Around} {E : Value → Shared → Prop} {s : Shared}
theorem set_add_txt {a : Addr} {D : SD} {l : List Str} {k : Str} {u : Tok} {Q : Value → Shared → Prop} (at_ : s.heap.get? a = some (sObj "set" D)) (Z : Txs P w D l) (few : l.length + 1 < scanBound)
    (h : ∀ h' tk D' l', Heap.SameBut a s.heap h' → h'.get? a = some (sObj "set" D') → Txs P w D' l' → (∀ z, z ∈ l' ↔ z = k ∨ z ∈ l) → l'.length ≤ l.length + 1 → Q .none { s with heap := h', toks := tk }) :
    wpAny (model P w) A (call (.builtin "set.add") [.ref a, .str k u]) Q E s := by
  refine call_meetsIn (S := fun A R s => s.heap.get? a = some (sObj "set" D) ∧ ∀ h' tk D' l', Heap.SameBut a s.heap h' → h'.get? a = some (sObj "set" D') → Txs P w D' l' → (∀ z, z ∈ l' ↔ z = k ∨ z ∈ l) → l'.length ≤ l.length + 1 → R (.ok (.ret .none)) { s with heap := h', toks := tk }) F.slot_set_add ⟨_, at_, rfl⟩ F.entry_set_add (F.args_set_add_2 _ _) (fun A R s ⟨g, q⟩ => ?_) ⟨at_, fun h' tk D' l' a b c d e => h h' tk D' l' a b c d e⟩
  unfold Builtin.«set.add» Builtin.Frozenset.oneOther
  have add_ : ∀ {A' : Around} {E' : Value → Shared → Prop} {Q' : Bool → Shared → Prop}, (∀ b h' tk D' l', Heap.SameBut a s.heap h' → h'.get? a = some (sObj "set" D') → Txs P w D' l' → (∀ z, z ∈ l' ↔ z = k ∨ z ∈ l) → l'.length ≤ l.length + 1 → Q' b { s with heap := h', toks := tk }) → wpAny (model P w) A' (setAdd a (.str k u)) Q' E' s := fun q' => by
    unfold setAdd
    refine wpAny_holding (wpAny_bind ((strKind P w).pyHash (k := k) (is_str k u) ?_))
    exact add_any (s := { s with toks := s.toks + 1 }) g Z few fun b h' D' l' c d e f g => q' b h' _ D' l' c d e f g
  wp_walk using add_
  exact fun b h' tk D' l' c d e f g => wpAny_pure (q h' tk D' l' c d e f g)
theorem new_set {Q : Value → Shared → Prop} (h : Q (.ref s.heap.objs.size) { s with heap := s.heap.push (freshSet w) }) : wpAny (model P w) A (newSet (.type "set")) Q E s := by
  unfold newSet setsByText
  refine wpAny_bind (wpAny_bind (wpAny_askSetting ?_))
  refine wpAny_pure ?_
  exact wpAny_newObj_type h
end
/-- {elt for .. if .. for ..}, texts -/
def tSc2 (P : Program) (w : World) (wi : TI) (g : TG) (tt : TT) (wi1 : TI) (g1 : TG) (tt1 : TT) (te : TE) (vs vs1 : List Nat) : TE := fun σ H Q => wi σ H fun J H1 => ∀ D, H1 D = none → ∃ W : Nat → Nat → Hp → Prop, (∃ m, W 0 m (upd H1 D (SetX P w D []))) ∧ ∀ i m H, W i m H →
  (J.stop i H ∧ Q (.ref D) H) ∨ (J.go i H ∧ ∃ Nx : Hp → Prop, (∀ H', Nx H' → ∃ m', m' < m ∧ W (i + 1) m' H') ∧ ∀ x H', J.yld i H x H' → g x (wipe σ vs) H' fun σ2 H2 => wipe σ2 vs = wipe σ vs ∧ tt σ2 H2 fun b H3 =>
    if b = true then wi1 σ2 H3 fun J1 H4 => ∃ W1 : Nat → Nat → Hp → Prop, (∃ m, W1 0 m H4) ∧ ∀ j k H, W1 j k H →
      (J1.stop j H ∧ Nx H) ∨ (J1.go j H ∧ ∃ Nx1 : Hp → Prop, (∀ H', Nx1 H' → ∃ k', k' < k ∧ W1 (j + 1) k' H') ∧ ∀ x H', J1.yld j H x H' → g1 x (wipe σ2 vs1) H' fun σ3 H5 => wipe σ3 vs1 = wipe σ2 vs1 ∧ tt1 σ3 H5 fun b H6 =>
        if b = true then te σ3 H6 fun y H7 => ∃ l z, y = .str z ∧ H7 D = some (SetX P w D l) ∧ l.length < 64 ∧ ∀ l' : List Str, l'.Nodup → (∀ q, q ∈ l' ↔ q = z ∨ q ∈ l) → l'.length ≤ l.length + 1 → Nx1 (upd H7 D (SetX P w D l'))
        else Nx1 H6)
    else Nx H3)
section
variable {X : Cx} {elt tg iter tg1 iter1 : Expr} {ifs ifs1 : List Expr} {scope : Scope} {own : List (Str × Nat)} {vs1 : List Nat} {wi wi1 : TI} {g g1 : TG} {tt tt1 : TT} {te : TE}
theorem pe_sc2 {pos : Pos} (calm : X.calm = true) (diff : X.N.Nodup) (walk : PI X tg iter wi) (blk : BlkOk X.N X.env.scope scope own) (sub : ∀ i ∈ vs1, i ∈ own.map (·.2))
    (aim : ∀ (sh : Shared) (G : Hp) (C : Addr) (cl : List (Str × Addr)) (feet : List Addr), PG (X.blk sh G scope (compEnvC scope cl C X.env) feet) tg g)
    (tests : ∀ (sh : Shared) (G : Hp) (C : Addr) (cl : List (Str × Addr)) (feet : List Addr), PTs (X.blk sh G scope (compEnvC scope cl C X.env) feet) ifs tt)
    (walk1 : ∀ (sh : Shared) (G : Hp) (C : Addr) (cl : List (Str × Addr)) (feet : List Addr), PI (X.blk sh G scope (compEnvC scope cl C X.env) feet) tg1 iter1 wi1)
    (aim1 : ∀ (sh : Shared) (G : Hp) (C : Addr) (cl : List (Str × Addr)) (feet : List Addr), PG (X.blk sh G scope (compEnvC scope cl C X.env) feet) tg1 g1)
    (tests1 : ∀ (sh : Shared) (G : Hp) (C : Addr) (cl : List (Str × Addr)) (feet : List Addr), PTs (X.blk sh G scope (compEnvC scope cl C X.env) feet) ifs1 tt1)
    (elts : ∀ (sh : Shared) (G : Hp) (C : Addr) (cl : List (Str × Addr)) (feet : List Addr), PE (X.blk sh G scope (compEnvC scope cl C X.env) feet) elt te)
    (plain : ∀ x, foldedSetIterable iter X.env x = pure x := by intro _; rfl) (plain1 : ∀ env x, foldedSetIterable iter1 env x = pure x := by intro _ _; rfl) :
    PE X (.SetComp elt [⟨tg, iter, ifs, 0⟩, ⟨tg1, iter1, ifs1, 0⟩] scope pos) (tSc2 X.prog X.w wi g tt wi1 g1 tt1 te (own.map (·.2)) vs1) := by
  refine ⟨fun pp sh0 st G0 Q I0 ask => ?_⟩
  rw [arm_eval_SetComp]
  have frees : ∀ y ∈ scope.names, y.2 = .free → ∃ c, X.env.cells.lookup y.1 = some c := fun y hy e => (blk.free y hy e).elim (fun k => I0.ok.has _ (.inl k)) fun k => I0.ok.has _ (.inr k)
  refine wpAny_comprehension_free (use := none) rfl plain (closure_ok frees) blk.kind (fun y hy e => by rw [blk.uniq y hy, e]) (thn (walk.run pp sh0 st G0 _ I0 ask) fun xv sh1 came => thn came fun itv sh2 more => ?_)
  obtain ⟨it, feet, ten, J, G2, rfl, I2, T, at0, free2, turn⟩ := more
  refine new_set (newEnv_comp ?_)
  have new : G2 sh2.heap.objs.size = none := I2.hok.fresh (Nat.le_refl _)
  obtain ⟨W, ⟨m0, w0⟩, step⟩ := turn _ new
  obtain ⟨G3, eG3⟩ : ∃ G3, G3 = upd G2 sh2.heap.objs.size (SetX X.prog X.w sh2.heap.objs.size []) := ⟨_, rfl⟩
  rw [← eG3] at w0
  obtain ⟨sh3, e3⟩ : ∃ sh3 : Shared, sh3 = { sh2 with heap := sh2.heap.push (freshSet X.w) } := ⟨_, rfl⟩
  have I3 : Inv X pp st G3 sh3 := by
    rw [e3, eG3]
    exact I2.laid (t' := sh2.toks) (fun b o q => Heap.get?_push_of_some _ q) (Nat.le_refl _) (setX_new ⟨(#[], 0, .fresh 0 0 (!X.w.params.followText "set-order")), Heap.get?_push_size _ rfl, Txs.fresh⟩)
  have heap3 : sh3.heap = sh2.heap.push (freshSet X.w) := by rw [e3]
  have low : ∀ b ∈ feet, b < sh2.heap.objs.size := fun b hb => Heap.lt_size (T.obj _ _ at0 b hb).choose_spec.1
  have free3 : ∀ b ∈ feet, FpOk X pp G3 b ∧ b < sh3.heap.objs.size := fun b hb => ⟨⟨by rw [eG3, upd_ne (Nat.ne_of_lt (low b hb))]; exact (free2 b hb).1, (free2 b hb).2⟩, by rw [heap3, Heap.size_push]; exact Nat.lt_succ_of_lt (low b hb)⟩
  have at3 : ten 0 sh3.heap := T.keep _ _ _ at0 fun b _ o q => by rw [heap3]; exact Heap.get?_push_of_some _ q
  have I4 := block_start I3 blk diff free3
  obtain ⟨C, eC⟩ : ∃ C, C = sh3.heap.objs.size := ⟨_, rfl⟩
  obtain ⟨cl, ecl⟩ : ∃ cl, cl = cellsFrom (sh3.heap.objs.size + 1) scope.names (cloFrom X.env.cells scope.names []) := ⟨_, rfl⟩
  obtain ⟨sh4, e4⟩ : ∃ sh4 : Shared, sh4 = { sh3 with heap := pushCells (sh3.heap.push { cls := .type "dict", data := .dict #[] }) scope.names } := ⟨_, rfl⟩
  rw [← ecl, ← eC, ← e4] at I4
  have at4 : ten 0 sh4.heap := T.keep _ _ _ at3 fun b _ o q => by rw [e4]; exact pushCells_keeps _ _ _ _ (Heap.get?_push_of_some _ q)
  have none3 : ∀ b ∈ feet, G3 b = none := fun b hb => (free3 b hb).1.1
  obtain ⟨Y, eY⟩ : ∃ Y, Y = X.blk sh3 G3 scope (compEnvC scope cl C X.env) feet := ⟨_, rfl⟩
  rw [← eY] at I4
  have held : ∀ {st' : L2.St} {G' : Hp} {sh' : Shared}, Inv Y [] st' G' sh' → (∀ b ∈ feet, G' b = none) → ∀ b ∈ feet, FpOk Y [] G' b := by
    subst eY
    exact fun {_ _ _} I' no b hb => ⟨no b hb, (I'.ok.exf b hb).1, I'.ok.exfs b hb, .inl hb, fun x c q => (I'.ok.exf b hb).2 x c q, fun p hp => absurd (show p ∈ ([] : List (Addr × Obj)) ++ [] from hp) (by simp)⟩
  have locC : (compEnvC scope cl C X.env).locals = C := rfl
  have loop : codeAny (model X.prog X.w) X.A (.compLoop (.SetComp elt [⟨tg, iter, ifs, 0⟩, ⟨tg1, iter1, ifs1, 0⟩] scope pos) 0 (.ref it) (.ref sh2.heap.objs.size) (compEnvC scope cl C X.env)) (compPost (model X.prog X.w) X.A X.xe none (EP X pp st Q) (.ref sh2.heap.objs.size) C) sh4 := by
    subst eY
    refine loop_out (plain1 _) (fun left sh => ∃ i G, Inv (X.blk sh3 G3 scope (compEnvC scope cl C X.env) feet) [] (wipe st (own.map (·.2))) G sh ∧ ten i sh.heap ∧ (∀ b ∈ feet, G b = none) ∧ W i left G) ?_ m0 ⟨0, G3, I4, at4, none3, w0⟩
    rintro left sh5 ⟨i, G5, I5, at5, no5, w5⟩
    rcases step i left G5 w5 with ⟨over, good⟩ | ⟨on, Nx, fewer, go⟩
    · -- the walk is over
      refine thnF (T.done (X.blk sh3 G3 scope (compEnvC scope cl C X.env) feet) rfl rfl rfl calm i [] sh5 _ G5 (fun _ _ => False) I5 (held I5 no5) at5 over) fun r sh6 ⟨er, I6⟩ => ?_
      subst er
      have I7 : Inv X pp st G5 sh6 := I3.call' (ch := feet) I6.os I6.base I6.hok I6.bare fun b hb => let f := (free3 b hb).1.2; ⟨f.2.2.1, f.1, f.2.2.2.1, f.2.2.2.2⟩
      have noC : G5 C = none := I6.free
      obtain ⟨m, names, _⟩ := I6.loc
      obtain ⟨f0, f1, f2, f3, f4, f5⟩ := I3.fpOk (Nat.le_of_eq eC.symm) noC
      exact ⟨m, names, fun h'' sb => ⟨.ref sh2.heap.objs.size, G5, I7.turned (t' := sh6.toks) (fun b o hb q => (sb.2 b hb).trans q) f0 f1 f3 f4 f5, rfl, good⟩⟩
    · -- one turn
      refine thnF (T.item (X.blk sh3 G3 scope (compEnvC scope cl C X.env) feet) rfl rfl rfl calm i [] sh5 _ G5 (fun _ _ => False) I5 (held I5 no5) at5 on) fun r sh6 ⟨u, er, rest⟩ => ?_
      subst er
      refine thnF rest fun _ sh7 ⟨x, G7, I7, rx, y7, at7, no7⟩ => ?_
      have P7 := I7.pinned (held I7 no7) (T.obj _ _ at7)
      refine thnF ((aim sh3 G3 C cl feet).run _ sh7 _ G7 x u _ P7 rx (go x G7 y7)) fun _ sh8 ⟨st8, G8, I8, same8, q8⟩ => ?_
      refine thnF ((tests sh3 G3 C cl feet).run _ sh8 st8 G8 _ I8 q8) fun yes sh9 ⟨G9, I9, q9⟩ => ?_
      have back : ∀ {st' : L2.St} {sh' : Shared} {G' : Hp}, Inv (X.blk sh3 G3 scope (compEnvC scope cl C X.env) feet) ([] ++ pinsAt feet sh7.heap) st' G' sh' → st'.length = st8.length → (∀ (j : Nat) (v : V), (wipe st8 (own.map (·.2)))[j]? = some (some v) → st'[j]? = some (some v)) → Nx G' →
          ∃ m, m < left ∧ ∃ i G, Inv (X.blk sh3 G3 scope (compEnvC scope cl C X.env) feet) [] (wipe st (own.map (·.2))) G sh' ∧ ten i sh'.heap ∧ (∀ b ∈ feet, G b = none) ∧ W i m G := by
        intro st' sh' G' I' hl hw nx
        obtain ⟨m', less, w'⟩ := fewer G' nx
        have pin : ∀ b ∈ feet, ∀ o, sh7.heap.get? b = some o → sh'.heap.get? b = some o ∧ G' b = none := fun b hb o q => by
          have z := I'.pin (b, o) (List.mem_append_right _ (List.mem_append_right _ (mem_pinsAt hb q)))
          exact ⟨z.1, z.2.1⟩
        have len : (wipe st (own.map (·.2))).length = st'.length := by rw [← same8, wipe_length, hl]
        refine ⟨m', less, i + 1, G', (I'.unpinned (pins := [])).weak len (fun j v q => ?_), T.keep _ _ _ at7 fun b hb o q => (pin b hb o q).1, fun b hb => ?_, w'⟩
        · rw [← same8] at q
          exact hw j v q
        · obtain ⟨o, q, _⟩ := T.obj _ _ at7 b hb
          exact (pin b hb o q).2
      cases yes with
      | false => exact back I9 rfl (fun j v q => (wipe_some q).1) q9
      | true =>
        refine thnF ((walk1 sh3 G3 C cl feet).run _ sh9 st8 G9 _ I9 q9) fun xv1 sh10 came1 => thnF came1 fun itv1 sh11 more1 => ?_
        obtain ⟨it1, feet1, ten1, J1, G11, rfl, I11, T1, at1, free1, W1, ⟨k0, w10⟩, step1⟩ := more1
        have I11w := I11.weak (wipe_length st8 vs1) (fun j v q => (wipe_some q).1)
        have held1 : ∀ {G' : Hp}, (∀ b ∈ feet1, G' b = none) → ∀ b ∈ feet1, FpOk (X.blk sh3 G3 scope (compEnvC scope cl C X.env) feet) ([] ++ pinsAt feet sh7.heap) G' b := fun no b hb => ⟨no b hb, (free1 b hb).2⟩
        have loop1 : codeAny (model X.prog X.w) X.A (.compLoop (.SetComp elt [⟨tg, iter, ifs, 0⟩, ⟨tg1, iter1, ifs1, 0⟩] scope pos) 1 (.ref it1) (.ref sh2.heap.objs.size) (compEnvC scope cl C X.env)) (fun r s7 => match r with
            | .ok _ => ∃ m, m < left ∧ ∃ i G, Inv (X.blk sh3 G3 scope (compEnvC scope cl C X.env) feet) [] (wipe st (own.map (·.2))) G s7 ∧ ten i s7.heap ∧ (∀ b ∈ feet, G b = none) ∧ W i m G
            | .error _ => False) sh11 := by
          refine loop_in (fun k sh => ∃ j G, Inv (X.blk sh3 G3 scope (compEnvC scope cl C X.env) feet) ([] ++ pinsAt feet sh7.heap) (wipe st8 vs1) G sh ∧ ten1 j sh.heap ∧ (∀ b ∈ feet1, G b = none) ∧ W1 j k G) ?_ k0 ⟨0, G11, I11w, at1, fun b hb => (free1 b hb).1, w10⟩
          rintro k sh12 ⟨j, G12, I12, at12, no12, w12⟩
          rcases step1 j k G12 w12 with ⟨over, nx⟩ | ⟨on1, Nx1, fewer1, go1⟩
          · refine thnF (T1.done (X.blk sh3 G3 scope (compEnvC scope cl C X.env) feet) rfl rfl rfl calm j _ sh12 _ G12 (fun _ _ => False) I12 (held1 no12) at12 over) fun r sh13 ⟨er, I13⟩ => ?_
            subst er
            exact back I13 (wipe_length st8 vs1) (fun j v q => by
              obtain ⟨q1, q2⟩ := wipe_some q
              rw [wipe_out fun z => q2 (sub j z)]
              exact q1) nx
          · refine thnF (T1.item (X.blk sh3 G3 scope (compEnvC scope cl C X.env) feet) rfl rfl rfl calm j _ sh12 _ G12 (fun _ _ => False) I12 (held1 no12) at12 on1) fun r sh13 ⟨u1, er, rest1⟩ => ?_
            subst er
            refine thnF rest1 fun _ sh14 ⟨x1, G14, I14, rx1, y14, at14, no14⟩ => ?_
            have P14 := I14.pinned (held1 no14) (T1.obj _ _ at14)
            refine thnF ((aim1 sh3 G3 C cl feet).run _ sh14 _ G14 x1 u1 _ P14 rx1 (go1 x1 G14 y14)) fun _ sh15 ⟨st15, G15, I15, same15, q15⟩ => ?_
            refine thnF ((tests1 sh3 G3 C cl feet).run _ sh15 st15 G15 _ I15 q15) fun yes1 sh16 ⟨G16, I16, q16⟩ => ?_
            have back1 : ∀ {sh' : Shared} {G' : Hp}, Inv (X.blk sh3 G3 scope (compEnvC scope cl C X.env) feet) (([] ++ pinsAt feet sh7.heap) ++ pinsAt feet1 sh14.heap) st15 G' sh' → Nx1 G' →
                ∃ k', k' < k ∧ ∃ j G, Inv (X.blk sh3 G3 scope (compEnvC scope cl C X.env) feet) ([] ++ pinsAt feet sh7.heap) (wipe st8 vs1) G sh' ∧ ten1 j sh'.heap ∧ (∀ b ∈ feet1, G b = none) ∧ W1 j k' G := by
              intro sh' G' I' nx
              obtain ⟨k', less, w'⟩ := fewer1 G' nx
              have pin : ∀ b ∈ feet1, ∀ o, sh14.heap.get? b = some o → sh'.heap.get? b = some o ∧ G' b = none := fun b hb o q => by
                have z := I'.pin (b, o) (List.mem_append_right _ (List.mem_append_right _ (mem_pinsAt hb q)))
                exact ⟨z.1, z.2.1⟩
              have len : (wipe st8 vs1).length = st15.length := by rw [← same15, wipe_length]
              refine ⟨k', less, j + 1, G', I'.unpinned.weak len (fun j v q => ?_), T1.keep _ _ _ at14 fun b hb o q => (pin b hb o q).1, fun b hb => ?_, w'⟩
              · rw [← same15] at q
                exact (wipe_some q).1
              · obtain ⟨o, q, _⟩ := T1.obj _ _ at14 b hb
                exact (pin b hb o q).2
            cases yes1 with
            | false => exact back1 I16 q16
            | true =>
              refine thnF ((elts sh3 G3 C cl feet).run _ sh16 st15 G16 _ I16 q16) fun ku sh17 ⟨yk, G17, I17, rk, l, z, ek, hD, few, nx⟩ => ?_
              subst ek
              obtain ⟨tk, rfl⟩ := rk
              obtain ⟨DD, e, F⟩ := (I17.hok _ _ hD).1
              refine set_add_txt e F (by unfold scanBound; omega) fun h' tk' D' l' same a2 f2 m2 n2 => back1 (d_write (t' := tk') I17 (by rw [hD]; exact True.intro) same ⟨_, a2⟩ (setX_new ⟨D', a2, f2⟩)) (nx l' f2.nd m2 n2)
        exact start_at rfl loop1 (T1.self X.A 0 _ _ _ at1 loop1)
  show codeAny _ _ (.compStart (.SetComp elt [⟨tg, iter, ifs, 0⟩, ⟨tg1, iter1, ifs1, 0⟩] scope pos) 0 (.ref it) (.ref sh2.heap.objs.size) (compEnvC scope (cellsFrom (sh2.heap.push (freshSet X.w)).objs.size.succ scope.names (cloFrom X.env.cells scope.names [])) (sh2.heap.push (freshSet X.w)).objs.size X.env)) _ _
  rw [heap3] at eC ecl
  subst e3
  subst e4 ecl eC
  exact start_at rfl loop (T.self X.A 0 _ _ _ at4 loop)
end
end SC
set_option maxRecDepth 100000
set_option maxHeartbeats 4000000
/-! making an instance by a starred __init__: C(), C(*y), C(*y, *z) -/
namespace QS
open PySem PySem.Spec PyProof.Rows L2 StX
section
variable {X : Cx} {CX : CXT} {k : Nat} {f C : Addr} {sp : Sp} {E : XK} {x : Str} {e e2 : Expr} {te te2 : TE} {p pos q1 q2 : Pos}
theorem pe_make0 (M : Mk X.K C f) (F : FnR X.prog X.w X.K X.mg X.base CX k f sp) (hr : Room (k + 1) X.A) (hg : Gl X x) (hm : X.mg x = some (.ref C)) (hx : Passes CX X E) (hdb : (x == ("__debug__" : Str)) = false := by decide) :
    PE X (.Call (.Name x p) [] [] pos) (tMakeR C sp E tNil) := by
  refine ⟨fun pins s σ H Q I h => ?_⟩
  refine wpAny_Call_Name_kw (ld_glob I hg hm ?_ hdb)
  exact PySem.W.callWith_K0 I.kIn M.kp (run_makeR (us := []) M F hr hx I .nil h)
/-- C(*y): its items -/
def tMakeS (K : PySem.W.Frag) (C : Addr) (sp : Sp) (E : XK) (te : TE) : TE := tMakeR C sp E (tStar K te tNil)
theorem pe_make1 (M : Mk X.K C f) (F : FnR X.prog X.w X.K X.mg X.base CX k f sp) (hr : Room (k + 1) X.A) (hg : Gl X x) (hm : X.mg x = some (.ref C)) (hx : Passes CX X E) (he : PE X e te) (hdb : (x == ("__debug__" : Str)) = false := by decide)
    (hst : starEach [.Starred e q1] X.env = [(true, eval e X.env)] := by rfl) :
    PE X (.Call (.Name x p) [.Starred e q1] [] pos) (tMakeS X.K C sp E te) := by
  refine ⟨fun pins s σ H Q I h => ?_⟩
  refine wpAny_Call_Name_kw (ld_glob I hg hm ?_ hdb)
  refine PySem.W.callWith_S (h₀ := X.base) I.ok.mod.kin M.kp (thn (he.run pins s σ H _ I h) fun v s1 ⟨y, H1, I1, ry, a, xs, ey, hxs, q⟩ => ?_) hst
  subst ey
  obtain rfl : v = Value.ref a := ry
  refine star_any I1 hxs fun us s2 I2 rv => ⟨I2.kIn, run_makeR M F hr hx I2 (vs := xs) rv ?_⟩
  have q : ∀ x dx, H1 x = Option.none → H1 dx = Option.none → dx ≠ x → sp (V.ref x :: (xs ++ [])) (upd (upd H1 dx (.own x)) x (.ins C dx [])) (fun v H2 => v = .non ∧ Q (.ref x) H2) E := q
  rw [List.append_nil] at q
  exact q
theorem args_two {M : Model} {A : Around} {E : Value → Shared → Prop} {s : Shared} {fv : Value} {y z : Bool × Sem Value} {r : List (Bool × Sem Value)} {Q : Args → Shared → Prop} (h : wpAny M A (spliced (y :: z :: r)) (fun vs s' => Q ⟨vs, []⟩ s') E s) : wpAny M A (evalArgs fv true (y :: z :: r) []) Q E s := by
  obtain ⟨b, t⟩ := y
  unfold evalArgs
  cases b <;>
  · show wpAny M A (spliced (_ :: z :: r) >>= _) Q E s
    refine wpAny_bind (thn h fun vs s' h' => ?_)
    exact wpAny_holding (wpAny_bind (wpAny_pure (wpAny_bind (wpAny_pure (wpAny_pure h')))))
theorem pe_make2 (M : Mk X.K C f) (F : FnR X.prog X.w X.K X.mg X.base CX k f sp) (hr : Room (k + 1) X.A) (hg : Gl X x) (hm : X.mg x = some (.ref C)) (hx : Passes CX X E) (he : PE X e te) (he2 : PE X e2 te2) (hdb : (x == ("__debug__" : Str)) = false := by decide) :
    PE X (.Call (.Name x p) [.Starred e q1, .Starred e2 q2] [] pos) (tMakeR C sp E (tStar X.K te (tStar X.K te2 tNil))) := by
  refine ⟨fun pins s σ H Q I h => ?_⟩
  refine wpAny_Call_Name_kw (ld_glob I hg hm ?_ hdb)
  have ha : PA X [.Starred e q1, .Starred e2 q2] (tStar X.K te (tStar X.K te2 tNil)) := pa_star he (pa_star he2 pa_nil)
  exact PySem.W.ks_call rfl (PySem.W.keeps_K M.kp) (args_two (thn (ha.run pos pins s σ H _ I h) fun us s1 ⟨vs, H1, I1, r, q⟩ => ⟨I1.kIn, run_makeR M F hr hx I1 r q⟩))
/-- the class in a variable: v(), v(*y) -/
theorem pe_makeV0 {tf : TE} (hf : PE X (.Name x p) tf) (M : Mk X.K C f) (F : FnR X.prog X.w X.K X.mg X.base CX k f sp) (hr : Room (k + 1) X.A) (hx : Passes CX X E) :
    PE X (.Call (.Name x p) [] [] pos) (fun σ H Q => tf σ H fun y H1 => y = .ref C ∧ tMakeR C sp E tNil σ H1 Q) := by
  refine ⟨fun pins s σ H Q I h => wpAny_Call_Name_kw (thn (hf.run pins s σ H _ I h) fun u s1 ⟨y, H1, I1, ry, e, q⟩ => ?_)⟩
  subst e
  obtain rfl : u = Value.ref C := ry
  exact PySem.W.callWith_K0 I1.kIn M.kp (run_makeR (us := []) M F hr hx I1 .nil q)
theorem pe_makeV1 {tf : TE} (hf : PE X (.Name x p) tf) (M : Mk X.K C f) (F : FnR X.prog X.w X.K X.mg X.base CX k f sp) (hr : Room (k + 1) X.A) (hx : Passes CX X E) (he : PE X e te)
    (hst : starEach [.Starred e q1] X.env = [(true, eval e X.env)] := by rfl) :
    PE X (.Call (.Name x p) [.Starred e q1] [] pos) (fun σ H Q => tf σ H fun y H1 => y = .ref C ∧ tMakeS X.K C sp E te σ H1 Q) := by
  refine ⟨fun pins s σ H Q I h => wpAny_Call_Name_kw (thn (hf.run pins s σ H _ I h) fun u s1 ⟨y, H1, I1, ry, ec, h⟩ => ?_)⟩
  subst ec
  obtain rfl : u = Value.ref C := ry
  refine PySem.W.callWith_S (h₀ := X.base) I1.ok.mod.kin M.kp (thn (he.run pins s1 σ H1 _ I1 h) fun v s2 ⟨y, H2, I2, ry, a, xs, ey, hxs, q⟩ => ?_) hst
  subst ey
  obtain rfl : v = Value.ref a := ry
  refine star_any I2 hxs fun us s3 I3 rv => ⟨I3.kIn, run_makeR M F hr hx I3 (vs := xs) rv ?_⟩
  have q : ∀ x dx, H2 x = Option.none → H2 dx = Option.none → dx ≠ x → sp (V.ref x :: (xs ++ [])) (upd (upd H2 dx (.own x)) x (.ins C dx [])) (fun v H3 => v = .non ∧ Q (.ref x) H3) E := q
  rw [List.append_nil] at q
  exact q
end
end QS
set_option maxRecDepth 100000
set_option maxHeartbeats 2000000
/-! f(*x, y) -/
namespace QS
open PySem PySem.Spec PyProof.Rows L2 StX
section
variable {X : Cx} {CX : CXT} {k : Nat} {f : Addr} {sp : Sp} {E : XK} {x : Str} {p pos q1 : Pos} {e e2 : Expr} {te te2 : TE}
theorem pe_callSp (F : FnR X.prog X.w X.K X.mg X.base CX k f sp) (hr : Room k X.A) (hk : PySem.W.keepIn X.K (.ref f) = true) (hg : Gl X x) (hm : X.mg x = some (.ref f)) (hx : Passes CX X E) (he : PE X e te) (he2 : PE X e2 te2) (hdb : (x == ("__debug__" : Str)) = false := by decide)
    (hs2 : starEach [e2] X.env = [(false, eval e2 X.env)] := by rfl) :
    PE X (.Call (.Name x p) [.Starred e q1, e2] [] pos) (fun σ H Q => tStar X.K te (tCons te2 tNil) σ H fun vs H1 => sp vs H1 Q E) := by
  refine ⟨fun pins s σ H Q I h => ?_⟩
  refine wpAny_Call_Name_kw (ld_glob I hg hm ?_ hdb)
  have ha : PA X [.Starred e q1, e2] (tStar X.K te (tCons te2 tNil)) := pa_star he (pa_cons he2 pa_nil (by rw [hs2]; rfl))
  have hs : starEach [.Starred e q1, e2] X.env = [(true, eval e X.env), (false, eval e2 X.env)] := by
    show (true, eval e X.env) :: starEach [e2] X.env = _
    rw [hs2]
  have hz : wpAny (model X.prog X.w) X.A (spliced (backTo pos (starEach [.Starred e q1, e2] X.env))) (fun vs s' => X.K.In s'.heap ∧ wpAny (model X.prog X.w) X.A (call (.ref f) vs) (EP X pins σ Q) X.xe s') X.xe s :=
    thn (ha.run pos pins s σ H _ I h) fun us s1 ⟨vs, H1, I1, r, q⟩ => ⟨I1.kIn, wpAny_call (run_fnR F hr hx I1 r q)⟩
  rw [hs] at hz ⊢
  exact PySem.W.ks_call rfl (PySem.W.keeps_K hk) (args_two hz)
end
end QS
set_option maxRecDepth 100000
set_option maxHeartbeats 4000000
/-! a class whose __init__ is (self, *v, m=d): C(..), C(.., m=e), C(*y, *z, m=e); o.m(..) of a method with stars -/
namespace KW
open PySem PySem.Spec PyProof.Rows L2 StX
def UmIs (y dv : V) : Option Value → Prop
  | some m => RelV y m
  | none => y = dv
/-- sp: the instance, m's value, the tuple of what is left over -/
def FnM (P : Program) (w : World) (K : PySem.W.Frag) (mg : Str → Option Value) (base : Heap) (CX : CXT) (k : Nat) (f : Addr) (pk : Str) (dv : V) (sp : Sp) : Prop :=
  ∀ (A : Around) (outer : List Env) (s : Shared) (H : Hp) (u : Value) (us : List Value) (um : Option Value) (x y : V) (vs : List V) (Q : VK) (E : XK), Room k A → Env0 P w K mg base A outer s H → RelV x u → Vals vs us → vs.length ≤ sizeLine →
    UmIs y dv um → (∀ p, H p = none → sp [x, y, V.ref p] (upd H p (.tup vs)) Q E) →
    codeAny (model P w) A (.call (.ref f) ⟨u :: us, (um.toList.map fun m => (pk, m))⟩) (CR CX outer P w H s Q E) s
section
variable {CX : CXT} {P : Program} {w : World} {K : PySem.W.Frag} {mg : Str → Option Value} {base : Heap} {k : Nat} {f : Addr} {name qual : Str} {params : Arguments} {body : List Stmt} {scope : Scope} {dV doc pm cdv ct oc : Value} {D : Addr} {an od : Option Addr}
  {osl : Array (Option Value)} {N : List Str} {sp : Sp} {p1 pk pv : Str} {dv : V} {dw : Value}
theorem fn_kw (lk : K.lookup f = some ⟨oc, od, .func (PySem.W.fnOf name qual params body scope dV (.ref D) doc pm an cdv ct), osl⟩) (hcd : PySem.W.codeIn K cdv qual = true) (S : FnScope N [p1, pk, pv] scope) (hCX : CXUp CX)
    (hD : PySem.W.nsIn K D pk = some (some dw)) (hdv : RelV dv dw)
    (hk : ∀ (u m : Value) (us : List Value), bindArgs (PySem.W.fnOf name qual params body scope dV (.ref D) doc pm an cdv ct) ⟨u :: us, [(pk, m)]⟩ = (newTuple us >>= fun t => pure [(p1, u), (pk, m), (pv, t)]))
    (h0 : ∀ (u : Value) (us : List Value), ∃ (β γ : Type) (k1 : Option Value → Sem β) (k2 : β → Sem γ) (k3 : γ → Sem (List (Str × Value))) (a : β), bindArgs (PySem.W.fnOf name qual params body scope dV (.ref D) doc pm an cdv ct) ⟨u :: us, []⟩ = (((nsGet D pk >>= k1) >>= k2) >>= k3) ∧
      k1 (some dw) = pure a ∧ (k2 a >>= k3) = (newTuple us >>= fun t => pure [(p1, u), (pk, dw), (pv, t)]))
    (hbody : ∀ (A : Around) (outer : List Env) (s : Shared) (H : Hp) (vs : List V) (Q : VK) (E : XK), Room k (A.deeper (envOfC qual scope s.heap.objs.size f cdv)) → sp vs H Q E →
      ∃ t, PSs (cxOf CX P w K mg base N qual scope f cdv A outer s H E) body t ∧ t { nx := fun _ H' => Q .non H', rt := Q } (start N vs) H) :
    FnM P w K mg base CX (k + 1) f pk dv sp := by
  intro A outer s H u us um x y vs Q E hr e0 rx r hz hm hq
  have hn : H s.heap.objs.size = Option.none := e0.hok.fresh (Nat.le_refl _)
  have hz2 : us.length ≤ sizeLine := by rw [← r.length]; exact hz
  obtain ⟨m, rm, hbind⟩ : ∃ m : Value, RelV y m ∧ ∀ (A' : Around) (Ex : Value → Shared → Prop) (Q' : List (Str × Value) → Shared → Prop), wpAny (model P w) A' (newTuple us >>= fun t => pure [(p1, u), (pk, m), (pv, t)]) Q' Ex s →
      wpAny (model P w) A' (bindArgs (PySem.W.fnOf name qual params body scope dV (.ref D) doc pm an cdv ct) ⟨u :: us, (um.toList.map fun m => (pk, m))⟩) Q' Ex s := by
    cases um with
    | some m => exact ⟨m, hm, fun A' Ex Q' h => by rw [show ((some m).toList.map fun m => (pk, m)) = [(pk, m)] from rfl, hk]; exact h⟩
    | none =>
      have hm : y = dv := hm
      refine ⟨dw, by rw [hm]; exact hdv, fun A' Ex Q' h => ?_⟩
      obtain ⟨β, γ, k1, k2, k3, a, e1, e2, e3⟩ := h0 u us
      have X : K.In s.heap := e0.mod.kin.keeps fun b o e => (e0.bs b o e).1
      have l1 : PySem.W.Looks (model P w) s.heap (nsGet D pk >>= k1) a := (PySem.W.looks_nsIn X hD).andThen (PySem.W.Looks.of_pure e2)
      rw [show (Option.none.toList.map fun (m : Value) => (pk, m)) = [] from rfl, e1, bind_assoc]
      refine wpAny_bind (l1.here ?_)
      rw [e3]
      exact h
  refine run_bnd lk hcd S hr e0 (G := fun xs H2 => ∃ p, H p = Option.none ∧ xs = [x, y, V.ref p] ∧ H2 = upd H p (.tup vs)) (fun A' Ex Q' h => ?_) fun s2 H2 xs ⟨p, hp, ex, eH⟩ hr' => ?_
  · refine hbind _ _ _ (wpAny_bind (wpAny_newTuple (wpAny_pure ?_) hz2))
    have new : ObjOk P w (upd H s.heap.objs.size (.tup vs)) (s.heap.push ({ cls := .type "tuple", data := .seq us.toArray } : Obj)) s.heap.objs.size (.tup vs) := ⟨hz, us, r, ⟨_, Heap.get?_push_size _ rfl, rfl, _, rfl⟩⟩
    have un := un_laid (fs := frs outer) (s := s) (o := ({ cls := .type "tuple", data := .seq us.toArray } : Obj)) (u := .tup vs) hn
    exact h _ _ [x, y, V.ref s.heap.objs.size] [u, m, Value.ref s.heap.objs.size] (env0_laid e0 new) un rfl (fun e s' => hCX outer s H _ _ E e s' un (fun b o q => Heap.get?_push_of_some _ q) rfl) (.cons rx (.cons rm (.cons rfl .nil))) rfl ⟨_, hn, rfl, rfl⟩
  · subst ex eH
    exact hbody A outer s2 _ _ Q E hr' (hq p hp)
end
section
variable {X : Cx} {CX : CXT} {k : Nat} {f C : Addr} {sp : Sp} {E : XK} {x pk : Str} {dv : V} {e e2 e3 : Expr} {es : List Expr} {te te2 te3 : TE} {t : TA} {p pos q1 q2 kp : Pos}
/-- vs: the positional values, y: m's value -/
def tMkM (C : Addr) (sp : Sp) (E : XK) (vs : List V) (y : V) (Q : VK) (H : Hp) : Prop := vs.length ≤ sizeLine ∧ ∀ x dx, H x = none → H dx = none → dx ≠ x → ∀ p, (upd (upd H dx (.own x)) x (.ins C dx [])) p = none →
  sp [V.ref x, y, V.ref p] (upd (upd (upd H dx (.own x)) x (.ins C dx [])) p (.tup vs)) (fun v H2 => v = .non ∧ Q (.ref x) H2) E
theorem run_mkM {pins : List (Addr × Obj)} {σ : L2.St} {H : Hp} {s : Shared} {Q : VK} {us : List Value} {vs : List V} {um : Option Value} {y : V} (M : Mk X.K C f) (F : FnM X.prog X.w X.K X.mg X.base CX k f pk dv sp) (hr : Room (k + 1) X.A) (hx : Passes CX X E) (I : Inv X pins σ H s) (r : Vals vs us)
    (hm : UmIs y dv um) (h : tMkM C sp E vs y Q H) :
    wpAny (model X.prog X.w) X.A (call (.ref C) us (um.toList.map fun m => (pk, m))) (EP X pins σ Q) X.xe s := by
  obtain ⟨hz, h⟩ := h
  have hq := h (s.heap.objs.size + 1) s.heap.objs.size (I.hok.fresh (Nat.le_succ _)) (I.hok.fresh (Nat.le_refl _)) (Nat.ne_of_lt (Nat.lt_succ_self _))
  have I2 := Inv.made (C := C) I
  refine wpAny_call (make_map (f := f) I.kIn M.makes M.init (beq_iff_eq.mp M.fn) (codeAny_mono (F _ X.stack _ _ (Value.ref (s.heap.objs.size + 1)) us um (V.ref (s.heap.objs.size + 1)) y vs _ E (hr.make C us (um.toList.map fun m => (pk, m))) (I2.env0.make C us (um.toList.map fun m => (pk, m))) rfl r hz hm hq) fun r s' hq' => ?_))
  cases r with
  | error e => exact hx pins σ _ _ e s' I2 hq'
  | ok fl =>
    cases fl with
    | ret u =>
      obtain ⟨v, H', I3, rv, ev, q3⟩ := I2.after hq'
      subst ev
      exact ⟨rv, ⟨V.ref (s.heap.objs.size + 1), H', I3, rfl, q3⟩⟩
    | next => exact False.elim hq'
    | brk => exact False.elim hq'
    | cont => exact False.elim hq'
/-- C() -/
theorem pe_mkM0 (M : Mk X.K C f) (F : FnM X.prog X.w X.K X.mg X.base CX k f pk dv sp) (hr : Room (k + 1) X.A) (hg : Gl X x) (hm : X.mg x = some (.ref C)) (hx : Passes CX X E) (hdb : (x == ("__debug__" : Str)) = false := by decide) :
    PE X (.Call (.Name x p) [] [] pos) (fun _ H Q => tMkM C sp E [] dv Q H) := by
  refine ⟨fun pins s σ H Q I h => ?_⟩
  refine wpAny_Call_Name_kw (ld_glob I hg hm ?_ hdb)
  exact PySem.W.callWith_K0 I.kIn M.kp (run_mkM (us := []) (um := none) M F hr hx I .nil rfl h)
/-- C(e, ..) -/
theorem pe_mkM (M : Mk X.K C f) (F : FnM X.prog X.w X.K X.mg X.base CX k f pk dv sp) (hr : Room (k + 1) X.A) (hg : Gl X x) (hm : X.mg x = some (.ref C)) (hx : Passes CX X E) (ha : PA X (e :: es) t) (hdb : (x == ("__debug__" : Str)) = false := by decide)
    (he : starEach (e :: es) X.env = (false, eval e X.env) :: starEach es X.env := by rfl) (hpl : (backTo pos (starEach es X.env)).any (·.1) = false := by rfl) : PE X (.Call (.Name x p) (e :: es) [] pos) (fun σ H Q => t σ H fun vs H1 => tMkM C sp E vs dv Q H1) := by
  refine ⟨fun pins s σ H Q I h => ?_⟩
  refine wpAny_Call_Name_kw (ld_glob I hg hm ?_ hdb)
  refine PySem.W.callWith_K (h₀ := X.base) I.ok.mod.kin M.kp (thn (ha.run pos pins s σ H _ I h) fun us s1 ⟨vs, H1, I1, r, q⟩ => ⟨I1.kIn, ?_⟩) he hpl
  exact run_mkM (um := none) M F hr hx I1 r rfl q
theorem kw_run {pins : List (Addr × Obj)} {σ : L2.St} {H : Hp} {s : Shared} {Q : V → Hp → Prop} {R : List Value → Shared → Prop} (I : Inv X pins σ H s) (h2 : PE X e2 te2) (h : te2 σ H Q)
    (hR : ∀ u y s1 H1, Inv X pins σ H1 s1 → RelV y u → Q y H1 → R [u] s1) : wpAny (model X.prog X.w) X.A (evalAll ((backToKw pos (keywordEach [⟨some pk, e2, kp⟩] X.env)).map (·.2))) R X.xe s := by
  show wpAny _ _ (evalAll ((do let v ← eval e2 X.env; standAt pos; pure v) :: (backToKw pos (keywordEach [] X.env)).map (·.2))) _ _ s
  refine wpAny_evalAll_cons (wpAny_bind (thn (h2.run pins s σ H _ I h) fun u s1 ⟨x, H1, I1, r1, q1⟩ => wpAny_bind (wpAny_standAt (wpAny_pure ?_))))
  exact wpAny_evalAll_nil (hR _ _ _ _ I1 r1 q1)
theorem pe_mkMK0 (M : Mk X.K C f) (F : FnM X.prog X.w X.K X.mg X.base CX k f pk dv sp) (hr : Room (k + 1) X.A) (hg : Gl X x) (hm : X.mg x = some (.ref C)) (hx : Passes CX X E) (h2 : PE X e2 te2) (hdb : (x == ("__debug__" : Str)) = false := by decide)
    (hall : (backToKw pos (keywordEach [⟨some pk, e2, kp⟩] X.env)).all (·.1.isSome) = true := by rfl) (hks : (backToKw pos (keywordEach [⟨some pk, e2, kp⟩] X.env)).filterMap (·.1) = [pk] := by rfl)
    (hpl : ((backTo pos (starEach [] X.env)).any (·.1) || (backToKw pos (keywordEach [⟨some pk, e2, kp⟩] X.env)).any (·.1.isNone)) = false := by rfl) :
    PE X (.Call (.Name x p) [] [⟨some pk, e2, kp⟩] pos) (fun σ H Q => te2 σ H fun y H1 => tMkM C sp E [] y Q H1) := by
  refine ⟨fun pins s σ H Q I h => ?_⟩
  refine wpAny_Call_Name_kw (ld_glob I hg hm ?_ hdb)
  refine PySem.W.callWith_KW0 (h₀ := X.base) I.ok.mod.kin M.kp hall ?_ hpl
  refine kw_run I h2 h fun u y s1 H1 I1 ry q => ⟨I1.kIn, ?_⟩
  rw [hks]
  exact run_mkM (us := []) (um := some u) M F hr hx I1 .nil ry q
/-- C(e, .., m=e2) -/
theorem pe_mkMK (M : Mk X.K C f) (F : FnM X.prog X.w X.K X.mg X.base CX k f pk dv sp) (hr : Room (k + 1) X.A) (hg : Gl X x) (hm : X.mg x = some (.ref C)) (hx : Passes CX X E) (ha : PA X (e :: es) t) (h2 : PE X e2 te2) (hdb : (x == ("__debug__" : Str)) = false := by decide)
    (hall : (backToKw pos (keywordEach [⟨some pk, e2, kp⟩] X.env)).all (·.1.isSome) = true := by rfl) (hks : (backToKw pos (keywordEach [⟨some pk, e2, kp⟩] X.env)).filterMap (·.1) = [pk] := by rfl)
    (he : starEach (e :: es) X.env = (false, eval e X.env) :: starEach es X.env := by rfl) (hpl : ((backTo pos (starEach (e :: es) X.env)).any (·.1) || (backToKw pos (keywordEach [⟨some pk, e2, kp⟩] X.env)).any (·.1.isNone)) = false := by rfl) :
    PE X (.Call (.Name x p) (e :: es) [⟨some pk, e2, kp⟩] pos) (fun σ H Q => t σ H fun vs H1 => te2 σ H1 fun y H2 => tMkM C sp E vs y Q H2) := by
  refine ⟨fun pins s σ H Q I h => ?_⟩
  refine wpAny_Call_Name_kw (ld_glob I hg hm ?_ hdb)
  refine PySem.W.callWith_KW (h₀ := X.base) I.ok.mod.kin M.kp hall (thn (ha.run pos pins s σ H _ I h) fun us s1 ⟨vs, H1, I1, r, q⟩ => ?_) hpl he
  refine kw_run I1 h2 q fun u y s2 H2 I2 ry q2 => ⟨I2.kIn, ?_⟩
  rw [hks]
  exact run_mkM (um := some u) M F hr hx I2 r ry q2
theorem args_two_kw {M : Model} {A : Around} {E : Value → Shared → Prop} {s : Shared} {fv : Value} {y z : Bool × Sem Value} {r : List (Bool × Sem Value)} {n : Str} {tk : Sem Value} {Q : Args → Shared → Prop}
    (h : wpAny M A (spliced (y :: z :: r)) (fun vs s' => wpAny M A (evalAll [tk]) (fun ws s2 => Q ⟨vs, [n].zip ws⟩ s2) E s') E s) : wpAny M A (evalArgs fv true (y :: z :: r) [(some n, tk)]) Q E s := by
  obtain ⟨b, t⟩ := y
  unfold evalArgs
  cases b <;>
  · show wpAny M A (spliced (_ :: z :: r) >>= _) Q E s
    refine wpAny_bind (thn h fun vs s' h' => ?_)
    refine wpAny_holding ?_
    show wpAny M A (evalAll [tk] >>= fun ws => (pure vs >>= fun p => pure (⟨p, [n].zip ws⟩ : Args))) Q E s'
    refine wpAny_bind (thn h' fun ws s2 h2 => ?_)
    exact wpAny_bind (wpAny_pure (wpAny_pure h2))
theorem ks_call_kw {M : Model} {A : Around} {E : Value → Shared → Prop} {s : Shared} {f : Value} {first : List Value} {pos : Pos} {Q : Value → Shared → Prop} {P : Heap → Prop} {args : List (Bool × Sem Value)} {kws : List (Option Str × Sem Value)} (hst : args.any (·.1) = true)
    (hk : ∀ h, P h → ∃ k, (k = Keeper.frame ∨ k = Keeper.machine ∨ k = Keeper.boundFrame) ∧ PySem.W.Looks M h (keeperOf f) k)
    (h : wpAny M A (evalArgs f true args kws) (fun a s₁ => P s₁.heap ∧ wpAny M A (call f (first ++ a.pos) a.kw) Q E s₁) E s) : wpAny M A (callWith pos f first args kws) Q E s := by
  unfold callWith
  refine wpAny_bind (wpAny_holding (wpAny_mono h (fun a s₁ h₁ => wpAny_bind (wpAny_standAt ?_)) fun _ _ x => x))
  obtain ⟨k, hk', L⟩ := hk _ h₁.1
  simp only [hst, Bool.true_or]
  refine wpAny_bind (L.here ?_)
  have tail : ∀ {t : Sem Value}, wpAny M A t Q E s₁ → wpAny M A (t >>= fun r => holding [r] point >>= fun _ => pure r) Q E s₁ :=
    fun ht => wpAny_bind (wpAny_mono ht (fun r s₂ hr => wpAny_bind (wpAny_holding (wpAny_point (wpAny_pure hr)))) fun _ _ x => x)
  have marked (mk : Value) : wpAny M A (callMarked mk f (first ++ a.pos) a.kw) Q E s₁ := by unfold callMarked; exact Calls.wpAny_keep h₁.2
  rcases hk' with rfl | rfl | rfl <;> dsimp only <;> first | exact tail (marked _) | exact tail (wpAny_operating h₁.2)
/-- C(*e, *e2, m=e3) -/
theorem pe_mkMS (M : Mk X.K C f) (F : FnM X.prog X.w X.K X.mg X.base CX k f pk dv sp) (hr : Room (k + 1) X.A) (hg : Gl X x) (hm : X.mg x = some (.ref C)) (hx : Passes CX X E) (h1 : PE X e te) (h2 : PE X e2 te2) (h3 : PE X e3 te3) (hdb : (x == ("__debug__" : Str)) = false := by decide)
    (hall : (backToKw pos (keywordEach [⟨some pk, e3, kp⟩] X.env)).all (·.1.isSome) = true := by rfl) (hks : (backToKw pos (keywordEach [⟨some pk, e3, kp⟩] X.env)).filterMap (·.1) = [pk] := by rfl) :
    PE X (.Call (.Name x p) [.Starred e q1, .Starred e2 q2] [⟨some pk, e3, kp⟩] pos) (fun σ H Q => tStar X.K te (tStar X.K te2 tNil) σ H fun vs H1 => te3 σ H1 fun y H2 => tMkM C sp E vs y Q H2) := by
  refine ⟨fun pins s σ H Q I h => ?_⟩
  refine wpAny_Call_Name_kw (ld_glob I hg hm ?_ hdb)
  have ha : PA X [.Starred e q1, .Starred e2 q2] (tStar X.K te (tStar X.K te2 tNil)) := pa_star h1 (pa_star h2 pa_nil)
  refine ks_call_kw (P := fun h => X.K.In h) rfl (PySem.W.keeps_K M.kp) (args_two_kw (thn (ha.run pos pins s σ H _ I h) fun us s1 ⟨vs, H1, I1, r, q⟩ => ?_))
  refine kw_run (kp := kp) (pk := pk) (pos := pos) I1 h3 q fun u y s2 H2 I2 ry q2 => ⟨I2.kIn, ?_⟩
  exact run_mkM (um := some u) M F hr hx I2 r ry q2
end
/-! ### o.m(e, ..), o.m() of a method that is a FnR -/
section
variable {X : Cx} {CX : CXT} {k : Nat} {f C : Addr} {sp : Sp} {E : XK} {m : Str} {o e : Expr} {es : List Expr} {ta : TE} {t : TA} {pos apos : Pos}
theorem pe_methR {pl : Sem Bool} (he : PE X o ta) (c : Cls X.K C) (hm : Meth X.K C m f) (F : FnR X.prog X.w X.K X.mg X.base CX k f sp) (hr : Room k X.A) (hx : Passes CX X E) (ha : PA X (e :: es) t)
    (hst : starEach (e :: es) X.env = (false, eval e X.env) :: starEach es X.env := by rfl) (hpl : (backTo pos (starEach es X.env)).any (·.1) = false := by rfl)
    (ht : eval (.Call (.Attribute o m apos) (e :: es) [] pos) X.env = (do
      let ov ← eval o X.env
      standAt apos.atName
      let (f, first) ← holding [ov] (getMethod ov m pl)
      callWith pos f first (backTo pos (starEach (e :: es) X.env)) (backToKw pos (keywordEach [] X.env))) := by rfl) :
    PE X (.Call (.Attribute o m apos) (e :: es) [] pos) (tMeth C m sp [] E ta t) := by
  refine ⟨fun pins s σ H Q I h => ?_⟩
  refine PySem.W.methodCall_KW (pl := pl) (thn (he.run pins s σ H _ I h) fun u s1 ⟨x, H1, I1, rx, a, dx, fs, ex, ea, l, q⟩ => ?_) ht
  subst ex
  obtain rfl : u = Value.ref a := rx
  refine getmeth_ok I1 ea c hm l ?_
  refine PySem.W.callWith_K (first := [.ref a]) (h₀ := X.base) I.ok.mod.kin hm.kp (thn (ha.run pos pins s1 σ H1 _ I1 q) fun us s2 ⟨vs, H2, I2, r, q2⟩ => ⟨I2.kIn, ?_⟩) hst hpl
  have q2 : sp (V.ref a :: (vs ++ [])) H2 Q E := q2
  rw [List.append_nil] at q2
  exact wpAny_call (run_fnR (us := .ref a :: us) (vs := .ref a :: vs) F hr hx I2 (.cons rfl r) q2)
theorem pe_methR0 {pl : Sem Bool} (he : PE X o ta) (c : Cls X.K C) (hm : Meth X.K C m f) (F : FnR X.prog X.w X.K X.mg X.base CX k f sp) (hr : Room k X.A) (hx : Passes CX X E)
    (ht : eval (.Call (.Attribute o m apos) [] [] pos) X.env = (do
      let ov ← eval o X.env
      standAt apos.atName
      let (f, first) ← holding [ov] (getMethod ov m pl)
      callWith pos f first (backTo pos (starEach [] X.env)) (backToKw pos (keywordEach [] X.env))) := by rfl) :
    PE X (.Call (.Attribute o m apos) [] [] pos) (tMeth C m sp [] E ta tNil) := by
  refine ⟨fun pins s σ H Q I h => ?_⟩
  refine PySem.W.methodCall_KW (pl := pl) (thn (he.run pins s σ H _ I h) fun u s1 ⟨x, H1, I1, rx, a, dx, fs, ex, ea, l, q⟩ => ?_) ht
  subst ex
  obtain rfl : u = Value.ref a := rx
  refine getmeth_ok I1 ea c hm l ?_
  exact PySem.W.callWith_K0 (first := [.ref a]) I1.kIn hm.kp (wpAny_call (run_fnR (us := [.ref a]) (vs := [.ref a]) F hr hx I1 (.cons rfl .nil) q))
end
end KW
set_option maxRecDepth 100000
set_option maxHeartbeats 4000000
/-! min(a, b) of two data of one shape -/
namespace HR
open PySem PySem.Spec PyProof.Rows L2 PySem.W
section
variable {prog : Program} {w : World} {A : Around} {E : Value → Shared → Prop} {s : Shared}
theorem call_min_twoH {a b : Value} {Q : Value → Shared → Prop}
    (h : wpAny (model prog w) A.in1 (pyIter (.ref s.heap.objs.size)) (fun it s₂ => ∃ I fp wr G n P St H bt, it = .ref I ∧ WalksS prog w A.in1 I fp wr G n P St ∧ St 0 s₂ ∧ (∀ b ∈ fp, b < s₂.heap.objs.size) ∧ 0 < n ∧
      (∀ b o, H.get? b = some o → b ∉ wr) ∧ (∀ b o, H.get? b = some o → s₂.heap.get? b = some o) ∧ CmpIn prog w A.in1 .Lt H P bt ∧ ∀ v s', P (argBest bt (n - 1)) v → Moved wr G s₂ s' → Q v s') E
      { s with heap := s.heap.push { cls := .type "tuple", data := .seq #[a, b] } }) :
    wpAny (model prog w) A (call (.builtin "min") [a, b]) Q E s := by
  have hname : (toString "min" ++ toString ".loop" : String) = "min.loop" := by decide
  refine call_function_tree F.kind_min F.plain_min F.entry_min (F.args_min2 _ _) ?_
  show wpAny _ A.in1 (Builtin.Builtins.bindParams "min" ["key", "default"] 0 ⟨[], []⟩ >>= _) _ _ s
  refine wpAny_bind (wpAny_of_eq (show Builtin.Builtins.bindParams "min" ["key", "default"] 0 ⟨[], []⟩ = pure [none, none] from rfl) ?_)
  show wpAny _ A.in1 (newTuple [a, b] >>= _) _ _ s
  refine wpAny_bind (wpAny_newObj_type ?_)
  refine wpAny_bind (wpAny_mono h (fun it s₂ h₂ => ?_) fun _ _ e => e)
  obtain ⟨I, fp, wr, G, n, P, St, H, bt, rfl, W, hst, hfp, hn, hw, hkeep, hcmp, hQ⟩ := h₂
  refine wpAny_bind (wpAny_newObj_type ?_)
  have hSf : s₂.heap.objs.size ∉ fp := fun hm => Nat.lt_irrefl _ (hfp _ hm)
  rw [hname]
  refine wpAny_pure ⟨plainId_quiet F.plain_min_loop _, codeAny_min_loop_firstH W H hw bt hcmp s₂.heap.objs.size hSf (fresh_in hkeep) _ hn (fun b o e => Heap.get?_push_of_some _ (hkeep b o e)) (W.frame 0 s₂ _ s₂.toks hst (Nat.le_refl _) fun b _ o e => Heap.get?_push_of_some _ e) (Heap.get?_push_size _ rfl) fun v s' hP hm => ?_⟩
  exact hQ v s' hP (Moved.drop_new (tk := s₂.toks) hm (Nat.le_refl _))
theorem min_two_data {a b : Value} {x y : PyData} {as bs : List Addr} {Q : Value → Shared → Prop} (hh : A.handled = none) (r1 : Reads s.heap a x as) (r2 : Reads s.heap b y bs) (al : AlikeAll [x, y]) (hu : A.units + 1 + x.depth < cLine) (hu2 : A.units + 1 + y.depth < cLine)
    (h : ∀ h' tk, (∀ b o, s.heap.get? b = some o → h'.get? b = some o) → Q (if dataLt y x = true then b else a) { s with heap := h', toks := tk }) : wpAny (model prog w) A (call (.builtin "min") [a, b]) Q E s := by
  have hT : (s.heap.push { cls := .type "tuple", data := .seq #[a, b] }).IsTuple s.heap.objs.size #[a, b] := ⟨_, Heap.get?_push_size _ rfl, rfl, 0, rfl⟩
  refine call_min_twoH (iter_tupleW (A := A.in1) (s := { s with heap := s.heap.push { cls := .type "tuple", data := .seq #[a, b] } }) hh hT fun s₂ e W st hfp hw hk => ?_)
  have hk0 : ∀ b' o, s.heap.get? b' = some o → s₂.heap.get? b' = some o := fun b' o q => hk b' o (Heap.get?_push_of_some _ q)
  have hw0 : ∀ b' o, s.heap.get? b' = some o → b' ∉ [(s.heap.push ({ cls := .type "tuple", data := .seq #[a, b] } : Obj)).objs.size] := fun b' o q => hw b' o (Heap.get?_push_of_some _ q)
  refine ⟨_, _, _, _, _, _, _, s.heap, (fun i j => dataLt ([x, y].getD i .none) ([x, y].getD j .none)), rfl, W, st, hfp, (show 0 < 2 from Nat.zero_lt_two), hw0, hk0, ?_, fun v s' hP m => ?_⟩
  · intro i j vi vj s' Q E hk hi hj hq
    have at_ : ∀ (i : Nat) (v : Value), (#[a, b] : Array Value)[i]? = some v → ∃ cs, Reads s.heap v ([x, y].getD i .none) cs ∧ ([x, y].getD i .none = x ∨ [x, y].getD i .none = y) := by
      intro i v hv
      match i, hv with
      | 0, hv => cases hv; exact ⟨as, r1, .inl rfl⟩
      | 1, hv => cases hv; exact ⟨bs, r2, .inr rfl⟩
      | i + 2, hv => simp at hv
    obtain ⟨cs, k1, w1⟩ := at_ i vi hi
    obtain ⟨ds, k2, w2⟩ := at_ j vj hj
    refine rcLt_alike _ _ A.in1 s' vi vj _ _ (reads_keeps hk k1) (reads_keeps hk k2) ?_ ?_ ?_ prog w E Q hq
    · exact al.1 _ (by rcases w1 with w1 | w1 <;> rw [w1] <;> simp) _ (by rcases w2 with w2 | w2 <;> rw [w2] <;> simp)
    · exact al.2 _ (by rcases w1 with w1 | w1 <;> rw [w1] <;> simp)
    · have := Nat.min_le_left ([x, y].getD i PyData.none).depth ([x, y].getD j PyData.none).depth
      rcases w1 with w1 | w1 <;> rw [w1] at this ⊢ <;> · show A.units + 1 + _ < cLine
                                                         omega
  · obtain ⟨h', tk, rfl, hk'⟩ := moved_old (s := { s with heap := s.heap.push { cls := .type "tuple", data := .seq #[a, b] } }) e rfl m
    have hQ := h h' tk fun b' o q => hk' b' o (Heap.get?_push_of_some _ q)
    have e2 : v = if dataLt y x = true then b else a := by
      have hP : (#[a, b] : Array Value)[argBest (fun i j => dataLt ([x, y].getD i .none) ([x, y].getD j .none)) 1]? = some v := hP
      by_cases hl : dataLt y x = true
      · have e1 : argBest (fun i j => dataLt ([x, y].getD i .none) ([x, y].getD j .none)) 1 = 1 := by simp [argBest, hl]
        rw [e1] at hP
        rw [if_pos hl]
        exact (Option.some.inj hP).symm
      · have e1 : argBest (fun i j => dataLt ([x, y].getD i .none) ([x, y].getD j .none)) 1 = 0 := by simp [argBest, hl]
        rw [e1] at hP
        rw [if_neg hl]
        exact (Option.some.inj hP).symm
    rw [e2]
    exact hQ
end
section
variable {X : Cx}
def rMinD2 (K : PySem.W.Frag) : List V → Hp → VK → Prop := fun xs H Q => ∃ u v x y, xs = [u, v] ∧ Dp K H u x ∧ Dp K H v y ∧ AlikeAll [x, y] ∧ x.depth ≤ 60 ∧ y.depth ≤ 60 ∧ Q (if dataLt y x = true then v else u) H
theorem cr_minD2 {K : PySem.W.Frag} (hc : X.calm = true) (hu : X.A.units + 64 < cLine) (hK : X.K = K := by rfl) : CallR X (.builtin "min") (rMinD2 K) := by
  subst hK
  intro pins s σ H xs us Q I r h
  obtain ⟨u, v, x, y, rfl, hd, he, al, d1, d2, q⟩ := h
  cases r with
  | cons ru r =>
    cases r with
    | cons rv r =>
      cases r
      obtain ⟨as, r1⟩ := Dp.reads I x u _ hd ru
      obtain ⟨bs, r2⟩ := Dp.reads I y v _ he rv
      refine min_two_data (I.ok.hd hc) r1 r2 al (by omega) (by omega) fun h' tk k => ⟨_, H, I.kept k, ?_, q⟩
      by_cases hl : dataLt y x = true
      · rw [if_pos hl, if_pos hl]
        exact rv
      · rw [if_neg hl, if_neg hl]
        exact ru
end
end HR
set_option maxRecDepth 100000
set_option maxHeartbeats 3200000
/-! set of a list of up to 99 texts -/
namespace TSet
open PySem PySem.Spec PyProof.Rows L2 Froz
variable {X : Cx}
def rSetX2 (K : PySem.W.Frag) (P : Program) (w : World) : List V → Hp → VK → Prop := fun vs H Q => ∃ (a : Addr) (xs : List Str), vs = [V.ref a] ∧ SqL K H a (xs.map V.str) ∧ xs.length < 100 ∧
  ∀ (l : List Str) (p : Addr), l.Nodup → (∀ z, z ∈ l ↔ z ∈ xs) → l.length ≤ xs.length → H p = none → Q (.ref p) (upd H p (SetX P w p l))
theorem cr_setX2 (hc : X.calm = true) : CallR X (.type "set") (rSetX2 X.K X.prog X.w) := by
  intro pins s σ H vs us Q I r h
  obtain ⟨a, xs, rfl, hs, few, q⟩ := h
  obtain ⟨its, rv, hl, _⟩ := I.list hs
  rw [Vals.ref1 r]
  refine set_txt (I.ok.hd hc) hl.isList rv.strs (by unfold scanBound; omega) fun h' tk D l' e F m ll keep => ?_
  exact ⟨.ref _, upd H s.heap.objs.size (SetX X.prog X.w s.heap.objs.size l'), I.laid (t' := tk) keep (Nat.le_refl _) (setX_new ⟨D, e, F⟩), rfl, q l' _ F.nd m ll (I.hok.fresh (Nat.le_refl _))⟩
end TSet
set_option maxRecDepth 100000
set_option maxHeartbeats 4000000
/-! two instances of one own class: a op b by its method; a == b by its __eq__ -/
namespace QS
open PySem PySem.Spec PyProof.Rows L2 StX
section
variable {prog : Program} {w : World} {A : Around} {E : Value → Shared → Prop} {s : Shared} {K : PySem.W.Frag} {x y C f : Addr} {ox oy : Obj} {od oe : Option Obj}
theorem bin_same {op : Operator} {Q : Value → Shared → Prop} (X : K.In s.heap) (I : PySem.W.InstAt s.heap x ox C od) (I2 : PySem.W.InstAt s.heap y oy C oe) (hc : PySem.W.selfFirst K C = true)
    (hs : PySem.W.findIn K (.ref C) (PySem.dunder op.info.2) = some (some (.ref f))) (hf : PySem.W.isFn K (.ref f) = true)
    (h : wpAny (model prog w) A (call (.ref f) [.ref x, .ref y]) (PySem.W.CmpBack Q) E s) : wpAny (model prog w) A (binaryOp op (.ref x) (.ref y)) Q E s := by
  obtain ⟨cd, rest, hcd, hm⟩ := PySem.W.ksp_first hc
  have one := PySem.W.ksp_try X I hs hf h
  rcases hi : op.info with ⟨sym, nm'⟩
  rw [hi] at hs one
  dsimp only at hs one
  obtain ⟨hh, g, d, tt, os⟩ := s
  have L1 : PySem.W.Looks (model prog w) hh (typeOf (.ref x)) (.ref C) := I.type
  have L2 : PySem.W.Looks (model prog w) hh (typeOf (.ref y)) (.ref C) := I2.type
  have L3 : PySem.W.Looks (model prog w) hh (fillsNumberSlot (.ref C) nm') true := PySem.W.fills_K X hcd hm hs
  simp only [binaryOp, hi]
  refine wpAny_holding (wpAny_bind ?_)
  unfold binaryOp1
  refine wpAny_bind (L1.at (wpAny_bind (L2.at (wpAny_bind (L3.at ?_)))))
  simp only [beq_self_eq_true, if_true]
  refine wpAny_bind (wpAny_pure ?_)
  simp only [Bool.and_false, Bool.false_and, Bool.false_eq_true, if_false]
  refine wpAny_bind (wpAny_pure ?_)
  simp only [Bool.false_eq_true, if_false, if_true]
  refine wpAny_bind (thn one fun r s' hr' => ?_)
  obtain ⟨v, rfl, hq⟩ := hr'
  refine wpAny_pure ?_
  dsimp only
  exact wpAny_pure hq
theorem back {X : Cx} {pins : List (Addr × Obj)} {σ : L2.St} {Q : VK} {v : Value} {s' : Shared} (h : EP X pins σ Q v s') : PySem.W.CmpBack (EP X pins σ Q) v s' := by
  obtain ⟨u, H, I, r, q⟩ := id h
  cases v with
  | notImplemented => cases u <;> simp [L2.RelV] at r
  | _ => exact h
end
section
variable {X : Cx} {CX : CXT} {k : Nat} {f C : Addr} {sp : Sp} {E : XK} {m : Str}
/-- a op b, both instances of C, by C's method -/
def rOwn2 (C : Addr) (sp : Sp) (E : XK) : R2 := fun x y H Q => ∃ a b dx dy fs gs, x = .ref a ∧ y = .ref b ∧ H a = some (.ins C dx fs) ∧ H b = some (.ins C dy gs) ∧ sp [x, y] H Q E
theorem op_own2 {op : Operator} (hc : PySem.W.selfFirst X.K C = true) (hs : PySem.W.findIn X.K (.ref C) (PySem.dunder op.info.2) = some (some (.ref f))) (hf : PySem.W.isFn X.K (.ref f) = true) (F : FnR X.prog X.w X.K X.mg X.base CX k f sp) (hr : Room k X.A) (hx : Passes CX X E) : OpR X (binaryOp op) (rOwn2 C sp E) := by
  intro pins s σ H x y v u Q I rx ry h
  obtain ⟨a, b, dx, dy, fs, gs, rfl, rfl, ha, hb, q⟩ := h
  obtain rfl : v = Value.ref a := rx
  obtain rfl : u = Value.ref b := ry
  obtain ⟨oa, da, I1, _⟩ := insC_at (X := X) I (.inr ⟨dx, fs, ha⟩)
  obtain ⟨ob, db, I2, _⟩ := insC_at (X := X) I (.inr ⟨dy, gs, hb⟩)
  exact bin_same I.kIn I1 I2 hc hs hf (wpAny_call (codeAny_mono (run_fnR F hr hx I (vs := [.ref a, .ref b]) (.cons rfl (.cons rfl .nil)) q) fun r s' z => by
    cases r with
    | error e => exact z
    | ok fl => cases fl <;> first | exact back z | exact z))
/-- a == b, both instances of C, by C's __eq__ -/
theorem op_eq2 (hc : PySem.W.notFirst X.K C (.ref C) = true) (hs : PySem.W.findIn X.K (.ref C) "__eq__" = some (some (.ref f))) (hf : PySem.W.isFn X.K (.ref f) = true) (F : FnR X.prog X.w X.K X.mg X.base CX k f sp) (hr : Room k X.A) (hx : Passes CX X E) : OpR X (compareOp .Eq) (rOwn2 C sp E) := by
  intro pins s σ H x y v u Q I rx ry h
  obtain ⟨a, b, dx, dy, fs, gs, rfl, rfl, ha, hb, q⟩ := h
  obtain rfl : v = Value.ref a := rx
  obtain rfl : u = Value.ref b := ry
  obtain ⟨oa, da, I1, _⟩ := insC_at (X := X) I (.inr ⟨dx, fs, ha⟩)
  obtain ⟨ob, db, I2, _⟩ := insC_at (X := X) I (.inr ⟨dy, gs, hb⟩)
  obtain ⟨m0, F0⟩ := I.fr
  show wpAny (model X.prog X.w) X.A (richCompare .Eq (.ref a) (.ref b)) (EP X pins σ Q) X.xe s
  exact PySem.W.cmp_K (op := .Eq) (tb := .ref C) hr.units0 F0 I.ok.mod.kin I1 I2.type hc hs hf (wpAny_call (codeAny_mono (run_fnR F hr hx I (vs := [.ref a, .ref b]) (.cons rfl (.cons rfl .nil)) q) fun r s' z => by
    cases r with
    | error e => exact z
    | ok fl => cases fl <;> first | exact back z | exact z))
/-- a call of such a def from within a builtin's frame -/
theorem run_in {B : Around} {pins : List (Addr × Obj)} {σ : L2.St} {H : Hp} {s : Shared} {Q : VK} {us : List Value} {vs : List V} (F : FnR X.prog X.w X.K X.mg X.base CX k f sp) (hr : Room k B) (hx : Passes CX X E) (I : Inv X pins σ H s) (env : Env0 X.prog X.w X.K X.mg X.base B X.stack s H) (r : Vals vs us) (h : sp vs H Q E) :
    wpAny (model X.prog X.w) B (call (.ref f) us) (EP X pins σ Q) X.xe s := wpAny_call (codeAny_mono (F B X.stack s H us vs Q E hr env r h) fun r s' hq => by
  cases r with
  | error e => exact hx pins σ H s e s' I hq
  | ok fl =>
    cases fl with
    | ret u =>
      obtain ⟨v, H', I3, rv, q⟩ := I.after hq
      exact ⟨v, H', I3, rv, q⟩
    | next => exact False.elim hq
    | brk => exact False.elim hq
    | cont => exact False.elim hq)
/-- len(a) by an own __len__ -/
def rLenO (C : Addr) (sp : Sp) (E : XK) : List V → Hp → VK → Prop := fun xs H Q => ∃ a dx fs, xs = [.ref a] ∧ H a = some (.ins C dx fs) ∧ sp [.ref a] H (fun v H' => ∃ n : Nat, v = .int n ∧ n < 2 ^ 63 ∧ Q (.int n) H') E
theorem cr_lenO (hs : PySem.W.findIn X.K (.ref C) "__len__" = some (some (.ref f))) (hf : PySem.W.isFn X.K (.ref f) = true) (F : FnR X.prog X.w X.K X.mg X.base CX k f sp) (hr : Room (k + 1) X.A) (hx : Passes CX X E) : CallR X (.builtin "len") (rLenO C sp E) := by
  intro pins s σ H xs us Q I r h
  obtain ⟨a, dx, fs, rfl, ha, q⟩ := h
  rw [Vals.ref1 r]
  obtain ⟨oa, da, I1, _⟩ := insC_at (X := X) I (.inr ⟨dx, fs, ha⟩)
  obtain ⟨m0, F0⟩ := I.fr
  refine PySem.W.len_K F0 I.ok.mod.kin I1 hs hf (thn (run_in (B := X.A.in1) F hr.in1 hx I I.env0.in1 (vs := [.ref a]) (.cons rfl .nil) q) fun v s' z => ?_)
  obtain ⟨u, H', I', rv, n, rfl, hn, q'⟩ := z
  obtain ⟨t, rfl⟩ := rv
  have I2 : Inv X pins σ H' { s' with toks := s'.toks + 1 } := I'.kept (t' := s'.toks + 1) fun _ _ e => e
  exact ⟨⟨by omega, by omega⟩, .int n, H', I2, ⟨_, rfl⟩, q'⟩
/-- str(a) by an own __str__ -/
def rStrO (C : Addr) (sp : Sp) (E : XK) : List V → Hp → VK → Prop := fun xs H Q => ∃ a dx fs, xs = [.ref a] ∧ H a = some (.ins C dx fs) ∧ sp [.ref a] H (fun v H' => ∃ z : Str, v = .str z ∧ Q (.str z) H') E
theorem cr_strO (hs : PySem.W.findIn X.K (.ref C) "__str__" = some (some (.ref f))) (hf : PySem.W.isFn X.K (.ref f) = true) (F : FnR X.prog X.w X.K X.mg X.base CX k f sp) (hr : Room (k + 2) X.A) (hx : Passes CX X E) : CallR X (.type "str") (rStrO C sp E) := by
  intro pins s σ H xs us Q I r h
  obtain ⟨a, dx, fs, rfl, ha, q⟩ := h
  rw [Vals.ref1 r]
  obtain ⟨oa, da, I1, _⟩ := insC_at (X := X) I (.inr ⟨dx, fs, ha⟩)
  refine PySem.W.kso_call hr.in1.in1.units0 I.kIn I1 hs hf (thn (run_in (B := X.A.in1.in1) F hr.in1.in1 hx I I.env0.in1.in1 (vs := [.ref a]) (.cons rfl .nil) q) fun v s' z => ?_)
  obtain ⟨u, H', I', rv, y, rfl, q'⟩ := z
  obtain ⟨t, rfl⟩ := rv
  exact ⟨.str y, H', I', ⟨t, rfl⟩, q'⟩
/-- v in a by an own __contains__ that answers with a bool -/
def rInO (C : Addr) (sp : Sp) (E : XK) (no : Bool) : R2 := fun x y H Q => ∃ a dx fs, y = .ref a ∧ H a = some (.ins C dx fs) ∧ sp [y, x] H (fun v H' => ∃ b, v = .bl b ∧ Q (.bl (if no = true then !b else b)) H') E
theorem op_inO (hs : PySem.W.findIn X.K (.ref C) "__contains__" = some (some (.ref f))) (hf : PySem.W.isFn X.K (.ref f) = true) (F : FnR X.prog X.w X.K X.mg X.base CX k f sp) (hr : Room k X.A) (hx : Passes CX X E) : OpR X (compareOp .In) (rInO C sp E false) := by
  intro pins s σ H x y v u Q I rx ry h
  obtain ⟨a, dx, fs, rfl, ha, q⟩ := h
  obtain rfl : u = Value.ref a := ry
  obtain ⟨oa, da, I1, _⟩ := insC_at (X := X) I (.inr ⟨dx, fs, ha⟩)
  obtain ⟨m0, F0⟩ := I.fr
  refine PySem.W.in_K F0 I.ok.mod.kin I1 hs hf (thn (run_in (B := X.A) F hr hx I I.env0 (vs := [.ref a, x]) (.cons rfl (.cons rx .nil)) q) fun z s' h => ?_)
  obtain ⟨w, H', I', rv, b, rfl, q'⟩ := h
  obtain rfl : z = Value.bool b := rv
  exact wpAny_pure ⟨.bl b, H', I', rfl, q'⟩
end
end QS
set_option maxRecDepth 100000
set_option maxHeartbeats 4000000
/-! rules with the frag told, for use within a comprehension -/
namespace HR
open PySem PySem.Spec PyProof.Rows L2
theorem ix_listK {X : Cx} {K : PySem.W.Frag} (h : X.K = K := by rfl) : IxR X (rIxL K) := by
  subst h
  exact ix_list
theorem op_notIn_seqK {X : Cx} {K : PySem.W.Frag} (h : X.K = K := by rfl) : OpR X (compareOp .NotIn) (rIn K true) := by
  subst h
  exact op_notIn_seq
theorem op_in_seqK {X : Cx} {K : PySem.W.Frag} (h : X.K = K := by rfl) : OpR X (compareOp .In) (rIn K false) := by
  subst h
  exact op_in_seq
theorem call_tuple_ofK {X : Cx} {K : PySem.W.Frag} (h : X.K = K := by rfl) : CallR X (.type "tuple") fun xs H Q => ∃ p ys, xs = [V.ref p] ∧ ((SqL K H p ys ∧ ∀ l : Addr, H l = none → Q (V.ref l) (upd H l (.tup ys))) ∨ SqT K H p ys ∧ Q (V.ref p) H) := by
  subst h
  exact call_tuple_of
theorem call_list_ofK {X : Cx} {K : PySem.W.Frag} (h : X.K = K := by rfl) : CallR X (.type "list") fun xs H Q => ∃ p ys, xs = [V.ref p] ∧ (SqL K H p ys ∨ SqT K H p ys) ∧ ∀ l : Addr, H l = none → Q (V.ref l) (upd H l (.lst ys)) := by
  subst h
  exact call_list_of
theorem call_len_seqK {X : Cx} {K : PySem.W.Frag} (h : X.K = K := by rfl) : CallR X (.builtin "len") fun xs H Q => ∃ p ys, xs = [V.ref p] ∧ (SqL K H p ys ∨ SqT K H p ys) ∧ Q (V.int (ys.length : Nat)) H := by
  subst h
  exact call_len_seq
theorem pi_tupK {X : Cx} {K : PySem.W.Frag} {tg l : Expr} {tl : TE} (he : PE X l tl) (h : X.K = K := by rfl) : PI X tg l (iTup K tl) := by
  subst h
  exact pi_tup he
theorem pi_listK {X : Cx} {K : PySem.W.Frag} {tg l : Expr} {tl : TE} (he : PE X l tl) (h : X.K = K := by rfl) : PI X tg l (iList K tl) := by
  subst h
  exact pi_list he
theorem pe_backK {X : Cx} {K : PySem.W.Frag} {e st : Expr} {te ts : TE} {p2 pos : Pos} (he : PE X e te) (hs : PE X st ts) (h : X.K = K := by rfl) : PE X (.Subscript e (.Slice none none (some st) p2) pos) (tBack K te ts) := by
  subst h
  exact pe_back he hs
theorem cr_sortedTIK {X : Cx} {K : PySem.W.Frag} (h : X.K = K := by rfl) : CallR X (.builtin "sorted") (rSortedTI K) := by
  subst h
  exact cr_sortedTI
theorem cr_setIK {X : Cx} {K : PySem.W.Frag} {w : World} (hc : X.calm = true := by rfl) (h : X.K = K := by rfl) (hw : X.w = w := by rfl) : CallR X (.type "set") (rSetI K w) := by
  subst h hw
  exact cr_setI hc
theorem cr_sortedSetK {X : Cx} {w : World} (hc : X.calm = true := by rfl) (hw : X.w = w := by rfl) : CallR X (.builtin "sorted") (rSortedSet w) := by
  subst hw
  exact cr_sortedSet hc
theorem cr_anyK {X : Cx} {K : PySem.W.Frag} (hc : X.calm = true := by rfl) (h : X.K = K := by rfl) : CallR X (.builtin "any") (rAny K) := by
  subst h
  exact cr_any hc
theorem cr_sumK {X : Cx} {K : PySem.W.Frag} (hc : X.calm = true := by rfl) (h : X.K = K := by rfl) : CallR X (.builtin "sum") (rSum K) := by
  subst h
  exact cr_sum hc
theorem ix_tupK {X : Cx} {K : PySem.W.Frag} (h : X.K = K := by rfl) : IxR X (rIxT K) := by
  subst h
  exact ix_tup
theorem ix_seqK {X : Cx} {K : PySem.W.Frag} (h : X.K = K := by rfl) : IxR X (rIx K) := by
  subst h
  exact ix_seq
theorem op_catTK {X : Cx} {K : PySem.W.Frag} (h : X.K = K := by rfl) : OpR X (binaryOp .Add) (rCatT K) := by
  subst h
  exact op_catT
end HR
set_option maxRecDepth 100000
set_option maxHeartbeats 8000000
namespace HR
open PySem L2 Evl GP
/-! ### comprehensions -/
section
variable {K : PySem.W.Frag} {σ : L2.St} {H1 : Hp} {J : It} {G : Hp → Prop} {te : TE} {tt : TT}
/-- one name, a condition, the items' values are written -/
theorem lcF {α : Type} {xs : List α} {f : α → V} (w : L2.Walk J (xs.map f).length G (YAt (xs.map f))) (c : α → Bool) (r : α → V) {j : Nat} {vs : List Nat} (hz : xs.length < sizeLine) (hG : ∀ H', Ex H1 H' → G H') (hw : ∀ v, wipe ((wipe σ vs).set j (some v)) vs = wipe σ vs)
    (ht : ∀ v ∈ xs, ∀ H', Ex H1 H' → ∀ Q : Bool → Hp → Prop, (∀ H'', Ex H' H'' → Q (c v) H'') → tt ((wipe σ vs).set j (some (f v))) H' Q)
    (he : ∀ v ∈ xs, c v = true → ∀ H', Ex H1 H' → ∀ Q : VK, (∀ H'', Ex H' H'' → Q (r v) H'') → te ((wipe σ vs).set j (some (f v))) H' Q) {Qd : Hp → Prop} {D : Addr} (hD : H1 D = none) (k : ∀ H', Ex H1 H' → H' D = some (.lst ((xs.filter c).map r)) → Qd H') :
    ∃ W : Nat → Nat → Hp → Prop, (∃ m, W 0 m (upd H1 D (.lst []))) ∧ ∀ i m H, W i m H →
      (J.stop i H ∧ Qd H) ∨ (J.go i H ∧ ∃ Nx : Hp → Prop, (∀ H', Nx H' → ∃ m', m' < m ∧ W (i + 1) m' H') ∧ ∀ x H', J.yld i H x H' → gName j x (wipe σ vs) H' fun σ2 H2 => wipe σ2 vs = wipe σ vs ∧ tt σ2 H2 fun b H3 =>
        if b = true then te σ2 H3 fun y H4 => ∃ acc, H4 D = some (.lst acc) ∧ acc.length < sizeLine ∧ Nx (upd H4 D (.lst (acc ++ [y]))) else Nx H3) := by
  refine lc_it w (fun i H => Ex H1 H ∧ H D = some (.lst (((xs.take i).filter c).map r))) ⟨Ex.new hD, upd_same⟩ (fun i H _ p => hG H p.1) ?_ (fun H p => k H p.1 (by have := p.2; rwa [List.length_map, List.take_length] at this))
  rintro i x H H' hi ⟨e, hl⟩ ⟨rfl, hx⟩
  rw [List.length_map] at hi
  rw [List.getElem?_map, List.getElem?_eq_getElem hi] at hx
  cases hx
  have hm : xs[i] ∈ xs := List.getElem_mem hi
  unfold gName
  dsimp only
  refine ⟨hw _, ht _ hm H' e _ fun H3 e3 => ?_⟩
  have tk : (xs.take (i + 1)).filter c = (xs.take i).filter c ++ (if c xs[i] = true then [xs[i]] else []) := by
    rw [List.take_add_one, List.getElem?_eq_getElem hi, List.filter_append]
    simp only [Option.toList_some]
    by_cases hc : c xs[i] = true
    · rw [if_pos hc]; simp [hc]
    · rw [if_neg hc]; simp [hc]
  cases hc : c xs[i] with
  | true =>
    rw [if_pos rfl]
    refine he _ hm hc H3 (e.trans e3) _ fun H4 e4 => ⟨_, e4 D _ (e3 D _ hl), ?_, Ex.mut ((e.trans e3).trans e4) hD, ?_⟩
    · have := List.length_filter_le c (xs.take i)
      rw [List.length_map]
      rw [List.length_take] at this
      omega
    · rw [upd_same, tk, hc, if_pos rfl, List.map_append]
      rfl
  | false =>
    rw [if_neg Bool.false_ne_true]
    refine ⟨e.trans e3, ?_⟩
    rw [tk, hc, if_neg Bool.false_ne_true, List.append_nil]
    exact e3 D _ hl
end
section
variable {K : PySem.W.Frag} {σ : L2.St} {H1 : Hp} {J : It} {G : Hp → Prop} {te : TE} {tt : TT}
/-- one name, no condition -/
theorem lcM {α : Type} {xs : List α} {f : α → V} (w : L2.Walk J (xs.map f).length G (YAt (xs.map f))) (r : α → V) {j : Nat} {vs : List Nat} (hz : xs.length < sizeLine) (hG : ∀ H', Ex H1 H' → G H') (hw : ∀ v, wipe ((wipe σ vs).set j (some v)) vs = wipe σ vs)
    (he : ∀ v ∈ xs, ∀ H', Ex H1 H' → ∀ Q : VK, (∀ H'', Ex H' H'' → Q (r v) H'') → te ((wipe σ vs).set j (some (f v))) H' Q) {Qd : Hp → Prop} {D : Addr} (hD : H1 D = none) (k : ∀ H', Ex H1 H' → H' D = some (.lst (xs.map r)) → Qd H') :
    ∃ W : Nat → Nat → Hp → Prop, (∃ m, W 0 m (upd H1 D (.lst []))) ∧ ∀ i m H, W i m H →
      (J.stop i H ∧ Qd H) ∨ (J.go i H ∧ ∃ Nx : Hp → Prop, (∀ H', Nx H' → ∃ m', m' < m ∧ W (i + 1) m' H') ∧ ∀ x H', J.yld i H x H' → gName j x (wipe σ vs) H' fun σ2 H2 => wipe σ2 vs = wipe σ vs ∧ tYes σ2 H2 fun b H3 =>
        if b = true then te σ2 H3 fun y H4 => ∃ acc, H4 D = some (.lst acc) ∧ acc.length < sizeLine ∧ Nx (upd H4 D (.lst (acc ++ [y]))) else Nx H3) :=
  lcF w (fun _ => true) r hz hG hw (fun v _ H' _ Q q => q H' (Ex.refl _)) (fun v hv _ => he v hv) hD fun H' e h => k H' e (by rwa [List.filter_eq_self.mpr (fun _ _ => rfl)] at h)
end
end HR
set_option maxRecDepth 100000
set_option maxHeartbeats 4000000
namespace HR
open PySem L2
theorem toList_inj {x y : Str} (h : x.cps.toList = y.cps.toList) : x = y := by
  obtain ⟨a⟩ := x
  obtain ⟨b⟩ := y
  have : a = b := Array.ext' h
  rw [this]
/-! ### ascending texts -/
def Asc (l : List Str) : Prop := l.Pairwise fun a b => a.cps.toList < b.cps.toList
instance (l : List Str) : Decidable (Asc l) := by unfold Asc; infer_instance
theorem lt_irr (a : Str) : ¬ a.cps.toList < a.cps.toList := List.lt_irrefl _
theorem lt_tri {a b : Str} (h1 : ¬ a.cps.toList < b.cps.toList) (h2 : ¬ b.cps.toList < a.cps.toList) : a = b := toList_inj (List.le_antisymm (List.not_lt.mp h2) (List.not_lt.mp h1))
theorem rise_pw : ∀ (l : List Str), PyProof.Rows.sortedS l = true → l.Pairwise fun a b => ¬ b.cps.toList < a.cps.toList
  | [], _ => List.Pairwise.nil
  | x :: l, h => by
    have go : ∀ (l : List Str) (p : Str), PyProof.Rows.risingS p l = true → (p :: l).Pairwise fun a b => ¬ b.cps.toList < a.cps.toList := by
      intro l
      induction l with
      | nil => intro p _; exact List.pairwise_singleton _ _
      | cons y l ih =>
        intro p h
        rw [PyProof.Rows.risingS, Bool.and_eq_true, Bool.not_eq_true', PyProof.Rows.ltCps_eq, decide_eq_false_iff_not] at h
        have hp := ih y h.2
        refine List.pairwise_cons.mpr ⟨fun z hz => ?_, hp⟩
        rcases List.mem_cons.mp hz with e | e
        · rw [e]; exact h.1
        · have hyz := (List.pairwise_cons.mp hp).1 z e
          exact fun q => h.1 (List.lt_of_le_of_lt (List.not_lt.mp hyz) q)
    exact go l x h
theorem asc_of {ys : List Str} (so : PyProof.Rows.sortedS ys = true) (nd : ys.Nodup) : Asc ys := by
  have h := rise_pw ys so
  unfold Asc
  refine List.Pairwise.imp₂ (R := fun a b => ¬ b.cps.toList < a.cps.toList) (S := fun a b => a ≠ b) (fun a b h1 h2 => ?_) h nd
  rcases Classical.em (a.cps.toList < b.cps.toList) with c | c
  · exact c
  · exact absurd (lt_tri c h1) h2
theorem asc_nodup {l : List Str} (h : Asc l) : l.Nodup := List.Pairwise.imp (fun {a b} q e => by rw [e] at q; exact lt_irr _ q) h
theorem asc_same : ∀ {xs ys : List Str}, Asc xs → Asc ys → (∀ z, z ∈ xs ↔ z ∈ ys) → xs = ys
  | [], [], _, _, _ => rfl
  | [], y :: ys, _, _, m => absurd ((m y).mpr List.mem_cons_self) (by simp)
  | x :: xs, [], _, _, m => absurd ((m x).mp List.mem_cons_self) (by simp)
  | x :: xs, y :: ys, hx, hy, m => by
    obtain ⟨x1, x2⟩ := List.pairwise_cons.mp hx
    obtain ⟨y1, y2⟩ := List.pairwise_cons.mp hy
    have e : x = y := by
      rcases List.mem_cons.mp ((m x).mp List.mem_cons_self) with e | e
      · exact e
      · rcases List.mem_cons.mp ((m y).mpr List.mem_cons_self) with e2 | e2
        · exact e2.symm
        · exact absurd (List.lt_trans (x1 y e2) (y1 x e)) (lt_irr _)
    subst e
    rw [asc_same x2 y2 fun z => ?_]
    constructor
    · intro h
      rcases List.mem_cons.mp ((m z).mp (List.mem_cons_of_mem _ h)) with e | e
      · exact absurd (x1 z h) (by rw [e]; exact lt_irr _)
      · exact e
    · intro h
      rcases List.mem_cons.mp ((m z).mpr (List.mem_cons_of_mem _ h)) with e | e
      · exact absurd (y1 z h) (by rw [e]; exact lt_irr _)
      · exact e
end HR
set_option maxRecDepth 100000
set_option maxHeartbeats 4000000
/-! a set whose elements are found by any kind of key that stands on the heap -/
namespace SetH
open PySem PySem.Spec PyProof.Rows L2
variable {P : Program} {w : World} {κ : Type} [DecidableEq κ]
/-- what of a kind is asked for sets -/
structure SK (knd : HeapKind P w κ) : Prop where
  noClass : ∀ {A : Around} {E : Value → Shared → Prop} {s : Shared} {k : κ} {b : Addr} {Q : Bool → Shared → Prop}, knd.is s.heap k b → Q false s → wpAny (model P w) A (ofAClassStatement 8 (.ref b)) Q E s
  valued : ∀ {A : Around} {E : Value → Shared → Prop} {s : Shared} {k : κ} {b : Addr} {Q : Bool → Shared → Prop}, knd.is s.heap k b → (∀ v, Q v s) → wpAny (model P w) A (hashByValue 8 (.ref b)) Q E s
  apart : ∀ {h h' : Heap} {k : κ} {a b : Addr} {o : Obj} {es : Array (Int × Value)} {ep : Nat} {t : SetTable}, knd.is h k b → h.get? a = some o → o.data = .set es ep t → Heap.SameBut a h h' → knd.is h' k b
  keep : ∀ {h h' : Heap} {k : κ} {b : Addr}, knd.is h k b → (∀ o, h.get? b = some o → h'.get? b = some o) → knd.is h' k b
  lies : ∀ {h : Heap} {k : κ} {b : Addr}, knd.is h k b → b < h.objs.size
section
variable {knd : HeapKind P w κ} {A : Around} {E : Value → Shared → Prop} {s : Shared}
/-- while a search goes on among such keys nothing is shown -/
theorem unseen (S : SK knd) {k : κ} {b : Addr} {Q : Bool → Shared → Prop} (hk : knd.is s.heap k b) {ys : List Value} (hy : ∀ y ∈ ys, ∃ k' c, y = Value.ref c ∧ knd.is s.heap k' c) (h : Q false s) :
    wpAny (model P w) A (searchCouldBeSeen (.ref b) ys) Q E s := by
  unfold searchCouldBeSeen
  refine wpAny_bind (wpAny_forIn_list _ (fun todo r s1 => r.1 = none ∧ s1 = s ∧ ∀ y ∈ todo, ∃ k' c, y = Value.ref c ∧ knd.is s.heap k' c) _ ?_ ?_ _ _ ⟨rfl, rfl, hy⟩)
  · rintro v todo ⟨r1, r2⟩ s1 ⟨e1, e2, all⟩
    dsimp only at e1
    subst e1 e2
    obtain ⟨k', c, rfl, hc⟩ := all v List.mem_cons_self
    have more : ∀ y ∈ todo, ∃ k' c, y = Value.ref c ∧ knd.is s1.heap k' c := fun y hm => all y (List.mem_cons_of_mem _ hm)
    dsimp only
    by_cases hv : (b == c || (carriedByValue (.ref b) && carriedByValue (.ref c))) = true
    · exact wp_if_pos hv (wpAny_pure ⟨rfl, rfl, more⟩)
    · refine wp_if_neg hv (wpAny_bind (knd.quiet hk ?_))
      simp only [Bool.not_true, Bool.false_eq_true, if_false]
      refine wpAny_bind (knd.quiet hc ?_)
      simp only [Bool.not_true, Bool.false_eq_true, if_false]
      refine wpAny_bind (S.noClass hk ?_)
      simp only [Bool.false_eq_true, if_false]
      refine wpAny_bind (S.noClass hc ?_)
      simp only [Bool.false_eq_true, if_false]
      exact wpAny_pure ⟨rfl, rfl, more⟩
  · rintro ⟨r1, r2⟩ s1 ⟨e1, e2, _⟩
    dsimp only at e1
    subst e1 e2
    exact wpAny_pure h
/-- the rows of the table, in the order in which they lie -/
def row (knd : HeapKind P w κ) (p : Addr × κ) : Int × Value := (knd.hash p.2, .ref p.1)
structure Held (knd : HeapKind P w κ) (h : Heap) (a : Addr) (L : List (Addr × κ)) (es : Array (Int × Value)) (ep : Nat) (t : SetTable) : Prop where
  at_ : ∃ o, h.get? a = some o ∧ o.ExactSet ∧ o.data = .set es ep t
  rows : es.toList = L.map (row knd)
  tab : TabOk t (L.map fun p => knd.hash p.2)
  nd : (L.map Prod.snd).Nodup
  own : ∀ p ∈ L, knd.is h p.2 p.1
  led : w.params.followText "set-order" = true ∨ t.led = true
  wide : L.length * 5 < t.mask * 3
  few : L.length < 64
variable {a : Addr} {L : List (Addr × κ)} {es : Array (Int × Value)} {ep : Nat} {t : SetTable}
theorem rows_size (hr : es.toList = L.map (row knd)) : es.size = L.length := by
  rw [← Array.length_toList, hr, List.length_map]
theorem rows_at (hr : es.toList = L.map (row knd)) {i : Nat} {p : Addr × κ} (h : L[i]? = some p) : es[i]? = some (knd.hash p.2, .ref p.1) := by
  rw [← Array.getElem?_toList, hr, List.getElem?_map, h]
  rfl
theorem Held.tsize {h : Heap} (R : Held knd h a L es ep t) : t.place.size = L.length := by
  have := R.tab.sz
  rwa [List.length_map] at this
theorem Held.fits {h : Heap} (R : Held knd h a L es ep t) : t.fits es.size = true := by
  have h1 := R.tsize
  have h2 := rows_size R.rows
  have h3 := R.wide
  unfold SetTable.fits SetTable.fill
  rw [R.tab.dm, Bool.and_eq_true, beq_iff_eq, decide_eq_true_eq]
  exact ⟨h1.trans h2.symm, by show t.place.size + 0 ≤ t.mask; omega⟩
/-- the c-th step of the way of hh -/
def stp (t : SetTable) (hh : Int) (c : Nat) : SetTable.Probe := nth t.mask (runAt t.mask (SetTable.bits hh % (t.mask + 1)) (SetTable.bits hh)) c
theorem stp_clear (t : SetTable) (hh : Int) (c : Nat) : (stp t hh c).dummy = none := by
  have all : ∀ (n : Nat) (p : SetTable.Probe), p.dummy = none → (nth t.mask p n).dummy = none := by
    intro n
    induction n with
    | zero => exact fun p h => h
    | succ n ih =>
      intro p h
      have h1 : (adv t.mask p).dummy = none := by unfold adv; split <;> exact h
      exact ih (adv t.mask p) h1
  exact all c _ rfl
theorem stp_on (t : SetTable) (hh : Int) (c q : Nat) : nth t.mask (stp t hh c) q = stp t hh (c + q) := (nth_add t.mask c _ q).symm
theorem even_no {m : Nat} {t : SetTable} (h : t.mask = m) (hm : MaskOk m) : ¬ t.gaveWay = true := by
  unfold SetTable.gaveWay
  rw [h, mask_odd hm]
  decide
/-- from any step of the way on, n steps ahead of the free slot -/
theorem seek (S : SK knd) (R : Held knd s.heap a L es ep t) {x : Addr} {k : κ} (hx : knd.is s.heap k x) (hu : knd.room A) {K : Nat} (hf : K < 10 * SetTable.turns t.mask) (hK : way t.mask (knd.hash k) K ∉ t.place.toList)
    (hb : ∀ c, c < K → way t.mask (knd.hash k) c ∈ t.place.toList) {Q : SetFound → Shared → Prop} (yes : k ∈ L.map Prod.snd → Q (.there none) s) (no : k ∉ L.map Prod.snd → Q (.free (way t.mask (knd.hash k) K) false) s) :
    ∀ (n fuel c : Nat) (st : Option SetTable.Probe), c + n = K → n < fuel → st.getD (t.probeStart (knd.hash k)) = stp t (knd.hash k) c →
      (∀ (i : Nat) p, L[i]? = some p → p.2 = k → ∃ c', c ≤ c' ∧ c' < K ∧ t.place.toList[i]? = some (way t.mask (knd.hash k) c')) →
      wpAny (model P w) A (setSearchFrom a (.ref x) (knd.hash k) true fuel st) Q E s := by
  intro n
  induction n using Nat.strongRecOn with
  | _ n ih =>
    intro fuel c st hc hfu hst ahead
    obtain ⟨fuel, rfl⟩ : ∃ f, fuel = f + 1 := ⟨fuel - 1, by omega⟩
    obtain ⟨o, ho, hex, hd⟩ := R.at_
    rw [setSearchFrom_succ]
    refine wpAny_bind (wpAny_setState_of ho hd R.fits ?_)
    dsimp only
    refine wp_if_neg (even_no rfl R.tab.mok) ?_
    try refine wpAny_bind (wpAny_pure ?_)
    have jw : ∀ q, (nth t.mask (stp t (knd.hash k) c) q).j = way t.mask (knd.hash k) (c + q) := fun q => congrArg SetTable.Probe.j (stp_on t _ c q)
    have hashed : ∀ (i : Nat) p, L[i]? = some p → (es[i]?.map Prod.fst).getD 0 = knd.hash p.2 := fun i p hp => by rw [rows_at R.rows hp]; rfl
    have out := go_spec t R.tab.ris R.tab.dm (fun i => (es[i]?.map (·.1)).getD 0) (knd.hash k) (10 * SetTable.turns t.mask) n (stp t (knd.hash k) c) (stp_clear t _ c) (by omega) (fun q hq => by rw [jw]; exact hb _ (by omega)) (by rw [jw, hc]; exact hK)
    rcases out with ⟨q, i, hq, hi, hh, first, hp⟩ | ⟨none_, hp⟩
    · have hp' : t.probe (fun i => (es[i]?.map (·.1)).getD 0) (knd.hash k) (st.getD (t.probeStart (knd.hash k))) = some (.candidate (way t.mask (knd.hash k) (c + q)) i (stp t (knd.hash k) (c + (q + 1)))) := by
        rw [hst, ← jw, ← stp_on]
        exact hp
      rw [hp']
      dsimp only
      rw [jw] at hi
      have hil : i < L.length := by
        have := (List.getElem?_eq_some_iff.mp hi).1
        rw [Array.length_toList, R.tsize] at this
        exact this
      obtain ⟨p, hpi⟩ : ∃ p, L[i]? = some p := ⟨L[i], List.getElem?_eq_getElem hil⟩
      have hpm := List.mem_of_getElem? hpi
      have hpk := R.own p hpm
      have go : wpAny (model P w) A (searchRest a (.ref x) (knd.hash k) true fuel es t (way t.mask (knd.hash k) (c + q)) i (stp t (knd.hash k) (c + (q + 1)))) Q E s := by
        unfold searchRest
        rw [rows_at R.rows hpi]
        dsimp only
        refine wpAny_bind (wpAny_holding (knd.eqBool hu hpk hx (wpAny_bind (wpAny_setState_of ho hd R.fits ?_))))
        dsimp only
        by_cases same : p.2 = k
        · exact wp_if_pos (by simp [same]) (wpAny_pure (yes (List.mem_map.mpr ⟨p, hpm, same⟩)))
        · refine wp_if_neg (by simp [same]) ?_
          try refine wpAny_bind (wpAny_pure ?_)
          rw [sameMem]
          dsimp only
          have live : t.slot (way t.mask (knd.hash k) (c + q)) = .live i := slot_live R.tab.ris hi
          simp only [if_true, live, rows_at R.rows hpi]
          refine wpAny_bind (wpAny_isSame_ref_self (wpAny_bind (wpAny_pure ?_)))
          simp only [if_true]
          refine wp_if_neg (by simp [same]) ?_
          refine ih (n - (q + 1)) (by omega) fuel (c + (q + 1)) _ (by omega) (by omega) rfl fun i0 p0 h0 k0 => ?_
          obtain ⟨c', l1, l2, l3⟩ := ahead i0 p0 h0 k0
          refine ⟨c', ?_, l2, l3⟩
          by_cases lt : c' < c + q
          · exact absurd ((hashed i0 p0 h0).trans (congrArg knd.hash k0)) (first (c' - c) i0 (by omega) (by rw [jw, show c + (c' - c) = c' by omega]; exact l3))
          · by_cases eq : c' = c + q
            · subst eq
              have l4 := slot_live R.tab.ris l3
              rw [live] at l4
              obtain rfl : i = i0 := by injection l4
              rw [hpi] at h0
              obtain rfl := Option.some.inj h0
              exact absurd k0 same
            · omega
      by_cases hl : t.led = true
      · refine wp_if_neg (by simp [hl]) ?_
        try refine wpAny_bind (wpAny_pure ?_)
        exact go
      · refine wp_if_pos (by simp [hl]) (wpAny_bind (unseen S hx (fun y hy => ?_) ?_))
        · obtain ⟨e, he, rfl⟩ := List.mem_map.mp hy
          have he2 : e ∈ es.toList := by
            have : e ∈ es ∧ e.1 = knd.hash k := by simpa using he
            simpa using this.1
          rw [R.rows] at he2
          obtain ⟨p2, hm2, rfl⟩ := List.mem_map.mp he2
          exact ⟨p2.2, p2.1, rfl, R.own p2 hm2⟩
        · refine wp_if_neg (by decide) ?_
          try refine wpAny_bind (wpAny_pure ?_)
          exact go
    · have hp' : t.probe (fun i => (es[i]?.map (·.1)).getD 0) (knd.hash k) (st.getD (t.probeStart (knd.hash k))) = some (.empty (way t.mask (knd.hash k) K) none) := by
        have e := jw n
        rw [hc] at e
        rw [hst, ← e]
        exact hp
      rw [hp']
      dsimp only
      refine wpAny_pure (no fun hm => ?_)
      obtain ⟨p0, hm0, k0⟩ := List.mem_map.mp hm
      obtain ⟨i0, h0⟩ := List.getElem?_of_mem hm0
      obtain ⟨c', l1, l2, l3⟩ := ahead i0 p0 h0 k0
      exact none_ (c' - c) i0 (by omega) (by rw [jw, show c + (c' - c) = c' by omega]; exact l3) ((hashed i0 p0 h0).trans (congrArg knd.hash k0))
/-- the search of an add -/
theorem sought (S : SK knd) (R : Held knd s.heap a L es ep t) {x : Addr} {k : κ} (hx : knd.is s.heap k x) (hu : knd.room A) {Q : SetFound → Shared → Prop} (yes : k ∈ L.map Prod.snd → Q (.there none) s)
    (no : ∀ K, k ∉ L.map Prod.snd → way t.mask (knd.hash k) K ∉ t.place.toList → (∀ c, c < K → way t.mask (knd.hash k) c ∈ t.place.toList) → Q (.free (way t.mask (knd.hash k) K) false) s) :
    wpAny (model P w) A (setSearch a (.ref x) (knd.hash k) true) Q E s := by
  have wd := R.wide
  obtain ⟨K, hf, hK, hb⟩ := R.tab.first (by rw [List.length_map]; omega) (knd.hash k)
  have turns : 10 * SetTable.turns t.mask ≤ 1420 := by
    unfold SetTable.turns
    rcases R.tab.mok with e | e | e <;> omega
  unfold setSearch
  refine seek S R hx hu hf hK hb yes (fun hn => no K hn hK hb) K 100000 0 none (Nat.zero_add K) (by omega) rfl fun i p hp hk => ?_
  have h1 : (L.map fun p => knd.hash p.2)[i]? = some (knd.hash k) := by rw [List.getElem?_map, hp, ← hk]; rfl
  have h2 : i < t.place.toList.length := by
    rw [Array.length_toList, R.tsize]
    exact (List.getElem?_eq_some_iff.mp hp).1
  obtain ⟨c, hc, e⟩ := R.tab.before hK h1 (List.getElem?_eq_getElem h2)
  exact ⟨c, Nat.zero_le _, hc, by rw [List.getElem?_eq_getElem h2, e]⟩
/-- the elements in a new order -/
theorem range_all {α : Type} : ∀ l : List α, (List.range l.length).filterMap (fun i => l[i]?) = l
  | [] => rfl
  | x :: l => by
    have e : (fun i => (x :: l)[i]?) 0 = some x := rfl
    rw [List.length_cons, List.range_succ_eq_map, List.filterMap_cons_some e, List.filterMap_map]
    exact congrArg (x :: ·) (range_all l)
theorem turned (hr : es.toList = L.map (row knd)) {order : Array Nat} (hp : order.toList.Perm (List.range L.length)) :
    ∃ Lm : List (Addr × κ), (order.filterMap (es[·]?)).toList = Lm.map (row knd) ∧ Lm.Perm L ∧ (Lm.map fun p => knd.hash p.2) = order.toList.map fun i => (es.map (·.1)).getD i 0 := by
  have low : ∀ i ∈ order.toList, i < L.length := fun i hi => List.mem_range.mp (hp.mem_iff.mp hi)
  have each : ∀ l : List Nat, (∀ i ∈ l, i < L.length) → l.filterMap (fun i => es[i]?) = (l.filterMap fun i => L[i]?).map (row knd) ∧ ((l.filterMap fun i => L[i]?).map fun p => knd.hash p.2) = l.map fun i => (es.map (·.1)).getD i 0 := by
    intro l
    induction l with
    | nil => exact fun _ => ⟨rfl, rfl⟩
    | cons i l ih =>
      intro hl
      have hi := hl i List.mem_cons_self
      obtain ⟨e1, e2⟩ := ih fun j hj => hl j (List.mem_cons_of_mem _ hj)
      have hL : L[i]? = some L[i] := List.getElem?_eq_getElem hi
      have hE := rows_at hr hL
      have hG : (es.map (·.1)).getD i 0 = knd.hash L[i].2 := by
        have h0 : (es.map (·.1))[i]? = some (knd.hash L[i].2) := by rw [Array.getElem?_map, hE]; rfl
        rw [Array.getD_eq_getD_getElem?, h0]
        rfl
      rw [List.filterMap_cons_some hE, List.filterMap_cons_some hL, List.map_cons, List.map_cons, List.map_cons, e1, e2, hG]
      exact ⟨rfl, rfl⟩
  obtain ⟨e1, e2⟩ := each order.toList low
  refine ⟨_, by rw [Array.toList_filterMap]; exact e1, ?_, e2⟩
  have h := hp.filterMap fun i => L[i]?
  rwa [range_all] at h
theorem fits_of {h : Heap} (hs : t.place.size = es.size) (dm : t.dummies = #[]) (hl : es.size ≤ t.mask) : t.fits es.size = true := by
  unfold SetTable.fits SetTable.fill
  rw [dm, Bool.and_eq_true, beq_iff_eq, decide_eq_true_eq]
  exact ⟨hs, by show t.place.size + 0 ≤ t.mask; omega⟩
/-- all laid anew in a larger table -/
theorem relay (S : SK knd) {o : Obj} (ho : s.heap.get? a = some o) (hex : o.ExactSet) (hd : o.data = .set es ep t) (hr : es.toList = L.map (row knd)) (hs : t.place.size = L.length) (dm : t.dummies = #[]) (hl : L.length ≤ t.mask) (nd : (L.map Prod.snd).Nodup)
    (own : ∀ p ∈ L, knd.is s.heap p.2 p.1) (ld : w.params.followText "set-order" = true ∨ t.led = true) (few : L.length < 64) {want M : Nat} (hw : SetTable.sizeAbove want - 1 = M) (hM : MaskOk M) (h128 : SetTable.sizeAbove want ≤ 128) (hn : L.length * 5 < M * 3)
    {Q : Unit → Shared → Prop} (hQ : ∀ h' L' es' ep' t', Heap.SameBut a s.heap h' → Held knd h' a L' es' ep' t' → L'.Perm L → Q () { s with heap := h' }) : wpAny (model P w) A (setRelay a want) Q E s := by
  have sz := rows_size hr
  obtain ⟨t', order, er, hp, T, tm, tl, tp, td⟩ := relaid_ok t (hs := es.map (·.1)) (wanted := want) hw hM (by rw [Array.size_map, sz]; omega)
  rw [Array.size_map, sz] at hp
  obtain ⟨Lm, r1, r2, r3⟩ := turned hr hp
  rw [← r3] at T
  have sz2 : (order.filterMap (es[·]?)).size = es.size := by rw [rows_size r1, r2.length_eq, sz]
  rw [setRelay_eq]
  refine wpAny_bind (wpAny_setState_of ho hd (fits_of (h := s.heap) (hs.trans sz.symm) dm (by omega)) ?_)
  dsimp only
  refine wp_if_neg (by rw [sizeLine_eq]; omega) ?_
  try refine wpAny_bind (wpAny_pure ?_)
  rw [er]
  dsimp only
  refine wpAny_bind (wp_if_neg (by rw [sz2]; simp) ?_)
  try refine wpAny_bind (wpAny_pure ?_)
  refine wpAny_pure ?_
  dsimp only
  refine wpAny_storeSet_of ho hd ?_ (by rw [sz2, sz, sizeLine_eq]; omega)
  have sb : Heap.SameBut a s.heap (s.heap.update a (Obj.putSet (order.filterMap (es[·]?)) t')) := Heap.SameBut.update ..
  exact hQ _ Lm _ (ep + 1) t' sb ⟨⟨_, store_at ho hd, ⟨hex.1, hex.2.1, hex.2.2⟩, rfl⟩, r1, T, (r2.map Prod.snd).nodup_iff.mpr nd, fun p hm => S.apart (own p (r2.mem_iff.mp hm)) ho hd sb, by rw [tl]; exact ld, by rw [r2.length_eq, tm]; exact hn, by rw [r2.length_eq]; exact few⟩ r2
/-- an element added -/
theorem added (S : SK knd) (R : Held knd s.heap a L es ep t) {x : Addr} {k : κ} (hx : knd.is s.heap k x) (hu : knd.room A) (few : L.length + 1 < 64) {Q : Bool → Shared → Prop}
    (hQ : ∀ b h' L' es' ep' t', Heap.SameBut a s.heap h' → Held knd h' a L' es' ep' t' → (k ∈ L.map Prod.snd → L' = L) → (k ∉ L.map Prod.snd → L'.Perm ((x, k) :: L)) → Q b { s with heap := h' }) :
    wpAny (model P w) A (setAddHashed a (.ref x) (knd.hash k)) Q E s := by
  obtain ⟨o, ho, hex, hd⟩ := R.at_
  have sz := rows_size R.rows
  have wd := R.wide
  unfold setAddHashed
  rw [show (100000 : Nat) = 99999 + 1 from rfl, setAddHashedIn_succ]
  refine wpAny_holding (wpAny_bind (wpAny_setState_of ho hd R.fits ?_))
  dsimp only
  refine wp_if_neg (by simp [byScan, Value.scannable]) ?_
  try refine wpAny_bind (wpAny_pure ?_)
  refine wpAny_bind (sought S R hx hu (fun hm => wpAny_pure (hQ false s.heap L es ep t (Heap.SameBut.refl a s.heap) R (fun _ => rfl) fun z => absurd hm z)) fun K hm hK hb => ?_)
  dsimp only
  refine wpAny_bind (wpAny_setState_of ho hd R.fits ?_)
  dsimp only
  obtain ⟨q1, q2, q3, q4, q5, _, _, _, q9⟩ := R.tab.put hK hb
  generalize hj : SetTable.below t.place (way t.mask (knd.hash k) K) = j at q1 q2 q3
  generalize hpt : t.put (way t.mask (knd.hash k) K) = pt at q1 q3 q4 q5 q9 ⊢
  obtain ⟨t0, j'⟩ := pt
  dsimp only at q1 q3 q4 q5 q9 ⊢
  subst q1
  suffices tail : ∀ t1 : SetTable, TabOk t1 ((L.map fun p => knd.hash p.2).take j' ++ knd.hash k :: (L.map fun p => knd.hash p.2).drop j') → t1.mask = t.mask → t1.led = t.led → t1.fill = (L.map fun p => knd.hash p.2).length + 1 → wpAny (model P w) A (do
      storeSet a (SetTable.insertAt es j' (knd.hash k, Value.ref x)) t1
      if (!false && t1.tooFull) = true then do
          setRelay a (SetTable.grown (es.size + 1))
          pure true
        else pure true) Q E s by
    have t9 := tail t0 q3 q4 q5 q9
    have t8 := tail { t0 with plain := false } ⟨q3.ris, q3.dm, q3.sz, q3.mok, q3.bd, q3.reach⟩ q4 q5 q9
    by_cases hp : t0.plain = true
    · refine wp_if_pos hp (wpAny_bind (S.valued hx fun v => ?_))
      cases v with
      | true => simpa using t9
      | false => simpa using t8
    · refine wp_if_neg hp ?_
      first
        | exact t9
        | simpa using t9
  intro t1 q3 q4 q5 q9
  have pm : (L.take j' ++ (x, k) :: L.drop j').Perm ((x, k) :: L) := put_perm L j' (x, k)
  have r1 : (SetTable.insertAt es j' (knd.hash k, Value.ref x)).toList = (L.take j' ++ (x, k) :: L.drop j').map (row knd) := by
    rw [SetTable.toList_insertAt, R.rows, List.map_append, List.map_cons, List.map_take, List.map_drop]
    rfl
  have hh : (L.take j' ++ (x, k) :: L.drop j').map (fun p => knd.hash p.2) = (L.map fun p => knd.hash p.2).take j' ++ knd.hash k :: (L.map fun p => knd.hash p.2).drop j' := by
    rw [List.map_append, List.map_cons, List.map_take, List.map_drop]
  rw [← hh] at q3
  generalize L.take j' ++ (x, k) :: L.drop j' = L1 at pm r1 q3
  have sz1 := rows_size r1
  have l1 : L1.length = L.length + 1 := pm.length_eq
  generalize SetTable.insertAt es j' (knd.hash k, Value.ref x) = es1 at r1 sz1 ⊢
  have nd1 : (L1.map Prod.snd).Nodup := (pm.map Prod.snd).nodup_iff.mpr (List.nodup_cons.mpr ⟨hm, R.nd⟩)
  have ts1 : t1.place.size = L1.length := by
    have := q3.sz
    rwa [List.length_map] at this
  refine wpAny_bind (wpAny_storeSet_of ho hd ?_ (by rw [sz1, l1, sizeLine_eq]; omega))
  have sb : Heap.SameBut a s.heap (s.heap.update a (Obj.putSet es1 t1)) := Heap.SameBut.update ..
  have ho1 := store_at (es' := es1) (t' := t1) ho hd
  generalize s.heap.update a (Obj.putSet es1 t1) = h1 at sb ho1 ⊢
  have own1 : ∀ p ∈ L1, knd.is h1 p.2 p.1 := fun p hp => by
    rcases List.mem_cons.mp (pm.mem_iff.mp hp) with rfl | hp
    · exact S.apart hx ho hd sb
    · exact S.apart (R.own p hp) ho hd sb
  have led1 : w.params.followText "set-order" = true ∨ t1.led = true := by rw [q5]; exact R.led
  have full : t1.tooFull = decide ((L.length + 1) * 5 ≥ t.mask * 3) := by
    unfold SetTable.tooFull
    rw [q9, q4, List.length_map]
  by_cases hf : t1.tooFull = true
  · rw [full, decide_eq_true_eq] at hf
    have which : (t.mask = 7 ∧ L.length = 4) ∨ (t.mask = 31 ∧ L.length = 18) := by
      rcases R.tab.mok with e | e | e <;> rw [e] at hf wd
      · exact .inl ⟨e, by omega⟩
      · exact .inr ⟨e, by omega⟩
      · omega
    have onto : ∀ M, SetTable.sizeAbove (SetTable.grown (L.length + 1)) - 1 = M → MaskOk M → SetTable.sizeAbove (SetTable.grown (L.length + 1)) ≤ 128 → (L.length + 1) * 5 < M * 3 →
        wpAny (model P w) A (setRelay a (SetTable.grown (L.length + 1))) (fun _ s1 => wpAny (model P w) A (pure true) Q E s1) E { s with heap := h1 } := fun M w1 w2 w3 w4 =>
      relay S (s := { s with heap := h1 }) ho1 ⟨hex.1, hex.2.1, hex.2.2⟩ rfl r1 ts1 q3.dm (by rw [l1, q4]; rcases which with ⟨e, e2⟩ | ⟨e, e2⟩ <;> omega) nd1 own1 led1 (by rw [l1]; exact few) w1 w2 w3 (by rw [l1]; exact w4)
        fun h2 Lm es2 ep2 t2 sb2 R2 pm2 => wpAny_pure (hQ true h2 Lm es2 ep2 t2 (sb.trans sb2) R2 (fun z => absurd z hm) fun _ => pm2.trans pm)
    have hf1 : (!false && t1.tooFull) = true := by rw [full, decide_eq_true hf]; rfl
    rw [sz]
    first
      | refine wp_if_pos hf1 (wpAny_bind ?_)
      | refine wpAny_bind (wp_if_pos hf1 ?_)
    rcases which with ⟨_, e2⟩ | ⟨_, e2⟩
    · exact onto 31 (by rw [e2, size_20]) (.inr (.inl rfl)) (by rw [e2, size_20]; decide) (by omega)
    · exact onto 127 (by rw [e2, size_76]) (.inr (.inr rfl)) (by rw [e2, size_76]; decide) (by omega)
  · have hf1 : ¬ (!false && t1.tooFull) = true := fun z => hf (by simpa using z)
    refine wp_if_neg hf1 (wpAny_pure (hQ true h1 L1 es1 (ep + 1) t1 sb ⟨⟨_, ho1, ⟨hex.1, hex.2.1, hex.2.2⟩, rfl⟩, r1, q3, nd1, own1, led1, ?_, by rw [l1]; exact few⟩ (fun z => absurd z hm) fun _ => pm))
    rw [full, decide_eq_true_eq] at hf
    rw [l1, q4]
    omega
theorem Held.move (S : SK knd) {h h' : Heap} (R : Held knd h a L es ep t) (k0 : ∀ o, h.get? a = some o → h'.get? a = some o) (k1 : ∀ p ∈ L, ∀ o, h.get? p.1 = some o → h'.get? p.1 = some o) : Held knd h' a L es ep t :=
  { R with at_ := let ⟨o, ho, r⟩ := R.at_; ⟨o, k0 o ho, r⟩, own := fun p hp => S.keep (R.own p hp) (k1 p hp) }
theorem Held.fresh {h : Heap} (ho : h.get? a = some (TSet.freshSet w)) : Held knd h a [] #[] 0 (.fresh 0 0 (!w.params.followText "set-order")) where
  at_ := ⟨_, ho, ⟨rfl, rfl, rfl⟩, rfl⟩
  rows := rfl
  tab := (setTR_fresh (P := P) (w := w) ho).tab
  nd := List.nodup_nil
  own := fun p hp => absurd hp List.not_mem_nil
  led := (setTR_fresh (P := P) (w := w) ho).led
  wide := by show 0 * 5 < 7 * 3; decide
  few := by show 0 < 64; decide
/-- what a set has taken from the first of the keys -/
structure Took (ks : List (Addr × κ)) (L : List (Addr × κ)) : Prop where
  from_ : ∀ p ∈ L, p ∈ ks
  got : ∀ q ∈ ks, q.2 ∈ L.map Prod.snd
  le : L.length ≤ ks.length
theorem Took.next {ks L L' : List (Addr × κ)} {q : Addr × κ} (T : Took ks L) (h1 : q.2 ∈ L.map Prod.snd → L' = L) (h2 : q.2 ∉ L.map Prod.snd → L'.Perm (q :: L)) : Took (ks ++ [q]) L' := by
  by_cases h : q.2 ∈ L.map Prod.snd
  · rw [h1 h]
    refine ⟨fun p hp => List.mem_append_left _ (T.from_ p hp), fun r hr => ?_, Nat.le_trans T.le (by simp)⟩
    rcases List.mem_append.mp hr with hr | hr
    · exact T.got r hr
    · rw [List.mem_singleton.mp hr]; exact h
  · have pm := h2 h
    refine ⟨fun p hp => ?_, fun r hr => ?_, by rw [pm.length_eq, List.length_cons, List.length_append]; exact Nat.succ_le_succ T.le⟩
    · rcases List.mem_cons.mp (pm.mem_iff.mp hp) with rfl | hp
      · exact List.mem_append_right _ (List.mem_singleton.mpr rfl)
      · exact List.mem_append_left _ (T.from_ p hp)
    · rw [(pm.map Prod.snd).mem_iff, List.map_cons]
      rcases List.mem_append.mp hr with hr | hr
      · exact List.mem_cons_of_mem _ (T.got r hr)
      · rw [List.mem_singleton.mp hr]; exact List.mem_cons_self
/-- set(a list) -/
theorem set_list (S : SK knd) {l : Addr} {items : Array Value} (ks : List (Addr × κ)) {Q : Value → Shared → Prop} (hh : A.handled = none) (hl : s.heap.IsList l items) (hi : items.toList = ks.map fun p => Value.ref p.1) (hk : ∀ p ∈ ks, knd.is s.heap p.2 p.1) (few : ks.length < 63)
    (hu : ∀ B : Around, B.units ≤ A.units + 3 → knd.room B)
    (k : ∀ (h' : Heap) (tk : Nat) L es ep t, Held knd h' s.heap.objs.size L es ep t → Took ks L → (∀ b o, s.heap.get? b = some o → h'.get? b = some o) → Q (.ref s.heap.objs.size) { s with heap := h', toks := tk }) :
    wpAny (model P w) A (call (.type "set") [.ref l]) Q E s := by
  have len : items.size = ks.length := by rw [← Array.length_toList, hi, List.length_map]
  have low : ∀ p ∈ ks, p.1 < s.heap.objs.size := fun p hp => S.lies (hk p hp)
  refine TSet.made_any hh hl (fun i h => (∃ L es ep t, Held knd h s.heap.objs.size L es ep t ∧ Took (ks.take i) L) ∧ ∀ p ∈ ks, ∀ o, s.heap.get? p.1 = some o → h.get? p.1 = some o) ?_ ?_ ?_ ?_
  · rintro i h h' ⟨⟨L, es, ep, t, R, T⟩, kp⟩ e
    refine ⟨⟨L, es, ep, t, R.move S (fun o => e _ o (Nat.ne_of_lt (Nat.lt_succ_self _))) (fun p hp o => e _ o ?_), T⟩, fun p hp o g => e _ o ?_ (kp p hp o g)⟩
    · exact Nat.ne_of_lt (Nat.lt_succ_of_lt (low p (List.mem_of_mem_take (T.from_ p hp))))
    · exact Nat.ne_of_lt (Nat.lt_succ_of_lt (low p hp))
  · exact fun h e kp => ⟨⟨[], _, _, _, Held.fresh e, fun _ h => absurd h List.not_mem_nil, fun _ h => absurd h List.not_mem_nil, Nat.le_refl _⟩, fun p _ o g => kp _ o g⟩
  · rintro B i v s1 E1 Q1 hB hv ⟨⟨L, es, ep, t, R, T⟩, kp⟩ q
    have hv2 : items.toList[i]? = some v := by rw [Array.getElem?_toList]; exact hv
    rw [hi, List.getElem?_map] at hv2
    obtain ⟨p, hp, rfl⟩ := Option.map_eq_some_iff.mp hv2
    have hpm := List.mem_of_getElem? hp
    have hx : knd.is s1.heap p.2 p.1 := S.keep (hk p hpm) (kp p hpm)
    have room := hu B hB
    have tk : ks.take (i + 1) = ks.take i ++ [p] := by rw [List.take_add_one, hp]; rfl
    unfold setAdd
    refine wpAny_holding (wpAny_bind (knd.pyHash room hx ?_))
    refine added (s := { s1 with toks := s1.toks + knd.draws p.2 }) S R hx room (by have := T.le; rw [List.length_take] at this; omega) fun b h' L' es' ep' t' sb R' n1 n2 => ?_
    refine q b h' (s1.toks + knd.draws p.2) (Nat.le_add_right _ _) sb ⟨⟨L', es', ep', t', R', by rw [tk]; exact T.next n1 n2⟩, fun r hr o g => ?_⟩
    have ne : r.1 ≠ s.heap.objs.size := Nat.ne_of_lt (low r hr)
    rw [sb.2 r.1 ne]
    exact kp r hr o g
  · rintro h' tk ⟨⟨L, es, ep, t, R, T⟩, _⟩ keep
    rw [len, List.take_length] at T
    exact k h' tk L es ep t R T keep
end
end SetH
set_option maxRecDepth 100000
set_option maxHeartbeats 4000000
/-! set(a tuple) -/
namespace SetH
open PySem PySem.Spec PyProof.Rows L2 TSet
section
variable {P : Program} {w : World} {A : Around} {E : Value → Shared → Prop} {s : Shared}
/-- set(a tuple), for any way of adding -/
theorem made_tup {l : Addr} {items : Array Value} {Q : Value → Shared → Prop} (hh : A.handled = none) (hl : s.heap.IsTuple l items) (T : Nat → Heap → Prop)
    (fr : ∀ i h h', T i h → (∀ b o, b ≠ s.heap.objs.size + 1 → h.get? b = some o → h'.get? b = some o) → T i h')
    (zero : ∀ h, h.get? s.heap.objs.size = some (freshSet w) → (∀ b o, s.heap.get? b = some o → h.get? b = some o) → T 0 h)
    (add : ∀ (B : Around) i v (s1 : Shared) (E : Value → Shared → Prop) (Q : Bool → Shared → Prop), B.units ≤ A.units + 3 → items[i]? = some v → T i s1.heap →
      (∀ b h' tk, s1.toks ≤ tk → Heap.SameBut s.heap.objs.size s1.heap h' → T (i + 1) h' → Q b { s1 with heap := h', toks := tk }) → wpAny (model P w) B (setAdd s.heap.objs.size v) Q E s1)
    (k : ∀ (h' : Heap) (tk : Nat), T items.size h' → (∀ b o, s.heap.get? b = some o → h'.get? b = some o) → Q (.ref s.heap.objs.size) { s with heap := h', toks := tk }) :
    wpAny (model P w) A (call (.type "set") [.ref l]) Q E s := by
  obtain ⟨_, _, hmro⟩ := PySem.F.called_set.mro
  have made_ := PySem.F.called_set.made
  have sub_ := PySem.F.called_set.sub
  refine wpAny_call (codeAny_of_tree ?_)
  show wpAny (model P w) _ (callAny (.type "set") _) _ _ _
  refine wpAny_pure ⟨Code.quiet_builtin _ (by decide +kernel), codeAny_builtin PySem.F.entry_type_call ?_⟩
  rw [Around.under_plain (weight_type_call_type "set" [.ref l] []) rfl]
  have notT := PySem.F.called_set.notType
  have canC := PySem.F.called_set.canCreate
  have typC := PySem.F.typeCall_set_1 (.ref l)
  repeat (any_goals (first | assumption | wp_step))
  let S := s.heap.objs.size
  let hp1 := s.heap.push (freshSet w)
  refine codeAny_mono (code_set_led1 (.ref l) (E := E) (Q₁ := fun obj s1 => obj = .ref S ∧ s1 = { s with heap := hp1 }) ⟨rfl, rfl⟩) fun r s1 hr => ?_
  rcases r with _ | e
  case error => exact hr
  cases e with
  | ret obj =>
    obtain ⟨rfl, rfl⟩ := hr
    have atS : hp1.get? S = some (freshSet w) := Heap.get?_push_size _ rfl
    have tyS : Shared.TypeIs { s with heap := hp1 } (.ref S) "set" := ⟨_, atS, rfl⟩
    have iLook := PySem.F.called_set.init.lookup
    have iBind := PySem.F.called_set.init.bind (.ref S)
    repeat (any_goals (first | assumption | wp_step))
    refine codeAny_mono (codeAny_call_builtin (R := wants (fun r s2 => r = .none ∧ ∃ h' tk, s2 = { s with heap := h', toks := tk } ∧ T items.size h' ∧ (∀ b o, s.heap.get? b = some o → h'.get? b = some o)) E)
      PySem.F.called_set.init.plain PySem.F.entry_set_init (check_set_init_1 tyS ?_)) fun r2 s2 hr2 => ?_
    · obtain ⟨ol, hol, cl, nl, dl⟩ := hl
      obtain ⟨ocl, odi, oda, osl⟩ := ol
      simp only at cl dl
      subst cl
      subst dl
      have ltl : l < S := Heap.lt_size hol
      have atl : hp1.get? l = some { cls := .type "tuple", dict := odi, data := .seq items nl, slots := osl } := Heap.get?_push_of_some _ hol
      have ls1 := PySem.F.sub_tuple_set
      have ls2 := PySem.F.sub_tuple_frozenset
      have nd1 : (Value.type "tuple" == Value.type "dict") = false := by decide
      have isl : hp1.IsTuple l items := ⟨_, atl, rfl, nl, rfl⟩
      have szI : hp1.objs.size = S + 1 := Heap.size_push ..
      unfold Builtin.«set.__init__» noKeywords Builtin.Frozenset.updateFrom
      generalize ePI : pyIter = PI
      wp_walk
      subst ePI
      refine wpAny_pyIter_tuple isl (wpAny_bind (wpAny_runValue ?_))
      have h3 : A.in1.in1.in1.handled = none := by simp [hh]
      have nI : l ≠ hp1.objs.size := by rw [szI]; exact Nat.ne_of_lt (Nat.lt_succ_of_lt ltl)
      have nS : S ∉ [hp1.objs.size, l] := by
        rw [szI]
        intro z
        rcases List.mem_cons.mp z with z | z
        · exact absurd z (Nat.ne_of_lt (Nat.lt_succ_self _))
        · exact absurd (List.mem_singleton.mp z) (Nat.ne_of_gt ltl)
      refine loop_any ((Walks.tuple h3 _ l nI items).toS) nS T (fun i h h' t e => fr i h h' t fun b o nb => e b o (by rw [szI]; simpa using nb)) (fun i v s1 E1 Q1 _ pv t q => add _ i v s1 E1 Q1 (Nat.le_refl _) pv t q)
        (items.size - 0) 0 _ (by omega) (Nat.zero_le _) ⟨⟨_, Heap.get?_push_size _ rfl, rfl, rfl⟩, isl.push _⟩ (zero _ (Heap.get?_push_of_some _ atS) fun b o e => Heap.get?_push_of_some _ (Heap.get?_push_of_some _ e)) ?_
      intro s' m t'
      obtain ⟨h', g', d', tk', os'⟩ := s'
      obtain rfl : g' = s.gens := m.gens
      obtain rfl : d' = s.drawn := m.drawn
      obtain rfl : os' = s.os := m.os
      show wpAny _ _ _ _ _ _
      refine wpAny_pure ?_
      show wpAny _ _ (ret Value.none) _ _ _
      refine wpAny_pure ⟨rfl, h', tk', rfl, t', fun b o e => ?_⟩
      have ltb : b < S := Heap.lt_size e
      refine m.heap b o (fun z => ?_) (Heap.get?_push_of_some _ (Heap.get?_push_of_some _ e))
      rcases List.mem_cons.mp z with z | z
      · exact absurd z (Nat.ne_of_lt ltb)
      · have z2 := List.mem_singleton.mp z
        rw [szI] at z2
        exact absurd z2 (Nat.ne_of_lt (Nat.lt_succ_of_lt ltb))
    · rcases r2 with _ | e2
      case error => exact hr2
      cases e2 with
      | ret r =>
        obtain ⟨rfl, h', tk, rfl, t', keep⟩ := hr2
        repeat (any_goals (first | assumption | wp_step))
        exact k _ _ t' keep
      | _ => exact hr2.elim
  | _ => exact hr.elim
end
variable {P : Program} {w : World} {κ : Type} [DecidableEq κ]
section
variable {knd : HeapKind P w κ} {A : Around} {E : Value → Shared → Prop} {s : Shared}
/-- set(a tuple) -/
theorem set_tup (S : SK knd) {l : Addr} {items : Array Value} (ks : List (Addr × κ)) {Q : Value → Shared → Prop} (hh : A.handled = none) (hl : s.heap.IsTuple l items) (hi : items.toList = ks.map fun p => Value.ref p.1) (hk : ∀ p ∈ ks, knd.is s.heap p.2 p.1) (few : ks.length < 63)
    (hu : ∀ B : Around, B.units ≤ A.units + 3 → knd.room B)
    (k : ∀ (h' : Heap) (tk : Nat) L es ep t, Held knd h' s.heap.objs.size L es ep t → Took ks L → (∀ b o, s.heap.get? b = some o → h'.get? b = some o) → Q (.ref s.heap.objs.size) { s with heap := h', toks := tk }) :
    wpAny (model P w) A (call (.type "set") [.ref l]) Q E s := by
  have len : items.size = ks.length := by rw [← Array.length_toList, hi, List.length_map]
  have low : ∀ p ∈ ks, p.1 < s.heap.objs.size := fun p hp => S.lies (hk p hp)
  refine made_tup hh hl (fun i h => (∃ L es ep t, Held knd h s.heap.objs.size L es ep t ∧ Took (ks.take i) L) ∧ ∀ p ∈ ks, ∀ o, s.heap.get? p.1 = some o → h.get? p.1 = some o) ?_ ?_ ?_ ?_
  · rintro i h h' ⟨⟨L, es, ep, t, R, T⟩, kp⟩ e
    refine ⟨⟨L, es, ep, t, R.move S (fun o => e _ o (Nat.ne_of_lt (Nat.lt_succ_self _))) (fun p hp o => e _ o ?_), T⟩, fun p hp o g => e _ o ?_ (kp p hp o g)⟩
    · exact Nat.ne_of_lt (Nat.lt_succ_of_lt (low p (List.mem_of_mem_take (T.from_ p hp))))
    · exact Nat.ne_of_lt (Nat.lt_succ_of_lt (low p hp))
  · exact fun h e kp => ⟨⟨[], _, _, _, Held.fresh e, fun _ h => absurd h List.not_mem_nil, fun _ h => absurd h List.not_mem_nil, Nat.le_refl _⟩, fun p _ o g => kp _ o g⟩
  · rintro B i v s1 E1 Q1 hB hv ⟨⟨L, es, ep, t, R, T⟩, kp⟩ q
    have hv2 : items.toList[i]? = some v := by rw [Array.getElem?_toList]; exact hv
    rw [hi, List.getElem?_map] at hv2
    obtain ⟨p, hp, rfl⟩ := Option.map_eq_some_iff.mp hv2
    have hpm := List.mem_of_getElem? hp
    have hx : knd.is s1.heap p.2 p.1 := S.keep (hk p hpm) (kp p hpm)
    have room := hu B hB
    have tk : ks.take (i + 1) = ks.take i ++ [p] := by rw [List.take_add_one, hp]; rfl
    unfold setAdd
    refine wpAny_holding (wpAny_bind (knd.pyHash room hx ?_))
    refine added (s := { s1 with toks := s1.toks + knd.draws p.2 }) S R hx room (by have := T.le; rw [List.length_take] at this; omega) fun b h' L' es' ep' t' sb R' n1 n2 => ?_
    refine q b h' (s1.toks + knd.draws p.2) (Nat.le_add_right _ _) sb ⟨⟨L', es', ep', t', R', by rw [tk]; exact T.next n1 n2⟩, fun r hr o g => ?_⟩
    have ne : r.1 ≠ s.heap.objs.size := Nat.ne_of_lt (low r hr)
    rw [sb.2 r.1 ne]
    exact kp r hr o g
  · rintro h' tk ⟨⟨L, es, ep, t, R, T⟩, _⟩ keep
    rw [len, List.take_length] at T
    exact k h' tk L es ep t R T keep
end
end SetH
set_option maxRecDepth 100000
set_option maxHeartbeats 4000000
/-! sorted of a list of data: texts, literals, clauses .. -/
namespace SD
open PySem PySem.Spec PyProof.Rows L2
theorem vals_each : ∀ {bs : List (V × PyData)} {us : List Value}, Vals (bs.map Prod.fst) us → PySem.W.EachIs (fun u b => RelV b.1 u) us bs
  | [], _, r => by
    cases r
    exact .nil
  | b :: bs, _, r => by
    cases r with
    | cons r1 r2 => exact .cons r1 (vals_each r2)
theorem each_vals : ∀ {us : List Value} {bs : List (V × PyData)}, PySem.W.EachIs (fun u b => RelV b.1 u) us bs → Vals (bs.map Prod.fst) us
  | _, _, .nil => .nil
  | _, _, .cons r1 r2 => .cons r1 (each_vals r2)
/-- what the list reads as, sorted -/
def sortedD (bs : List (V × PyData)) : List (V × PyData) := bs.mergeSort (PySem.W.dataLe false Prod.snd)
theorem sorted_perm (bs : List (V × PyData)) : (sortedD bs).Perm bs := List.mergeSort_perm _ _
/-- sorted(xs), xs a list of alike data -/
def rSortedD (K : PySem.W.Frag) : List V → Hp → VK → Prop := fun vs H Q => ∃ (a : Addr) (bs : List (V × PyData)), vs = [.ref a] ∧ SqL K H a (bs.map Prod.fst) ∧ (∀ b ∈ bs, Dp K H b.1 b.2 ∧ b.2.depth ≤ 60) ∧ PySem.W.AllAlike (bs.map Prod.snd) ∧ PySem.W.Sortable (bs.map Prod.snd) ∧
  ∀ p, H p = none → Q (.ref p) (upd H p (.lst ((sortedD bs).map Prod.fst)))
section
variable {X : Cx}
theorem each_reads {pins : List (Addr × Obj)} {σ : L2.St} {H : Hp} {s : Shared} (I : Inv X pins σ H s) : ∀ {us : List Value} {bs : List (V × PyData)}, PySem.W.EachIs (fun u b => RelV b.1 u) us bs → (∀ b ∈ bs, Dp X.K H b.1 b.2) → PySem.W.EachIs (fun u b => ∃ as, Reads s.heap u b.2 as) us bs
  | _, _, .nil, _ => .nil
  | _, b :: bs, .cons r1 r2, h => .cons (Dp.reads I b.2 b.1 _ (h b List.mem_cons_self) r1) (each_reads I r2 fun c hc => h c (List.mem_cons_of_mem _ hc))
theorem cr_sortedD (hu : X.A.units + 64 < cLine) : CallR X (.builtin "sorted") (rSortedD X.K) := by
  intro pins s σ H vs us Q I r h
  obtain ⟨a, bs, rfl, hs, hd, hal, hk, q⟩ := h
  obtain ⟨its, rv, hl, hz⟩ := I.list hs
  obtain ⟨u, rfl, ru⟩ := vals1 r
  obtain rfl : u = Value.ref a := ru
  have hlen : bs.length ≤ sizeLine := by rw [List.length_map] at hz; exact hz
  refine PySem.W.sorted_data (R := fun u b => RelV b.1 u) (enc := fun b : V × PyData => b.2) (bs := bs) hl.isList (vals_each rv) (each_reads I (vals_each rv) fun b hb => (hd b hb).1) hal hk hlen (fun b hb => by have := (hd b hb).2; omega) fun out ho he => ?_
  obtain ⟨c, hc⟩ := sortedAll_at s.heap its out.toArray
  have fr : H (s.heap.objs.size + 1) = none := I.hok.fresh (Nat.le_succ _)
  refine ⟨.ref (s.heap.objs.size + 1), upd H (s.heap.objs.size + 1) (.lst ((sortedD bs).map Prod.fst)), I.laid (t' := s.toks) (fun _ _ => sortedAll_old) (Nat.le_succ _) ⟨?_, out, c, each_vals he, hc⟩, rfl, q _ fr⟩
  rw [List.length_map, (sorted_perm bs).length_eq]
  exact hlen
end
end SD
set_option maxRecDepth 100000
set_option maxHeartbeats 4000000
/-! sets of tuples of texts and ints, and sorted of them -/
namespace SetM
open PySem PySem.Spec PyProof.Rows L2 SetH
section
variable {P : Program} {w : World} {A : Around} {E : Value → Shared → Prop} {s : Shared}
theorem noClass_key {k : L2.Key} {v : Value} (h : keyIs k v = true) (n : Nat) : ofAClassStatement n v = pure false := by
  rcases keyIs_shape h with ⟨i, t, rfl, rfl⟩ | ⟨x, t, rfl, rfl⟩ <;> cases n <;> rfl
theorem valued_key {k : L2.Key} {v : Value} (h : keyIs k v = true) (n : Nat) : ∃ b, hashByValue n v = pure b := by
  rcases keyIs_shape h with ⟨i, t, rfl, rfl⟩ | ⟨x, t, rfl, rfl⟩ <;> cases n <;> exact ⟨_, rfl⟩
theorem items_key {k : List L2.Key} {vs : List Value} (h : ItemsAre (mixKind P w) k vs) : ∀ v ∈ vs, ∃ q, keyIs q v = true := by
  induction h with
  | nil => exact fun v hv => absurd hv List.not_mem_nil
  | cons h1 _ ih =>
    intro v hv
    rcases List.mem_cons.mp hv with rfl | hv
    · exact ⟨_, h1⟩
    · exact ih v hv
theorem kinds : SK (tupleKind (mixKind P w)) where
  noClass := by
    intro A E s k b Q hk h
    have ty := IsTupleKey.typeIs hk
    obtain ⟨o, items, n, ho, _, hd, hi⟩ := hk
    unfold ofAClassStatement
    refine wpAny_bind (wpAny_typeOf ty ?_)
    dsimp only
    simp only [show (("tuple" : String) == "tuple") = true by decide, if_true, Bool.not_true, Bool.false_eq_true, if_false]
    try refine wpAny_bind (wpAny_pure ?_)
    try simp only [Bool.not_true, Bool.false_eq_true, if_false]
    refine wpAny_bind (wpAny_seqItems ho hd ?_)
    dsimp only
    rw [← Array.forIn_toList]
    refine wpAny_bind (wpAny_forIn_list _ (fun todo r s1 => r.1 = none ∧ s1 = s ∧ ∀ v ∈ todo, ∃ q, keyIs q v = true) _ ?_ ?_ _ _ ⟨rfl, rfl, items_key hi⟩)
    · rintro v todo ⟨r1, r2⟩ s1 ⟨e1, e2, all⟩
      dsimp only at e1
      subst e1 e2
      obtain ⟨q, hq⟩ := all v List.mem_cons_self
      rw [noClass_key hq]
      refine wpAny_bind (wpAny_pure ?_)
      simp only [Bool.false_eq_true, if_false]
      exact wpAny_pure ⟨rfl, rfl, fun u hu => all u (List.mem_cons_of_mem _ hu)⟩
    · rintro ⟨r1, r2⟩ s1 ⟨e1, e2, _⟩
      dsimp only at e1
      subst e1 e2
      exact wpAny_pure h
  valued := by
    intro A E s k b Q hk h
    have ty := IsTupleKey.typeIs hk
    obtain ⟨o, items, n, ho, _, hd, hi⟩ := hk
    unfold hashByValue
    refine wpAny_bind (wpAny_specialOf ty F.slot_tuple_hash.lookup ?_)
    refine wpAny_bind (wpAny_seqItems ho hd ?_)
    dsimp only
    rw [← Array.forIn_toList]
    refine wpAny_bind (wpAny_forIn_list _ (fun todo r s1 => r.1 = none ∧ s1 = s ∧ ∀ v ∈ todo, ∃ q, keyIs q v = true) _ ?_ ?_ _ _ ⟨rfl, rfl, items_key hi⟩)
    · rintro v todo ⟨r1, r2⟩ s1 ⟨e1, e2, all⟩
      dsimp only at e1
      subst e1 e2
      obtain ⟨q, hq⟩ := all v List.mem_cons_self
      obtain ⟨c, hc⟩ := valued_key hq 7
      rw [hc]
      refine wpAny_bind (wpAny_pure ?_)
      cases c with
      | true =>
        simp only [Bool.not_true, Bool.false_eq_true, if_false]
        exact wpAny_pure ⟨rfl, rfl, fun u hu => all u (List.mem_cons_of_mem _ hu)⟩
      | false =>
        simp only [Bool.not_false, if_true]
        exact wpAny_pure (wpAny_pure (h _))
    · rintro ⟨r1, r2⟩ s1 ⟨e1, e2, _⟩
      dsimp only at e1
      subst e1 e2
      exact wpAny_pure (h _)
  apart := by
    rintro h h' k a b o es ep t ⟨o', items, n, ho', hc, hd', hi⟩ ho hd sb
    have ne : b ≠ a := fun z => by
      rw [z, ho] at ho'
      obtain rfl := Option.some.inj ho'
      rw [hd] at hd'
      cases hd'
    exact ⟨o', items, n, (sb.2 b ne).trans ho', hc, hd', hi⟩
  keep := fun ⟨o, items, n, ho, r⟩ kp => ⟨o, items, n, kp o ho, r⟩
  lies := fun ⟨o, items, n, ho, r⟩ => Heap.lt_size ho
end
section
variable {P : Program} {w : World} {A : Around} {E : Value → Shared → Prop} {s : Shared}
theorem each_perm {α β : Type} {R : α → β → Prop} {vs out : List α} (pm : out.Perm vs) : ∀ {bs : List β}, PySem.W.EachIs R vs bs → ∃ bs', bs'.Perm bs ∧ PySem.W.EachIs R out bs' := by
  induction pm with
  | nil => intro bs h; cases h; exact ⟨[], .nil, .nil⟩
  | cons x _ ih =>
    intro bs h
    cases h with
    | cons h1 h2 =>
      obtain ⟨bs', p, e⟩ := ih h2
      exact ⟨_ :: bs', p.cons _, .cons h1 e⟩
  | swap x y l =>
    intro bs h
    cases h with
    | cons h1 h2 =>
      cases h2 with
      | cons h2 h3 => exact ⟨_, List.Perm.swap _ _ _, .cons h2 (.cons h1 h3)⟩
  | trans _ _ ih1 ih2 =>
    intro bs h
    obtain ⟨b1, p1, e1⟩ := ih2 h
    obtain ⟨b2, p2, e2⟩ := ih1 e1
    exact ⟨b2, p2.trans p1, e2⟩
theorem alike_perm {β : Type} {enc : β → PyData} {bs bs' : List β} (pm : bs'.Perm bs) (h : PySem.W.AllAlike (bs.map enc)) : PySem.W.AllAlike (bs'.map enc) := fun d hd e he => h d ((pm.map enc).mem_iff.mp hd) e ((pm.map enc).mem_iff.mp he)
theorem sortable_perm {β : Type} {enc : β → PyData} {bs bs' : List β} (pm : bs'.Perm bs) (h : PySem.W.Sortable (bs.map enc)) : PySem.W.Sortable (bs'.map enc) := h.imp (fun h d hd => h d ((pm.map enc).mem_iff.mp hd)) (fun h d hd => h d ((pm.map enc).mem_iff.mp hd))
/-- sorted(a set), the elements read as data -/
theorem sorted_set {β : Type} {R : Value → β → Prop} {enc : β → PyData} {a : Addr} {o : Obj} {es : Array (Int × Value)} {ep : Nat} {t : SetTable} (ho : s.heap.get? a = some o) (hc : o.ExactSet) (hd : o.data = .set es ep t) (hf : t.fits es.size = true) (few : es.size < 64) (ris : Ris t.place.toList)
    (led : w.params.followText "set-order" = true ∨ t.led = true) (hh : A.handled = none) {bs0 : List β} (e0 : PySem.W.EachIs R (es.toList.map (·.2)) bs0) (rd : ∀ v b, b ∈ bs0 → R v b → ∃ as, Reads s.heap v (enc b) as) (hal : PySem.W.AllAlike (bs0.map enc)) (hk : PySem.W.Sortable (bs0.map enc))
    (hu : ∀ b, b ∈ bs0 → A.units + 4 + (enc b).depth < cLine) {Q : Value → Shared → Prop}
    (k : ∀ s' p (out : Array Value) (c : Nat) (bs : List β), (∀ b o, s.heap.get? b = some o → s'.heap.get? b = some o) → s'.gens = s.gens → s'.os = s.os → s.heap.objs.size ≤ p → s'.heap.get? p = some (seqObj "list" out c) → bs.Perm bs0 → PySem.W.EachIs R out.toList (bs.mergeSort (PySem.W.dataLe false enc)) → Q (.ref p) s') :
    wpAny (model P w) A (call (.builtin "sorted") [.ref a]) Q E s := by
  have sc : es.size < scanBound := by unfold scanBound; omega
  refine Calls.call_function_entry kind_sorted plain_sorted entry_sorted (args_sorted1 _) ?_
  unfold Builtin.«sorted»
  refine wpAny_bind (m := checkCount "sorted" 1 1 _) (wpAny_pure (wpAny_bind ?_))
  refine collect_set (A := A.in1) hh ⟨o, ho, hc.1, hd⟩ hf sc ris led fun s1 vs k1 z1 g1 o1 pm => ?_
  obtain ⟨bs, pb, eb⟩ := each_perm pm e0
  have lv : vs.length = es.size := by rw [pm.length_eq, List.length_map, Array.length_toList]
  refine wpAny_bind (wpAny_newList ?_ (by rw [lv, sizeLine_eq]; omega))
  have oL : (s1.heap.push (seqObj "list" vs.toArray 0)).get? s1.heap.objs.size = some (seqObj "list" vs.toArray 0) := Heap.get?_push_size _ rfl
  have old : ∀ b o, s1.heap.get? b = some o → (PySem.W.sortingHeap (s1.heap.push (seqObj "list" vs.toArray 0)) s1.heap.objs.size vs).get? b = some o := fun b o e => PySem.W.sortingHeap_old (Nat.ne_of_lt (Heap.lt_size e)) (Heap.get?_push_of_some _ e)
  have er : PySem.W.EachIs (fun v b => ∃ as, Reads (PySem.W.sortingHeap (s1.heap.push (seqObj "list" vs.toArray 0)) s1.heap.objs.size vs) v (enc b) as) vs bs := by
    exact (PySem.W.each_mem eb).mono fun v b ⟨h, hb⟩ => by
      obtain ⟨as, r⟩ := rd v b (pb.mem_iff.mp hb) h
      exact ⟨as, PyProof.Rows.Reads.keeps (fun b o e => old b o (k1 b o e)) r⟩
  have hal' := alike_perm pb hal
  have hk' := sortable_perm pb hk
  refine wpAny_bind (wpAny_holding (wpAny_call_entry slot_list_sort ⟨_, oL, rfl⟩ entry_list_sort
    (PySem.W.list_sort_vals (κ := PySem.W.dataKind (PySem.W.sortingHeap (s1.heap.push (seqObj "list" vs.toArray 0)) s1.heap.objs.size vs) (bs.map enc)) oL
      (PySem.W.SortsAt.data (PySem.W.each_map (R := fun v d => ∃ as, Reads (PySem.W.sortingHeap (s1.heap.push (seqObj "list" vs.toArray 0)) s1.heap.objs.size vs) v d as) enc er) hal' hk' fun d hd => ?_) (by rw [lv, sizeLine_eq]; omega) ⟨.none, rfl, ?_⟩) (args_list_sort _)))
  · obtain ⟨b, hb, rfl⟩ := List.mem_map.mp hd
    have := hu b (pb.mem_iff.mp hb)
    show A.units + 1 + 1 + _ < _
    omega
  · obtain ⟨c, hc'⟩ := sortedHeap_at (vs := vs) (out := (PySem.W.sortVals (PySem.W.dataKind (PySem.W.sortingHeap (s1.heap.push (seqObj "list" vs.toArray 0)) s1.heap.objs.size vs) (bs.map enc)) false vs vs).toArray) oL
    refine wpAny_pure ⟨_, rfl, k _ s1.heap.objs.size _ c bs (fun b u e => ?_) g1 o1 z1 hc' pb (by simpa using PySem.W.sortVals_data false eb er hal')⟩
    have q := k1 b u e
    have lt := Heap.lt_size q
    refine (sortedHeap_old (Nat.ne_of_lt lt) (by rw [size_push']; exact Nat.lt_succ_of_lt lt)).trans ?_
    exact Heap.get?_push_of_some _ q
end
/-! ### as calls -/
def kD : L2.Key → PyData
  | .inl i => .int i
  | .inr x => .str x
def enK (k : List L2.Key) : PyData := .tuple (k.map kD)
def enP (p : Addr × List L2.Key) : V × PyData := (.ref p.1, enK p.2)
abbrev MK (P : Program) (w : World) : HeapKind P w (List L2.Key) := tupleKind (mixKind P w)
/-- at a a set of the tuples L -/
def SetMO (P : Program) (w : World) (a : Addr) (L : List (Addr × List L2.Key)) : HO := .ext fun h => ∃ es ep t, (∃ o, h.get? a = some o ∧ o.ExactSet ∧ o.data = .set es ep t) ∧ es.toList = L.map (row (MK P w)) ∧ Ris t.place.toList ∧ t.fits es.size = true ∧ (w.params.followText "set-order" = true ∨ t.led = true) ∧ L.length < 64
theorem setMO_new {P : Program} {w : World} {H : Hp} {h : Heap} {a : Addr} {L : List (Addr × List L2.Key)} {es : Array (Int × Value)} {ep : Nat} {t : SetTable} (R : Held (MK P w) h a L es ep t) : ObjOk P w H h a (SetMO P w a L) := by
  have fits := R.fits
  obtain ⟨⟨o, ho, hex, hd⟩, rows, tab, nd, own, led, wide, few⟩ := R
  exact ⟨⟨es, ep, t, ⟨o, ho, hex, hd⟩, rows, tab.ris, fits, led, few⟩, ⟨o, ho⟩, fun h1 h2 ⟨es2, ep2, t2, ⟨o2, ho2, r⟩, r2⟩ keep => ⟨es2, ep2, t2, ⟨o2, keep _ ho2, r⟩, r2⟩⟩
section
variable {X : Cx}
theorem key_vals {P : Program} {w : World} : ∀ {k : List L2.Key} {us : List Value}, Vals (k.map kV) us → ItemsAre (mixKind P w) k us
  | [], _, .nil => .nil
  | _ :: _, _, .cons h r => .cons (HR.key_rel h) (key_vals r)
theorem tup_key {pins : List (Addr × Obj)} {σ : L2.St} {H : Hp} {s : Shared} (I : Inv X pins σ H s) {b : Addr} {k : List L2.Key} (h : SqT X.K H b (k.map kV)) : (MK X.prog X.w).is s.heap k b := by
  obtain ⟨its, rv, ⟨o, ho, hc, n, hd⟩, _⟩ := I.tuple h
  exact ⟨o, its.toArray, n, ho, hc, hd, key_vals rv⟩
theorem refs_are : ∀ {ks : List (Addr × List L2.Key)} {us : List Value}, Vals (ks.map fun p => V.ref p.1) us → us = ks.map fun p => Value.ref p.1
  | [], _, .nil => rfl
  | _ :: _, _, .cons h r => by
    rw [List.map_cons, ← refs_are r]
    exact congrArg (· :: _) h
def rSetM (K : PySem.W.Frag) (P : Program) (w : World) : List V → Hp → VK → Prop := fun xs H Q => ∃ (l : Addr) (ks : List (Addr × List L2.Key)), xs = [V.ref l] ∧ (SqL K H l (ks.map fun p => V.ref p.1) ∨ SqT K H l (ks.map fun p => V.ref p.1)) ∧ (∀ p ∈ ks, SqT K H p.1 (p.2.map kV)) ∧ ks.length < 63 ∧
  ∀ (L : List (Addr × List L2.Key)) (p : Addr), Took ks L → (L.map Prod.snd).Nodup → H p = none → Q (.ref p) (upd H p (SetMO P w p L))
theorem cr_setM {K : PySem.W.Frag} {P : Program} {w : World} (hc : X.calm = true) (hu : X.A.units + 64 < cLine) (hK : X.K = K := by rfl) (hP : X.prog = P := by rfl) (hw : X.w = w := by rfl) : CallR X (.type "set") (rSetM K P w) := by
  subst hK hP hw
  intro pins s σ H xs us Q I r h
  obtain ⟨l, ks, rfl, hs, hk, few, q⟩ := h
  rw [Vals.ref1 r]
  have own : ∀ p ∈ ks, (MK X.prog X.w).is s.heap p.2 p.1 := fun p hp => tup_key I (hk p hp)
  have room : ∀ B : Around, B.units ≤ X.A.units + 3 → (MK X.prog X.w).room B := fun B hB => by show B.units < cLine; omega
  have fin : ∀ (h' : Heap) (tk : Nat) L es ep t, Held (MK X.prog X.w) h' s.heap.objs.size L es ep t → Took ks L → (∀ b o, s.heap.get? b = some o → h'.get? b = some o) → EP X pins σ Q (.ref s.heap.objs.size) { s with heap := h', toks := tk } := fun h' tk L es ep t R T keep =>
    ⟨.ref _, upd H s.heap.objs.size (SetMO X.prog X.w s.heap.objs.size L), I.laid (t' := tk) keep (Nat.le_refl _) (setMO_new R), rfl, q L _ T R.nd (I.hok.fresh (Nat.le_refl _))⟩
  rcases hs with hs | hs
  · obtain ⟨its, rv, hl, _⟩ := I.list hs
    exact set_list kinds ks (I.ok.hd hc) hl.isList (refs_are rv) own few room fin
  · obtain ⟨its, rv, ht, _⟩ := I.tuple hs
    exact set_tup kinds ks (I.ok.hd hc) ht (refs_are rv) own few room fin
def rSortedM (K : PySem.W.Frag) (P : Program) (w : World) : List V → Hp → VK → Prop := fun vs H Q => ∃ (a : Addr) (L : List (Addr × List L2.Key)), vs = [V.ref a] ∧ H a = some (SetMO P w a L) ∧ (∀ p ∈ L, Dp K H (.ref p.1) (enK p.2) ∧ (enK p.2).depth ≤ 50) ∧ PySem.W.AllAlike (L.map fun p => enK p.2) ∧ PySem.W.Sortable (L.map fun p => enK p.2) ∧
  ∀ (bs : List (V × PyData)) (p : Addr), bs.Perm (L.map enP) → H p = none → Q (.ref p) (upd H p (.lst ((SD.sortedD bs).map Prod.fst)))
theorem cr_sortedM {K : PySem.W.Frag} {P : Program} {w : World} (hc : X.calm = true) (hu : X.A.units + 64 < cLine) (hK : X.K = K := by rfl) (hP : X.prog = P := by rfl) (hw : X.w = w := by rfl) : CallR X (.builtin "sorted") (rSortedM K P w) := by
  subst hK hP hw
  intro pins s σ H vs us Q I r h
  obtain ⟨a, L, rfl, at_, hd, hal, hk, q⟩ := h
  obtain ⟨es, ep, t, ⟨o, ho, hex, hdt⟩, rows, ris, fits, led, few⟩ := (I.hok a _ at_).1
  rw [Vals.ref1 r]
  have sz : es.size = L.length := rows_size rows
  have e0 : PySem.W.EachIs (fun (u : Value) (b : V × PyData) => RelV b.1 u) (es.toList.map (·.2)) (L.map enP) := by
    rw [rows]
    have : ∀ L : List (Addr × List L2.Key), PySem.W.EachIs (fun (u : Value) (b : V × PyData) => RelV b.1 u) ((L.map (row (MK X.prog X.w))).map (·.2)) (L.map enP) := fun L => by
      induction L with
      | nil => exact .nil
      | cons p L ih => exact .cons rfl ih
    exact this L
  have eL : (L.map enP).map Prod.snd = L.map fun p => enK p.2 := by rw [List.map_map]; rfl
  refine sorted_set (R := fun (u : Value) (b : V × PyData) => RelV b.1 u) (enc := fun b : V × PyData => b.2) ho hex hdt fits (by omega) ris led (I.ok.hd hc) e0 (fun v b hb hv => ?_) (by show PySem.W.AllAlike ((L.map enP).map Prod.snd); rw [eL]; exact hal) (by show PySem.W.Sortable ((L.map enP).map Prod.snd); rw [eL]; exact hk) (fun b hb => ?_)
    fun s' p out c bs keep g o hp hc' pm he => ?_
  · obtain ⟨p, hp, rfl⟩ := List.mem_map.mp hb
    exact Dp.reads I _ _ _ (hd p hp).1 hv
  · obtain ⟨p, hp, rfl⟩ := List.mem_map.mp hb
    have := (hd p hp).2
    show X.A.units + 4 + (enK p.2).depth < cLine
    omega
  · have hn : H p = none := I.hok.fresh hp
    have len : ((SD.sortedD bs).map Prod.fst).length ≤ sizeLine := by
      rw [List.length_map, (SD.sorted_perm bs).length_eq, pm.length_eq, List.length_map, sizeLine_eq]
      omega
    have J : Inv X pins σ (upd H p (.lst ((SD.sortedD bs).map Prod.fst))) { s with heap := s'.heap, gens := s'.gens, drawn := s'.drawn, toks := s'.toks } :=
      I.call (ch := []) (Un.laid keep hp hn) (I.hok.laid keep hp ⟨len, out.toList, c, SD.each_vals he, hc'⟩) (by rw [g]; exact I.bare) (fun _ z => nomatch z)
    have es' : s' = { s with heap := s'.heap, gens := s'.gens, drawn := s'.drawn, toks := s'.toks } := by
      cases s'
      cases s
      cases o
      rfl
    rw [es']
    exact ⟨.ref p, _, J, rfl, q bs p pm hn⟩
end
end SetM
set_option maxRecDepth 100000
set_option maxHeartbeats 4000000
/-! repr of data with dicts in it (no lists) -/
namespace RQ
open PySem PySem.Spec PyProof.Rows L2 SetM
mutual
inductive Dq (K : PySem.W.Frag) (H : Hp) : V → PyData → Prop
  | non : Dq K H .non .none
  | bl (b : Bool) : Dq K H (.bl b) (.bool b)
  | int (i : Int) : Dq K H (.int i) (.int i)
  | str (x : Str) : Dq K H (.str x) (.str x)
  | tup {p : Addr} {vs : List V} {ds : List PyData} : SqT K H p vs → DqAll K H vs ds → Dq K H (.ref p) (.tuple ds)
  | dK {p : Addr} {kvs : List (L2.Key × V)} {ds : List PyData} : H p = some (.dK kvs) → DqAll K H (kvs.map Prod.snd) ds → Dq K H (.ref p) (.dict ((kvs.map fun kv => kD kv.1).zip ds))
  | dT {p : Addr} {kvs : List (List L2.Key × V)} {ds : List PyData} : H p = some (.dT kvs) → DqAll K H (kvs.map Prod.snd) ds → Dq K H (.ref p) (.dict ((kvs.map fun kv => enK kv.1).zip ds))
inductive DqAll (K : PySem.W.Frag) (H : Hp) : List V → List PyData → Prop
  | nil : DqAll K H [] []
  | cons {v : V} {d : PyData} {vs : List V} {ds : List PyData} : Dq K H v d → DqAll K H vs ds → DqAll K H (v :: vs) (d :: ds)
end
section
variable {X : Cx} {pins : List (Addr × Obj)} {σ : L2.St} {H : Hp} {s : Shared}
theorem DqAll.len {K : PySem.W.Frag} : ∀ {vs : List V} {ds : List PyData}, DqAll K H vs ds → vs.length = ds.length
  | _, _, .nil => rfl
  | _, _, .cons _ r => by rw [List.length_cons, List.length_cons, DqAll.len r]
theorem key_reads {h : Heap} {k : L2.Key} {u : Value} (e : keyIs k u = true) : Reads h u (kD k) [] := by
  rcases keyIs_shape e with ⟨i, t, rfl, rfl⟩ | ⟨x, t, rfl, rfl⟩
  · exact .int i t
  · exact .str x t
theorem keys_read {h : Heap} {P : Program} {w : World} : ∀ {k : List L2.Key} {us : List Value}, ItemsAre (mixKind P w) k us → ReadsAll h us (k.map kD) []
  | _, _, .nil => .nil
  | _, _, .cons e r => .cons (as := []) (bs := []) (key_reads e) (keys_read r)
theorem tup_reads (I : Inv X pins σ H s) {b : Addr} {k : List L2.Key} (h : SqT X.K H b (k.map kV)) : Reads s.heap (.ref b) (enK k) [] := by
  obtain ⟨o, items, n, ho, hc, hd, hi⟩ := tup_key I h
  exact .tuple ho hc hd (keys_read hi)
theorem pairs_read {h : Heap} {P : Program} {w : World} : ∀ {es : List DictEntry} {vs : List (L2.Key × Value)} {kvs : List (L2.Key × V)}, Pairs (mixKind P w) es vs → KV kvs vs → ReadsAll h (es.map (·.key)) (kvs.map fun kv => kD kv.1) [] ∧ Vals (kvs.map Prod.snd) (es.map (·.val))
  | _, _, _, .nil, k => by cases k; exact ⟨.nil, .nil⟩
  | _, _, _, .cons e1 e2 r, k => by
    cases k with
    | cons k1 k2 =>
      obtain ⟨h1, h2⟩ := pairs_read (h := h) r k2
      refine ⟨.cons (as := []) (bs := []) (by show Reads h _ (kD _) []; rw [k1.1]; exact key_reads e1) h1, .cons ?_ h2⟩
      show RelV _ (DictEntry.val _)
      rw [e2]
      exact k1.2
theorem tups_read (I : Inv X pins σ H s) : ∀ {xs : List (List L2.Key × Addr × Value)} {kvs : List (List L2.Key × V)}, Paired (fun (p : List L2.Key × V) (q : List L2.Key × Addr × Value) => p.1 = q.1 ∧ H q.2.1 = some (.tup (p.1.map kV)) ∧ RelV p.2 q.2.2) kvs xs →
    ReadsAll s.heap ((xs.map (entryOfKey (MK X.prog X.w))).map (·.key)) (kvs.map fun kv => enK kv.1) [] ∧ Vals (kvs.map Prod.snd) ((xs.map (entryOfKey (MK X.prog X.w))).map (·.val))
  | _, _, .nil => ⟨.nil, .nil⟩
  | _, _, .cons k1 k2 => by
    obtain ⟨h1, h2⟩ := tups_read I k2
    exact ⟨.cons (as := []) (bs := []) (tup_reads I (SqT.of k1.2.1)) h1, .cons k1.2.2 h2⟩
mutual
theorem Dq.reads (I : Inv X pins σ H s) : ∀ {v : V} {d : PyData}, Dq X.K H v d → ∀ {u : Value}, RelV v u → ∃ as, Reads s.heap u d as ∧ sysModules ∉ as
  | _, _, .non, _, r => by cases r; exact ⟨_, .none, List.not_mem_nil⟩
  | _, _, .bl b, _, r => by cases r; exact ⟨_, .bool b, List.not_mem_nil⟩
  | _, _, .int i, _, r => by obtain ⟨t, rfl⟩ := r; exact ⟨_, .int i t, List.not_mem_nil⟩
  | _, _, .str x, _, r => by obtain ⟨t, rfl⟩ := r; exact ⟨_, .str x t, List.not_mem_nil⟩
  | _, _, .tup h a, _, r => by
    cases r
    obtain ⟨its, rv, ⟨o, ho, hc, n, hd⟩, _⟩ := I.tuple h
    obtain ⟨as, ra, na⟩ := DqAll.reads I a rv
    exact ⟨as, .tuple ho hc hd (by simpa using ra), na⟩
  | _, _, .dK (kvs := kvs) (ds := ds) h a, _, r => by
    cases r
    obtain ⟨_, hs, vs, kv, o, es, ep, ho, hex, hd, _, prs, _⟩ := dk_of I.hok h
    obtain ⟨rk, rv⟩ := pairs_read (h := s.heap) prs kv
    obtain ⟨bs, rb, nb⟩ := DqAll.reads I a rv
    have l1 := a.len
    rw [List.length_map] at l1
    refine ⟨_, .dict ho hex.1 hd (by rw [List.map_fst_zip (by rw [List.length_map]; omega)]; exact rk) (by rw [List.map_snd_zip (by rw [List.length_map]; omega)]; exact rb), fun z => ?_⟩
    rcases List.mem_cons.mp z with e | z
    · rw [← e] at hs
      simp at hs
    · exact nb z
  | _, _, .dT (kvs := kvs) (ds := ds) h a, _, r => by
    cases r
    obtain ⟨_, hs, xs, pr, o, es, ep, ho, hex, hd, he, _⟩ := I.hok _ _ h
    obtain ⟨rk, rv⟩ := tups_read I pr
    rw [← he] at rk rv
    obtain ⟨bs, rb, nb⟩ := DqAll.reads I a rv
    have l1 := a.len
    rw [List.length_map] at l1
    refine ⟨_, .dict ho hex.1 hd (by rw [List.map_fst_zip (by rw [List.length_map]; omega)]; exact rk) (by rw [List.map_snd_zip (by rw [List.length_map]; omega)]; exact rb), fun z => ?_⟩
    rcases List.mem_cons.mp z with e | z
    · rw [← e] at hs
      simp at hs
    · exact nb z
theorem DqAll.reads (I : Inv X pins σ H s) : ∀ {vs : List V} {ds : List PyData}, DqAll X.K H vs ds → ∀ {us : List Value}, Vals vs us → ∃ as, ReadsAll s.heap us ds as ∧ sysModules ∉ as
  | _, _, .nil, _, r => by cases r; exact ⟨_, .nil, List.not_mem_nil⟩
  | _, _, .cons a b, _, r => by
    cases r with
    | cons r1 r2 =>
      obtain ⟨as, h1, n1⟩ := Dq.reads I a r1
      obtain ⟨bs, h2, n2⟩ := DqAll.reads I b r2
      exact ⟨_, .cons h1 h2, fun z => (List.mem_append.mp z).elim n1 n2⟩
end
/-- repr of such data -/
def rReprQ (K : PySem.W.Frag) : List V → Hp → VK → Prop := fun xs H Q => ∃ p d, xs = [.ref p] ∧ Dq K H (.ref p) d ∧ d.showable = true ∧ d.depth ≤ 60 ∧ d.shown.length ≤ sizeLine ∧ Q (.str d.shown) H
theorem cr_reprQ {K : PySem.W.Frag} (gd : X.A.guards = some []) (hu : X.A.units + 70 < cLine) (hK : X.K = K := by rfl) : CallR X (.builtin "repr") (rReprQ K) := by
  subst hK
  intro pins s σ H xs us Q I r h
  obtain ⟨p, d, rfl, hd, sh, dep, sz, q⟩ := h
  rw [Vals.ref1 r]
  obtain ⟨as, ra, na⟩ := Dq.reads I hd rfl
  exact repr_of_reads' ra sh (fun _ => na) gd (by omega) (fun _ _ z => z) (fun h' u tk hk => ⟨.str d.shown, H, I.kept (t' := tk) hk, ⟨u, rfl⟩, q⟩) sz
end
end RQ
set_option maxRecDepth 100000
set_option maxHeartbeats 4000000
namespace N4
open PySem L2 Evl
def top (i : Nat) : Stmt := PySem.Challenge.pw_ringclause_k14_whole_nets_agree.main.body.getD i (.Pass ⟨0, 0, 0, 0⟩)

/-! ### general -/
section
variable {K : PySem.W.Frag} {σ : L2.St} {H H1 : Hp} {J : It} {G : Hp → Prop} {te : TE}
theorem lcMap {xs : List V} (w : Walk J xs.length G (YAt xs)) (f : V → V) {j : Nat} {vs : List Nat} (hz : xs.length < sizeLine) (hG : ∀ H', Ex H1 H' → G H')
    (hw : ∀ v, wipe ((wipe σ vs).set j (some v)) vs = wipe σ vs) (he : ∀ v ∈ xs, ∀ H', Ex H1 H' → Ev te ((wipe σ vs).set j (some v)) H' (f v)) {Qd : Hp → Prop} {D : Addr} (hD : H1 D = none)
    (k : ∀ H', Ex H1 H' → H' D = some (.lst (xs.map f)) → Qd H') :
    ∃ W : Nat → Nat → Hp → Prop, (∃ m, W 0 m (upd H1 D (.lst []))) ∧ ∀ i m H, W i m H →
      (J.stop i H ∧ Qd H) ∨ (J.go i H ∧ ∃ Nx : Hp → Prop, (∀ H', Nx H' → ∃ m', m' < m ∧ W (i + 1) m' H') ∧ ∀ x H', J.yld i H x H' → gName j x (wipe σ vs) H' fun σ2 H2 => wipe σ2 vs = wipe σ vs ∧ tYes σ2 H2 fun b H3 =>
        if b = true then te σ2 H3 fun y H4 => ∃ acc, H4 D = some (.lst acc) ∧ acc.length < sizeLine ∧ Nx (upd H4 D (.lst (acc ++ [y]))) else Nx H3) := by
  refine lc_it w (fun i H => Ex H1 H ∧ H D = some (.lst ((xs.take i).map f))) ⟨Ex.new hD, upd_same⟩ (fun i H _ p => hG H p.1) ?_ (fun H p => k H p.1 (by have := p.2; rwa [List.take_length] at this))
  rintro i x H H' hi ⟨e, hl⟩ ⟨rfl, hx⟩
  have hm : x ∈ xs := by
    obtain ⟨h, q⟩ := List.getElem?_eq_some_iff.mp hx
    rw [← q]
    exact List.getElem_mem h
  unfold gName tYes
  dsimp only
  refine ⟨hw x, ?_⟩
  rw [if_pos rfl]
  refine he x hm H' e H' (Ex.refl _) _ fun H4 e4 => ⟨_, e4 D _ hl, ?_, Ex.mut (e.trans e4) hD, ?_⟩
  · rw [List.length_map, List.length_take]
    omega
  · rw [upd_same, List.take_add_one, hx]
    simp
theorem walk_signs {z : Str} : Walk (Its z) (z.cps.toList.map fun c => V.str ⟨#[c]⟩).length (fun _ => True) (YAt (z.cps.toList.map fun c => V.str ⟨#[c]⟩)) := by
  have e : (z.cps.toList.map fun c => V.str ⟨#[c]⟩).length = z.cps.size := by simp
  rw [e]
  refine walk_str.mono (fun _ h => h) ?_
  rintro i H x H' hi _ ⟨rfl, c, hc, rfl⟩
  refine ⟨rfl, ?_⟩
  simp [hc]
end

theorem at_lit {α : Type} {l : List α} {n : Nat} {z : Int} {v : α} (e : z = (n : Int)) (h : l[n]? = some v) : atI l z = some v := by
  rw [e]
  exact atI_nat h
/-! ### data by its kind -/
def tyN : PyData → String
  | .none => "NoneType" | .bool _ => "bool" | .int _ => "int" | .str _ => "str" | .list _ => "list" | .tuple _ => "tuple" | .dict _ => "dict"
def isStrD : PyData → Bool | .str _ => true | _ => false
def isIntLikeD : PyData → Bool | .int _ => true | .bool _ => true | _ => false
def isBoolD : PyData → Bool | .bool _ => true | _ => false
def isTupD : PyData → Bool | .tuple _ => true | _ => false
def isListD : PyData → Bool | .list _ => true | _ => false
section
variable {K : PySem.W.Frag} {H H' : Hp} {v : V} {d : PyData}
theorem dp_ty (h : Dp K H v d) : TyX K H v (.type (tyN d)) := by
  cases h with
  | non => exact .base .non
  | bl b => exact .base (.bl b)
  | int i => exact .base (.int i)
  | str x => exact .base (.str x)
  | lst h _ =>
    rcases h with (h | ⟨o, h⟩) | ⟨o, its, n, h1, h2, _⟩
    · exact .base (.lst h)
    · exact .base (.frz h)
    · exact .kList h1 h2
  | tup h _ =>
    rcases h with (h | ⟨o, h⟩) | ⟨o, its, n, h1, h2, _⟩
    · exact .base (.tup h)
    · exact .fTuple h
    · exact .kTuple h1 h2
theorem kit_str (d : PyData) : PySem.W.kitOne K (.type (tyN d)) (.type "str") = some (isStrD d) := by cases d <;> (refine kit_ty ?_; simp only [tyN, isStrD]; decide +kernel)
theorem kit_int (d : PyData) : PySem.W.kitOne K (.type (tyN d)) (.type "int") = some (isIntLikeD d) := by cases d <;> (refine kit_ty ?_; simp only [tyN, isIntLikeD]; decide +kernel)
theorem kit_bool (d : PyData) : PySem.W.kitOne K (.type (tyN d)) (.type "bool") = some (isBoolD d) := by cases d <;> (refine kit_ty ?_; simp only [tyN, isBoolD]; decide +kernel)
theorem kit_tuple (d : PyData) : PySem.W.kitOne K (.type (tyN d)) (.type "tuple") = some (isTupD d) := by cases d <;> (refine kit_ty ?_; simp only [tyN, isTupD]; decide +kernel)
theorem kit_list (d : PyData) : PySem.W.kitOne K (.type (tyN d)) (.type "list") = some (isListD d) := by cases d <;> (refine kit_ty ?_; simp only [tyN, isListD]; decide +kernel)
mutual
theorem Dp.ex (e : Ex H H') {v : V} {d : PyData} : Dp K H v d → Dp K H' v d
  | .non => .non
  | .bl b => .bl b
  | .int i => .int i
  | .str x => .str x
  | .lst h a => .lst (ex_l e h) (DpAll.ex e a)
  | .tup h a => .tup (ex_t e h) (DpAll.ex e a)
theorem DpAll.ex (e : Ex H H') {vs : List V} {ds : List PyData} : DpAll K H vs ds → DpAll K H' vs ds
  | .nil => .nil
  | .cons a b => .cons (Dp.ex e a) (DpAll.ex e b)
end
theorem DpAll.len : ∀ {vs : List V} {ds : List PyData}, DpAll K H vs ds → vs.length = ds.length
  | _, _, .nil => rfl
  | _, _, .cons _ r => by rw [List.length_cons, List.length_cons, DpAll.len r]
theorem DpAll.get : ∀ {vs : List V} {ds : List PyData}, DpAll K H vs ds → ∀ {i : Nat} {v : V}, vs[i]? = some v → ∃ d, ds[i]? = some d ∧ Dp K H v d
  | _, _, .nil, _, _, h => by simp at h
  | _, _, .cons (d := d) a _, 0, v, h => by
    have e : _ = v := Option.some.inj h
    subst e
    exact ⟨d, rfl, a⟩
  | _, _, .cons _ b, i + 1, v, h => DpAll.get b (i := i) (by simpa using h)
end
/-! ### the names and bounds of the program, over data -/
def letters : Str := "abcdefghijklmnopqrstuvwxyz"
def signs : Str := "abcdefghijklmnopqrstuvwxyz0123456789"
def isNameS (z : Str) : Bool := decide (1 ≤ z.length ∧ z.length ≤ 8) && (decide ((z.cps.toList.headD 0) ∈ letters.cps.toList) && z.cps.toList.all fun c => decide (c ∈ signs.cps.toList))
def isNameD : PyData → Bool | .str z => isNameS z | _ => false
def isIntD (d : PyData) : Bool := isIntLikeD d && !isBoolD d
def partsD : PyData → Option (PyData × PyData × PyData × PyData)
  | .tuple [a, b, c, e] => some (a, b, c, e)
  | _ => none
def isMostD : PyData → Bool | .str w => decide (w = ("most" : Str)) | _ => false
def sameD : PyData → PyData → Bool
  | .str x, .str y => decide (x = y)
  | _, _ => false
def isBoundD (d : PyData) : Bool := match partsD d with
  | some (a, b, c, e) => isMostD a && (isNameD b && (isNameD c && (!sameD b c && isIntD e)))
  | none => false
theorem isBound4 {a b c e : PyData} : isBoundD (.tuple [a, b, c, e]) = (isMostD a && (isNameD b && (isNameD c && (!sameD b c && isIntD e)))) := rfl
/-- texts in it, not too long -/
def szS : PyData → Prop | .str z => z.length ≤ sizeLine | _ => True
def szD : PyData → Prop | .tuple ds => ∀ d ∈ ds, szS d | _ => True

/-! ### the text -/
abbrev s_is_name : Stmt := top 10
theorem sc_is_name : FnScope ["value"] ["value"] (defScope s_is_name) := ⟨rfl, rfl, rfl, by decide +kernel, rfl, by decide +kernel, by decide +kernel⟩
abbrev s_is_integer : Stmt := top 11
theorem sc_is_integer : FnScope ["value"] ["value"] (defScope s_is_integer) := ⟨rfl, rfl, rfl, by decide +kernel, rfl, by decide +kernel, by decide +kernel⟩
abbrev s_is_bound : Stmt := top 12
theorem sc_is_bound : FnScope ["value", "word", "first", "second", "limit"] ["value"] (defScope s_is_bound) := ⟨rfl, rfl, rfl, by decide +kernel, rfl, by decide +kernel, by decide +kernel⟩
abbrev s_moments_of : Stmt := top 13
theorem sc_moments_of : FnScope ["literals", "literal", "name"] ["literals"] (defScope s_moments_of) := ⟨rfl, rfl, rfl, by decide +kernel, rfl, by decide +kernel, by decide +kernel⟩
abbrev s_best_way : Stmt := top 16
theorem sc_best_way : FnScope ["ways", "start", "end"] ["ways", "start", "end"] (defScope s_best_way) := ⟨rfl, rfl, rfl, by decide +kernel, rfl, by decide +kernel, by decide +kernel⟩
abbrev s_ways_with : Stmt := top 17
theorem sc_ways_with : FnScope ["ways", "moments", "bound", "_", "first", "second", "limit", "old", "grown", "start", "before", "end", "after", "total", "chain", "way", "pair"] ["ways", "moments", "bound"] (defScope s_ways_with) := ⟨rfl, rfl, rfl, by decide +kernel, rfl, by decide +kernel, by decide +kernel⟩
abbrev s_no_ring : Stmt := top 18
theorem sc_no_ring : FnScope [] [] (defScope s_no_ring) := ⟨rfl, rfl, rfl, by decide +kernel, rfl, by decide +kernel, by decide +kernel⟩
abbrev s_ring_and_ways_with : Stmt := top 19
theorem sc_ring_and_ways_with : FnScope ["known", "moments", "bound", "ring", "ways", "_", "first", "second", "limit", "back"] ["known", "moments", "bound"] (defScope s_ring_and_ways_with) := ⟨rfl, rfl, rfl, by decide +kernel, rfl, by decide +kernel, by decide +kernel⟩
abbrev s_ring_and_ways : Stmt := top 20
theorem sc_ring_and_ways : FnScope ["bounds", "moments", "known", "bound"] ["bounds", "moments"] (defScope s_ring_and_ways) := ⟨rfl, rfl, rfl, by decide +kernel, rfl, by decide +kernel, by decide +kernel⟩
abbrev s_check_bound : Stmt := top 23
theorem sc_check_bound : FnScope ["value"] ["value"] (defScope s_check_bound) := ⟨rfl, rfl, rfl, by decide +kernel, rfl, by decide +kernel, by decide +kernel⟩
abbrev s_meaning_of : Stmt := top 24
theorem sc_meaning_of : FnScope ["ring", "ways", "pair"] ["ring", "ways"] (defScope s_meaning_of) := ⟨rfl, rfl, rfl, by decide +kernel, rfl, by decide +kernel, by decide +kernel⟩
abbrev s_law_integer : Stmt := top 26
theorem sc_law_integer : FnScope ["told"] ["told"] (defScope s_law_integer) := ⟨rfl, rfl, rfl, by decide +kernel, rfl, by decide +kernel, by decide +kernel⟩
abbrev s_law_box : Stmt := top 27
theorem sc_law_box : FnScope ["script"] ["script"] (defScope s_law_box) := ⟨rfl, rfl, rfl, by decide +kernel, rfl, by decide +kernel, by decide +kernel⟩
abbrev s_law_mixed : Stmt := top 28
theorem sc_law_mixed : FnScope ["seed", "turn", "once"] ["seed", "turn"] (defScope s_law_mixed) := ⟨rfl, rfl, rfl, by decide +kernel, rfl, by decide +kernel, by decide +kernel⟩
abbrev s_law_take : Stmt := top 29
theorem sc_law_take : FnScope ["box", "size", "cell", "digit"] ["box", "size"] (defScope s_law_take) := ⟨rfl, rfl, rfl, by decide +kernel, rfl, by decide +kernel, by decide +kernel⟩
abbrev s_law_name : Stmt := top 30
theorem sc_law_name : FnScope ["box", "names", "signs", "elder", "place", "least", "size", "text", "turn"] ["box", "names"] (defScope s_law_name) := ⟨rfl, rfl, rfl, by decide +kernel, rfl, by decide +kernel, by decide +kernel⟩
abbrev s_law_names : Stmt := top 31
theorem sc_law_names : FnScope ["box", "count", "names", "turn", "name", "one"] ["box", "count"] (defScope s_law_names) := ⟨rfl, rfl, rfl, by decide +kernel, rfl, by decide +kernel, by decide +kernel⟩
abbrev s_law_far : Stmt := top 32
theorem sc_law_far : FnScope ["box", "total", "turn"] ["box"] (defScope s_law_far) := ⟨rfl, rfl, rfl, by decide +kernel, rfl, by decide +kernel, by decide +kernel⟩
abbrev s_law_heights : Stmt := top 33
theorem sc_law_heights : FnScope ["box", "names", "heights", "level", "name"] ["box", "names"] (defScope s_law_heights) := ⟨rfl, rfl, rfl, by decide +kernel, rfl, by decide +kernel, by decide +kernel⟩
abbrev s_law_slack : Stmt := top 34
theorem sc_law_slack : FnScope ["box", "kind"] ["box"] (defScope s_law_slack) := ⟨rfl, rfl, rfl, by decide +kernel, rfl, by decide +kernel, by decide +kernel⟩
abbrev s_law_sizes : Stmt := top 35
theorem sc_law_sizes : FnScope ["box", "kind"] ["box"] (defScope s_law_sizes) := ⟨rfl, rfl, rfl, by decide +kernel, rfl, by decide +kernel, by decide +kernel⟩
abbrev s_law_row : Stmt := top 36
theorem sc_law_row : FnScope ["box", "names", "heights", "at", "to"] ["box", "names", "heights"] (defScope s_law_row) := ⟨rfl, rfl, rfl, by decide +kernel, rfl, by decide +kernel, by decide +kernel⟩
abbrev s_law_rows : Stmt := top 37
theorem sc_law_rows : FnScope ["box", "names", "heights", "size", "rows", "turn"] ["box", "names", "heights", "size"] (defScope s_law_rows) := ⟨rfl, rfl, rfl, by decide +kernel, rfl, by decide +kernel, by decide +kernel⟩
abbrev s_law_extra : Stmt := top 38
theorem sc_law_extra : FnScope ["box", "names", "lone", "kind"] ["box", "names", "lone"] (defScope s_law_extra) := ⟨rfl, rfl, rfl, by decide +kernel, rfl, by decide +kernel, by decide +kernel⟩
abbrev s_law_known : Stmt := top 39
theorem sc_law_known : FnScope ["rows", "extra", "found", "name", "row"] ["rows", "extra"] (defScope s_law_known) := ⟨rfl, rfl, rfl, by decide +kernel, rfl, by decide +kernel, by decide +kernel⟩
abbrev s_law_flat : Stmt := top 40
theorem sc_law_flat : FnScope ["rows", "found", "row"] ["rows"] (defScope s_law_flat) := ⟨rfl, rfl, rfl, by decide +kernel, rfl, by decide +kernel, by decide +kernel⟩
abbrev s_law_plain : Stmt := top 41
theorem sc_law_plain : FnScope ["rows", "first"] ["rows"] (defScope s_law_plain) := ⟨rfl, rfl, rfl, by decide +kernel, rfl, by decide +kernel, by decide +kernel⟩
abbrev s_law_net : Stmt := top 42
theorem sc_law_net : FnScope ["rows", "extra", "first"] ["rows", "extra"] (defScope s_law_net) := ⟨rfl, rfl, rfl, by decide +kernel, rfl, by decide +kernel, by decide +kernel⟩
abbrev s_law_shaped : Stmt := top 43
theorem sc_law_shaped : FnScope ["net", "rows", "known", "flat"] ["net", "rows", "known"] (defScope s_law_shaped) := ⟨rfl, rfl, rfl, by decide +kernel, rfl, by decide +kernel, by decide +kernel⟩
abbrev s_law_fulfilled : Stmt := top 44
theorem sc_law_fulfilled : FnScope ["rows", "times", "row"] ["rows", "times"] (defScope s_law_fulfilled) := ⟨rfl, rfl, rfl, by decide +kernel, rfl, by decide +kernel, by decide +kernel⟩
abbrev s_law_times : Stmt := top 45
theorem sc_law_times : FnScope ["told", "known", "times", "k", "pair"] ["told", "known"] (defScope s_law_times) := ⟨rfl, rfl, rfl, by decide +kernel, rfl, by decide +kernel, by decide +kernel⟩
abbrev s_law_opposed : Stmt := top 46
theorem sc_law_opposed : FnScope ["row"] ["row"] (defScope s_law_opposed) := ⟨rfl, rfl, rfl, by decide +kernel, rfl, by decide +kernel, by decide +kernel⟩
abbrev s_law_spoilt : Stmt := top 47
theorem sc_law_spoilt : FnScope ["box", "rows", "row", "at"] ["box", "rows"] (defScope s_law_spoilt) := ⟨rfl, rfl, rfl, by decide +kernel, rfl, by decide +kernel, by decide +kernel⟩
abbrev s_law_table : Stmt := top 48
theorem sc_law_table : FnScope ["rows", "known", "table", "x", "y", "row", "old", "z", "low", "high"] ["rows", "known"] (defScope s_law_table) := ⟨rfl, rfl, rfl, by decide +kernel, rfl, by decide +kernel, by decide +kernel⟩
abbrev s_law_broken : Stmt := top 49
theorem sc_law_broken : FnScope ["table", "known", "x"] ["table", "known"] (defScope s_law_broken) := ⟨rfl, rfl, rfl, by decide +kernel, rfl, by decide +kernel, by decide +kernel⟩
abbrev s_law_alike : Stmt := top 50
theorem sc_law_alike : FnScope ["rows", "known", "others", "their", "first", "second", "key"] ["rows", "known", "others", "their"] (defScope s_law_alike) := ⟨rfl, rfl, rfl, by decide +kernel, rfl, by decide +kernel, by decide +kernel⟩
abbrev s_law_negative : Stmt := top 51
theorem sc_law_negative : FnScope ["ring", "rows", "k", "step"] ["ring", "rows"] (defScope s_law_negative) := ⟨rfl, rfl, rfl, by decide +kernel, rfl, by decide +kernel, by decide +kernel⟩
abbrev s_law_settled : Stmt := top 52
theorem sc_law_settled : FnScope ["net", "rows", "known", "times"] ["net", "rows", "known"] (defScope s_law_settled) := ⟨rfl, rfl, rfl, by decide +kernel, rfl, by decide +kernel, by decide +kernel⟩
abbrev s_law_shuffled : Stmt := top 53
theorem sc_law_shuffled : FnScope ["box", "rows", "left", "turned", "turn"] ["box", "rows"] (defScope s_law_shuffled) := ⟨rfl, rfl, rfl, by decide +kernel, rfl, by decide +kernel, by decide +kernel⟩
abbrev s_law_same : Stmt := top 54
theorem sc_law_same : FnScope ["net", "other", "due", "told", "back"] ["net", "other", "due"] (defScope s_law_same) := ⟨rfl, rfl, rfl, by decide +kernel, rfl, by decide +kernel, by decide +kernel⟩
abbrev s_law_order_right : Stmt := top 55
theorem sc_law_order_right : FnScope ["box", "net", "turned", "extra", "known", "other", "turn", "x", "y"] ["box", "net", "turned", "extra", "known"] (defScope s_law_order_right) := ⟨rfl, rfl, rfl, by decide +kernel, rfl, by decide +kernel, by decide +kernel⟩
abbrev s_law_joined_right : Stmt := top 56
theorem sc_law_joined_right : FnScope ["box", "net", "rows", "extra", "known", "at", "first", "second", "both", "turned"] ["box", "net", "rows", "extra", "known"] (defScope s_law_joined_right) := ⟨rfl, rfl, rfl, by decide +kernel, rfl, by decide +kernel, by decide +kernel⟩
abbrev s_law_further : Stmt := top 57
theorem sc_law_further : FnScope ["box", "rows", "known", "at", "to", "k", "near", "table", "least"] ["box", "rows", "known"] (defScope s_law_further) := ⟨rfl, rfl, rfl, by decide +kernel, rfl, by decide +kernel, by decide +kernel⟩
abbrev s_law_other : Stmt := top 58
theorem sc_law_other : FnScope ["box", "rows", "known", "kind", "at", "row"] ["box", "rows", "known"] (defScope s_law_other) := ⟨rfl, rfl, rfl, by decide +kernel, rfl, by decide +kernel, by decide +kernel⟩
abbrev s_law_others_right : Stmt := top 59
theorem sc_law_others_right : FnScope ["box", "net", "rows", "known", "gone", "turn", "others", "their", "other", "due"] ["box", "net", "rows", "known", "gone"] (defScope s_law_others_right) := ⟨rfl, rfl, rfl, by decide +kernel, rfl, by decide +kernel, by decide +kernel⟩
abbrev s_law : Stmt := top 60
theorem sc_law : FnScope ["script", "box", "count", "size", "names", "heights", "rows", "extra", "known", "net", "odd"] ["script"] (defScope s_law) := ⟨rfl, rfl, rfl, by decide +kernel, rfl, by decide +kernel, by decide +kernel⟩
/-- where the defs stand -/
structure Ad where
  a_is_name : Addr
  a_is_integer : Addr
  a_is_bound : Addr
  a_moments_of : Addr
  a_best_way : Addr
  a_ways_with : Addr
  a_no_ring : Addr
  a_ring_and_ways_with : Addr
  a_ring_and_ways : Addr
  a_check_bound : Addr
  a_meaning_of : Addr
  a_law_integer : Addr
  a_law_box : Addr
  a_law_mixed : Addr
  a_law_take : Addr
  a_law_name : Addr
  a_law_names : Addr
  a_law_far : Addr
  a_law_heights : Addr
  a_law_slack : Addr
  a_law_sizes : Addr
  a_law_row : Addr
  a_law_rows : Addr
  a_law_extra : Addr
  a_law_known : Addr
  a_law_flat : Addr
  a_law_plain : Addr
  a_law_net : Addr
  a_law_shaped : Addr
  a_law_fulfilled : Addr
  a_law_times : Addr
  a_law_opposed : Addr
  a_law_spoilt : Addr
  a_law_table : Addr
  a_law_broken : Addr
  a_law_alike : Addr
  a_law_negative : Addr
  a_law_settled : Addr
  a_law_shuffled : Addr
  a_law_same : Addr
  a_law_order_right : Addr
  a_law_joined_right : Addr
  a_law_further : Addr
  a_law_other : Addr
  a_law_others_right : Addr
  a_law : Addr
  tL : Tok
  tS : Tok
  tN : Tok
  eW : Addr
  cR : Addr
  cN : Addr
  cL : Addr
  cU : Addr
  cI : Addr
  cT : Addr
structure Fd where
  a_is_name : FuncData
  a_is_integer : FuncData
  a_is_bound : FuncData
  a_moments_of : FuncData
  a_best_way : FuncData
  a_ways_with : FuncData
  a_no_ring : FuncData
  a_ring_and_ways_with : FuncData
  a_ring_and_ways : FuncData
  a_check_bound : FuncData
  a_meaning_of : FuncData
  a_law_integer : FuncData
  a_law_box : FuncData
  a_law_mixed : FuncData
  a_law_take : FuncData
  a_law_name : FuncData
  a_law_names : FuncData
  a_law_far : FuncData
  a_law_heights : FuncData
  a_law_slack : FuncData
  a_law_sizes : FuncData
  a_law_row : FuncData
  a_law_rows : FuncData
  a_law_extra : FuncData
  a_law_known : FuncData
  a_law_flat : FuncData
  a_law_plain : FuncData
  a_law_net : FuncData
  a_law_shaped : FuncData
  a_law_fulfilled : FuncData
  a_law_times : FuncData
  a_law_opposed : FuncData
  a_law_spoilt : FuncData
  a_law_table : FuncData
  a_law_broken : FuncData
  a_law_alike : FuncData
  a_law_negative : FuncData
  a_law_settled : FuncData
  a_law_shuffled : FuncData
  a_law_same : FuncData
  a_law_order_right : FuncData
  a_law_joined_right : FuncData
  a_law_further : FuncData
  a_law_other : FuncData
  a_law_others_right : FuncData
  a_law : FuncData
structure TX (K : PySem.W.Frag) (mg : Str → Option Value) (a : Ad) : Prop where
  b_isinstance : mg "isinstance" = none
  b_str : mg "str" = none
  b_int : mg "int" = none
  b_bool : mg "bool" = none
  b_tuple : mg "tuple" = none
  b_list : mg "list" = none
  b_len : mg "len" = none
  b_range : mg "range" = none
  b_sorted : mg "sorted" = none
  b_abs : mg "abs" = none
  b_min : mg "min" = none
  b_max : mg "max" = none
  b_all : mg "all" = none
  b_any : mg "any" = none
  b_set : mg "set" = none
  b_sum : mg "sum" = none
  b_zip : mg "zip" = none
  b_enumerate : mg "enumerate" = none
  b_dict : mg "dict" = none
  b_ValueError : mg "ValueError" = none
  g_LETTERS : mg "LETTERS" = some (.str letters a.tL)
  g_SIGNS : mg "SIGNS" = some (.str signs a.tS)
  g_LONGEST_NAME : mg "LONGEST_NAME" = some (.int 8 a.tN)
  g_EMPTY_WAY : mg "EMPTY_WAY" = some (.ref a.eW)
  c_RingclauseError : mg "RingclauseError" = some (.ref a.cR)
  c_InvalidName : mg "InvalidName" = some (.ref a.cN)
  c_InvalidLiteral : mg "InvalidLiteral" = some (.ref a.cL)
  c_UnknownMoment : mg "UnknownMoment" = some (.ref a.cU)
  c_Inconsistent : mg "Inconsistent" = some (.ref a.cI)
  c_Net : mg "Net" = some (.ref a.cT)
  f_is_name : mg "is_name" = some (.ref a.a_is_name)
  k_is_name : PySem.W.keepIn K (.ref a.a_is_name) = true
  f_is_integer : mg "is_integer" = some (.ref a.a_is_integer)
  k_is_integer : PySem.W.keepIn K (.ref a.a_is_integer) = true
  f_is_bound : mg "is_bound" = some (.ref a.a_is_bound)
  k_is_bound : PySem.W.keepIn K (.ref a.a_is_bound) = true
  f_moments_of : mg "moments_of" = some (.ref a.a_moments_of)
  k_moments_of : PySem.W.keepIn K (.ref a.a_moments_of) = true
  f_best_way : mg "best_way" = some (.ref a.a_best_way)
  k_best_way : PySem.W.keepIn K (.ref a.a_best_way) = true
  f_ways_with : mg "ways_with" = some (.ref a.a_ways_with)
  k_ways_with : PySem.W.keepIn K (.ref a.a_ways_with) = true
  f_no_ring : mg "no_ring" = some (.ref a.a_no_ring)
  k_no_ring : PySem.W.keepIn K (.ref a.a_no_ring) = true
  f_ring_and_ways_with : mg "ring_and_ways_with" = some (.ref a.a_ring_and_ways_with)
  k_ring_and_ways_with : PySem.W.keepIn K (.ref a.a_ring_and_ways_with) = true
  f_ring_and_ways : mg "ring_and_ways" = some (.ref a.a_ring_and_ways)
  k_ring_and_ways : PySem.W.keepIn K (.ref a.a_ring_and_ways) = true
  f_check_bound : mg "check_bound" = some (.ref a.a_check_bound)
  k_check_bound : PySem.W.keepIn K (.ref a.a_check_bound) = true
  f_meaning_of : mg "meaning_of" = some (.ref a.a_meaning_of)
  k_meaning_of : PySem.W.keepIn K (.ref a.a_meaning_of) = true
  f__law_integer : mg "_law_integer" = some (.ref a.a_law_integer)
  k__law_integer : PySem.W.keepIn K (.ref a.a_law_integer) = true
  f__law_box : mg "_law_box" = some (.ref a.a_law_box)
  k__law_box : PySem.W.keepIn K (.ref a.a_law_box) = true
  f__law_mixed : mg "_law_mixed" = some (.ref a.a_law_mixed)
  k__law_mixed : PySem.W.keepIn K (.ref a.a_law_mixed) = true
  f__law_take : mg "_law_take" = some (.ref a.a_law_take)
  k__law_take : PySem.W.keepIn K (.ref a.a_law_take) = true
  f__law_name : mg "_law_name" = some (.ref a.a_law_name)
  k__law_name : PySem.W.keepIn K (.ref a.a_law_name) = true
  f__law_names : mg "_law_names" = some (.ref a.a_law_names)
  k__law_names : PySem.W.keepIn K (.ref a.a_law_names) = true
  f__law_far : mg "_law_far" = some (.ref a.a_law_far)
  k__law_far : PySem.W.keepIn K (.ref a.a_law_far) = true
  f__law_heights : mg "_law_heights" = some (.ref a.a_law_heights)
  k__law_heights : PySem.W.keepIn K (.ref a.a_law_heights) = true
  f__law_slack : mg "_law_slack" = some (.ref a.a_law_slack)
  k__law_slack : PySem.W.keepIn K (.ref a.a_law_slack) = true
  f__law_sizes : mg "_law_sizes" = some (.ref a.a_law_sizes)
  k__law_sizes : PySem.W.keepIn K (.ref a.a_law_sizes) = true
  f__law_row : mg "_law_row" = some (.ref a.a_law_row)
  k__law_row : PySem.W.keepIn K (.ref a.a_law_row) = true
  f__law_rows : mg "_law_rows" = some (.ref a.a_law_rows)
  k__law_rows : PySem.W.keepIn K (.ref a.a_law_rows) = true
  f__law_extra : mg "_law_extra" = some (.ref a.a_law_extra)
  k__law_extra : PySem.W.keepIn K (.ref a.a_law_extra) = true
  f__law_known : mg "_law_known" = some (.ref a.a_law_known)
  k__law_known : PySem.W.keepIn K (.ref a.a_law_known) = true
  f__law_flat : mg "_law_flat" = some (.ref a.a_law_flat)
  k__law_flat : PySem.W.keepIn K (.ref a.a_law_flat) = true
  f__law_plain : mg "_law_plain" = some (.ref a.a_law_plain)
  k__law_plain : PySem.W.keepIn K (.ref a.a_law_plain) = true
  f__law_net : mg "_law_net" = some (.ref a.a_law_net)
  k__law_net : PySem.W.keepIn K (.ref a.a_law_net) = true
  f__law_shaped : mg "_law_shaped" = some (.ref a.a_law_shaped)
  k__law_shaped : PySem.W.keepIn K (.ref a.a_law_shaped) = true
  f__law_fulfilled : mg "_law_fulfilled" = some (.ref a.a_law_fulfilled)
  k__law_fulfilled : PySem.W.keepIn K (.ref a.a_law_fulfilled) = true
  f__law_times : mg "_law_times" = some (.ref a.a_law_times)
  k__law_times : PySem.W.keepIn K (.ref a.a_law_times) = true
  f__law_opposed : mg "_law_opposed" = some (.ref a.a_law_opposed)
  k__law_opposed : PySem.W.keepIn K (.ref a.a_law_opposed) = true
  f__law_spoilt : mg "_law_spoilt" = some (.ref a.a_law_spoilt)
  k__law_spoilt : PySem.W.keepIn K (.ref a.a_law_spoilt) = true
  f__law_table : mg "_law_table" = some (.ref a.a_law_table)
  k__law_table : PySem.W.keepIn K (.ref a.a_law_table) = true
  f__law_broken : mg "_law_broken" = some (.ref a.a_law_broken)
  k__law_broken : PySem.W.keepIn K (.ref a.a_law_broken) = true
  f__law_alike : mg "_law_alike" = some (.ref a.a_law_alike)
  k__law_alike : PySem.W.keepIn K (.ref a.a_law_alike) = true
  f__law_negative : mg "_law_negative" = some (.ref a.a_law_negative)
  k__law_negative : PySem.W.keepIn K (.ref a.a_law_negative) = true
  f__law_settled : mg "_law_settled" = some (.ref a.a_law_settled)
  k__law_settled : PySem.W.keepIn K (.ref a.a_law_settled) = true
  f__law_shuffled : mg "_law_shuffled" = some (.ref a.a_law_shuffled)
  k__law_shuffled : PySem.W.keepIn K (.ref a.a_law_shuffled) = true
  f__law_same : mg "_law_same" = some (.ref a.a_law_same)
  k__law_same : PySem.W.keepIn K (.ref a.a_law_same) = true
  f__law_order_right : mg "_law_order_right" = some (.ref a.a_law_order_right)
  k__law_order_right : PySem.W.keepIn K (.ref a.a_law_order_right) = true
  f__law_joined_right : mg "_law_joined_right" = some (.ref a.a_law_joined_right)
  k__law_joined_right : PySem.W.keepIn K (.ref a.a_law_joined_right) = true
  f__law_further : mg "_law_further" = some (.ref a.a_law_further)
  k__law_further : PySem.W.keepIn K (.ref a.a_law_further) = true
  f__law_other : mg "_law_other" = some (.ref a.a_law_other)
  k__law_other : PySem.W.keepIn K (.ref a.a_law_other) = true
  f__law_others_right : mg "_law_others_right" = some (.ref a.a_law_others_right)
  k__law_others_right : PySem.W.keepIn K (.ref a.a_law_others_right) = true
  f_law : mg "law" = some (.ref a.a_law)
  k_law : PySem.W.keepIn K (.ref a.a_law) = true
structure FDS (K : PySem.W.Frag) (a : Ad) (d : Fd) : Prop where
  F_is_name : Fun K "is_name" "is_name" s_is_name a.a_is_name d.a_is_name
  B_is_name : Binds K d.a_is_name ["value"] []
  F_is_integer : Fun K "is_integer" "is_integer" s_is_integer a.a_is_integer d.a_is_integer
  B_is_integer : Binds K d.a_is_integer ["value"] []
  F_is_bound : Fun K "is_bound" "is_bound" s_is_bound a.a_is_bound d.a_is_bound
  B_is_bound : Binds K d.a_is_bound ["value"] []
  F_moments_of : Fun K "moments_of" "moments_of" s_moments_of a.a_moments_of d.a_moments_of
  B_moments_of : Binds K d.a_moments_of ["literals"] []
  F_best_way : Fun K "best_way" "best_way" s_best_way a.a_best_way d.a_best_way
  B_best_way : Binds K d.a_best_way ["ways", "start", "end"] []
  F_ways_with : Fun K "ways_with" "ways_with" s_ways_with a.a_ways_with d.a_ways_with
  B_ways_with : Binds K d.a_ways_with ["ways", "moments", "bound"] []
  F_no_ring : Fun K "no_ring" "no_ring" s_no_ring a.a_no_ring d.a_no_ring
  B_no_ring : Binds K d.a_no_ring [] []
  F_ring_and_ways_with : Fun K "ring_and_ways_with" "ring_and_ways_with" s_ring_and_ways_with a.a_ring_and_ways_with d.a_ring_and_ways_with
  B_ring_and_ways_with : Binds K d.a_ring_and_ways_with ["known", "moments", "bound"] []
  F_ring_and_ways : Fun K "ring_and_ways" "ring_and_ways" s_ring_and_ways a.a_ring_and_ways d.a_ring_and_ways
  B_ring_and_ways : Binds K d.a_ring_and_ways ["bounds", "moments"] []
  F_check_bound : Fun K "check_bound" "check_bound" s_check_bound a.a_check_bound d.a_check_bound
  B_check_bound : Binds K d.a_check_bound ["value"] []
  F_meaning_of : Fun K "meaning_of" "meaning_of" s_meaning_of a.a_meaning_of d.a_meaning_of
  B_meaning_of : Binds K d.a_meaning_of ["ring", "ways"] []
  F__law_integer : Fun K "_law_integer" "_law_integer" s_law_integer a.a_law_integer d.a_law_integer
  B__law_integer : Binds K d.a_law_integer ["told"] []
  F__law_box : Fun K "_law_box" "_law_box" s_law_box a.a_law_box d.a_law_box
  B__law_box : Binds K d.a_law_box ["script"] []
  F__law_mixed : Fun K "_law_mixed" "_law_mixed" s_law_mixed a.a_law_mixed d.a_law_mixed
  B__law_mixed : Binds K d.a_law_mixed ["seed", "turn"] []
  F__law_take : Fun K "_law_take" "_law_take" s_law_take a.a_law_take d.a_law_take
  B__law_take : Binds K d.a_law_take ["box", "size"] []
  F__law_name : Fun K "_law_name" "_law_name" s_law_name a.a_law_name d.a_law_name
  B__law_name : Binds K d.a_law_name ["box", "names"] []
  F__law_names : Fun K "_law_names" "_law_names" s_law_names a.a_law_names d.a_law_names
  B__law_names : Binds K d.a_law_names ["box", "count"] []
  F__law_far : Fun K "_law_far" "_law_far" s_law_far a.a_law_far d.a_law_far
  B__law_far : Binds K d.a_law_far ["box"] []
  F__law_heights : Fun K "_law_heights" "_law_heights" s_law_heights a.a_law_heights d.a_law_heights
  B__law_heights : Binds K d.a_law_heights ["box", "names"] []
  F__law_slack : Fun K "_law_slack" "_law_slack" s_law_slack a.a_law_slack d.a_law_slack
  B__law_slack : Binds K d.a_law_slack ["box"] []
  F__law_sizes : Fun K "_law_sizes" "_law_sizes" s_law_sizes a.a_law_sizes d.a_law_sizes
  B__law_sizes : Binds K d.a_law_sizes ["box"] []
  F__law_row : Fun K "_law_row" "_law_row" s_law_row a.a_law_row d.a_law_row
  B__law_row : Binds K d.a_law_row ["box", "names", "heights"] []
  F__law_rows : Fun K "_law_rows" "_law_rows" s_law_rows a.a_law_rows d.a_law_rows
  B__law_rows : Binds K d.a_law_rows ["box", "names", "heights", "size"] []
  F__law_extra : Fun K "_law_extra" "_law_extra" s_law_extra a.a_law_extra d.a_law_extra
  B__law_extra : Binds K d.a_law_extra ["box", "names", "lone"] []
  F__law_known : Fun K "_law_known" "_law_known" s_law_known a.a_law_known d.a_law_known
  B__law_known : Binds K d.a_law_known ["rows", "extra"] []
  F__law_flat : Fun K "_law_flat" "_law_flat" s_law_flat a.a_law_flat d.a_law_flat
  B__law_flat : Binds K d.a_law_flat ["rows"] []
  F__law_plain : Fun K "_law_plain" "_law_plain" s_law_plain a.a_law_plain d.a_law_plain
  B__law_plain : Binds K d.a_law_plain ["rows"] []
  F__law_net : Fun K "_law_net" "_law_net" s_law_net a.a_law_net d.a_law_net
  B__law_net : Binds K d.a_law_net ["rows", "extra"] []
  F__law_shaped : Fun K "_law_shaped" "_law_shaped" s_law_shaped a.a_law_shaped d.a_law_shaped
  B__law_shaped : Binds K d.a_law_shaped ["net", "rows", "known"] []
  F__law_fulfilled : Fun K "_law_fulfilled" "_law_fulfilled" s_law_fulfilled a.a_law_fulfilled d.a_law_fulfilled
  B__law_fulfilled : Binds K d.a_law_fulfilled ["rows", "times"] []
  F__law_times : Fun K "_law_times" "_law_times" s_law_times a.a_law_times d.a_law_times
  B__law_times : Binds K d.a_law_times ["told", "known"] []
  F__law_opposed : Fun K "_law_opposed" "_law_opposed" s_law_opposed a.a_law_opposed d.a_law_opposed
  B__law_opposed : Binds K d.a_law_opposed ["row"] []
  F__law_spoilt : Fun K "_law_spoilt" "_law_spoilt" s_law_spoilt a.a_law_spoilt d.a_law_spoilt
  B__law_spoilt : Binds K d.a_law_spoilt ["box", "rows"] []
  F__law_table : Fun K "_law_table" "_law_table" s_law_table a.a_law_table d.a_law_table
  B__law_table : Binds K d.a_law_table ["rows", "known"] []
  F__law_broken : Fun K "_law_broken" "_law_broken" s_law_broken a.a_law_broken d.a_law_broken
  B__law_broken : Binds K d.a_law_broken ["table", "known"] []
  F__law_alike : Fun K "_law_alike" "_law_alike" s_law_alike a.a_law_alike d.a_law_alike
  B__law_alike : Binds K d.a_law_alike ["rows", "known", "others", "their"] []
  F__law_negative : Fun K "_law_negative" "_law_negative" s_law_negative a.a_law_negative d.a_law_negative
  B__law_negative : Binds K d.a_law_negative ["ring", "rows"] []
  F__law_settled : Fun K "_law_settled" "_law_settled" s_law_settled a.a_law_settled d.a_law_settled
  B__law_settled : Binds K d.a_law_settled ["net", "rows", "known"] []
  F__law_shuffled : Fun K "_law_shuffled" "_law_shuffled" s_law_shuffled a.a_law_shuffled d.a_law_shuffled
  B__law_shuffled : Binds K d.a_law_shuffled ["box", "rows"] []
  F__law_same : Fun K "_law_same" "_law_same" s_law_same a.a_law_same d.a_law_same
  B__law_same : Binds K d.a_law_same ["net", "other", "due"] []
  F__law_order_right : Fun K "_law_order_right" "_law_order_right" s_law_order_right a.a_law_order_right d.a_law_order_right
  B__law_order_right : Binds K d.a_law_order_right ["box", "net", "turned", "extra", "known"] []
  F__law_joined_right : Fun K "_law_joined_right" "_law_joined_right" s_law_joined_right a.a_law_joined_right d.a_law_joined_right
  B__law_joined_right : Binds K d.a_law_joined_right ["box", "net", "rows", "extra", "known"] []
  F__law_further : Fun K "_law_further" "_law_further" s_law_further a.a_law_further d.a_law_further
  B__law_further : Binds K d.a_law_further ["box", "rows", "known"] []
  F__law_other : Fun K "_law_other" "_law_other" s_law_other a.a_law_other d.a_law_other
  B__law_other : Binds K d.a_law_other ["box", "rows", "known"] []
  F__law_others_right : Fun K "_law_others_right" "_law_others_right" s_law_others_right a.a_law_others_right d.a_law_others_right
  B__law_others_right : Binds K d.a_law_others_right ["box", "net", "rows", "known", "gone"] []
  F_law : Fun K "law" "law" s_law a.a_law d.a_law
  B_law : Binds K d.a_law ["script"] []

def spD (pre : PyData → Prop) (F : PyData → Bool) (K : PySem.W.Frag) : Sp := fun vs H Q _ => ∃ v d, vs = [v] ∧ Dp K H v d ∧ pre d ∧ ∀ H', Ex H H' → Q (.bl (F d)) H'
def spIsName (K : PySem.W.Frag) : Sp := spD szS isNameD K
def spIsInt (K : PySem.W.Frag) : Sp := spD (fun _ => True) isIntD K
def spIsBound (K : PySem.W.Frag) : Sp := spD szD isBoundD K
theorem iteT' {c : Bool} {A B : Prop} (hc : c = true) (h : A) : if c = true then A else B := by
  rw [if_pos hc]
  exact h
theorem ex_q {H H1 : Hp} {Q : VK} {b : Bool} (q : ∀ H', Ex H H' → Q (.bl b) H') {c : Bool} (e : b = c) (x : Ex H H1) : Q (.bl c) H1 := by
  rw [← e]
  exact q H1 x

section
variable {P : Program} {w : World} {K : PySem.W.Frag} {mg : Str → Option Value} {base : Heap} {a : Ad} {d : Fd}
theorem strip_all (z y : Str) : (Txt.stripChars z y = (⟨#[]⟩ : Str)) ↔ ∀ c ∈ z.cps.toList, c ∈ y.cps.toList := by
  have e0 : Txt.stripChars z y = Builtin.Str.strSub z (stripLo y.cps.contains true z) (stripHi y.cps.contains true z (stripLo y.cps.contains true z)) := PyProof.Rows.stripBy_eq _ _ _ _
  obtain ⟨l1, l2, l3⟩ := PyProof.Rows.lo_facts y.cps.contains z
  rw [e0]
  generalize stripLo y.cps.contains true z = lo at l1 l2 l3
  obtain ⟨h1, h2, h3, _⟩ := PyProof.Rows.hi_facts y.cps.contains z lo l1
  generalize stripHi y.cps.contains true z lo = hi at h1 h2 h3
  have hlen : z.cps.toList.length = z.length := by show _ = z.cps.size; simp
  have hin : ∀ c, y.cps.contains c = true ↔ c ∈ y.cps.toList := fun c => by rw [Array.contains_iff_mem]; simp
  have hk : ∀ k, k < z.length → ∃ c, z.cps.toList[k]? = some c ∧ z.cps.getD k 0 = c := fun k h => by
    have h' : k < z.cps.toList.length := by omega
    refine ⟨z.cps.toList[k], by simp, ?_⟩
    rw [← PyProof.Rows.getD_list]
    rw [List.getD, List.getElem?_eq_getElem h']; rfl
  constructor
  · intro h c hc
    have hd : (Builtin.Str.strSub z lo hi).cps.toList = [] := by rw [h]
    have hl : hi ≤ lo := by
      have := congrArg List.length hd
      rw [PySem.StrLaws.strSub_toList, List.length_take, List.length_drop, List.length_nil] at this
      omega
    obtain ⟨k, hk1, hk2⟩ := List.mem_iff_getElem.mp hc
    rw [hlen] at hk1
    obtain ⟨c', e1, e2⟩ := hk k hk1
    have : c' = c := by
      rw [List.getElem?_eq_getElem (by omega)] at e1
      rw [← hk2]
      exact (Option.some.inj e1).symm
    subst this
    rw [← hin, ← e2]
    by_cases hlo : k < lo
    · exact l2 k hlo
    · exact h3 k (by omega) hk1
  · intro h
    have hlo : lo = z.length := by
      rcases l3 with l3 | l3
      · exact l3
      · by_cases hb : lo < z.length
        · obtain ⟨c, e1, e2⟩ := hk lo hb
          rw [e2] at l3
          have := (hin c).mpr (h c (List.mem_of_getElem? e1))
          rw [this] at l3
          cases l3
        · omega
    have : hi = lo := by omega
    subst this
    have hd : (Builtin.Str.strSub z hi hi).cps.toList = [] := by rw [PySem.StrLaws.strSub_toList]; simp
    have : (Builtin.Str.strSub z hi hi).cps = #[] := by
      apply Array.ext'
      rw [hd]
    show (⟨(Builtin.Str.strSub z hi hi).cps⟩ : Str) = _
    rw [this]
theorem ok_is_name (T : TX K mg a) (D : FDS K a d) : FnOk P w K mg base CX0 1 a.a_is_name d.a_is_name ["value"] (spIsName K) := by
  refine D.F_is_name.ok sc_is_name (fun vs H Q E h => ?_) (fun cdv A outer s H vs Q E hr h => ?_)
  · obtain ⟨v, d, rfl, _⟩ := h
    rfl
  · obtain ⟨v, d, rfl, hd, hz, q⟩ := h
    refine ⟨_, (pss_cons (ps_if (PW.pt (pw_or (pt_not (pt_val (pe_callB call_isi (by rfl) T.b_isinstance (by decide +kernel) (pa_cons (pv 0) (pa_cons (pe_bltn (v := .ty "str") (by rfl) T.b_str (by decide +kernel) rfl) pa_nil))))) (pw_or1 (pt_not (pt_chain op_le op_le pe_int (pe_callB call_len_str (by rfl) T.b_len (by decide +kernel) (pa_cons (pv 0) pa_nil)) (pe_glob (v := .int 8) rfl T.g_LONGEST_NAME ⟨_, rfl⟩)))))) (pss_one (ps_ret pe_bl)) pss_nil)
        (pss_one (ps_ret (pe_and (pe_cmpR op_in_sign (pe_ix ix_str (pv 0) pe_int (fun _ _ => rfl)) (pe_glob (v := .str letters) rfl T.g_LETTERS ⟨_, rfl⟩) rfl) (pe_one (pe_cmpR op_eq (pe_m1 PySem.F.slot_str_strip PySem.F.type_str_strip mt_stripChars (pv 0) (pe_glob (v := .str signs) rfl T.g_SIGNS ⟨_, rfl⟩)) pe_str (nomark _))))))), ?_⟩
    refine ⟨_, rfl, v, _, _, _, _, rfl, .ty "str", dp_ty hd, kit_str d, _, rfl, ?_⟩
    cases hd with
    | str z =>
      have hz : z.length ≤ sizeLine := hz
      have hlen : z.cps.toList.length = z.length := by show _ = z.cps.size; simp
      refine ⟨_, rfl, z, rfl, hz, 1, _, rfl, rfl, _, rfl, ?_⟩
      by_cases h1 : (1 : Int) ≤ (z.length : Int)
      · rw [decide_eq_true h1]
        refine ⟨_, 8, rfl, rfl, _, rfl, ?_⟩
        by_cases h2 : (z.length : Int) ≤ 8
        · rw [decide_eq_true h2]
          obtain ⟨c, cs, hc⟩ : ∃ c cs, z.cps.toList = c :: cs := by
            cases e : z.cps.toList with
            | nil =>
              rw [e] at hlen
              simp at hlen
              omega
            | cons c cs => exact ⟨c, cs, rfl⟩
          refine ⟨_, rfl, z, 0, c, rfl, rfl, hz, at_lit (n := 0) rfl (show z.cps.toList[0]? = some c by rw [hc]; rfl), c, letters, rfl, rfl, _, rfl, ?_⟩
          have hv : isNameS z = (decide (c ∈ letters.cps.toList) && z.cps.toList.all fun c => decide (c ∈ signs.cps.toList)) := by
            unfold isNameS
            rw [decide_eq_true (show 1 ≤ z.length ∧ z.length ≤ 8 by omega), hc]
            rfl
          by_cases h3 : c ∈ letters.cps.toList
          · rw [decide_eq_true h3]
            refine iteT ⟨_, rfl, ⟨_, rfl⟩, z, signs, rfl, rfl, hz, rfl, ex_q q ?_ (Ex.refl _)⟩
            show isNameS z = decide (V.str (Txt.stripChars z signs) = V.str (⟨#[]⟩ : Str))
            rw [hv, decide_eq_true h3]
            apply Bool.eq_iff_iff.mpr
            rw [Bool.true_and, decide_eq_true_eq, List.all_eq_true]
            refine ⟨fun g => ?_, fun g => ?_⟩
            · rw [(strip_all z signs).mpr fun c h => of_decide_eq_true (g c h)]
            · intro c h
              exact decide_eq_true ((strip_all z signs).mp (V.str.inj g) c h)
          · rw [decide_eq_false h3]
            exact iteF (ex_q q (show isNameS z = false by rw [hv, decide_eq_false h3]; rfl) (Ex.refl _))
        · rw [decide_eq_false h2]
          refine ex_q q (show isNameS z = false from ?_) (Ex.refl _)
          unfold isNameS
          rw [decide_eq_false (show ¬ (1 ≤ z.length ∧ z.length ≤ 8) by omega)]
          rfl
      · rw [decide_eq_false h1]
        refine ⟨false, rfl, ex_q q (show isNameS z = false from ?_) (Ex.refl _)⟩
        unfold isNameS
        rw [decide_eq_false (show ¬ (1 ≤ z.length ∧ z.length ≤ 8) by omega)]
        rfl
    | _ => exact q H (Ex.refl _)
theorem ok_is_integer (T : TX K mg a) (D : FDS K a d) : FnOk P w K mg base CX0 1 a.a_is_integer d.a_is_integer ["value"] (spIsInt K) := by
  refine D.F_is_integer.ok sc_is_integer (fun vs H Q E h => ?_) (fun cdv A outer s H vs Q E hr h => ?_)
  · obtain ⟨v, d, rfl, _⟩ := h
    rfl
  · obtain ⟨v, d, rfl, hd, _, q⟩ := h
    refine ⟨_, (pss_one (ps_ret (pe_and (pe_callB call_isi (by rfl) T.b_isinstance (by decide +kernel) (pa_cons (pv 0) (pa_cons (pe_bltn (v := .ty "int") (by rfl) T.b_int (by decide +kernel) rfl) pa_nil))) (pe_one (pe_not (pe_callB call_isi (by rfl) T.b_isinstance (by decide +kernel) (pa_cons (pv 0) (pa_cons (pe_bltn (v := .ty "bool") (by rfl) T.b_bool (by decide +kernel) rfl) pa_nil)))))))), ?_⟩
    refine ⟨_, rfl, v, _, _, _, _, rfl, .ty "int", dp_ty hd, kit_int d, _, rfl, ?_⟩
    cases e : isIntLikeD d with
    | false => exact iteF (ex_q q (by show (isIntLikeD d && _) = false; rw [e]; rfl) (Ex.refl _))
    | true =>
      refine iteT ⟨_, rfl, v, _, _, _, _, rfl, .ty "bool", dp_ty hd, kit_bool d, _, rfl, ?_⟩
      exact ex_q q (by show (isIntLikeD d && _) = _; rw [e]; rfl) (Ex.refl _)
theorem ok_is_bound (T : TX K mg a) (D : FDS K a d) : FnOk P w K mg base CX0 2 a.a_is_bound d.a_is_bound ["value"] (spIsBound K) := by
  have G_is_name : FnOk P w K mg base CX0 1 a.a_is_name d.a_is_name ["value"] (spIsName K) := ok_is_name T D
  have G_is_integer : FnOk P w K mg base CX0 1 a.a_is_integer d.a_is_integer ["value"] (spIsInt K) := ok_is_integer T D
  refine D.F_is_bound.ok sc_is_bound (fun vs H Q E h => ?_) (fun cdv A outer s H vs Q E hr h => ?_)
  · obtain ⟨v, d, rfl, _⟩ := h
    rfl
  · obtain ⟨v, d, rfl, hd, hz, q⟩ := h
    refine ⟨_, (pss_cons (ps_if (PW.pt (pw_or (pt_not (pt_val (pe_callB call_isi (by rfl) T.b_isinstance (by decide +kernel) (pa_cons (pv 0) (pa_cons (pe_bltn (v := .ty "tuple") (by rfl) T.b_tuple (by decide +kernel) rfl) pa_nil))))) (pw_or1 (pt_cmpR op_ne (pe_callB call_len_seq (by rfl) T.b_len (by decide +kernel) (pa_cons (pv 0) pa_nil)) pe_int (nomark _))))) (pss_one (ps_ret pe_bl)) pss_nil)
        (pss_cons (ps_asg (pv 0) (pg_tup rfl (pgs_cons (pg_name (i := 1) sc_is_bound.nd rfl (Or.inl rfl)) (pgs_cons (pg_name (i := 2) sc_is_bound.nd rfl (Or.inl rfl)) (pgs_cons (pg_name (i := 3) sc_is_bound.nd rfl (Or.inl rfl)) (pgs_cons (pg_name (i := 4) sc_is_bound.nd rfl (Or.inl rfl)) pgs_nil))))))
        (pss_cons (ps_if (PW.pt (pw_or (pt_not (pt_val (pe_callB call_isi (by rfl) T.b_isinstance (by decide +kernel) (pa_cons (pv 1) (pa_cons (pe_bltn (v := .ty "str") (by rfl) T.b_str (by decide +kernel) rfl) pa_nil))))) (pw_or1 (pt_cmpR op_ne (pv 1) pe_str (nomark _))))) (pss_one (ps_ret pe_bl)) pss_nil)
        (pss_one (ps_ret (pe_and (pe_call G_is_name (hr.mono (by decide)) rfl T.f_is_name T.k_is_name D.B_is_name .nil pass0 (pa_cons (pv 2) pa_nil)) (pe_and (pe_call G_is_name (hr.mono (by decide)) rfl T.f_is_name T.k_is_name D.B_is_name .nil pass0 (pa_cons (pv 3) pa_nil)) (pe_and (pe_cmpR op_ne (pv 2) (pv 3) (nomark _)) (pe_one (pe_call G_is_integer (hr.mono (by decide)) rfl T.f_is_integer T.k_is_integer D.B_is_integer .nil pass0 (pa_cons (pv 4) pa_nil))))))))))), ?_⟩
    refine ⟨_, rfl, v, _, _, _, _, rfl, .ty "tuple", dp_ty hd, kit_tuple d, _, rfl, ?_⟩
    cases hd with
    | @tup a xs ds ha hall =>
      have hl := DpAll.len hall
      refine ⟨_, rfl, a, xs, rfl, .inr ha, rfl, _, rfl, ?_⟩
      by_cases h4 : xs.length = 4
      · refine iteNS (by rw [h4]; rfl) ?_
        obtain ⟨v1, v2, v3, v4, rfl⟩ : ∃ v1 v2 v3 v4, xs = [v1, v2, v3, v4] := by
          match xs, h4 with
          | [v1, v2, v3, v4], _ => exact ⟨v1, v2, v3, v4, rfl⟩
        cases hall with
        | cons g1 r1 =>
        cases r1 with
        | cons g2 r2 =>
        cases r2 with
        | cons g3 r3 =>
        cases r3 with
        | cons g4 r4 =>
        cases r4
        rename_i d1 d2 d3 d4
        have z2 : szS d2 := hz d2 (by simp)
        have z3 : szS d3 := hz d3 (by simp)
        refine ⟨_, rfl, a, _, rfl, ha, rfl, _, _, rfl, _, _, rfl, _, _, rfl, _, _, rfl, rfl, ?_⟩
        refine ⟨_, rfl, v1, _, _, _, _, rfl, .ty "str", dp_ty g1, kit_str d1, _, rfl, ?_⟩
        cases g1 with
        | str wd =>
          refine ⟨_, rfl, rfl, _, rfl, ?_⟩
          by_cases hw : wd = ("most" : Str)
          · refine iteNS (by rw [hw]) ?_
            subst hw
            -- is_name(first) and is_name(second) and first != second and is_integer(limit)
            refine ⟨_, rfl, v2, d2, rfl, g2, z2, fun H1 e1 => ⟨_, rfl, ?_⟩⟩
            cases e2 : isNameD d2 with
            | false => exact iteF (ex_q q (by rw [isBound4, e2]; simp) e1)
            | true =>
              refine iteT ⟨_, rfl, v3, d3, rfl, Dp.ex e1 g3, z3, fun H2 e3 => ⟨_, rfl, ?_⟩⟩
              cases g2 with
              | str x =>
                have e2' : isNameS x = true := e2
                cases e4 : isNameD d3 with
                | false => exact iteF (ex_q q (by rw [isBound4, e4]; simp) (e1.trans e3))
                | true =>
                  cases g3 with
                  | str y =>
                    have e4' : isNameS y = true := e4
                    refine iteT ⟨_, rfl, _, rfl, rfl, _, rfl, ?_⟩
                    by_cases hxy : x = y
                    · subst hxy
                      have e5 : decide (V.str x = V.str x) = true := decide_eq_true rfl
                      rw [e5]
                      exact iteF (ex_q q (by rw [isBound4, show sameD (.str x) (.str x) = true from decide_eq_true rfl]; simp) (e1.trans e3))
                    · have e5 : decide (V.str x = V.str y) = false := decide_eq_false fun z => hxy (V.str.inj z)
                      rw [e5]
                      refine iteT ⟨_, rfl, v4, d4, rfl, Dp.ex (e1.trans e3) g4, trivial, fun H3 e6 => ?_⟩
                      refine ex_q q ?_ ((e1.trans e3).trans e6)
                      rw [isBound4, e2, e4, show sameD (.str x) (.str y) = false from decide_eq_false hxy, (by simp [isMostD] : isMostD (.str ("most" : Str)) = true)]
                      rfl
                  | _ => cases e4
              | _ => cases e2
          · refine iteT' ?_ (ex_q q ?_ (Ex.refl _))
            · have e5 : decide (V.str wd = V.str ("most" : Str)) = false := decide_eq_false fun z => hw (V.str.inj z)
              rw [e5]
              rfl
            · rw [isBound4, show isMostD (.str wd) = false from decide_eq_false hw]
              rfl
        | _ => exact ex_q q rfl (Ex.refl _)
      · refine iteT' ?_ (ex_q q ?_ (Ex.refl _))
        · have e5 : decide (V.int (xs.length : Nat) = V.int 4) = false := decide_eq_false fun z => h4 (by have := V.int.inj z; omega)
          rw [e5]
          rfl
        · have l4 : ds.length ≠ 4 := by omega
          show isBoundD (.tuple ds) = false
          match ds, l4 with
          | [], _ => rfl
          | [_], _ => rfl
          | [_, _], _ => rfl
          | [_, _, _], _ => rfl
          | [_, _, _, _], h => exact absurd rfl h
          | _ :: _ :: _ :: _ :: _ :: _, _ => rfl
    | _ => exact ex_q q rfl (Ex.refl _)
end
end N4
set_option maxRecDepth 100000
set_option maxHeartbeats 4000000
namespace N4
open PySem L2 Evl GP HR SC SetM SetH
theorem iteF' {c : Bool} {A B : Prop} (hc : c = false) (h : B) : if c = true then A else B := by
  rw [hc]
  exact iteF h
/-! ### the draws -/
/-- all but b is as it was, and b's first item is as it was -/
structure Kp (b : Addr) (H H' : Hp) : Prop where
  k : ∀ a o, a ≠ b → H a = some o → H' a = some o
  fst : ∀ v r, H b = some (.lst (v :: r)) → ∃ r', H' b = some (.lst (v :: r'))
theorem Kp.at {b : Addr} {H H' : Hp} (x : Kp b H H') {a : Addr} {o : HO} (n : a ≠ b) (h : H a = some o) : H' a = some o := x.k a o n h
theorem Kp.refl (b : Addr) (H : Hp) : Kp b H H := ⟨fun _ _ _ h => h, fun _ r h => ⟨r, h⟩⟩
theorem Kp.trans {b : Addr} {H H1 H2 : Hp} (x : Kp b H H1) (y : Kp b H1 H2) : Kp b H H2 :=
  ⟨fun a o n h => y.at n (x.at n h), fun v r h => by
    obtain ⟨r1, h1⟩ := x.fst v r h
    exact y.fst v r1 h1⟩
theorem Kp.ex {b : Addr} {H H1 : Hp} (x : Ex H H1) : Kp b H H1 := ⟨fun a o _ h => x a o h, fun v r h => ⟨r, x _ _ h⟩⟩
theorem Kp.set {b : Addr} {H : Hp} {v : V} {r r' : List V} (h : H b = some (.lst (v :: r))) : Kp b H (upd H b (.lst (v :: r'))) :=
  ⟨fun a u n h => by
    rw [upd_ne n]
    exact h, fun u q hu => by
    rw [h] at hu
    cases hu
    exact ⟨r', upd_same⟩⟩
/-- at b the box of a script's cells; its turns are at most n -/
structure BxD (b c : Addr) (ns : List Int) (i : Nat) (r m t : Int) (n : Nat) (H : Hp) : Prop where
  box : H b = some (.lst [.ref c, .int (i : Int), .int r, .int m, .int t])
  nc : c ≠ b
  cells : H c = some (.lst (ns.map V.int))
  r0 : 0 ≤ r
  m0 : 0 ≤ m
  m1 : m < 2147483648
  t0 : 0 ≤ t
  t1 : t ≤ (n : Int)
def Bx (b : Addr) (n : Nat) (H : Hp) : Prop := ∃ c ns i r m t, BxD b c ns i r m t n H
theorem Bx.mono {b : Addr} {n k : Nat} {H : Hp} (x : Bx b n H) (h : n ≤ k) : Bx b k H := by
  obtain ⟨c, ns, i, r, m, t, X⟩ := x
  exact ⟨c, ns, i, r, m, t, X.box, X.nc, X.cells, X.r0, X.m0, X.m1, X.t0, by have := X.t1; omega⟩
theorem Bx.ex {b : Addr} {n : Nat} {H H1 : Hp} (x : Bx b n H) (e : Ex H H1) : Bx b n H1 := by
  obtain ⟨c, ns, i, r, m, t, X⟩ := x
  exact ⟨c, ns, i, r, m, t, e _ _ X.box, X.nc, e _ _ X.cells, X.r0, X.m0, X.m1, X.t0, X.t1⟩
/-- what is new since H may change -/
theorem Kp.mut {b l : Addr} {H H' : Hp} {o : HO} (x : Kp b H H') (hl : H l = none) (hn : l ≠ b) : Kp b H (upd H' l o) :=
  ⟨fun a u n h => by
    rw [upd_ne (ne_of_none h hl)]
    exact x.at n h, fun v r h => by
    obtain ⟨r1, h1⟩ := x.fst v r h
    exact ⟨r1, by rw [upd_ne hn.symm]; exact h1⟩⟩
theorem Bx.ne {b l : Addr} {n : Nat} {H : Hp} (x : Bx b n H) (hl : H l = none) : l ≠ b := by
  obtain ⟨c, ns, i, r, m, t, X⟩ := x
  exact (ne_of_none X.box hl).symm
theorem Bx.mut {b l : Addr} {n0 n : Nat} {H H' : Hp} {o : HO} (x0 : Bx b n0 H) (hl : H l = none) (k : Kp b H H') (x : Bx b n H') : Bx b n (upd H' l o) := by
  have hn := x0.ne hl
  obtain ⟨c0, ns0, i0, r0, m0, t0, X0⟩ := x0
  obtain ⟨c, ns, i, r, m, t, X⟩ := x
  obtain ⟨r', h'⟩ := k.fst _ _ X0.box
  have e := X.box.symm.trans h'
  have ec : c = c0 := by
    cases e
    rfl
  have ncl : c ≠ l := by
    rw [ec]
    exact ne_of_none X0.cells hl
  exact ⟨c, ns, i, r, m, t, by rw [upd_ne hn.symm]; exact X.box, X.nc, by rw [upd_ne ncl]; exact X.cells, X.r0, X.m0, X.m1, X.t0, X.t1⟩
theorem cut_ints (ns : List Int) (lo hi : Option Int) : ∃ ms : List Int, cutV (ns.map V.int) lo hi = ms.map V.int := by
  unfold cutV
  rw [← List.map_drop, ← List.map_take]
  exact ⟨_, rfl⟩
def spLawInt (K : PySem.W.Frag) : Sp := spD (fun _ => True) isIntD K
def spBox (K : PySem.W.Frag) : Sp := fun vs H Q _ => ∃ (a : Addr) (ns : List Int), vs = [.ref a] ∧ SqL K H a (ns.map V.int) ∧ ∀ b H', Ex H H' → H b = none → Bx b 4 H' → Q (.ref b) H'
def spMixed : Sp := fun vs H Q _ => ∃ s t : Int, vs = [.int s, .int t] ∧ 0 ≤ s ∧ s < 2147483648 ∧ 0 ≤ t ∧ t ≤ 1000001 ∧ ∀ z : Int, Q (.int z) H
def spTake : Sp := fun vs H Q _ => ∃ (b : Addr) (size : Int) (n : Nat), vs = [.ref b, .int size] ∧ Bx b n H ∧ n ≤ 1000000 ∧ 0 < size ∧ size < 1073741824 ∧
  ∀ (d : Int) H', Kp b H H' → Bx b (n + 1) H' → 0 ≤ d → d < size → Q (.int d) H'
section
variable {P : Program} {w : World} {K : PySem.W.Frag} {mg : Str → Option Value} {base : Heap} {a : Ad} {d : Fd}
theorem ok_law_integer (T : TX K mg a) (D : FDS K a d) : FnOk P w K mg base CX0 1 a.a_law_integer d.a_law_integer ["told"] (spLawInt K) := by
  refine D.F__law_integer.ok sc_law_integer (fun vs H Q E h => ?_) (fun cdv A outer s H vs Q E hr h => ?_)
  · obtain ⟨v, d, rfl, _⟩ := h
    rfl
  · obtain ⟨v, d, rfl, hd, _, q⟩ := h
    refine ⟨_, (pss_one (ps_ret (pe_and (pe_callB call_isi (by rfl) T.b_isinstance (by decide +kernel) (pa_cons (pv 0) (pa_cons (pe_bltn (v := .ty "int") (by rfl) T.b_int (by decide +kernel) rfl) pa_nil))) (pe_one (pe_not (pe_callB call_isi (by rfl) T.b_isinstance (by decide +kernel) (pa_cons (pv 0) (pa_cons (pe_bltn (v := .ty "bool") (by rfl) T.b_bool (by decide +kernel) rfl) pa_nil)))))))), ?_⟩
    refine ⟨_, rfl, v, _, _, _, _, rfl, .ty "int", dp_ty hd, kit_int d, _, rfl, ?_⟩
    cases e : isIntLikeD d with
    | false => exact iteF (ex_q q (by show (isIntLikeD d && _) = false; rw [e]; rfl) (Ex.refl _))
    | true =>
      refine iteT ⟨_, rfl, v, _, _, _, _, rfl, .ty "bool", dp_ty hd, kit_bool d, _, rfl, ?_⟩
      exact ex_q q (by show (isIntLikeD d && _) = _; rw [e]; rfl) (Ex.refl _)
theorem ok_law_box (T : TX K mg a) (D : FDS K a d) : FnOk P w K mg base CX0 1 a.a_law_box d.a_law_box ["script"] (spBox K) := by
  refine D.F__law_box.ok sc_law_box (fun vs H Q E h => ?_) (fun cdv A outer s H vs Q E hr h => ?_)
  · obtain ⟨a, ns, rfl, _⟩ := h
    rfl
  · obtain ⟨a, ns, rfl, ha, q⟩ := h
    refine ⟨_, (pss_one (ps_ret (pe_lst (pa_cons (pe_callTy call_list_of (by rfl) T.b_list (by decide +kernel) (pa_cons (pe_slice sl_list (pv 0) po_none (po_some pe_int)) pa_nil)) (pa_cons pe_int (pa_cons pe_int (pa_cons pe_int (pa_cons pe_int pa_nil)))))))), ?_⟩
    obtain ⟨ms, hms⟩ : ∃ ms : List Int, cutV (ns.map V.int) none (some 63) = ms.map V.int := cut_ints ns none (some 63)
    refine ⟨_, rfl, 63, rfl, a, _, rfl, ha, fun p hp => ⟨p, _, rfl, .inl (SqL.of upd_same), fun c hc => ⟨(by show 5 ≤ sizeLine; decide), fun b hb => ?_⟩⟩⟩
    have npc : c ≠ p := fun z => by
      rw [z, upd_same] at hc
      cases hc
    have ncb : c ≠ b := fun z => by
      rw [z, upd_same] at hb
      cases hb
    have e : Ex H (upd (upd (upd H p (.lst (cutV (ns.map V.int) none (some 63)))) c (.lst (cutV (ns.map V.int) none (some 63)))) b (.lst [.ref c, .int 0, .int 0, .int 0, .int 4])) := ((Ex.new hp).trans (Ex.new hc)).trans (Ex.new hb)
    refine q b _ e (fresh_back ((Ex.new hp).trans (Ex.new hc)) hb) ⟨c, ms, 0, 0, 0, 4, upd_same, ncb, ?_, by decide, by decide, by decide, by decide, by decide⟩
    rw [upd_ne ncb, upd_same, hms]
theorem ok_law_mixed (T : TX K mg a) (D : FDS K a d) : FnOk P w K mg base CX0 1 a.a_law_mixed d.a_law_mixed ["seed", "turn"] spMixed := by
  refine D.F__law_mixed.ok sc_law_mixed (fun vs H Q E h => ?_) (fun cdv A outer s H vs Q E hr h => ?_)
  · obtain ⟨s, t, rfl, _⟩ := h
    rfl
  · obtain ⟨s, t, rfl, s0, s1, t0, t1, q⟩ := h
    refine ⟨_, (pss_cons (ps_set (i := 2) sc_law_mixed.nd rfl (Or.inl rfl) (pe_op op_modN (pe_callTy call_int1 (by rfl) T.b_int (by decide +kernel) (pa_cons (pe_op op_add (pe_op op_add (pe_op op_mul (pe_op op_add (pv 0) (pe_op op_mul (pv 1) pe_int)) pe_int) (pe_op op_mul (pe_op op_mul (pv 1) (pv 1)) pe_int)) pe_int) pa_nil)) pe_int))
        (pss_one (ps_ret (pe_op op_modN (pe_callTy call_int1 (by rfl) T.b_int (by decide +kernel) (pa_cons (pe_op op_add (pe_op op_mul (pe_op op_mul (pe_op op_add (pe_op op_modN (pv 2) pe_int) pe_int) (pe_op op_add (pe_op op_fdivN (pv 2) pe_int) pe_int)) pe_int) (pv 2)) pa_nil)) pe_int)))), ?_⟩
    refine ⟨_, rfl, _, rfl, _, _, rfl, rfl, .inr (by decide), _, _, rfl, rfl, _, _, rfl, rfl, .inr (by decide), _, rfl, _, rfl, _, _, rfl, rfl, .inl (by constructor <;> omega), _, _, rfl, rfl, .inr (by decide), _, _, rfl, rfl, _, _, rfl, rfl,
      .inl ⟨_, rfl, _, _, rfl, rfl, (by show (2147483629 : Int) ≠ 0; decide), ?_⟩⟩
    dsimp only
    generalize hz : Int.fmod _ 2147483629 = z
    have z0 : 0 ≤ z ∧ z < 2147483629 := by
      rw [← hz, Int.fmod_eq_emod_of_nonneg _ (by decide)]
      exact ⟨Int.emod_nonneg _ (by decide), Int.emod_lt_of_pos _ (by decide)⟩
    refine ⟨_, rfl, _, _, rfl, rfl, (by show (46337 : Int) ≠ 0; decide), _, _, rfl, rfl, _, rfl, _, _, rfl, rfl, ⟨by decide, by decide⟩, _, _, rfl, rfl, _, _, rfl, rfl, .inl ?_, _, _, rfl, rfl, .inr (by decide), _, rfl, _, _, rfl, rfl,
      .inl ⟨_, rfl, _, _, rfl, rfl, (by show (2147483587 : Int) ≠ 0; decide), q _⟩⟩
    have h2 : 0 ≤ Int.fmod z 46337 ∧ Int.fmod z 46337 < 46337 := by
      rw [Int.fmod_eq_emod_of_nonneg _ (by decide)]
      exact ⟨Int.emod_nonneg _ (by decide), Int.emod_lt_of_pos _ (by decide)⟩
    constructor <;> omega
theorem ok_law_take (T : TX K mg a) (D : FDS K a d) : FnOk P w K mg base CX0 2 a.a_law_take d.a_law_take ["box", "size"] spTake := by
  have G__law_mixed : FnOk P w K mg base CX0 1 a.a_law_mixed d.a_law_mixed ["seed", "turn"] spMixed := ok_law_mixed T D
  refine D.F__law_take.ok sc_law_take (fun vs H Q E h => ?_) (fun cdv A outer s H vs Q E hr h => ?_)
  · obtain ⟨b, size, n, rfl, _⟩ := h
    rfl
  · obtain ⟨b, size, n, rfl, ⟨c, ns, i, r, m, t, X⟩, hn, s0, s1, q⟩ := h
    refine ⟨_, (pss_cons (ps_asg (pe_op op_add (pe_ix (ix_listK (K := K)) (pv 0) pe_int (fun _ _ => rfl)) pe_int) (pg_sub (pv 0) pe_int set_list))
        (Evl.pss_cut (ps_if (PW.pt (pw_and (pt_cmpR op_eq (pe_ix (ix_listK (K := K)) (pv 0) pe_int (fun _ _ => rfl)) pe_int (nomark _)) (pw_and (pt_cmpR op_gt (pe_ix (ix_listK (K := K)) (pv 0) pe_int (fun _ _ => rfl)) pe_int (nomark _)) (pw_and1 (pt_cmpR op_lt (pe_ix (ix_listK (K := K)) (pv 0) pe_int (fun _ _ => rfl)) (pe_callB call_len_seq (by rfl) T.b_len (by decide +kernel) (pa_cons (pe_ix (ix_listK (K := K)) (pv 0) pe_int (fun _ _ => rfl)) pa_nil)) (nomark _)))))) (pss_cons (ps_set (i := 2) sc_law_take.nd rfl (Or.inl rfl) (pe_ix (ix_listK (K := K)) (pe_ix (ix_listK (K := K)) (pv 0) pe_int (fun _ _ => rfl)) (pe_ix (ix_listK (K := K)) (pv 0) pe_int (fun _ _ => rfl)) (fun _ _ => rfl)))
        (pss_cons (ps_asg (pe_op op_add (pe_ix (ix_listK (K := K)) (pv 0) pe_int (fun _ _ => rfl)) pe_int) (pg_sub (pv 0) pe_int set_list))
        (pss_cons (ps_asg (pe_op op_modN (pe_callTy call_int1 (by rfl) T.b_int (by decide +kernel) (pa_cons (pe_op op_add (pe_op op_mul (pe_ix (ix_listK (K := K)) (pv 0) pe_int (fun _ _ => rfl)) pe_int) (pv 2)) pa_nil)) pe_int) (pg_sub (pv 0) pe_int set_list))
        (pss_one (ps_if (pt_cmpR op_ge (pv 2) (pe_op op_pow pe_int pe_int) (nomark _)) (pss_one (ps_asg (pv 2) (pg_sub (pv 0) pe_int set_list))) (pss_one (ps_asg pe_int (pg_sub (pv 0) pe_int set_list)))))))) pss_nil)
        (pss_cons (ps_if (pt_cmpR op_gt (pe_ix (ix_listK (K := K)) (pv 0) pe_int (fun _ _ => rfl)) pe_int (nomark _)) (pss_cons (ps_set (i := 3) sc_law_take.nd rfl (Or.inl rfl) (pe_op op_modN (pe_callTy call_int1 (by rfl) T.b_int (by decide +kernel) (pa_cons (pe_ix (ix_listK (K := K)) (pv 0) pe_int (fun _ _ => rfl)) pa_nil)) (pv 1)))
        (pss_cons (ps_asg (pe_op op_fdivN (pe_callTy call_int1 (by rfl) T.b_int (by decide +kernel) (pa_cons (pe_ix (ix_listK (K := K)) (pv 0) pe_int (fun _ _ => rfl)) pa_nil)) (pv 1)) (pg_sub (pv 0) pe_int set_list))
        (pss_one (ps_ret (pv 3))))) pss_nil)
        (pss_one (ps_ret (pe_op op_modN (pe_callTy call_int1 (by rfl) T.b_int (by decide +kernel) (pa_cons (pe_op op_fdivN (pe_call G__law_mixed (hr.mono (by decide)) rfl T.f__law_mixed T.k__law_mixed D.B__law_mixed .nil pass0 (pa_cons (pe_ix (ix_listK (K := K)) (pv 0) pe_int (fun _ _ => rfl)) (pa_cons (pe_ix (ix_listK (K := K)) (pv 0) pe_int (fun _ _ => rfl)) pa_nil))) pe_int) pa_nil)) (pv 1))))))), ?_⟩
    refine ⟨_, rfl, b, _, 4, _, rfl, rfl, SqL.of X.box, at_lit (n := 4) rfl rfl, _, _, rfl, rfl, _, rfl, b, _, 4, 4, rfl, rfl, X.box, rfl, ?_⟩
    generalize hH1 : upd H b _ = H1
    have hb1 : H1 b = some (.lst [.ref c, .int (i : Int), .int r, .int m, .int (t + 1)]) := by rw [← hH1]; exact upd_same
    have k1 : Kp b H H1 := by rw [← hH1]; exact Kp.set X.box
    have hc1 : H1 c = some (.lst (ns.map V.int)) := k1.at X.nc X.cells
    have X1 : BxD b c ns i r m (t + 1) (n + 1) H1 := ⟨hb1, X.nc, hc1, X.r0, X.m0, X.m1, by have := X.t0; omega, by have := X.t1; omega⟩
    refine ⟨fun σ' H' => (∃ x, σ' = [some (.ref b), some (.int size), x, none]) ∧ Kp b H H' ∧ Bx b (n + 1) H', ?_, ?_⟩
    · have hM : ∀ {Z : Prop}, Z → Z := fun z => z
      have fin : (∃ x, [some (V.ref b), some (V.int size), none, none] = [some (V.ref b), some (.int size), x, none]) ∧ Kp b H H1 ∧ Bx b (n + 1) H1 := ⟨⟨none, rfl⟩, k1, _, _, _, _, _, _, X1⟩
      refine ⟨_, rfl, b, _, 2, _, rfl, rfl, SqL.of hb1, at_lit (n := 2) rfl rfl, rfl, _, rfl, ?_⟩
      refine ite2 (fun h1 => ?_) (fun h1 => iteF fin)
      refine ⟨_, rfl, b, _, 4, _, rfl, rfl, SqL.of hb1, at_lit (n := 4) rfl rfl, _, _, rfl, rfl, _, rfl, ?_⟩
      refine ite2 (fun h2 => ?_) (fun h2 => iteF fin)
      refine ⟨_, rfl, b, _, 1, _, rfl, rfl, SqL.of hb1, at_lit (n := 1) rfl rfl, _, rfl, b, _, 0, _, rfl, rfl, SqL.of hb1, at_lit (n := 0) rfl rfl, c, _, rfl, .inl (SqL.of hc1), _, _, rfl, rfl, _, rfl, ?_⟩
      refine ite2 (fun h3 => ?_) (fun h3 => fin)
      have hi : (i : Int) < ((ns.map V.int).length : Nat) := of_decide_eq_true h3
      rw [List.length_map] at hi
      obtain ⟨cell, hcell⟩ : ∃ z : Int, ns[i]? = some z := ⟨ns[i]'(by omega), by simp⟩
      have hcell' : (ns.map V.int)[i]? = some (.int cell) := by rw [List.getElem?_map, hcell]; rfl
      refine ⟨_, rfl, b, _, 0, _, rfl, rfl, SqL.of hb1, at_lit (n := 0) rfl rfl, _, rfl, b, _, 1, _, rfl, rfl, SqL.of hb1, at_lit (n := 1) rfl rfl, c, _, i, _, rfl, rfl, SqL.of hc1, at_lit (n := i) rfl hcell', ?_⟩
      refine ⟨_, rfl, b, _, 1, _, rfl, rfl, SqL.of hb1, at_lit (n := 1) rfl rfl, _, _, rfl, rfl, _, rfl, b, _, 1, 1, rfl, rfl, hb1, rfl, ?_⟩
      generalize hH2 : upd H1 b _ = H2
      have hb2 : H2 b = some (.lst [.ref c, .int ((i : Int) + 1), .int r, .int m, .int (t + 1)]) := by rw [← hH2]; exact upd_same
      have k2 : Kp b H H2 := k1.trans (by rw [← hH2]; exact Kp.set hb1)
      refine ⟨_, rfl, b, _, 3, _, rfl, rfl, SqL.of hb2, at_lit (n := 3) rfl rfl, _, _, rfl, rfl, .inr (by decide), _, rfl, _, _, rfl, rfl, .inl ⟨_, rfl, _, _, rfl, rfl, (by show (2147483563 : Int) ≠ 0; decide), _, rfl, b, _, 3, 3, rfl, rfl, hb2, rfl, ?_⟩⟩
      dsimp only
      generalize hm' : Int.fmod _ 2147483563 = m'
      have m0 : 0 ≤ m' ∧ m' < 2147483563 := by
        rw [← hm', Int.fmod_eq_emod_of_nonneg _ (by decide)]
        exact ⟨Int.emod_nonneg _ (by decide), Int.emod_lt_of_pos _ (by decide)⟩
      generalize hH3 : upd H2 b _ = H3
      have hb3 : H3 b = some (.lst [.ref c, .int ((i : Int) + 1), .int r, .int m', .int (t + 1)]) := by rw [← hH3]; exact upd_same
      have k3 : Kp b H H3 := k2.trans (by rw [← hH3]; exact Kp.set hb2)
      refine ⟨_, rfl, _, _, rfl, rfl, ⟨by decide, by decide, by decide⟩, _, _, rfl, rfl, _, rfl, ?_⟩
      refine ite2 (fun h4 => ?_) (fun h4 => ?_)
      · have hge : (10 : Int) ^ 18 ≤ cell := of_decide_eq_true h4
        refine ⟨_, rfl, _, rfl, b, _, 2, 2, rfl, rfl, hb3, rfl, ⟨_, rfl⟩, k3.trans (Kp.set hb3), c, ns, i + 1, cell, m', t + 1, upd_same, X.nc, ?_, by omega, by omega, by omega, by have := X.t0; omega, by have := X.t1; omega⟩
        rw [upd_ne X.nc]
        exact k3.at X.nc X.cells
      · refine ⟨_, rfl, b, _, 4, 4, rfl, rfl, hb3, rfl, ⟨_, rfl⟩, k3.trans (Kp.set hb3), c, ns, i + 1, r, m', 0, upd_same, X.nc, ?_, X.r0, by omega, by omega, by omega, by omega⟩
        rw [upd_ne X.nc]
        exact k3.at X.nc X.cells
    · rintro σ' H' ⟨⟨x, rfl⟩, k2, c, ns, i, r, m, t, Y⟩
      refine ⟨_, rfl, b, _, 2, _, rfl, rfl, SqL.of Y.box, at_lit (n := 2) rfl rfl, _, _, rfl, rfl, _, rfl, ?_⟩
      refine ite2 (fun h1 => ?_) (fun h1 => ?_)
      · have hr1 : 0 < r := of_decide_eq_true h1
        refine ⟨_, rfl, b, _, 2, _, rfl, rfl, SqL.of Y.box, at_lit (n := 2) rfl rfl, .inl ⟨_, rfl, _, rfl, _, _, rfl, rfl, by omega, ?_⟩⟩
        refine ⟨_, rfl, b, _, 2, _, rfl, rfl, SqL.of Y.box, at_lit (n := 2) rfl rfl, .inl ⟨_, rfl, _, rfl, _, _, rfl, rfl, ⟨by omega, by omega⟩, _, rfl, b, _, 2, 2, rfl, rfl, Y.box, rfl, _, rfl, ?_⟩⟩
        refine q _ _ (k2.trans (Kp.set Y.box)) ⟨c, ns, i, _, m, t, upd_same, Y.nc, ?_, ?_, Y.m0, Y.m1, Y.t0, Y.t1⟩ ?_ ?_
        · rw [upd_ne Y.nc]
          exact Y.cells
        · rw [Int.fdiv_eq_ediv_of_nonneg _ (by omega)]
          exact Int.ediv_nonneg Y.r0 (by omega)
        · rw [Int.fmod_eq_emod_of_nonneg _ (by omega)]
          exact Int.emod_nonneg _ (by omega)
        · rw [Int.fmod_eq_emod_of_nonneg _ (by omega)]
          exact Int.emod_lt_of_pos _ s0
      · refine ⟨_, rfl, b, _, 3, _, rfl, rfl, SqL.of Y.box, at_lit (n := 3) rfl rfl, _, rfl, b, _, 4, _, rfl, rfl, SqL.of Y.box, at_lit (n := 4) rfl rfl, m, t, rfl, Y.m0, Y.m1, Y.t0, by have := Y.t1; omega, fun z => ?_⟩
        refine ⟨_, _, rfl, rfl, ⟨by decide, by decide⟩, .inl ⟨_, rfl, _, rfl, _, _, rfl, rfl, by omega, ?_⟩⟩
        refine q _ _ k2 ⟨c, ns, i, r, m, t, Y⟩ ?_ ?_
        · rw [Int.fmod_eq_emod_of_nonneg _ (by omega)]
          exact Int.emod_nonneg _ (by omega)
        · rw [Int.fmod_eq_emod_of_nonneg _ (by omega)]
          exact Int.emod_lt_of_pos _ s0
end
end N4
set_option maxRecDepth 100000
set_option maxHeartbeats 4000000
namespace N4
open PySem L2 Evl GP HR SC SetM SetH
/-! ### names, over their signs -/
def nameL (l : List Nat) : Bool := decide (1 ≤ l.length ∧ l.length ≤ 8) && (decide (l.headD 0 ∈ letters.cps.toList) && l.all fun c => decide (c ∈ signs.cps.toList))
theorem isName_L (z : Str) : isNameS z = nameL z.cps.toList := by
  unfold isNameS nameL
  have : z.length = z.cps.toList.length := by show z.cps.size = _; simp
  rw [this]
theorem nameL_iff {l : List Nat} : nameL l = true ↔ (1 ≤ l.length ∧ l.length ≤ 8) ∧ l.headD 0 ∈ letters.cps.toList ∧ ∀ c ∈ l, c ∈ signs.cps.toList := by
  unfold nameL
  simp only [Bool.and_eq_true, decide_eq_true_eq, List.all_eq_true]
def lawSigns : Str := "0123456789abcdefghijklmnopqrstuvwxyz"
theorem lawSign (k : Nat) (h : k < 36) : ∃ c, lawSigns.cps.toList[k]? = some c ∧ c ∈ signs.cps.toList ∧ (10 ≤ k → c ∈ letters.cps.toList) := by
  have all : ∀ i : Fin 36, (match lawSigns.cps.toList[i.val]? with | some c => decide (c ∈ signs.cps.toList) && (decide (i.val < 10) || decide (c ∈ letters.cps.toList)) | none => false) = true := by decide +kernel
  have g := all ⟨k, h⟩
  dsimp only at g
  cases e : lawSigns.cps.toList[k]? with
  | none => rw [e] at g; cases g
  | some c =>
    rw [e] at g
    simp only [Bool.and_eq_true, Bool.or_eq_true, decide_eq_true_eq] at g
    exact ⟨c, rfl, g.1, fun z => g.2.resolve_left (by omega)⟩
theorem lawSigns_len : lawSigns.length ≤ sizeLine := by decide +kernel
theorem name_len {z : Str} (h : isNameS z = true) : 1 ≤ z.length ∧ z.length ≤ 8 := by
  rw [isName_L, nameL_iff] at h
  have : z.length = z.cps.toList.length := by show z.cps.size = _; simp
  omega
theorem line8 {z : Str} (h : isNameS z = true) : z.length ≤ sizeLine := Nat.le_trans (name_len h).2 (by decide)
theorem str_app (x y : Str) : (x ++ y).cps.toList = x.cps.toList ++ y.cps.toList := by
  show (x.cps ++ y.cps).toList = _
  simp
theorem str_len (z : Str) : z.cps.toList.length = z.length := by show _ = z.cps.size; simp
theorem cut_to {z : Str} {k : Nat} (h : k ≤ z.length) : (cutS z none (some (k : Int))).cps.toList = z.cps.toList.take k := by
  unfold cutS
  rw [HT.sIx_none, HT.sIx_nat]
  simp only [Nat.sub_zero, List.drop_zero, Nat.min_eq_left h]
theorem cut_from {z : Str} {k : Nat} (h : k ≤ z.length) : (cutS z (some (k : Int)) none).cps.toList = z.cps.toList.drop k := by
  unfold cutS
  rw [HT.sIx_none, HT.sIx_nat, Nat.min_eq_left h]
  show (z.cps.toList.drop k).take (z.length - k) = _
  exact List.take_of_length_le (by rw [List.length_drop, str_len]; exact Nat.le_refl _)
/-- one sign of a name exchanged -/
theorem name_put {e w : Str} {k c : Nat} (he : isNameS e = true) (hk : k < e.length) (hc : c ∈ signs.cps.toList) (h0 : k = 0 → c ∈ letters.cps.toList)
    (hw : w.cps.toList = e.cps.toList.take k ++ [c] ++ e.cps.toList.drop (k + 1)) : isNameS w = true := by
  rw [isName_L, nameL_iff] at he ⊢
  have hl := str_len e
  obtain ⟨⟨h1, h2⟩, h3, h4⟩ := he
  rw [hw]
  refine ⟨?_, ?_, ?_⟩
  · simp only [List.length_append, List.length_take, List.length_drop, List.length_cons, List.length_nil]
    omega
  · cases k with
    | zero => simpa using h0 rfl
    | succ k =>
      cases hE : e.cps.toList with
      | nil => rw [hE] at h1; simp at h1
      | cons a r =>
        rw [hE] at h3
        simpa using h3
  · intro d hd
    simp only [List.mem_append, List.mem_singleton] at hd
    rcases hd with (hd | hd) | hd
    · exact h4 d (List.mem_of_mem_take hd)
    · rw [hd]; exact hc
    · exact h4 d (List.mem_of_mem_drop hd)
theorem name_one {c : Nat} (hc : c ∈ letters.cps.toList) (hs : c ∈ signs.cps.toList) : isNameS ⟨#[c]⟩ = true := by
  rw [isName_L, nameL_iff]
  exact ⟨⟨Nat.le_refl 1, (by decide : 1 ≤ 8)⟩, hc, fun d hd => by rw [List.mem_singleton.mp hd]; exact hs⟩
theorem name_more {z : Str} {c : Nat} (hz : isNameS z = true) (hl : z.length < 8) (hc : c ∈ signs.cps.toList) : isNameS (z ++ ⟨#[c]⟩) = true := by
  rw [isName_L, nameL_iff] at hz ⊢
  obtain ⟨⟨h1, h2⟩, h3, h4⟩ := hz
  have hl' := str_len z
  rw [str_app]
  refine ⟨?_, ?_, ?_⟩
  · rw [List.length_append]
    show 1 ≤ z.cps.toList.length + 1 ∧ z.cps.toList.length + 1 ≤ 8
    omega
  · cases hE : z.cps.toList with
    | nil => rw [hE] at h1; simp at h1
    | cons a r =>
      rw [hE] at h3
      exact h3
  · intro d hd
    rcases List.mem_append.mp hd with hd | hd
    · exact h4 d hd
    · rw [List.mem_singleton.mp hd]
      exact hc
theorem add_len (x : Str) (c : Nat) : (x ++ (⟨#[c]⟩ : Str)).length = x.length + 1 := by
  have h := str_len (x ++ (⟨#[c]⟩ : Str))
  rw [str_app, List.length_append, str_len] at h
  exact h.symm
def spFar : Sp := fun vs H Q _ => ∃ (b : Addr) (n : Nat), vs = [.ref b] ∧ Bx b n H ∧ n + 7 ≤ 1000000 ∧ ∀ (z : Int) H', 0 ≤ z → Kp b H H' → Bx b (n + 7) H' → Q (.int z) H'
def spSlack : Sp := fun vs H Q _ => ∃ (b : Addr) (n : Nat), vs = [.ref b] ∧ Bx b n H ∧ n + 8 ≤ 1000000 ∧ ∀ (z : Int) H', 0 ≤ z → Kp b H H' → Bx b (n + 8) H' → Q (.int z) H'
/-- names so far at l: all are names, none twice -/
structure Nms (l : Addr) (xs : List Str) (H : Hp) : Prop where
  at_ : H l = some (.lst (xs.map V.str))
  nm : ∀ z ∈ xs, isNameS z = true
  nd : xs.Nodup
def spName : Sp := fun vs H Q _ => ∃ (b l : Addr) (n : Nat) (xs : List Str), vs = [.ref b, .ref l] ∧ Bx b n H ∧ n + 20 ≤ 1000000 ∧ l ≠ b ∧ Nms l xs H ∧ xs.length ≤ 1000 ∧
  ∀ (z : Str) H', isNameS z = true → Kp b H H' → Bx b (n + 20) H' → Q (.str z) H'
def spNames : Sp := fun vs H Q _ => ∃ (b : Addr) (n k : Nat), vs = [.ref b, .int (k : Int)] ∧ Bx b n H ∧ n + 20 * k ≤ 1000000 ∧ k ≤ 10 ∧
  ∀ (l : Addr) (xs : List Str) H', H l = none → l ≠ b → Nms l xs H' → xs.length = k → Kp b H H' → Bx b (n + 20 * k) H' → Q (.ref l) H'
section
variable {P : Program} {w : World} {K : PySem.W.Frag} {mg : Str → Option Value} {base : Heap} {a : Ad} {d : Fd}
theorem ok_law_far (T : TX K mg a) (D : FDS K a d) : FnOk P w K mg base CX0 3 a.a_law_far d.a_law_far ["box"] spFar := by
  have G__law_take : FnOk P w K mg base CX0 2 a.a_law_take d.a_law_take ["box", "size"] spTake := ok_law_take T D
  refine D.F__law_far.ok sc_law_far (fun vs H Q E h => ?_) (fun cdv A outer s H vs Q E hr h => ?_)
  · obtain ⟨b, n, rfl, _⟩ := h
    rfl
  · obtain ⟨b, n, rfl, X, hn, q⟩ := h
    refine ⟨_, (pss_cons (ps_set (i := 1) sc_law_far.nd rfl (Or.inl rfl) pe_int)
        (pss_cons (ps_for PassesOwn.never rfl (pi_range1 rfl T.b_range (pa_cons pe_int pa_nil)) (pg_name (i := 2) sc_law_far.nd rfl (Or.inl rfl)) (pss_one (ps_set (i := 1) sc_law_far.nd rfl (Or.inl rfl) (pe_op op_add (pe_op op_mul (pv 1) (pe_op op_pow pe_int pe_int)) (pe_call G__law_take (hr.mono (by decide)) rfl T.f__law_take T.k__law_take D.B__law_take .nil pass0 (pa_cons (pv 0) (pa_cons (pe_op op_pow pe_int pe_int) pa_nil)))))))
        (pss_one (ps_ret (pv 1))))), ?_⟩
    refine ⟨7, rfl, by decide, by decide, for_range (lo := 0) (n := 7) (fun i σ H' => (∃ (z : Int) (v : Option V), σ = [some (.ref b), some (.int z), v] ∧ 0 ≤ z) ∧ Kp b H H' ∧ Bx b (n + i) H') ⟨⟨0, none, rfl, Int.le_refl _⟩, Kp.refl _ _, X⟩ ?_ ?_⟩
    · rintro i σ H' hi ⟨⟨z, v, rfl, z0⟩, k1, X1⟩
      refine ⟨_, rfl, _, _, rfl, rfl, ⟨by decide, by decide, by decide⟩, _, _, rfl, rfl, .inr (by decide), _, rfl, _, _, rfl, rfl, ⟨by decide, by decide, by decide⟩, b, _, n + i, rfl, X1, by omega, by decide, by decide, fun d H2 k2 X2 d0 d1 => ⟨_, _, rfl, rfl, ⟨_, _, rfl, Int.add_nonneg (Int.mul_nonneg z0 (by decide)) d0⟩, k1.trans k2, X2⟩⟩
    · rintro σ H' ⟨⟨z, v, rfl, z0⟩, k1, X1⟩
      exact ⟨_, rfl, q z H' z0 k1 X1⟩
theorem ok_law_slack (T : TX K mg a) (D : FDS K a d) : FnOk P w K mg base CX0 4 a.a_law_slack d.a_law_slack ["box"] spSlack := by
  have G__law_take : FnOk P w K mg base CX0 2 a.a_law_take d.a_law_take ["box", "size"] spTake := ok_law_take T D
  have G__law_far : FnOk P w K mg base CX0 3 a.a_law_far d.a_law_far ["box"] spFar := ok_law_far T D
  refine D.F__law_slack.ok sc_law_slack (fun vs H Q E h => ?_) (fun cdv A outer s H vs Q E hr h => ?_)
  · obtain ⟨b, n, rfl, _⟩ := h
    rfl
  · obtain ⟨b, n, rfl, X, hn, q⟩ := h
    refine ⟨_, (pss_cons (ps_set (i := 1) sc_law_slack.nd rfl (Or.inl rfl) (pe_call G__law_take (hr.mono (by decide)) rfl T.f__law_take T.k__law_take D.B__law_take .nil pass0 (pa_cons (pv 0) (pa_cons pe_int pa_nil))))
        (pss_cons (ps_if (pt_cmpR op_eq (pv 1) pe_int (nomark _)) (pss_one (ps_ret (pe_call G__law_far (hr.mono (by decide)) rfl T.f__law_far T.k__law_far D.B__law_far .nil pass0 (pa_cons (pv 0) pa_nil)))) pss_nil)
        (pss_one (ps_ret (pe_ix (ix_listK (K := K)) (pe_lst (pa_cons pe_int (pa_cons pe_int (pa_cons pe_int (pa_cons pe_int (pa_cons pe_int (pa_cons pe_int (pa_cons pe_int (pa_cons pe_int (pa_cons pe_int (pa_cons pe_int (pa_cons pe_int pa_nil)))))))))))) (pv 1) (fun _ _ => rfl)))))), ?_⟩
    refine ⟨_, rfl, b, 12, n, rfl, X, by omega, by decide, by decide, fun d H1 k1 X1 d0 d1 => ?_⟩
    refine ⟨_, rfl, rfl, _, rfl, ?_⟩
    refine ite2 (fun h1 => ?_) (fun h1 => ?_)
    · exact ⟨_, rfl, b, n + 1, rfl, X1, by omega, fun z H2 z0 k2 X2 => q z H2 z0 (k1.trans k2) (X2.mono (by omega))⟩
    · have hd : d ≠ 11 := fun z => h1 (decide_eq_true (by rw [z]))
      refine ⟨(by show 11 ≤ sizeLine; decide), fun p hp => ?_⟩
      have e1 := Ex.new (o := .lst [.int 0, .int 0, .int 0, .int 0, .int 0, .int 1, .int 1, .int 1, .int 2, .int 3, .int 5]) hp
      obtain ⟨z, z0, hz⟩ : ∃ z : Int, 0 ≤ z ∧ ([.int 0, .int 0, .int 0, .int 0, .int 0, .int 1, .int 1, .int 1, .int 2, .int 3, .int 5] : List V)[d.toNat]? = some (.int z) := by
        have hk : d.toNat < 11 := by omega
        generalize d.toNat = k at hk
        match k, hk with
        | 0, _ => exact ⟨_, by decide, rfl⟩ | 1, _ => exact ⟨_, by decide, rfl⟩ | 2, _ => exact ⟨_, by decide, rfl⟩ | 3, _ => exact ⟨_, by decide, rfl⟩ | 4, _ => exact ⟨_, by decide, rfl⟩ | 5, _ => exact ⟨_, by decide, rfl⟩
        | 6, _ => exact ⟨_, by decide, rfl⟩ | 7, _ => exact ⟨_, by decide, rfl⟩ | 8, _ => exact ⟨_, by decide, rfl⟩ | 9, _ => exact ⟨_, by decide, rfl⟩ | 10, _ => exact ⟨_, by decide, rfl⟩
      exact ⟨_, rfl, p, _, d, _, rfl, rfl, SqL.of upd_same, at_lit (n := d.toNat) (by omega) hz, q z _ z0 (k1.trans (Kp.ex e1)) ((X1.mono (by omega)).ex e1)⟩
theorem ok_law_name (T : TX K mg a) (D : FDS K a d) : FnOk P w K mg base CX0 3 a.a_law_name d.a_law_name ["box", "names"] spName := by
  have G__law_take : FnOk P w K mg base CX0 2 a.a_law_take d.a_law_take ["box", "size"] spTake := ok_law_take T D
  refine D.F__law_name.ok sc_law_name (fun vs H Q E h => ?_) (fun cdv A outer s H vs Q E hr h => ?_)
  · obtain ⟨b, l, n, xs, rfl, _⟩ := h
    rfl
  · obtain ⟨b, l, n, xs, rfl, X, hn, hlb, N, hxs, q⟩ := h
    refine ⟨_, (pss_cons (ps_set (i := 2) sc_law_name.nd rfl (Or.inl rfl) pe_str)
        (Evl.pss_cut (ps_if (PW.pt (pw_and (pt_truth (pv 1) (by intro _; rfl)) (pw_and1 (pt_cmpR op_eq (pe_call G__law_take (hr.mono (by decide)) rfl T.f__law_take T.k__law_take D.B__law_take .nil pass0 (pa_cons (pv 0) (pa_cons pe_int pa_nil))) pe_int (nomark _))))) (pss_cons (ps_set (i := 3) sc_law_name.nd rfl (Or.inl rfl) (pe_ix (ix_listK (K := K)) (pv 1) (pe_call G__law_take (hr.mono (by decide)) rfl T.f__law_take T.k__law_take D.B__law_take .nil pass0 (pa_cons (pv 0) (pa_cons (pe_callB call_len_seq (by rfl) T.b_len (by decide +kernel) (pa_cons (pv 1) pa_nil)) pa_nil))) (fun _ _ => rfl)))
        (pss_cons (ps_set (i := 4) sc_law_name.nd rfl (Or.inl rfl) (pe_call G__law_take (hr.mono (by decide)) rfl T.f__law_take T.k__law_take D.B__law_take .nil pass0 (pa_cons (pv 0) (pa_cons (pe_callB call_len_str (by rfl) T.b_len (by decide +kernel) (pa_cons (pv 3) pa_nil)) pa_nil))))
        (pss_cons (ps_set (i := 5) sc_law_name.nd rfl (Or.inl rfl) (pe_op op_mul pe_int (pe_callTy call_int1 (by rfl) T.b_int (by decide +kernel) (pa_cons (pe_cmpR op_eq (pv 4) pe_int (nomark _)) pa_nil))))
        (pss_one (ps_ret (pe_op op_add_str (pe_op op_add_str (pe_slice sl_str (pv 3) po_none (po_some (pv 4))) (pe_ix ix_str (pv 2) (pe_op op_add (pv 5) (pe_call G__law_take (hr.mono (by decide)) rfl T.f__law_take T.k__law_take D.B__law_take .nil pass0 (pa_cons (pv 0) (pa_cons (pe_op op_sub pe_int (pv 5)) pa_nil)))) (fun _ _ => rfl))) (pe_slice sl_str (pv 3) (po_some (pe_op op_add (pv 4) pe_int)) po_none))))))) pss_nil)
        (pss_cons (ps_set (i := 6) sc_law_name.nd rfl (Or.inl rfl) (pe_call G__law_take (hr.mono (by decide)) rfl T.f__law_take T.k__law_take D.B__law_take .nil pass0 (pa_cons (pv 0) (pa_cons pe_int pa_nil))))
        (Evl.pss_cut (ps_if (pt_cmpR op_eq (pv 6) pe_int (nomark _)) (pss_one (ps_set (i := 6) sc_law_name.nd rfl (Or.inl rfl) (pe_call G__law_take (hr.mono (by decide)) rfl T.f__law_take T.k__law_take D.B__law_take .nil pass0 (pa_cons (pv 0) (pa_cons pe_int pa_nil))))) pss_nil)
        (pss_cons (ps_set (i := 7) sc_law_name.nd rfl (Or.inl rfl) (pe_ix ix_str (pv 2) (pe_op op_add pe_int (pe_call G__law_take (hr.mono (by decide)) rfl T.f__law_take T.k__law_take D.B__law_take .nil pass0 (pa_cons (pv 0) (pa_cons pe_int pa_nil)))) (fun _ _ => rfl)))
        (pss_cons (ps_for PassesOwn.never rfl (pi_range1 rfl T.b_range (pa_cons (pv 6) pa_nil)) (pg_name (i := 8) sc_law_name.nd rfl (Or.inl rfl)) (pss_one (ps_set (i := 7) sc_law_name.nd rfl (Or.inl rfl) (pe_op op_add_str (pv 7) (pe_ix ix_str (pv 2) (pe_call G__law_take (hr.mono (by decide)) rfl T.f__law_take T.k__law_take D.B__law_take .nil pass0 (pa_cons (pv 0) (pa_cons pe_int pa_nil))) (fun _ _ => rfl))))))
        (pss_one (ps_ret (pv 7))))))))), ?_⟩
    refine ⟨fun σ' H' => σ' = [some (.ref b), some (.ref l), some (.str lawSigns), none, none, none, none, none, none] ∧ Kp b H H' ∧ Bx b (n + 1) H', ?_, ?_⟩
    · refine ⟨_, rfl, !xs.isEmpty, .inl ⟨_, SqL.of N.at_, by cases xs <;> rfl⟩, ?_⟩
      refine ite2 (fun h1 => ?_) (fun h1 => iteF ⟨rfl, Kp.refl _ _, X.mono (by omega)⟩)
      refine ⟨_, rfl, b, 3, n, rfl, X, by omega, by decide, by decide, fun d H1 k1 X1 d0 d1 => ⟨rfl, _, rfl, ?_⟩⟩
      refine ite2 (fun h2 => ?_) (fun h2 => ⟨rfl, k1, X1⟩)
      have hl1 := k1.at hlb N.at_
      have hpos : 0 < xs.length := by
        cases xs with
        | nil => cases h1
        | cons _ _ => simp
      have hlm : ((xs.map V.str).length : Int) = (xs.length : Nat) := by rw [List.length_map]
      refine ⟨_, rfl, _, rfl, _, rfl, l, _, rfl, .inl (SqL.of hl1), b, _, n + 1, rfl, X1, by omega, by omega, by omega, fun i H2 k2 X2 i0 i1 => ?_⟩
      obtain ⟨e, he⟩ : ∃ e, xs[i.toNat]? = some e := ⟨xs[i.toNat]'(by omega), by simp⟩
      have hl2 := k2.at hlb hl1
      have ne : isNameS e = true := N.nm e (List.mem_of_getElem? he)
      have le := name_len ne
      refine ⟨l, _, i, .str e, rfl, rfl, SqL.of hl2, at_lit (n := i.toNat) (by omega) (by rw [List.getElem?_map, he]; rfl), ?_⟩
      refine ⟨_, rfl, _, rfl, e, rfl, line8 ne, b, _, n + 1 + 1, rfl, X2, by omega, by omega, by omega, fun place H3 k3 X3 p0 p1 => ?_⟩
      obtain ⟨k, rfl⟩ : ∃ k : Nat, place = (k : Int) := ⟨place.toNat, by omega⟩
      refine ⟨_, rfl, rfl, .inr ⟨_, rfl, _, _, rfl, rfl, .inl (by constructor <;> decide), ?_⟩⟩
      generalize hL : (10 : Int) * (if decide (V.int (k : Int) = V.int 0) = true then 1 else 0) = least
      have hleast : (k = 0 ∧ least = 10) ∨ (k ≠ 0 ∧ least = 0) := by
        by_cases h0 : k = 0
        · left
          refine ⟨h0, ?_⟩
          rw [← hL, h0]
          rfl
        · right
          refine ⟨h0, ?_⟩
          rw [← hL, decide_eq_false (fun z => h0 (by have := V.int.inj z; omega))]
          rfl
      refine ⟨_, rfl, _, rfl, _, rfl, e, rfl, line8 ne, _, rfl, _, rfl, _, rfl, _, rfl, _, _, rfl, rfl, b, _, n + 1 + 1 + 1, rfl, X3, by omega, by omega, by omega, fun d4 H4 k4 X4 c0 c1 => ?_⟩
      obtain ⟨c, hc, hcs, hcl⟩ := lawSign (least + d4).toNat (by omega)
      refine ⟨_, _, rfl, rfl, lawSigns, _, c, rfl, rfl, lawSigns_len, at_lit (n := (least + d4).toNat) (by omega) hc, _, _, rfl, rfl, ?_, _, rfl, _, rfl, _, _, rfl, rfl, _, rfl, e, rfl, line8 ne, _, _, rfl, rfl, ?_, ?_⟩
      · have := cutS_length e none (some (k : Int))
        show (cutS e none (some (k : Int))).length + 1 ≤ sizeLine
        exact Nat.le_trans (by omega : _ ≤ 9) (by decide)
      · have h1 := cutS_length e none (some (k : Int))
        have h2 := cutS_length e (some ((k : Int) + 1)) none
        rw [add_len]
        exact Nat.le_trans (by omega : _ ≤ 17) (by decide)
      · refine q _ _ (name_put (c := c) ne (by omega : k < e.length) hcs (fun z => hcl (by omega)) ?_) (((k1.trans k2).trans k3).trans k4) (X4.mono (by omega))
        rw [str_app, str_app, cut_to (by omega), show ((k : Int) + 1) = ((k + 1 : Nat) : Int) by omega, cut_from (by omega)]
    · rintro σ' H1 ⟨rfl, k1, X1⟩
      refine ⟨_, rfl, b, 3, n + 1, rfl, X1, by omega, by decide, by decide, fun d H2 k2 X2 d0 d1 => ?_⟩
      refine ⟨fun σ' H' => (∃ s : Nat, s ≤ 7 ∧ σ' = [some (.ref b), some (.ref l), some (.str lawSigns), none, none, none, some (.int (s : Int)), none, none]) ∧ Kp b H H' ∧ Bx b (n + 1 + 1 + 1) H', ?_, ?_⟩
      · refine ⟨_, rfl, rfl, _, rfl, ?_⟩
        refine ite2 (fun h1 => ?_) (fun h1 => ?_)
        · refine ⟨_, rfl, b, 8, n + 1 + 1, rfl, X2, by omega, by decide, by decide, fun d3 H3 k3 X3 c0 c1 => ?_⟩
          exact ⟨⟨d3.toNat, by omega, by rw [show ((d3.toNat : Nat) : Int) = d3 by omega]; rfl⟩, (k1.trans k2).trans k3, X3⟩
        · exact ⟨⟨d.toNat, by omega, by rw [show ((d.toNat : Nat) : Int) = d by omega]; rfl⟩, k1.trans k2, X2.mono (by omega)⟩
      · rintro σ' H3 ⟨⟨s, hs, rfl⟩, k3, X3⟩
        refine ⟨_, rfl, _, rfl, b, 26, n + 1 + 1 + 1, rfl, X3, by omega, by decide, by decide, fun d4 H4 k4 X4 c0 c1 => ?_⟩
        obtain ⟨c, hc, hcs, hcl⟩ := lawSign (10 + d4).toNat (by omega)
        refine ⟨_, _, rfl, rfl, lawSigns, _, c, rfl, rfl, lawSigns_len, at_lit (n := (10 + d4).toNat) (by omega) hc, ?_⟩
        refine ⟨_, rfl, (s : Int), rfl, by omega, by omega, for_range (lo := 0) (n := (s : Int).toNat) (fun i σ H' => (∃ (z : Str) (v : Option V), z.length = i + 1 ∧ isNameS z = true ∧ σ = [some (.ref b), some (.ref l), some (.str lawSigns), none, none, none, some (.int (s : Int)), some (.str z), v]) ∧ Kp b H H' ∧ Bx b (n + 4 + i) H')
          ⟨⟨_, none, rfl, name_one (hcl (by omega)) hcs, rfl⟩, k3.trans k4, X4⟩ ?_ ?_⟩
        · rintro i σ H' hi ⟨⟨z, v, hz, hnz, rfl⟩, k5, X5⟩
          refine ⟨_, rfl, _, rfl, _, rfl, b, 36, n + 4 + i, rfl, X5, by omega, by decide, by decide, fun d6 H6 k6 X6 e0 e1 => ?_⟩
          obtain ⟨c6, hc6, hcs6, _⟩ := lawSign d6.toNat (by omega)
          refine ⟨lawSigns, _, c6, rfl, rfl, lawSigns_len, at_lit (n := d6.toNat) (by omega) hc6, _, _, rfl, rfl, ?_, ⟨_, _, ?_, name_more hnz (by omega) hcs6, rfl⟩, k5.trans k6, X6.mono (by omega)⟩
          · show z.length + 1 ≤ sizeLine
            exact Nat.le_trans (by omega : _ ≤ 9) (by decide)
          · rw [add_len, hz]
        · rintro σ H' ⟨⟨z, v, hz, hnz, rfl⟩, k5, X5⟩
          exact ⟨_, rfl, q z H' hnz k5 (X5.mono (by omega))⟩
end
end N4
set_option maxRecDepth 100000
set_option maxHeartbeats 4000000
namespace N4
open PySem L2 Evl GP HR SC SetM SetH
theorem inV_strs (z : Str) (xs : List Str) : inV (.str z) (xs.map V.str) = decide (z ∈ xs) := by
  induction xs with
  | nil => rfl
  | cons a r ih =>
    show (eqV (.str a) (.str z) || inV (.str z) (r.map V.str)) = _
    rw [ih]
    show ((a == z) || decide (z ∈ r)) = _
    by_cases h : a = z
    · subst h
      simp
    · have h2 : ¬ z = a := fun q => h q.symm
      simp [h, h2]
theorem flat_strs (xs : List Str) : (xs.map V.str).all flatV = true := by
  rw [List.all_map]
  exact List.all_eq_true.mpr fun _ _ => rfl
def ten : List Str := ["a", "b", "c", "d", "e", "f", "g", "h", "i", "j"]
theorem ten_nd : ten.Nodup := by decide +kernel
theorem ten_nm : ∀ z ∈ ten, isNameS z = true := by decide +kernel
theorem spare {xs : List Str} (h : xs.length < 10) : ∃ z r, ten.filter (fun y => !decide (y ∈ xs)) = z :: r := by
  cases e : ten.filter (fun y => !decide (y ∈ xs)) with
  | cons z r => exact ⟨z, r, rfl⟩
  | nil =>
    have sub : ten ⊆ xs := fun y hy => by
      have g := List.filter_eq_nil_iff.mp e y hy
      simpa using g
    have := List.Nodup.length_le_of_subset ten_nd sub
    have t : ten.length = 10 := rfl
    omega
/-! ### heights -/
theorem keys_ok {kvs : List (Key × V)} {xs : List Str} {z : Str} {v : V} (h : ∀ kv ∈ kvs, ∃ x ∈ xs, kv.1 = .inr x) (hz : z ∈ xs) : ∀ kv ∈ putK kvs (.inr z) v, ∃ x ∈ xs, kv.1 = .inr x := by
  intro kv hkv
  unfold putK at hkv
  split at hkv
  · obtain ⟨kv0, h0, e0⟩ := List.mem_map.mp hkv
    obtain ⟨x, hx, ex⟩ := h kv0 h0
    split at e0
    · rw [← e0]
      first | exact ⟨z, hz, rfl⟩ | exact ⟨x, hx, ex⟩
    · rw [← e0]
      exact ⟨x, hx, ex⟩
  · rcases List.mem_append.mp hkv with h1 | h1
    · exact h kv h1
    · rw [List.mem_singleton.mp h1]
      exact ⟨z, hz, rfl⟩
structure Hts (d : Addr) (xs : List Str) (f : Str → Int) (H : Hp) : Prop where
  at_ : ∃ kvs, H d = some (.dK kvs) ∧ (∀ x ∈ xs, valV kvs (.inr x) = some (.int (f x))) ∧ (∀ kv ∈ kvs, ∃ x ∈ xs, kv.1 = .inr x) ∧ kvs.length ≤ 100
def spHeights : Sp := fun vs H Q _ => ∃ (b l : Addr) (n : Nat) (xs : List Str), vs = [.ref b, .ref l] ∧ Bx b n H ∧ n + 100 ≤ 1000000 ∧ l ≠ b ∧ Nms l xs H ∧ xs.length ≤ 10 ∧
  ∀ (d : Addr) (f : Str → Int) H', H d = none → Hts d xs f H' → Kp b H H' → Bx b (n + 100) H' → Q (.ref d) H'
/-! ### rows -/
abbrev Row := Str × Str × Int
def RowAt (H : Hp) (v : V) (d : Row) : Prop := ∃ p, v = .ref p ∧ H p = some (.tup [.str "most", .str d.1, .str d.2.1, .int d.2.2])
def RowsAt (H : Hp) (vs : List V) (ds : List Row) : Prop := vs.length = ds.length ∧ ∀ (j : Nat) (v : V) (d : Row), vs[j]? = some v → ds[j]? = some d → RowAt H v d
def bD (d : Row) : PyData := .tuple [.str "most", .str d.1, .str d.2.1, .int d.2.2]
def TK (H H' : Hp) : Prop := ∀ p xs, H p = some (.tup xs) → H' p = some (.tup xs)
theorem RowsAt.keep {H H' : Hp} {vs : List V} {ds : List Row} (r : RowsAt H vs ds) (t : TK H H') : RowsAt H' vs ds :=
  ⟨r.1, fun j v d h1 h2 => by
    obtain ⟨p, e, hp⟩ := r.2 j v d h1 h2
    exact ⟨p, e, t _ _ hp⟩⟩
theorem Kp.tup {b : Addr} {n : Nat} {H H' : Hp} (k : Kp b H H') (x : Bx b n H) : TK H H' := fun p xs h => by
  obtain ⟨c, ns, i, r, m, t, X⟩ := x
  exact k.at (ne_of h X.box (by intro z; cases z)) h
theorem TK.ex {H H' : Hp} (e : Ex H H') : TK H H' := fun p xs h => e _ _ h
theorem TK.trans {H H1 H2 : Hp} (a : TK H H1) (b : TK H1 H2) : TK H H2 := fun p xs h => b p xs (a p xs h)
theorem TK.lst {H : Hp} {l : Addr} {xs : List V} {o : HO} (h : H l = some (.lst xs)) : TK H (upd H l o) := fun p ys hp => by
  rw [upd_ne (ne_of hp h (by intro z; cases z))]
  exact hp
theorem RowsAt.snoc {H : Hp} {vs : List V} {ds : List Row} {v : V} {d : Row} (r : RowsAt H vs ds) (h : RowAt H v d) : RowsAt H (vs ++ [v]) (ds ++ [d]) := by
  refine ⟨by simp [r.1], fun j u e h1 h2 => ?_⟩
  by_cases hj : j < vs.length
  · rw [List.getElem?_append_left hj] at h1
    rw [List.getElem?_append_left (by rw [← r.1]; exact hj)] at h2
    exact r.2 j u e h1 h2
  · rw [List.getElem?_append_right (by omega)] at h1
    rw [List.getElem?_append_right (by rw [← r.1]; omega), ← r.1] at h2
    have hz : j - vs.length = 0 := by
      cases q : j - vs.length with
      | zero => rfl
      | succ k => rw [q] at h1; simp at h1
    rw [hz] at h1 h2
    cases h1
    cases h2
    exact h
theorem RowsAt.dp {K : PySem.W.Frag} {H : Hp} : ∀ {vs : List V} {ds : List Row}, RowsAt H vs ds → DpAll K H vs (ds.map bD)
  | [], [], _ => .nil
  | [], _ :: _, r => absurd r.1 (by simp)
  | _ :: _, [], r => absurd r.1 (by simp)
  | v :: vs, d :: ds, r => by
    obtain ⟨p, rfl, hp⟩ := r.2 0 v d rfl rfl
    refine .cons (.tup (SqT.of hp) (.cons (.str _) (.cons (.str _) (.cons (.str _) (.cons (.int _) .nil))))) (RowsAt.dp ⟨by simpa using r.1, fun j u e h1 h2 => r.2 (j + 1) u e (by simpa using h1) (by simpa using h2)⟩)
/-- the rows are bounds between different names of xs, each begins where the one before it ends -/
structure RowsOk (xs : List Str) (ds : List Row) : Prop where
  n1 : ∀ d ∈ ds, d.1 ∈ xs ∧ d.2.1 ∈ xs ∧ d.1 ≠ d.2.1
  ln : ∀ (j : Nat) (d e : Row), ds[j]? = some d → ds[j + 1]? = some e → d.2.1 = e.1
  ne : ds ≠ []
  le : ds.length ≤ 40
def okRow (f : Str → Int) (d : Row) : Bool := decide (f d.1 - f d.2.1 ≤ d.2.2)
def spFulfilled : Sp := fun vs H Q _ => ∃ (r d : Addr) (xs : List Str) (f : Str → Int) (us : List V) (ds : List Row), vs = [.ref r, .ref d] ∧ H r = some (.lst us) ∧ RowsAt H us ds ∧ (∀ e ∈ ds, e.1 ∈ xs ∧ e.2.1 ∈ xs) ∧ ds.length ≤ 40 ∧ Hts d xs f H ∧
  ∀ H', Ex H H' → Q (.bl (ds.all (okRow f))) H'
def spChain : Sp := fun vs H Q _ => ∃ (b l d : Addr) (n : Nat) (xs : List Str) (f : Str → Int), vs = [.ref b, .ref l, .ref d] ∧ Bx b n H ∧ n + 400 ≤ 1000000 ∧ l ≠ b ∧ Nms l xs H ∧ 2 ≤ xs.length ∧ xs.length ≤ 10 ∧ d ≠ b ∧ Hts d xs f H ∧
  ∀ (r : Addr) (us : List V) (ds : List Row) H', H r = none → H' r = some (.lst us) → RowsAt H' us ds → RowsOk xs ds → Kp b H H' → Bx b (n + 400) H' → Q (.ref r) H'
section
variable {P : Program} {w : World} {K : PySem.W.Frag} {mg : Str → Option Value} {base : Heap} {a : Ad} {d : Fd}
theorem ok_law_names (T : TX K mg a) (D : FDS K a d) : FnOk P w K mg base CX0 4 a.a_law_names d.a_law_names ["box", "count"] spNames := by
  have G__law_name : FnOk P w K mg base CX0 3 a.a_law_name d.a_law_name ["box", "names"] spName := ok_law_name T D
  refine D.F__law_names.ok sc_law_names (fun vs H Q E h => ?_) (fun cdv A outer s H vs Q E hr h => ?_)
  · obtain ⟨b, n, k, rfl, _⟩ := h
    rfl
  · obtain ⟨b, n, k, rfl, X, hn, hk, q⟩ := h
    refine ⟨_, (pss_cons (ps_set (i := 2) sc_law_names.nd rfl (Or.inr rfl) (pe_lst pa_nil))
        (pss_cons (ps_for PassesOwn.never rfl (pi_range1 rfl T.b_range (pa_cons (pv 1) pa_nil)) (pg_name (i := 3) sc_law_names.nd rfl (Or.inl rfl)) (pss_cons (ps_set (i := 4) sc_law_names.nd rfl (Or.inl rfl) (pe_call G__law_name (hr.mono (by decide)) rfl T.f__law_name T.k__law_name D.B__law_name .nil pass0 (pa_cons (pv 0) (pa_cons (pv 2) pa_nil))))
        (pss_cons (ps_if (pt_cmpR op_in_seq (pv 4) (pv 2) rfl) (pss_one (ps_set (i := 4) sc_law_names.nd rfl (Or.inl rfl) (pe_ix (ix_listK (K := K)) (pe_lc (own := [("one", 5)]) (g := gName 5) (tt := tTest (tOp (rIn K true) (tVar 5) (tVar 2))) rfl sc_law_names.nd (pi_list (pe_lst (pa_cons pe_str (pa_cons pe_str (pa_cons pe_str (pa_cons pe_str (pa_cons pe_str (pa_cons pe_str (pa_cons pe_str (pa_cons pe_str (pa_cons pe_str (pa_cons pe_str pa_nil)))))))))))) (blkOk_by (N := ["box", "count", "names", "turn", "name", "one"]) (sc := defScope s_law_names) (by decide +kernel)) (fun _ _ _ _ _ => (pg_name (i := 5) sc_law_names.nd rfl (Or.inl rfl))) (fun _ _ _ _ _ => (pts_one (pt_cmpR (op_notIn_seqK (K := K)) (pv 5) (pv 2) rfl))) (fun _ _ _ _ _ => (pv 5))) pe_int (fun _ _ => rfl)))) pss_nil)
        (pss_one (ps_expr (pe_bm PySem.F.plainAttrs_list PySem.F.slot_list_append PySem.F.type_list_append mt_append (pv 2) (pa_cons (pv 4) pa_nil)))))))
        (pss_one (ps_ret (pv 2))))), ?_⟩
    refine ⟨Nat.zero_le _, fun l hl => ?_⟩
    have hlb := X.ne hl
    refine ⟨_, rfl, (k : Int), rfl, by omega, by omega, for_range (lo := 0) (n := (k : Int).toNat) (fun i σ H' => ∃ xs : List Str, (∃ (v u : Option V), σ = [some (.ref b), some (.int (k : Int)), some (.ref l), v, u, none]) ∧ Nms l xs H' ∧ xs.length = i ∧ Kp b H H' ∧ Bx b (n + 20 * i) H')
      ⟨[], ⟨none, none, rfl⟩, ⟨upd_same, fun _ h => absurd h (List.not_mem_nil), List.nodup_nil⟩, rfl, Kp.ex (Ex.new hl), X.ex (Ex.new hl)⟩ ?_ ?_⟩
    · rintro i σ H' hi ⟨xs, ⟨v, u, rfl⟩, N, hx, k1, X1⟩
      refine ⟨_, rfl, _, rfl, b, l, n + 20 * i, xs, rfl, X1, by omega, hlb, N, by omega, fun z H2 nz k2 X2 => ?_⟩
      have hl2 := k2.at hlb N.at_
      have app : ∀ (y : Str) (H3 : Hp) (o1 : Option V), Kp b H H3 → Bx b (n + 20 * (i + 1)) H3 → H3 l = some (.lst (xs.map V.str)) → isNameS y = true → y ∉ xs →
          ∃ ys : List Str, (∃ (v u : Option V), [some (V.ref b), some (.int (k : Int)), some (.ref l), o1, some (.str y), none] = [some (.ref b), some (.int (k : Int)), some (.ref l), v, u, none]) ∧ Nms l ys (upd H3 l (.lst (xs.map V.str ++ [.str y]))) ∧ ys.length = i + 1 ∧ Kp b H (upd H3 l (.lst (xs.map V.str ++ [.str y]))) ∧ Bx b (n + 20 * (i + 1)) (upd H3 l (.lst (xs.map V.str ++ [.str y]))) := by
        intro y H3 o1 k3 X3 hl3 ny hy
        refine ⟨xs ++ [y], ⟨_, _, rfl⟩, ⟨by rw [upd_same, List.map_append]; rfl, ?_, ?_⟩, by simp [hx], k3.mut hl hlb, Bx.mut X hl k3 X3⟩
        · intro w' hw
          rcases List.mem_append.mp hw with hw | hw
          · exact N.nm w' hw
          · rw [List.mem_singleton.mp hw]; exact ny
        · rw [List.nodup_append]
          refine ⟨N.nd, by simp, ?_⟩
          intro a ha c hc e
          rw [List.mem_singleton.mp hc] at e
          exact hy (e ▸ ha)
      refine ⟨_, rfl, _, rfl, l, _, rfl, .inl (SqL.of hl2), rfl, flat_strs xs, _, rfl, ?_⟩
      rw [show (if false = true then !inV (.str z) (xs.map V.str) else inV (.str z) (xs.map V.str)) = decide (z ∈ xs) from inV_strs z xs]
      refine ite2 (fun h1 => ?_) (fun h1 => ?_)
      · -- a name that stands there already: the first spare letter
        obtain ⟨y, r, hy⟩ := spare (xs := xs) (by omega)
        have ym : y ∈ ten.filter (fun y => !decide (y ∈ xs)) := by rw [hy]; exact List.mem_cons_self
        obtain ⟨ym1, ym2⟩ := List.mem_filter.mp ym
        refine ⟨(by show 10 ≤ sizeLine; decide), fun t ht => ⟨t, rfl, ⟨_, SqL.of upd_same⟩, fun D hD => ?_⟩⟩
        have e3 : Ex H2 (upd H2 t (.lst (ten.map V.str))) := Ex.new ht
        have hl3 := e3 _ _ hl2
        refine lc_it (walk_list (xs := ten.map V.str)) (fun j H' => Ex (upd H2 t (.lst (ten.map V.str))) H' ∧ H' D = some (.lst (((ten.take j).filter (fun y => !decide (y ∈ xs))).map V.str))) ⟨Ex.new hD, upd_same⟩ (fun j H' _ p => SqL.of (p.1 _ _ upd_same)) ?_ ?_
        · rintro j v2 H' H4 hj ⟨e4, hd4⟩ ⟨rfl, hv2⟩
          obtain ⟨c, hc, rfl⟩ : ∃ c, ten[j]? = some c ∧ v2 = .str c := by
            rw [List.getElem?_map] at hv2
            cases e : ten[j]? with
            | none => rw [e] at hv2; cases hv2
            | some c => rw [e] at hv2; exact ⟨c, rfl, (Option.some.inj hv2).symm⟩
          refine ⟨rfl, _, rfl, _, rfl, l, _, rfl, .inl (SqL.of (e4 _ _ hl3)), rfl, flat_strs xs, _, rfl, ?_⟩
          rw [show (if true = true then !inV (.str c) (xs.map V.str) else inV (.str c) (xs.map V.str)) = !decide (c ∈ xs) from congrArg (!·) (inV_strs c xs)]
          have hstep : (ten.take (j + 1)).filter (fun y => !decide (y ∈ xs)) = (ten.take j).filter (fun y => !decide (y ∈ xs)) ++ (if c ∈ xs then [] else [c]) := by
            rw [List.take_add_one, hc, Option.toList_some, List.filter_append]
            congr 1
            by_cases hcx : c ∈ xs
            · simp [hcx]
            · simp [hcx]
          by_cases hcx : c ∈ xs
          · rw [decide_eq_true hcx]
            refine iteF ⟨e4, ?_⟩
            rw [hstep, if_pos hcx, List.append_nil]
            exact hd4
          · rw [decide_eq_false hcx]
            refine iteT ⟨_, rfl, _, hd4, ?_, e4.mut hD, ?_⟩
            · rw [List.length_map]
              have h1 := List.length_filter_le (fun y => !decide (y ∈ xs)) (ten.take j)
              rw [List.length_take] at h1
              have t : ten.length = 10 := rfl
              exact Nat.lt_of_le_of_lt (by omega : _ ≤ 10) (by decide)
            · rw [upd_same, hstep, if_neg hcx, List.map_append]
              rfl
        · rintro H4 ⟨e4, hd4⟩
          have hd5 : H4 D = some (.lst ((y :: r).map V.str)) := by
            rw [hd4, ← hy]
            rfl
          refine ⟨D, _, 0, .str y, rfl, rfl, SqL.of hd5, at_lit (n := 0) rfl rfl, ?_⟩
          have hl4 := e4 _ _ hl3
          refine ⟨_, rfl, .inl ⟨rfl, _, SqL.of hl4⟩, _, rfl, l, _, _, rfl, rfl, hl4, ?_, ?_⟩
          · rw [List.length_map]
            exact Nat.lt_of_le_of_lt (by omega : _ ≤ 1000) (by decide)
          · exact app y H4 _ ((k1.trans k2).trans (Kp.ex (e3.trans e4))) ((X2.mono (by omega)).ex (e3.trans e4)) hl4 (ten_nm y ym1) (by simpa using ym2)
      · have hzx : z ∉ xs := of_decide_eq_false (by simpa using h1)
        refine ⟨_, rfl, .inl ⟨rfl, _, SqL.of hl2⟩, _, rfl, l, _, _, rfl, rfl, hl2, ?_, ?_⟩
        · rw [List.length_map]
          exact Nat.lt_of_le_of_lt (by omega : _ ≤ 1000) (by decide)
        · exact app z H2 _ (k1.trans k2) (X2.mono (by omega)) hl2 nz hzx
    · rintro σ H' ⟨xs, ⟨v, u, rfl⟩, N, hx, k1, X1⟩
      exact ⟨_, rfl, q l xs H' hl hlb N (by omega) k1 (X1.mono (by omega))⟩
end
end N4
set_option maxRecDepth 100000
set_option maxHeartbeats 4000000
namespace N4
open PySem L2 Evl GP HR SC SetM SetH
/-- the pieces of a walk through names: ps are places, two neighbours differ -/
structure Plc (m : Nat) (ps : List Int) : Prop where
  rg : ∀ p ∈ ps, 0 ≤ p ∧ p < (m : Int)
  df : ∀ (j : Nat) (p q : Int), ps[j]? = some p → ps[j + 1]? = some q → p ≠ q
theorem Plc.snoc {m : Nat} {ps : List Int} {q : Int} (h : Plc m ps) (hq : 0 ≤ q ∧ q < (m : Int)) (hl : ∀ p, ps[ps.length - 1]? = some p → p ≠ q) : Plc m (ps ++ [q]) := by
  refine ⟨fun p hp => ?_, fun j p r h1 h2 => ?_⟩
  · rcases List.mem_append.mp hp with hp | hp
    · exact h.rg p hp
    · rw [List.mem_singleton.mp hp]; exact hq
  · have hj2 := (List.getElem?_eq_some_iff.mp h2).1
    rw [List.length_append, List.length_singleton] at hj2
    rw [List.getElem?_append_left (by omega)] at h1
    by_cases hj : j + 1 < ps.length
    · rw [List.getElem?_append_left hj] at h2
      exact h.df j p r h1 h2
    · have e : j + 1 = ps.length := by omega
      rw [List.getElem?_append_right (by omega), e, Nat.sub_self] at h2
      cases h2
      exact hl p (by rw [show ps.length - 1 = j by omega]; exact h1)
theorem next_place {m : Nat} {p t : Int} (hm : 2 ≤ m) (hp : 0 ≤ p ∧ p < (m : Int)) (h0 : 0 ≤ t) (h1 : t < (m : Int) - 1) : 0 ≤ (p + 1 + t).fmod (m : Int) ∧ (p + 1 + t).fmod (m : Int) < (m : Int) ∧ p ≠ (p + 1 + t).fmod (m : Int) := by
  rw [Int.fmod_eq_emod_of_nonneg _ (by omega)]
  refine ⟨Int.emod_nonneg _ (by omega), Int.emod_lt_of_pos _ (by omega), fun e => ?_⟩
  by_cases h : p + 1 + t < (m : Int)
  · rw [Int.emod_eq_of_lt (by omega) h] at e
    omega
  · rw [show (p + 1 + t) = (p + 1 + t - m) + m by omega, Int.add_emod_right, Int.emod_eq_of_lt (by omega) (by omega)] at e
    omega
section
variable {P : Program} {w : World} {K : PySem.W.Frag} {mg : Str → Option Value} {base : Heap} {a : Ad} {d : Fd}
theorem ok_law_heights (T : TX K mg a) (D : FDS K a d) : FnOk P w K mg base CX0 4 a.a_law_heights d.a_law_heights ["box", "names"] spHeights := by
  have G__law_take : FnOk P w K mg base CX0 2 a.a_law_take d.a_law_take ["box", "size"] spTake := ok_law_take T D
  have G__law_far : FnOk P w K mg base CX0 3 a.a_law_far d.a_law_far ["box"] spFar := ok_law_far T D
  refine D.F__law_heights.ok sc_law_heights (fun vs H Q E h => ?_) (fun cdv A outer s H vs Q E hr h => ?_)
  · obtain ⟨b, l, n, xs, rfl, _⟩ := h
    rfl
  · obtain ⟨b, l, n, xs, rfl, X, hn, hlb, N, hx, q⟩ := h
    refine ⟨_, (pss_cons (ps_set (i := 2) sc_law_heights.nd rfl (Or.inl rfl) pe_dnewK)
        (pss_cons (ps_set (i := 3) sc_law_heights.nd rfl (Or.inl rfl) (pe_call G__law_take (hr.mono (by decide)) rfl T.f__law_take T.k__law_take D.B__law_take .nil pass0 (pa_cons (pv 0) (pa_cons pe_int pa_nil))))
        (pss_cons (ps_for PassesOwn.never rfl (pi_list (pv 1)) (pg_name (i := 4) sc_law_heights.nd rfl (Or.inl rfl)) (pss_cons (ps_dput (hu_of hr) (pv 2) (pv 4) pe_int rfl)
        (pss_one (ps_if (PW.pt (pw_and (pt_cmpR op_gt (pv 3) pe_int (nomark _)) (pw_and1 (pt_cmpR op_eq (pe_call G__law_take (hr.mono (by decide)) rfl T.f__law_take T.k__law_take D.B__law_take .nil pass0 (pa_cons (pv 0) (pa_cons pe_int pa_nil))) pe_int (nomark _))))) (pss_one (ps_dput (hu_of hr) (pv 2) (pv 4) (pe_op op_sub (pe_call G__law_far (hr.mono (by decide)) rfl T.f__law_far T.k__law_far D.B__law_far .nil pass0 (pa_cons (pv 0) pa_nil)) (pe_op op_mul pe_int (pe_op op_pow pe_int pe_int))) rfl)) (pss_one (ps_if (pt_cmpR op_gt (pv 3) pe_int (nomark _)) (pss_one (ps_dput (hu_of hr) (pv 2) (pv 4) (pe_op op_sub (pe_call G__law_take (hr.mono (by decide)) rfl T.f__law_take T.k__law_take D.B__law_take .nil pass0 (pa_cons (pv 0) (pa_cons pe_int pa_nil))) pe_int) rfl)) pss_nil))))))
        (pss_one (ps_ret (pv 2)))))), ?_⟩
    refine fun d hd => ?_
    have hdb := X.ne hd
    refine ⟨_, rfl, b, 3, n, rfl, X.ex (Ex.new hd), by omega, by decide, by decide, fun lev H1 k1 X1 lv0 lv1 => ?_⟩
    have kd : Kp b H H1 := (Kp.ex (Ex.new hd)).trans k1
    have hd1 : H1 d = some (.dK []) := k1.at hdb upd_same
    refine ⟨_, rfl, l, rfl, ⟨_, SqL.of (kd.at hlb N.at_)⟩, for_list (K := K) (a := l) (xs := xs.map V.str) (fun i σ H' => (∃ v : Option V, σ = [some (.ref b), some (.ref l), some (.ref d), some (.int lev), v]) ∧ (∃ kvs : List (Key × V), H' d = some (.dK kvs) ∧ kvs.length ≤ 2 * i ∧ (∀ x ∈ xs.take i, ∃ z : Int, valV kvs (.inr x) = some (.int z)) ∧ ∀ kv ∈ kvs, ∃ x ∈ xs, kv.1 = .inr x) ∧ Kp b H H' ∧ Bx b (n + 1 + 8 * i) H')
      ⟨⟨none, rfl⟩, ⟨[], hd1, Nat.le_refl _, fun x h => absurd h (by simp), fun kv h => absurd h (by simp)⟩, kd, X1⟩ (fun i σ H' _ p => SqL.of (p.2.2.1.at hlb N.at_)) ?_ ?_⟩
    · rintro i y σ H' hi ⟨⟨v, rfl⟩, ⟨kvs, hk, hkl, hall, hks⟩, k2, X2⟩
      obtain ⟨z, hz, rfl⟩ : ∃ z, xs[i]? = some z ∧ y = .str z := by
        rw [List.getElem?_map] at hi
        cases e : xs[i]? with
        | none => rw [e] at hi; cases hi
        | some c => rw [e] at hi; exact ⟨c, rfl, (Option.some.inj hi).symm⟩
      have zin : z ∈ xs := List.mem_of_getElem? hz
      have hi7 : i < xs.length := (List.getElem?_eq_some_iff.mp hz).1
      refine ⟨_, rfl, _, rfl, d, _, rfl, DPut.k (k := Sum.inr z) hk (Nat.lt_of_le_of_lt (by omega : _ ≤ 100) (by decide)), ?_⟩
      generalize hH3 : upd H' d (.dK (putK kvs (.inr z) (.int 0))) = H3
      have hd3 : H3 d = some (.dK (putK kvs (.inr z) (.int 0))) := by rw [← hH3]; exact upd_same
      have k3 : Kp b H H3 := by rw [← hH3]; exact k2.mut hd hdb
      have X3 : Bx b (n + 1 + 8 * i) H3 := by rw [← hH3]; exact Bx.mut X hd k2 X2
      have l3 := length_putK kvs (.inr z) (.int 0)
      have fin0 : ∀ (u : Int) (kv2 : List (Key × V)), (∀ x, valV kv2 (.inr x) = if x = z then some (V.int u) else valV kvs (.inr x)) → ∀ x ∈ xs.take (i + 1), ∃ t : Int, valV kv2 (.inr x) = some (.int t) := by
        intro u kv2 hv x hxm
        rw [hv]
        by_cases e : x = z
        · exact ⟨u, by rw [if_pos e]⟩
        · rw [if_neg e]
          rw [List.take_add_one, hz, Option.toList_some] at hxm
          rcases List.mem_append.mp hxm with hxm | hxm
          · exact hall x hxm
          · exact absurd (List.mem_singleton.mp hxm) e
      have hv1 : ∀ x, valV (putK kvs (.inr z) (.int 0)) (.inr x) = if x = z then some (V.int 0) else valV kvs (.inr x) := fun x => by
        rw [valV_put]
        by_cases e : x = z
        · subst e
          simp
        · rw [if_neg e, if_neg (fun q => e (Sum.inr.inj q))]
      -- a height put anew
      have put : ∀ (u : Int) (H5 : Hp), Kp b H H5 → Bx b (n + 1 + 8 * (i + 1)) H5 → H5 d = some (.dK (putK kvs (.inr z) (.int 0))) →
          (∃ v : Option V, [some (V.ref b), some (.ref l), some (.ref d), some (.int lev), some (.str z)] = [some (.ref b), some (.ref l), some (.ref d), some (.int lev), v]) ∧ (∃ kv : List (Key × V), (upd H5 d (.dK (putK (putK kvs (.inr z) (.int 0)) (.inr z) (.int u)))) d = some (.dK kv) ∧ kv.length ≤ 2 * (i + 1) ∧ (∀ x ∈ xs.take (i + 1), ∃ t : Int, valV kv (.inr x) = some (.int t)) ∧ ∀ p ∈ kv, ∃ x ∈ xs, p.1 = .inr x) ∧ Kp b H (upd H5 d (.dK (putK (putK kvs (.inr z) (.int 0)) (.inr z) (.int u)))) ∧ Bx b (n + 1 + 8 * (i + 1)) (upd H5 d (.dK (putK (putK kvs (.inr z) (.int 0)) (.inr z) (.int u)))) := by
        intro u H5 k5 X5 h5
        refine ⟨⟨_, rfl⟩, ⟨_, upd_same, ?_, fin0 u _ (fun x => ?_), keys_ok (keys_ok hks zin) zin⟩, k5.mut hd hdb, Bx.mut X hd k5 X5⟩
        · have l4 := length_putK (putK kvs (.inr z) (.int 0)) (.inr z) (.int u)
          omega
        · rw [valV_put, hv1]
          by_cases e : x = z
          · subst e
            simp
          · rw [if_neg e, if_neg (fun q => e (Sum.inr.inj q)), if_neg e]
      have l5 : (putK kvs (.inr z) (.int 0)).length < sizeLine := Nat.lt_of_le_of_lt (by omega : _ ≤ 100) (by decide)
      -- if level > 0 and take(12) == 0 .. elif level > 0 ..
      refine ⟨_, rfl, _, _, rfl, rfl, _, rfl, ?_⟩
      refine ite2 (fun h1 => ?_) (fun h1 => iteF ?_)
      · have hlev : 0 < lev := of_decide_eq_true h1
        refine ⟨_, rfl, b, 12, _, rfl, X3, by omega, by decide, by decide, fun t H4 k4 X4 t0 t1 => ⟨rfl, _, rfl, ?_⟩⟩
        have hd4 := k4.at hdb hd3
        refine ite2 (fun h2 => ?_) (fun h2 => ?_)
        · refine ⟨_, rfl, b, _, rfl, X4, by omega, fun u H5 _ k5 X5 => ⟨_, _, rfl, rfl, ⟨by decide, by decide, by decide⟩, _, _, rfl, rfl, .inl ⟨by decide, by decide⟩, _, _, rfl, rfl, _, rfl, _, rfl, d, _, rfl, DPut.k (k := Sum.inr z) (k5.at hdb hd4) l5, ?_⟩⟩
          exact put _ H5 ((k3.trans k4).trans k5) (X5.mono (by omega)) (k5.at hdb hd4)
        · refine ⟨_, rfl, _, _, rfl, rfl, _, rfl, ?_⟩
          refine iteT' h1 ⟨_, rfl, b, 7, _, rfl, X4, by omega, by decide, by decide, fun t2 H5 k5 X5 t3 t4 => ⟨_, _, rfl, rfl, _, rfl, _, rfl, d, _, rfl, DPut.k (k := Sum.inr z) (k5.at hdb hd4) l5, ?_⟩⟩
          exact put _ H5 ((k3.trans k4).trans k5) (X5.mono (by omega)) (k5.at hdb hd4)
      · refine ⟨_, rfl, _, _, rfl, rfl, _, rfl, ?_⟩
        refine iteF' (by simpa using h1) ?_
        exact ⟨⟨_, rfl⟩, ⟨_, hd3, by omega, fin0 0 _ hv1, keys_ok hks zin⟩, k3, X3.mono (by omega)⟩
    · rintro σ H' ⟨⟨v, rfl⟩, ⟨kvs, hk, hkl, hall, hks⟩, k2, X2⟩
      rw [List.length_map, List.take_length] at hall
      rw [List.length_map] at X2
      refine ⟨_, rfl, q d (fun x => match valV kvs (.inr x) with | some (.int z) => z | _ => 0) H' hd ⟨kvs, hk, fun x hxm => ?_, hks, by rw [List.length_map] at hkl; omega⟩ k2 (X2.mono (by omega))⟩
      obtain ⟨z, hz⟩ := hall x hxm
      rw [hz]
end
end N4
set_option maxRecDepth 100000
set_option maxHeartbeats 4000000
/-! set of a tuple of texts -/
namespace TSet
open PySem PySem.Spec PyProof.Rows L2 Froz PySem.W
section
variable {P : Program} {w : World} {A : Around} {E : Value → Shared → Prop} {s : Shared}
/-- set(a tuple), for any way of adding -/
theorem made_anyT {l : Addr} {items : Array Value} {Q : Value → Shared → Prop} (hh : A.handled = none) (hl : s.heap.IsTuple l items) (T : Nat → Heap → Prop)
    (fr : ∀ i h h', T i h → (∀ b o, b ≠ s.heap.objs.size + 1 → h.get? b = some o → h'.get? b = some o) → T i h')
    (zero : ∀ h, h.get? s.heap.objs.size = some (freshSet w) → (∀ b o, s.heap.get? b = some o → h.get? b = some o) → T 0 h)
    (add : ∀ (B : Around) i v (s1 : Shared) (E : Value → Shared → Prop) (Q : Bool → Shared → Prop), B.units ≤ A.units + 3 → items[i]? = some v → T i s1.heap →
      (∀ b h' tk, s1.toks ≤ tk → Heap.SameBut s.heap.objs.size s1.heap h' → T (i + 1) h' → Q b { s1 with heap := h', toks := tk }) → wpAny (model P w) B (setAdd s.heap.objs.size v) Q E s1)
    (k : ∀ (h' : Heap) (tk : Nat), T items.size h' → (∀ b o, s.heap.get? b = some o → h'.get? b = some o) → Q (.ref s.heap.objs.size) { s with heap := h', toks := tk }) :
    wpAny (model P w) A (call (.type "set") [.ref l]) Q E s := by
  obtain ⟨_, _, hmro⟩ := PySem.F.called_set.mro
  have made_ := PySem.F.called_set.made
  have sub_ := PySem.F.called_set.sub
  refine wpAny_call (codeAny_of_tree ?_)
  show wpAny (model P w) _ (callAny (.type "set") _) _ _ _
  refine wpAny_pure ⟨Code.quiet_builtin _ (by decide +kernel), codeAny_builtin PySem.F.entry_type_call ?_⟩
  rw [Around.under_plain (weight_type_call_type "set" [.ref l] []) rfl]
  have notT := PySem.F.called_set.notType
  have canC := PySem.F.called_set.canCreate
  have typC := PySem.F.typeCall_set_1 (.ref l)
  repeat (any_goals (first | assumption | wp_step))
  let S := s.heap.objs.size
  let hp1 := s.heap.push (freshSet w)
  refine codeAny_mono (code_set_led1 (.ref l) (E := E) (Q₁ := fun obj s1 => obj = .ref S ∧ s1 = { s with heap := hp1 }) ⟨rfl, rfl⟩) fun r s1 hr => ?_
  rcases r with _ | e
  case error => exact hr
  cases e with
  | ret obj =>
    obtain ⟨rfl, rfl⟩ := hr
    have atS : hp1.get? S = some (freshSet w) := Heap.get?_push_size _ rfl
    have tyS : Shared.TypeIs { s with heap := hp1 } (.ref S) "set" := ⟨_, atS, rfl⟩
    have iLook := PySem.F.called_set.init.lookup
    have iBind := PySem.F.called_set.init.bind (.ref S)
    repeat (any_goals (first | assumption | wp_step))
    refine codeAny_mono (codeAny_call_builtin (R := wants (fun r s2 => r = .none ∧ ∃ h' tk, s2 = { s with heap := h', toks := tk } ∧ T items.size h' ∧ (∀ b o, s.heap.get? b = some o → h'.get? b = some o)) E)
      PySem.F.called_set.init.plain PySem.F.entry_set_init (check_set_init_1 tyS ?_)) fun r2 s2 hr2 => ?_
    · obtain ⟨ol, hol, cl, nl, dl⟩ := hl
      obtain ⟨ocl, odi, oda, osl⟩ := ol
      simp only at cl dl
      subst cl
      subst dl
      have ltl : l < S := Heap.lt_size hol
      have atl : hp1.get? l = some { cls := .type "tuple", dict := odi, data := .seq items nl, slots := osl } := Heap.get?_push_of_some _ hol
      have ls1 := PySem.F.sub_tuple_set
      have ls2 := PySem.F.sub_tuple_frozenset
      have nd1 : (Value.type "tuple" == Value.type "dict") = false := by decide
      have isl : hp1.IsTuple l items := ⟨_, atl, rfl, nl, rfl⟩
      have szI : hp1.objs.size = S + 1 := Heap.size_push ..
      unfold Builtin.«set.__init__» noKeywords Builtin.Frozenset.updateFrom
      generalize ePI : pyIter = PI
      wp_walk
      subst ePI
      refine wpAny_pyIter_tuple isl ?_
      refine wpAny_bind (wpAny_runValue ?_)
      have h3 : A.in1.in1.in1.handled = none := by simp [hh]
      have nI : l ≠ hp1.objs.size := by rw [szI]; exact Nat.ne_of_lt (Nat.lt_succ_of_lt ltl)
      have nS : S ∉ [hp1.objs.size, l] := by
        rw [szI]
        intro z
        rcases List.mem_cons.mp z with z | z
        · exact absurd z (Nat.ne_of_lt (Nat.lt_succ_self _))
        · exact absurd (List.mem_singleton.mp z) (Nat.ne_of_gt ltl)
      refine loop_any ((Walks.tuple h3 _ l nI items).toS) nS T (fun i h h' t e => fr i h h' t fun b o nb => e b o (by rw [szI]; simpa using nb)) (fun i v s1 E1 Q1 _ pv t q => add _ i v s1 E1 Q1 (Nat.le_refl _) pv t q)
        (items.size - 0) 0 _ (by omega) (Nat.zero_le _) ⟨⟨_, Heap.get?_push_size _ rfl, rfl, rfl⟩, isl.push _⟩ (zero _ (Heap.get?_push_of_some _ atS) fun b o e => Heap.get?_push_of_some _ (Heap.get?_push_of_some _ e)) ?_
      intro s' m t'
      obtain ⟨h', g', d', tk', os'⟩ := s'
      obtain rfl : g' = s.gens := m.gens
      obtain rfl : d' = s.drawn := m.drawn
      obtain rfl : os' = s.os := m.os
      show wpAny _ _ _ _ _ _
      refine wpAny_pure ?_
      show wpAny _ _ (ret Value.none) _ _ _
      refine wpAny_pure ⟨rfl, h', tk', rfl, t', fun b o e => ?_⟩
      have ltb : b < S := Heap.lt_size e
      refine m.heap b o (fun z => ?_) (Heap.get?_push_of_some _ (Heap.get?_push_of_some _ e))
      rcases List.mem_cons.mp z with z | z
      · exact absurd z (Nat.ne_of_lt ltb)
      · have z2 := List.mem_singleton.mp z
        rw [szI] at z2
        exact absurd z2 (Nat.ne_of_lt (Nat.lt_succ_of_lt ltb))
    · rcases r2 with _ | e2
      case error => exact hr2
      cases e2 with
      | ret r =>
        obtain ⟨rfl, h', tk, rfl, t', keep⟩ := hr2
        repeat (any_goals (first | assumption | wp_step))
        exact k _ _ t' keep
      | _ => exact hr2.elim
  | _ => exact hr.elim
/-- set(a tuple of texts) -/
theorem set_txtT {l : Addr} {items : Array Value} {xs : List Str} {Q : Value → Shared → Prop} (hh : A.handled = none) (hl : s.heap.IsTuple l items) (hi : StrsAre items.toList xs) (few : xs.length + 1 < scanBound)
    (k : ∀ (h' : Heap) (tk : Nat) D l', h'.get? s.heap.objs.size = some (sObj "set" D) → Txs P w D l' → (∀ z, z ∈ l' ↔ z ∈ xs) → l'.length ≤ xs.length → (∀ b o, s.heap.get? b = some o → h'.get? b = some o) → Q (.ref s.heap.objs.size) { s with heap := h', toks := tk }) :
    wpAny (model P w) A (call (.type "set") [.ref l]) Q E s := by
  have len : items.size = xs.length := by
    have : ∀ {vs : List Value} {ys : List Str}, StrsAre vs ys → vs.length = ys.length := by
      intro vs ys h
      induction h with
      | nil => rfl
      | cons y t r ih => simp [ih]
    rw [← this hi, Array.length_toList]
  refine made_anyT hh hl (fun i h => ∃ D l', h.get? s.heap.objs.size = some (sObj "set" D) ∧ Txs P w D l' ∧ (∀ z, z ∈ l' ↔ z ∈ xs.take i) ∧ l'.length ≤ i) ?_ ?_ ?_ ?_
  · rintro i h h' ⟨D, l', a, f, m, n⟩ e
    exact ⟨D, l', e _ _ (Nat.ne_of_lt (Nat.lt_succ_self _)) a, f, m, n⟩
  · intro h a _
    exact ⟨(#[], 0, .fresh 0 0 (!w.params.followText "set-order")), [], a, Txs.fresh, fun z => by simp, Nat.le_refl _⟩
  · rintro B i v s1 E1 Q1 _ hv ⟨D, l', a, f, m, n⟩ q
    obtain ⟨z, t, hz, rfl⟩ := strs_get hi (i := i) (v := v) (by rw [Array.getElem?_toList]; exact hv)
    have li : i < xs.length := (List.getElem?_eq_some_iff.mp hz).1
    unfold setAdd
    refine wpAny_holding (wpAny_bind ((strKind P w).pyHash (k := z) (is_str z t) ?_))
    refine add_any (s := { s1 with toks := s1.toks + 1 }) a f (by omega) fun b h' D' l2 same a2 f2 m2 n2 => q b h' (s1.toks + 1) (Nat.le_succ _) same ⟨D', l2, a2, f2, fun y => ?_, by omega⟩
    rw [m2 y, m y, List.take_add_one, hz]
    simp only [Option.toList_some, List.mem_append, List.mem_singleton]
    exact Or.comm
  · rintro h' tk ⟨D, l', a, f, m, n⟩ keep
    exact k h' tk D l' a f (fun z => by rw [m z, List.take_of_length_le (by omega)]) (by omega) keep
end
variable {X : Cx}
def rSetXT (K : PySem.W.Frag) (P : Program) (w : World) : List V → Hp → VK → Prop := fun vs H Q => ∃ (a : Addr) (xs : List Str), vs = [V.ref a] ∧ SqT K H a (xs.map V.str) ∧ xs.length < 64 ∧
  ∀ (l : List Str) (p : Addr), l.Nodup → (∀ z, z ∈ l ↔ z ∈ xs) → l.length ≤ xs.length → H p = none → Q (.ref p) (upd H p (SetX P w p l))
theorem cr_setXT (hc : X.calm = true) : CallR X (.type "set") (rSetXT X.K X.prog X.w) := by
  intro pins s σ H vs us Q I r h
  obtain ⟨a, xs, rfl, hs, few, q⟩ := h
  obtain ⟨its, rv, hl, _⟩ := I.tuple hs
  rw [Vals.ref1 r]
  refine set_txtT (I.ok.hd hc) (show s.heap.IsTuple a its.toArray from hl) rv.strs (by unfold scanBound; omega) fun h' tk D l' e F m ll keep => ?_
  exact ⟨.ref _, upd H s.heap.objs.size (SetX X.prog X.w s.heap.objs.size l'), I.laid (t' := tk) keep (Nat.le_refl _) (setX_new ⟨D, e, F⟩), rfl, q l' _ F.nd m ll (I.hok.fresh (Nat.le_refl _))⟩
theorem cr_setXTK {K : PySem.W.Frag} {P : Program} {w : World} (hc : X.calm = true) (hK : X.K = K := by rfl) (hP : X.prog = P := by rfl) (hw : X.w = w := by rfl) : CallR X (.type "set") (rSetXT K P w) := by
  subst hK hP hw
  exact cr_setXT hc
end TSet
set_option maxRecDepth 100000
set_option maxHeartbeats 8000000
namespace N4
open PySem L2 Evl GP HR SC SetM SetH
def Raised (c : Addr) (f : Str) (v : V) (H : Hp) (E : XK) : Prop := ∀ dd H', Ex H H' → H dd = none → H' dd = some (.xd [(f, v)]) → E (.ref c) (some dd) H'
theorem Raised.ex {c : Addr} {f : Str} {v : V} {H H1 : Hp} {E : XK} (r : Raised c f v H E) (e : Ex H H1) : Raised c f v H1 E := fun dd H' e' n h => r dd H' (e.trans e') (fresh_back e n) h
/-- the errors that the program raises -/
structure ER (K : PySem.W.Frag) (mg : Str → Option Value) (P : Program) (a : Ad) (fL fN fU fI : Addr) : Prop where
  eL : PySem.Sup.SupTxt K mg P "InvalidLiteral" "value" "not a literal" a.cL fL
  eN : PySem.Sup.SupTxt K mg P "InvalidName" "name" "not a name" a.cN fN
  eU : PySem.Sup.SupTxt K mg P "UnknownMoment" "name" "not a listed moment" a.cU fU
  eI : PySem.Sup.SupTxt K mg P "Inconsistent" "ring" "the net has a negative ring" a.cI fI
/-- a row is a bound -/
def RowOk (d : Row) : Prop := isNameS d.1 = true ∧ isNameS d.2.1 = true ∧ d.1 ≠ d.2.1
def rowV (d : Row) : List V := [.str "most", .str d.1, .str d.2.1, .int d.2.2]
theorem row_dp {K : PySem.W.Frag} {H : Hp} {p : Addr} {d : Row} (h : SqT K H p (rowV d)) : Dp K H (.ref p) (bD d) := .tup h (.cons (.str _) (.cons (.str _) (.cons (.str _) (.cons (.int _) .nil))))
theorem row_sz {d : Row} (h : RowOk d) : szD (bD d) := by
  obtain ⟨h1, h2, _⟩ := h
  intro e he
  simp only [List.mem_cons, List.not_mem_nil, or_false] at he
  rcases he with rfl | rfl | rfl | rfl
  · show ("most" : Str).length ≤ sizeLine
    decide +kernel
  · exact line8 h1
  · exact line8 h2
  · exact True.intro
theorem row_is {d : Row} (h : RowOk d) : isBoundD (bD d) = true := by
  obtain ⟨h1, h2, h3⟩ := h
  show isBoundD (.tuple [.str "most", .str d.1, .str d.2.1, .int d.2.2]) = true
  rw [isBound4, show isNameD (.str d.1) = true from h1, show isNameD (.str d.2.1) = true from h2, show sameD (.str d.1) (.str d.2.1) = false from decide_eq_false h3, (by simp [isMostD] : isMostD (.str ("most" : Str)) = true)]
  rfl
theorem RowsAt.get {H : Hp} {vs : List V} {ds : List Row} (A : RowsAt H vs ds) {i : Nat} {v : V} (h : vs[i]? = some v) : ∃ d p, ds[i]? = some d ∧ v = .ref p ∧ H p = some (.tup (rowV d)) := by
  have hi : i < ds.length := by rw [← A.1]; exact (List.getElem?_eq_some_iff.mp h).1
  obtain ⟨p, e, hp⟩ := A.2 i v ds[i] h (List.getElem?_eq_getElem hi)
  exact ⟨ds[i], p, List.getElem?_eq_getElem hi, e, hp⟩
theorem RowsAt.at {H : Hp} {vs : List V} {ds : List Row} (A : RowsAt H vs ds) {i : Nat} {d : Row} (h : ds[i]? = some d) : ∃ p, vs[i]? = some (.ref p) ∧ H p = some (.tup (rowV d)) := by
  have hi : i < vs.length := by rw [A.1]; exact (List.getElem?_eq_some_iff.mp h).1
  obtain ⟨p, e, hp⟩ := A.2 i vs[i] d (List.getElem?_eq_getElem hi) h
  exact ⟨p, by rw [List.getElem?_eq_getElem hi, e], hp⟩
theorem RowsAt.ex {H H1 : Hp} {vs : List V} {ds : List Row} (A : RowsAt H vs ds) (e : Ex H H1) : RowsAt H1 vs ds := A.keep (TK.ex e)
theorem RowsAt.nil {H : Hp} : RowsAt H [] [] := ⟨rfl, fun j v d h => by simp at h⟩
theorem sl_tupK {X : Cx} {K : PySem.W.Frag} (h : X.K = K := by rfl) : SlR X (rSlA K) := by
  subst h
  exact sl_tupA
theorem pi_tupK {X : Cx} {K : PySem.W.Frag} {tg l : Expr} {tl : TE} (he : PE X l tl) (h : X.K = K := by rfl) : PI X tg l (iTup K tl) := by
  subst h
  exact pi_tup he
def nm2 (d : Row) : List Str := [d.1, d.2.1]
theorem sub_len : ∀ {l m : List Str}, l.Nodup → (∀ z ∈ l, z ∈ m) → l.length ≤ m.length := by
  intro l
  induction l with
  | nil => exact fun _ _ => Nat.zero_le _
  | cons x l ih =>
    intro m nd h
    obtain ⟨nx, nd'⟩ := List.nodup_cons.mp nd
    have hx := h x List.mem_cons_self
    have := ih (m := m.erase x) nd' fun z hz => (List.mem_erase_of_ne fun e => nx (by rw [← e]; exact hz)).mpr (h z (List.mem_cons_of_mem _ hz))
    rw [List.length_erase_of_mem hx] at this
    have := List.length_pos_of_mem hx
    rw [List.length_cons]
    omega
def spChk (K : PySem.W.Frag) (cL : Addr) : Sp := fun vs H Q E => ∃ v d, vs = [v] ∧ Dp K H v d ∧ szD d ∧ (isBoundD d = true → ∀ H', Ex H H' → Q .non H') ∧ (isBoundD d = false → Raised cL "value" v H E)
def spMoments (K : PySem.W.Frag) : Sp := fun vs H Q _ => ∃ (a : Addr) (us : List V) (ls : List Row) (pool : List Str), vs = [.ref a] ∧ SqT K H a us ∧ RowsAt H us ls ∧ (∀ l ∈ ls, RowOk l) ∧ pool.length ≤ 50 ∧ (∀ l ∈ ls, ∀ z ∈ nm2 l, z ∈ pool) ∧
  ∀ u ys H', Ex H H' → H' u = some (.tup (ys.map V.str)) → ys.Nodup → PyProof.Rows.sortedS ys = true → (∀ z, z ∈ ys ↔ ∃ l ∈ ls, z ∈ nm2 l) → Q (.ref u) H'
section
variable {P : Program} {w : World} {K : PySem.W.Frag} {mg : Str → Option Value} {base : Heap} {a : Ad} {d : Fd} {fL fN fU fI : Addr}
theorem ok_check_bound (T : TX K mg a) (D : FDS K a d) (R : ER K mg P a fL fN fU fI) : FnOk P w K mg base (L2N.CX P w) 3 a.a_check_bound d.a_check_bound ["value"] (spChk K a.cL) := by
  have G_is_bound : FnOk P w K mg base CX0 2 a.a_is_bound d.a_is_bound ["value"] (spIsBound K) := ok_is_bound T D
  refine NX.okX D.F_check_bound sc_check_bound (fun vs H Q E h => ?_) (fun cdv A outer s H vs Q E hr h => ?_)
  · obtain ⟨v, d, rfl, _⟩ := h
    rfl
  · obtain ⟨v, d, rfl, hd, sz, q1, q2⟩ := h
    refine ⟨_, (pss_one (ps_if (pt_not (pt_val (pe_call G_is_bound (hr.mono (by decide)) rfl T.f_is_bound T.k_is_bound D.B_is_bound .nil pass0 (pa_cons (pv 0) pa_nil)))) (pss_one (NX.ps_raiseSup rfl R.eL hr (L2N.takes_of rfl rfl rfl rfl) (by exact (pa_cons (pv 0) pa_nil)))) pss_nil)), ?_⟩
    refine ⟨_, rfl, v, d, rfl, hd, sz, fun H1 e1 => ⟨_, rfl, ?_⟩⟩
    cases hb : isBoundD d with
    | true => exact iteF' rfl (q1 hb H1 e1)
    | false => exact iteT' rfl ⟨_, rfl, _, rfl, fun dd hdd => q2 hb dd _ (e1.trans (Ex.new hdd)) (fresh_back e1 hdd) upd_same⟩
theorem ok_moments_of (T : TX K mg a) (D : FDS K a d) : FnOk P w K mg base CX0 3 a.a_moments_of d.a_moments_of ["literals"] (spMoments K) := by
  have G_is_bound : FnOk P w K mg base CX0 2 a.a_is_bound d.a_is_bound ["value"] (spIsBound K) := ok_is_bound T D
  refine D.F_moments_of.ok sc_moments_of (fun vs H Q E h => ?_) (fun cdv A outer s H vs Q E hr h => ?_)
  · obtain ⟨a, us, ls, pool, rfl, _⟩ := h
    rfl
  · obtain ⟨a, us, ls, pool, rfl, ha, L, ok, p50, sub, fin⟩ := h
    refine ⟨_, (pss_one (ps_ret (pe_callTy call_tuple_of (by rfl) T.b_tuple (by decide +kernel) (pa_cons (pe_callB (TSet.cr_sortedX rfl) (by rfl) T.b_sorted (by decide +kernel) (pa_cons (SC.pe_sc2 (own := [("literal", 1), ("name", 2)]) (vs1 := [2]) (g := gName 1) (g1 := gName 2) (tt1 := tYes) rfl sc_moments_of.nd (pi_tup (pv 0)) (blkOk_by (N := ["literals", "literal", "name"]) (sc := defScope s_moments_of) (by decide +kernel)) (by decide) (fun _ _ _ _ _ => (pg_name (i := 1) sc_moments_of.nd rfl (Or.inl rfl))) (fun _ _ _ _ _ => (pts_one (pt_val (pe_call G_is_bound (hr.mono (by decide)) rfl T.f_is_bound T.k_is_bound D.B_is_bound .nil pass0 (pa_cons (pv 1) pa_nil))))) (fun _ _ _ _ _ => (pi_tupK (K := K) (pe_slice (sl_tupK (K := K)) (pv 1) (po_some pe_int) (po_some pe_int)))) (fun _ _ _ _ _ => (pg_name (i := 2) sc_moments_of.nd rfl (Or.inl rfl))) (fun _ _ _ _ _ => pts_nil) (fun _ _ _ _ _ => (pv 2))) pa_nil)) pa_nil)))), ?_⟩
    have lu := L.1
    refine ⟨_, rfl, a, rfl, ⟨_, ha⟩, fun D1 hD1 => ⟨fun i m H' => m = us.length - i ∧ i ≤ us.length ∧ Ex H H' ∧ ∃ l : List Str, H' D1 = some (TSet.SetX P w D1 l) ∧ l.Nodup ∧ ∀ z, z ∈ l ↔ ∃ q ∈ ls.take i, z ∈ nm2 q, ⟨_, rfl, Nat.zero_le _, Ex.new hD1, [], upd_same, List.nodup_nil, fun z => by simp⟩, ?_⟩⟩
    rintro i m H2 ⟨rfl, hi, e2, l, hl, nd, ml⟩
    have small : ∀ (l : List Str) (i : Nat), l.Nodup → (∀ z ∈ l, ∃ q ∈ ls, z ∈ nm2 q) → l.length ≤ 50 := fun l i nd h => Nat.le_trans (sub_len nd fun z hz => by
      obtain ⟨q, hq, hz⟩ := h z hz
      exact sub q hq z hz) p50
    rcases Nat.lt_or_eq_of_le hi with lt | rfl
    · refine .inr ⟨walk_tup.goes i H2 lt (ex_t e2 ha), fun H' => Ex H H' ∧ ∃ l : List Str, H' D1 = some (TSet.SetX P w D1 l) ∧ l.Nodup ∧ ∀ z, z ∈ l ↔ ∃ q ∈ ls.take (i + 1), z ∈ nm2 q, fun H' h => ⟨_, by omega, rfl, lt, h⟩, fun v H3 hy => ?_⟩
      obtain ⟨rfl, hv⟩ := walk_tup.yields i H2 v H3 lt (ex_t e2 ha) hy
      obtain ⟨q, t, hq, rfl, ht⟩ := L.get hv
      have okq := ok q (List.mem_of_getElem? hq)
      have tk : ls.take (i + 1) = ls.take i ++ [q] := by rw [List.take_add_one, hq]; rfl
      have mq : ∀ z, (∃ r ∈ ls.take (i + 1), z ∈ nm2 r) ↔ (∃ r ∈ ls.take i, z ∈ nm2 r) ∨ z ∈ nm2 q := fun z => by
        rw [tk]
        constructor
        · rintro ⟨r, hr, h⟩
          rcases List.mem_append.mp hr with hr | hr
          · exact .inl ⟨r, hr, h⟩
          · rw [List.mem_singleton.mp hr] at h
            exact .inr h
        · rintro (⟨r, hr, h⟩ | h)
          · exact ⟨r, List.mem_append_left _ hr, h⟩
          · exact ⟨q, List.mem_append_right _ (List.mem_singleton.mpr rfl), h⟩
      obtain ⟨x, y, k⟩ := q
      unfold gName
      dsimp only
      refine ⟨rfl, _, rfl, .ref t, bD (x, y, k), rfl, row_dp (SqT.of (e2 _ _ ht)), row_sz okq, fun H4 e4 => ⟨_, rfl, ?_⟩⟩
      rw [row_is okq]
      · refine iteT' rfl ⟨_, rfl, 1, rfl, 3, rfl, t, _, rfl, SqT.of (e4 _ _ (e2 _ _ ht)), fun z => absurd z.1 (by decide : ¬ (HT.sIx 4 0 (some 1) = 0)), fun _ p2 hp2 => ?_⟩
        have x2 := Ex.new (o := .tup [.str x, .str y]) hp2
        have h2 : upd H4 p2 (.tup (cutV (rowV (x, y, k)) (some 1) (some 3))) p2 = some (.tup [.str x, .str y]) := upd_same
        have xx : Ex H (upd H4 p2 (.tup (cutV (rowV (x, y, k)) (some 1) (some 3)))) := (e2.trans e4).trans x2
        have hl4 : upd H4 p2 (.tup (cutV (rowV (x, y, k)) (some 1) (some 3))) D1 = some (TSet.SetX P w D1 l) := x2 _ _ (e4 _ _ hl)
        generalize upd H4 p2 (.tup (cutV (rowV (x, y, k)) (some 1) (some 3))) = H5 at *
        refine ⟨p2, rfl, ⟨_, SqT.of h2⟩, fun j m H' => m = 2 - j ∧ j ≤ 2 ∧ Ex H H' ∧ H' p2 = some (.tup [.str x, .str y]) ∧ ∃ l : List Str, H' D1 = some (TSet.SetX P w D1 l) ∧ l.Nodup ∧ ∀ z, z ∈ l ↔ (∃ q ∈ ls.take i, z ∈ nm2 q) ∨ z ∈ [x, y].take j, ⟨_, rfl, Nat.zero_le _, xx, h2, l, hl4, nd, fun z => by rw [ml z]; simp⟩, ?_⟩
        rintro j m H6 ⟨rfl, hj, e6, g6, l6, hl6, nd6, ml6⟩
        rcases Nat.lt_or_eq_of_le hj with ltj | rfl
        · refine .inr ⟨(walk_tup (xs := [V.str x, V.str y])).goes j H6 ltj (SqT.of g6), fun H' => Ex H H' ∧ H' p2 = some (.tup [.str x, .str y]) ∧ ∃ l : List Str, H' D1 = some (TSet.SetX P w D1 l) ∧ l.Nodup ∧ ∀ z, z ∈ l ↔ (∃ q ∈ ls.take i, z ∈ nm2 q) ∨ z ∈ [x, y].take (j + 1), fun H' h => ⟨_, by omega, rfl, ltj, h⟩, fun v H7 hy => ?_⟩
          obtain ⟨rfl, hv⟩ := (walk_tup (xs := [V.str x, V.str y])).yields j H6 v H7 ltj (SqT.of g6) hy
          obtain ⟨z0, hz0, rfl⟩ : ∃ z0 : Str, [x, y][j]? = some z0 ∧ v = .str z0 := by
            have : j = 0 ∨ j = 1 := by omega
            rcases this with rfl | rfl
            · exact ⟨x, rfl, (Option.some.inj hv).symm⟩
            · exact ⟨y, rfl, (Option.some.inj hv).symm⟩
          unfold tYes
          dsimp only
          refine ⟨rfl, iteT' rfl ⟨_, rfl, l6, z0, rfl, hl6, ?_, fun l' nd' ml' _ => ?_⟩⟩
          · have h50 : l6.length ≤ 50 := Nat.le_trans (sub_len nd6 fun z hz => by
              rcases (ml6 z).mp hz with ⟨r, hr, h⟩ | h
              · exact sub r (List.mem_of_mem_take hr) z h
              · exact sub _ (List.mem_of_getElem? hq) z (List.mem_of_mem_take h)) p50
            omega
          · have nD : p2 ≠ D1 := fun e => by rw [e, hl6] at g6; cases g6
            refine ⟨e6.mut hD1, by rw [upd_ne nD]; exact g6, l', upd_same, nd', fun z => ?_⟩
            rw [ml' z, ml6 z, List.take_add_one, hz0]
            simp only [Option.toList_some, List.mem_append, List.mem_singleton]
            constructor
            · rintro (h | h | h)
              · exact .inr (.inr h)
              · exact .inl h
              · exact .inr (.inl h)
            · rintro (h | h | h)
              · exact .inr (.inl h)
              · exact .inr (.inr h)
              · exact .inl h
        · exact .inl ⟨(walk_tup (xs := [V.str x, V.str y])).stops H6 (SqT.of g6), e6, l6, hl6, nd6, fun z => by rw [ml6 z, mq z]; rfl⟩
    · refine .inl ⟨walk_tup.stops H2 (ex_t e2 ha), D1, l, rfl, hl, ?_, fun ys p pm so hp => ⟨p, _, rfl, .inl ⟨SqL.of upd_same, fun u hu => ?_⟩⟩⟩
      · rw [lu, List.take_length] at ml
        have := small l 0 nd fun z hz => (ml z).mp hz
        omega
      · rw [lu, List.take_length] at ml
        exact fin u ys _ (e2.trans ((Ex.new hp).trans (Ex.new hu))) upd_same (pm.nodup_iff.mpr nd) so fun z => by rw [pm.mem_iff, ml z]
end
end N4
set_option maxRecDepth 100000
set_option maxHeartbeats 4000000
namespace N4
open PySem L2 Evl GP HR SC SetM SetH
open PySem.W (dataLt alike alikeAll keyToks keyToksAll)
/-! ### chains and their order -/
theorem row_eqv (b d : Row) : PyData.eqv (bD b) (bD d) = decide (b = d) := by
  obtain ⟨x, y, k⟩ := b
  obtain ⟨u, v, j⟩ := d
  apply Bool.eq_iff_iff.mpr
  simp [bD, PyData.eqv, PyData.eqvAll]
theorem row_alike (b d : Row) : alike (bD b) (bD d) = true := by simp [bD, alike, alikeAll]
theorem row_toks {b d : Row} (h : keyToks (bD b) = keyToks (bD d)) : b = d := by
  obtain ⟨x, y, k⟩ := b
  obtain ⟨u, v, j⟩ := d
  simp only [bD, keyToks, keyToksAll, List.cons_append, List.nil_append, List.cons.injEq, Sum.inr.injEq, Sum.inl.injEq, true_and, and_true] at h
  rw [toList_inj h.1, toList_inj h.2.1, h.2.2]
def ltC (c d : List Row) : Bool := dataLt (.tuple (c.map bD)) (.tuple (d.map bD))
theorem ltC_cons (b d : Row) (c e : List Row) : ltC (b :: c) (d :: e) = if b = d then ltC c e else dataLt (bD b) (bD d) := by
  show PyProof.Rows.lexLt PyProof.Rows.itemOrd (keyToksAll (bD b :: c.map bD)) (keyToksAll (bD d :: e.map bD)) = _
  by_cases h : b = d
  · rw [if_pos h, PySem.W.dataLt_all_yes (row_alike b d) (by rw [row_eqv, decide_eq_true h])]
    rfl
  · rw [if_neg h, PySem.W.dataLt_all_no (row_alike b d) (by rw [row_eqv, decide_eq_false h])]
theorem ltC_irr (c : List Row) : ltC c c = false := PyProof.Rows.lex_irrefl _
theorem dlt_trans {a b c : PyData} (h1 : dataLt a b = true) (h2 : dataLt b c = true) : dataLt a c = true := PyProof.Rows.lex_trans _ _ _ h1 h2
theorem dlt_asym {a b : PyData} (h : dataLt a b = true) : dataLt b a = false := by
  cases g : dataLt b a with
  | false => rfl
  | true =>
    have := dlt_trans h g
    rw [show dataLt a a = false from PyProof.Rows.lex_irrefl _] at this
    cases this
theorem dlt_neg {a b c : PyData} (h1 : dataLt a b = false) (h2 : dataLt b c = false) : dataLt a c = false := by
  cases g : dataLt a c with
  | false => rfl
  | true =>
    rcases PyProof.Rows.lex_negTrans _ (keyToks b) _ g with k | k
    · exact absurd (h1.symm.trans k) Bool.false_ne_true
    · exact absurd (h2.symm.trans k) Bool.false_ne_true
theorem row_total {b d : Row} (h1 : dataLt (bD b) (bD d) = false) (h2 : dataLt (bD d) (bD b) = false) : b = d := row_toks (PyProof.Rows.lex_total _ _ h1 h2)
theorem ltC_total : ∀ {c d : List Row}, c.length = d.length → ltC c d = false → ltC d c = false → c = d
  | [], [], _, _, _ => rfl
  | [], _ :: _, h, _, _ => by simp at h
  | _ :: _, [], h, _, _ => by simp at h
  | b :: c, d :: e, h, h1, h2 => by
    rw [ltC_cons] at h1 h2
    by_cases q : b = d
    · subst q
      rw [if_pos rfl] at h1 h2
      rw [ltC_total (by simpa using h) h1 h2]
    · rw [if_neg q] at h1
      rw [if_neg fun z => q z.symm] at h2
      exact absurd (row_total h1 h2) q
theorem ltC_pre (a : List Row) (c d : List Row) : ltC (a ++ c) (a ++ d) = ltC c d := by
  induction a with
  | nil => rfl
  | cons x a ih => rw [List.cons_append, List.cons_append, ltC_cons, if_pos rfl, ih]
theorem ltC_app : ∀ {c d : List Row} (e f : List Row), c.length = d.length → ltC c d = true → ltC (c ++ e) (d ++ f) = true
  | [], [], _, _, _, h => by rw [ltC_irr] at h; cases h
  | [], _ :: _, _, _, h, _ => by simp at h
  | _ :: _, [], _, _, h, _ => by simp at h
  | b :: c, d :: g, e, f, h, h1 => by
    rw [ltC_cons] at h1
    rw [List.cons_append, List.cons_append, ltC_cons]
    by_cases q : b = d
    · rw [if_pos q] at h1 ⊢
      exact ltC_app e f (by simpa using h) h1
    · rw [if_neg q] at h1 ⊢
      exact h1
def sumR : List Row → Int
  | [] => 0
  | b :: c => b.2.2 + sumR c
theorem sumR_app (c d : List Row) : sumR (c ++ d) = sumR c + sumR d := by
  induction c with
  | nil => simp [sumR]
  | cons b c ih => rw [List.cons_append]; simp only [sumR, ih]; omega
structure Way where
  t : Int
  c : List Row
def wy (c : List Row) : Way := ⟨sumR c, c⟩
def wayD (w : Way) : PyData := .tuple [.int w.t, .int (w.c.length : Nat), .tuple (w.c.map bD)]
def ltW (p q : Way) : Bool := dataLt (wayD p) (wayD q)
theorem int_alike (i j : Int) : alike (.int i) (.int j) = true := by simp [alike]
theorem int_eqv (i j : Int) : PyData.eqv (.int i) (.int j) = decide (i = j) := by
  apply Bool.eq_iff_iff.mpr
  simp [PyData.eqv]
theorem alikeC : ∀ c d : List Row, alikeAll (c.map bD) (d.map bD) = true
  | [], d => by cases d <;> simp [alikeAll]
  | _ :: _, [] => by simp [alikeAll]
  | b :: c, d :: e => by simp [alikeAll, row_alike, alikeC c e]
theorem eqvC : ∀ c d : List Row, PyData.eqvAll (c.map bD) (d.map bD) = decide (c = d)
  | [], [] => by simp [PyData.eqvAll]
  | [], _ :: _ => by simp [PyData.eqvAll]
  | _ :: _, [] => by simp [PyData.eqvAll]
  | b :: c, d :: e => by simp [PyData.eqvAll, row_eqv, eqvC c e, Bool.decide_and]
theorem way_alike (p q : Way) : alike (wayD p) (wayD q) = true := by simp [wayD, alike, alikeAll, alikeC]
theorem ltW_eq (p q : Way) : ltW p q = if p.t = q.t then (if p.c.length = q.c.length then ltC p.c q.c else decide (p.c.length < q.c.length)) else decide (p.t < q.t) := by
  show PyProof.Rows.lexLt PyProof.Rows.itemOrd (keyToksAll [.int p.t, .int (p.c.length : Nat), .tuple (p.c.map bD)]) (keyToksAll [.int q.t, .int (q.c.length : Nat), .tuple (q.c.map bD)]) = _
  by_cases h : p.t = q.t
  · rw [if_pos h, PySem.W.dataLt_all_yes (int_alike _ _) (by rw [int_eqv, decide_eq_true h])]
    by_cases h2 : p.c.length = q.c.length
    · rw [if_pos h2, PySem.W.dataLt_all_yes (int_alike _ _) (by rw [int_eqv, decide_eq_true (by omega)])]
      have al : alike (.tuple (p.c.map bD)) (.tuple (q.c.map bD)) = true := by simp [alike, alikeC]
      by_cases h3 : p.c = q.c
      · rw [h3, ltC_irr]
        exact PyProof.Rows.lex_irrefl _
      · rw [PySem.W.dataLt_all_no al (by simp [PyData.eqv, eqvC, h3])]
        rfl
    · rw [if_neg h2, PySem.W.dataLt_all_no (int_alike _ _) (by rw [int_eqv, decide_eq_false (by omega)]), PySem.W.dataLt_int]
      simp
  · rw [if_neg h, PySem.W.dataLt_all_no (int_alike _ _) (by rw [int_eqv, decide_eq_false h]), PySem.W.dataLt_int]
/-- p is not behind q -/
def leW (p q : Way) : Prop := ltW q p = false
theorem leW.refl (p : Way) : leW p p := PyProof.Rows.lex_irrefl _
theorem leW.trans {p q r : Way} (h1 : leW p q) (h2 : leW q r) : leW p r := dlt_neg h2 h1
theorem leW.less {p q : Way} (h : p.t < q.t) : leW p q := by
  unfold leW
  rw [ltW_eq, if_neg (by omega)]
  simp
  omega
theorem leW.short {p q : Way} (h : p.t ≤ q.t) (h2 : p.c.length < q.c.length) : leW p q := by
  unfold leW
  rw [ltW_eq]
  by_cases e : q.t = p.t
  · rw [if_pos e, if_neg (by omega)]
    simp
    omega
  · rw [if_neg e]
    simp
    omega
theorem leW.le {p q : Way} (h : leW p q) : p.t ≤ q.t := by
  unfold leW at h
  rw [ltW_eq] at h
  by_cases e : q.t = p.t
  · omega
  · rw [if_neg e] at h
    have := of_decide_eq_false h
    omega
theorem leW.asym {p q : Way} (h1 : leW p q) (h2 : leW q p) : p.t = q.t ∧ p.c = q.c := by
  have l1 := h1.le
  have l2 := h2.le
  have e : p.t = q.t := by omega
  unfold leW at h1 h2
  rw [ltW_eq, if_pos e.symm] at h1
  rw [ltW_eq, if_pos e] at h2
  by_cases l : p.c.length = q.c.length
  · rw [if_pos l.symm] at h1
    rw [if_pos l] at h2
    exact ⟨e, ltC_total l h2 h1⟩
  · rw [if_neg fun z => l z.symm] at h1
    rw [if_neg l] at h2
    have := of_decide_eq_false h1
    have := of_decide_eq_false h2
    omega
def over (p : Way) (b : Row) (q : Way) : Way := ⟨p.t + b.2.2 + q.t, p.c ++ b :: q.c⟩
theorem ltC_same {c d : List Row} (r : List Row) (l : c.length = d.length) (h : ltC c d = false) : ltC (c ++ r) (d ++ r) = false := by
  by_cases g : ltC d c = true
  · have := ltC_app r r l.symm g
    exact dlt_asym this
  · have e := ltC_total l h (by simpa using g)
    rw [e, ltC_irr]
theorem over_left {p p' q : Way} (b : Row) (h : leW p p') : leW (over p b q) (over p' b q) := by
  have l := h.le
  unfold leW at h ⊢
  rw [ltW_eq] at h ⊢
  simp only [over, List.length_append, List.length_cons]
  by_cases e : p'.t = p.t
  · rw [if_pos e] at h
    rw [if_pos (by omega)]
    by_cases n : p'.c.length = p.c.length
    · rw [if_pos n] at h
      rw [if_pos (by omega)]
      exact ltC_same _ n h
    · rw [if_neg n] at h
      have := of_decide_eq_false h
      rw [if_neg (by omega)]
      simp
      omega
  · rw [if_neg (by omega)]
    simp
    omega
theorem over_right {p q q' : Way} (b : Row) (h : leW q q') : leW (over p b q) (over p b q') := by
  have l := h.le
  unfold leW at h ⊢
  rw [ltW_eq] at h ⊢
  simp only [over, List.length_append, List.length_cons]
  by_cases e : q'.t = q.t
  · rw [if_pos e] at h
    rw [if_pos (by omega)]
    by_cases n : q'.c.length = q.c.length
    · rw [if_pos n] at h
      rw [if_pos (by omega), ltC_pre, ltC_cons, if_pos rfl]
      exact h
    · rw [if_neg n] at h
      have := of_decide_eq_false h
      rw [if_neg (by omega)]
      simp
      omega
  · rw [if_neg (by omega)]
    simp
    omega
theorem over_wy (c d : List Row) (b : Row) : over (wy c) b (wy d) = wy (c ++ b :: d) := by
  unfold over wy
  simp only [sumR_app, sumR, Way.mk.injEq, and_true]
  omega
/-! ### the best ways -/
abbrev WMap := Str → Str → Option Way
def best (m : WMap) (x y : Str) : Option Way := if x = y then some ⟨0, []⟩ else m x y
def lesser (p q : Way) : Way := if ltW q p = true then q else p
def growW (m : WMap) (ms : List Str) (b : Row) : WMap := fun s e =>
  if s ∈ ms ∧ e ∈ ms ∧ s ≠ e then
    match best m s b.1, best m b.2.1 e with
    | some p, some q => some (lesser (over p b q) ((m s e).getD (over p b q)))
    | _, _ => m s e
  else m s e
def addW (m : WMap) (ms : List Str) (b : Row) : WMap := match best m b.1 b.2.1 with
  | some o => if o.t < b.2.2 then m else growW m ms b
  | none => growW m ms b
abbrev RW := Option (List Row) × WMap
def stepR (ms : List Str) (r : RW) (b : Row) : RW := match r.1 with
  | some _ => r
  | none => match best r.2 b.2.1 b.1 with
    | some q => if q.t + b.2.2 < 0 then (some (b :: q.c), r.2) else (none, addW r.2 ms b)
    | none => (none, addW r.2 ms b)
def netW (ms : List Str) (bs : List Row) : RW := bs.foldl (stepR ms) (none, fun _ _ => none)
/-- c is a walk from x to y among the bounds of bs -/
def Wk (bs : List Row) : Str → List Row → Str → Prop
  | x, [], y => x = y
  | x, b :: c, y => b ∈ bs ∧ b.1 = x ∧ Wk bs b.2.1 c y
theorem Wk.app {bs : List Row} : ∀ {c d : List Row} {x y z : Str}, Wk bs x c y → Wk bs y d z → Wk bs x (c ++ d) z
  | [], _, _, _, _, h1, h2 => by
    have h1 : _ = _ := h1
    rw [h1]
    exact h2
  | _ :: _, _, _, _, _, ⟨a, b, h1⟩, h2 => ⟨a, b, Wk.app h1 h2⟩
theorem Wk.sub {bs es : List Row} (s : ∀ b ∈ bs, b ∈ es) : ∀ {c : List Row} {x y : Str}, Wk bs x c y → Wk es x c y
  | [], _, _, h => h
  | _ :: _, _, _, ⟨a, b, h⟩ => ⟨s _ a, b, Wk.sub s h⟩
theorem Wk.one {bs : List Row} {b : Row} (h : b ∈ bs) : Wk bs b.1 [b] b.2.1 := ⟨h, rfl, rfl⟩
theorem Wk.split {bs : List Row} {b : Row} : ∀ {c : List Row} {x y : Str}, Wk (bs ++ [b]) x c y → Wk bs x c y ∨ ∃ c1 c2, c = c1 ++ b :: c2 ∧ Wk bs x c1 b.1 ∧ Wk (bs ++ [b]) b.2.1 c2 y
  | [], _, _, h => .inl h
  | d :: c, x, y, ⟨h1, h2, h3⟩ => by
    rcases List.mem_append.mp h1 with h1 | h1
    · rcases Wk.split h3 with h | ⟨c1, c2, e, g1, g2⟩
      · exact .inl ⟨h1, h2, h⟩
      · exact .inr ⟨d :: c1, c2, by rw [e]; rfl, ⟨h1, h2, g1⟩, g2⟩
    · obtain rfl := List.mem_singleton.mp h1
      exact .inr ⟨[], c, rfl, h2.symm, h3⟩
theorem Wk.mid {bs : List Row} : ∀ {c d : List Row} {x y : Str}, Wk bs x (c ++ d) y → ∃ z, Wk bs x c z ∧ Wk bs z d y
  | [], _, x, _, h => ⟨x, rfl, h⟩
  | _ :: _, _, _, _, ⟨h1, h2, h3⟩ => by
    obtain ⟨z, a, b⟩ := Wk.mid h3
    exact ⟨z, ⟨h1, h2, a⟩, b⟩
def NoNeg (bs : List Row) : Prop := ∀ x c, Wk bs x c x → 0 ≤ sumR c
structure Good (ms : List Str) (bs : List Row) (m : WMap) : Prop where
  sound : ∀ x y w, m x y = some w → x ≠ y ∧ Wk bs x w.c y ∧ w.t = sumR w.c ∧ x ∈ ms ∧ y ∈ ms
  least : ∀ x y c, Wk bs x c y → x ≠ y → ∃ w, m x y = some w ∧ leW w (wy c)
/-- the bounds' moments are among ms -/
def MsOk (ms : List Str) (bs : List Row) : Prop := ∀ b ∈ bs, b.1 ∈ ms ∧ b.2.1 ∈ ms ∧ b.1 ≠ b.2.1
theorem way_wy {w : Way} (h : w.t = sumR w.c) : w = wy w.c := by
  cases w
  unfold wy
  simp only [Way.mk.injEq, and_true]
  exact h
section
variable {ms : List Str} {bs : List Row} {m : WMap} {b : Row}
theorem Good.bsd (G : Good ms bs m) {x y : Str} {w : Way} (h : best m x y = some w) : Wk bs x w.c y ∧ w.t = sumR w.c := by
  unfold best at h
  by_cases e : x = y
  · rw [if_pos e] at h
    cases h
    exact ⟨e, rfl⟩
  · rw [if_neg e] at h
    obtain ⟨_, h1, h2, _⟩ := G.sound x y w h
    exact ⟨h1, h2⟩
theorem Good.bl (G : Good ms bs m) (N : NoNeg bs) {x y : Str} {c : List Row} (h : Wk bs x c y) : ∃ w, best m x y = some w ∧ leW w (wy c) := by
  unfold best
  by_cases e : x = y
  · subst e
    rw [if_pos rfl]
    refine ⟨_, rfl, ?_⟩
    have n := N x c h
    cases c with
    | nil => exact leW.refl _
    | cons d c => exact leW.short n (by show 0 < (d :: c).length; simp)
  · rw [if_neg e]
    exact G.least x y c h e
theorem nil_le {c : List Row} (n : 0 ≤ sumR c) : leW ⟨0, []⟩ (wy c) := by
  cases c with
  | nil => exact leW.refl _
  | cons d c => exact leW.short n (by show 0 < (d :: c).length; simp)
/-- a walk with the new bound: one that has it at most once is not behind it -/
theorem once (N : NoNeg bs) (hb : ∀ d, Wk bs b.2.1 d b.1 → 0 ≤ sumR d + b.2.2) : ∀ (n : Nat) (c : List Row) (x y : Str), c.length ≤ n → Wk (bs ++ [b]) x c y →
    ∃ c', (Wk bs x c' y ∨ ∃ c1 c2, c' = c1 ++ b :: c2 ∧ Wk bs x c1 b.1 ∧ Wk bs b.2.1 c2 y) ∧ leW (wy c') (wy c) := by
  intro n
  induction n with
  | zero =>
    intro c x y hl h
    cases c with
    | nil => exact ⟨[], .inl h, leW.refl _⟩
    | cons d c => simp at hl
  | succ n ih =>
    intro c x y hl h
    rcases h.split with h | ⟨c1, c2, rfl, g1, g2⟩
    · exact ⟨c, .inl h, leW.refl _⟩
    · obtain ⟨c', h', le⟩ := ih c2 _ _ (by rw [List.length_append, List.length_cons] at hl; omega) g2
      have le2 : leW (wy (c1 ++ b :: c')) (wy (c1 ++ b :: c2)) := by
        rw [← over_wy, ← over_wy]
        exact over_right b le
      rcases h' with h' | ⟨d1, d2, rfl, k1, k2⟩
      · exact ⟨_, .inr ⟨c1, c', rfl, g1, h'⟩, le2⟩
      · refine ⟨_, .inr ⟨c1, d2, rfl, g1, k2⟩, leW.trans (leW.short ?_ ?_) le2⟩
        · have := hb d1 k1
          unfold wy
          simp only [sumR_app, sumR]
          omega
        · unfold wy
          simp only [List.length_append, List.length_cons]
          omega
theorem lesser_left (p q : Way) : leW (lesser p q) p := by
  unfold lesser
  by_cases h : ltW q p = true
  · rw [if_pos h]
    exact dlt_asym h
  · rw [if_neg h]
    exact leW.refl _
theorem lesser_right (p q : Way) : leW (lesser p q) q := by
  unfold lesser
  by_cases h : ltW q p = true
  · rw [if_pos h]
    exact leW.refl _
  · rw [if_neg h]
    unfold leW
    simpa using h
theorem lesser_one (p q : Way) : lesser p q = p ∨ lesser p q = q := by
  unfold lesser
  by_cases h : ltW q p = true
  · exact .inr (if_pos h)
  · exact .inl (if_neg h)
theorem good_grow (G : Good ms bs m) (N : NoNeg bs) (mo : b.1 ∈ ms ∧ b.2.1 ∈ ms ∧ b.1 ≠ b.2.1) (hb : ∀ d, Wk bs b.2.1 d b.1 → 0 ≤ sumR d + b.2.2) (mb : MsOk ms bs) : Good ms (bs ++ [b]) (growW m ms b) := by
  have sub : ∀ d ∈ bs, d ∈ bs ++ [b] := fun d hd => List.mem_append_left _ hd
  have bin : b ∈ bs ++ [b] := List.mem_append_right _ (List.mem_singleton.mpr rfl)
  have ends : ∀ {x y : Str} {c : List Row}, Wk (bs ++ [b]) x c y → x ≠ y → x ∈ ms ∧ y ∈ ms := by
    have mb2 : MsOk ms (bs ++ [b]) := fun d hd => by
      rcases List.mem_append.mp hd with hd | hd
      · exact mb d hd
      · rw [List.mem_singleton.mp hd]
        exact mo
    have : ∀ {c : List Row} {x y : Str}, Wk (bs ++ [b]) x c y → c ≠ [] → x ∈ ms ∧ y ∈ ms := by
      intro c
      induction c with
      | nil => exact fun _ h => absurd rfl h
      | cons d c ih =>
        rintro x y ⟨h1, h2, h3⟩ _
        have hd := mb2 d h1
        refine ⟨h2 ▸ hd.1, ?_⟩
        cases c with
        | nil =>
          have h3 : d.2.1 = y := h3
          exact h3 ▸ hd.2.1
        | cons e c => exact (ih h3 (by simp)).2
    intro x y c h ne
    exact this h fun e => ne (by rw [e] at h; exact h)
  constructor
  · intro x y w h
    unfold growW at h
    by_cases c : x ∈ ms ∧ y ∈ ms ∧ x ≠ y
    · rw [if_pos c] at h
      have old : ∀ w, m x y = some w → x ≠ y ∧ Wk (bs ++ [b]) x w.c y ∧ w.t = sumR w.c ∧ x ∈ ms ∧ y ∈ ms := fun w h => by
        obtain ⟨a1, a2, a3⟩ := G.sound x y w h
        exact ⟨a1, a2.sub sub, a3⟩
      split at h
      · rename_i p q hp hq
        obtain ⟨p1, p2⟩ := G.bsd hp
        obtain ⟨q1, q2⟩ := G.bsd hq
        have new : Wk (bs ++ [b]) x (over p b q).c y ∧ (over p b q).t = sumR (over p b q).c := by
          refine ⟨(p1.sub sub).app ⟨bin, rfl, q1.sub sub⟩, ?_⟩
          simp only [over, sumR_app, sumR]
          omega
        have h := Option.some.inj h
        rcases lesser_one (over p b q) ((m x y).getD (over p b q)) with e | e
        · rw [e] at h
          subst h
          exact ⟨c.2.2, new.1, new.2, c.1, c.2.1⟩
        · rw [e] at h
          cases o : m x y with
          | none =>
            rw [o] at h
            have h : over p b q = w := h
            subst h
            exact ⟨c.2.2, new.1, new.2, c.1, c.2.1⟩
          | some u =>
            rw [o] at h
            have h : u = w := h
            subst h
            exact old u o
      · exact old w h
    · rw [if_neg c] at h
      obtain ⟨a1, a2, a3⟩ := G.sound x y w h
      exact ⟨a1, a2.sub sub, a3⟩
  · intro x y c h ne
    obtain ⟨i1, i2⟩ := ends h ne
    obtain ⟨c', h', le⟩ := once N hb c.length c x y (Nat.le_refl _) h
    have key : ∃ w, growW m ms b x y = some w ∧ leW w (wy c') := by
      unfold growW
      rw [if_pos ⟨i1, i2, ne⟩]
      rcases h' with h' | ⟨c1, c2, rfl, g1, g2⟩
      · obtain ⟨w, hw, lw⟩ := G.least x y c' h' ne
        split
        · refine ⟨_, rfl, leW.trans (lesser_right _ _) ?_⟩
          rw [hw]
          exact lw
        · exact ⟨w, hw, lw⟩
      · obtain ⟨p, hp, lp⟩ := G.bl N g1
        obtain ⟨q, hq, lq⟩ := G.bl N g2
        rw [hp, hq]
        refine ⟨_, rfl, leW.trans (lesser_left _ _) ?_⟩
        rw [← over_wy]
        exact leW.trans (over_left b lp) (over_right b lq)
    obtain ⟨w, e, l⟩ := key
    exact ⟨w, e, leW.trans l le⟩
theorem noneg_add (N : NoNeg bs) (hb : ∀ d, Wk bs b.2.1 d b.1 → 0 ≤ sumR d + b.2.2) : NoNeg (bs ++ [b]) := fun x c h => by
  obtain ⟨c', h', le⟩ := once N hb c.length c x x (Nat.le_refl _) h
  have l := le.le
  have l : sumR c' ≤ sumR c := l
  rcases h' with h' | ⟨c1, c2, rfl, g1, g2⟩
  · have := N x c' h'
    omega
  · have := hb (c2 ++ c1) (g2.app g1)
    rw [sumR_app] at this
    simp only [sumR_app, sumR] at l
    omega
theorem good_add (G : Good ms bs m) (N : NoNeg bs) (mo : b.1 ∈ ms ∧ b.2.1 ∈ ms ∧ b.1 ≠ b.2.1) (hb : ∀ d, Wk bs b.2.1 d b.1 → 0 ≤ sumR d + b.2.2) (mb : MsOk ms bs) : Good ms (bs ++ [b]) (addW m ms b) := by
  unfold addW
  split
  · rename_i o ho
    by_cases lt : o.t < b.2.2
    · rw [if_pos lt]
      obtain ⟨o1, o2⟩ := G.bsd ho
      have sub : ∀ d ∈ bs, d ∈ bs ++ [b] := fun d hd => List.mem_append_left _ hd
      refine ⟨fun x y w h => ?_, fun x y c h ne => ?_⟩
      · obtain ⟨a1, a2, a3⟩ := G.sound x y w h
        exact ⟨a1, a2.sub sub, a3⟩
      · obtain ⟨c', h', le⟩ := once N hb c.length c x y (Nat.le_refl _) h
        rcases h' with h' | ⟨c1, c2, rfl, g1, g2⟩
        · obtain ⟨w, e, l⟩ := G.least x y c' h' ne
          exact ⟨w, e, leW.trans l le⟩
        · obtain ⟨w, e, l⟩ := G.least x y (c1 ++ (o.c ++ c2)) (g1.app (o1.app g2)) ne
          refine ⟨w, e, leW.trans l (leW.trans (leW.less ?_) le)⟩
          unfold wy
          simp only [sumR_app, sumR]
          omega
    · rw [if_neg lt]
      exact good_grow G N mo hb mb
  · exact good_grow G N mo hb mb
end
/-- what is told of a net's bounds -/
def NetOk (ms : List Str) (bs : List Row) (r : RW) : Prop := match r.1 with
  | none => Good ms bs r.2 ∧ NoNeg bs
  | some ring => ∃ bs1 b bs2 q, bs = bs1 ++ b :: bs2 ∧ Good ms bs1 r.2 ∧ NoNeg bs1 ∧ netW ms bs1 = (none, r.2) ∧ best r.2 b.2.1 b.1 = some q ∧ q.t + b.2.2 < 0 ∧ ring = b :: q.c
theorem net_step {ms : List Str} {bs : List Row} {b : Row} (mo : MsOk ms (bs ++ [b])) (h : NetOk ms bs (netW ms bs)) : NetOk ms (bs ++ [b]) (netW ms (bs ++ [b])) := by
  have e : netW ms (bs ++ [b]) = stepR ms (netW ms bs) b := by
    unfold netW
    rw [List.foldl_append]
    rfl
  rw [e]
  generalize hr : netW ms bs = r at h ⊢
  obtain ⟨o, m⟩ := r
  have mob := mo b (List.mem_append_right _ (List.mem_singleton.mpr rfl))
  have mb : MsOk ms bs := fun d hd => mo d (List.mem_append_left _ hd)
  cases o with
  | some ring =>
    obtain ⟨bs1, d, bs2, q, e1, r1⟩ := h
    exact ⟨bs1, d, bs2 ++ [b], q, by rw [e1]; simp, r1⟩
  | none =>
    obtain ⟨G, N⟩ := (h : Good ms bs m ∧ NoNeg bs)
    show NetOk ms (bs ++ [b]) (match best m b.2.1 b.1 with | some q => if q.t + b.2.2 < 0 then (some (b :: q.c), m) else (none, addW m ms b) | none => (none, addW m ms b))
    cases hq : best m b.2.1 b.1 with
    | none =>
      have hb : ∀ d, Wk bs b.2.1 d b.1 → 0 ≤ sumR d + b.2.2 := fun d hd => by
        obtain ⟨w, e, _⟩ := G.bl N hd
        rw [hq] at e
        cases e
      exact ⟨good_add G N mob hb mb, noneg_add N hb⟩
    | some q =>
      dsimp only
      by_cases lt : q.t + b.2.2 < 0
      · rw [if_pos lt]
        exact ⟨bs, b, [], q, rfl, G, N, hr, hq, lt, rfl⟩
      · rw [if_neg lt]
        have hb : ∀ d, Wk bs b.2.1 d b.1 → 0 ≤ sumR d + b.2.2 := fun d hd => by
          obtain ⟨w, e, l⟩ := G.bl N hd
          rw [hq] at e
          cases e
          have := l.le
          have : q.t ≤ sumR d := this
          omega
        exact ⟨good_add G N mob hb mb, noneg_add N hb⟩
theorem net_all (ms : List Str) : ∀ (suf pre : List Row), MsOk ms (pre ++ suf) → NetOk ms pre (netW ms pre) → NetOk ms (pre ++ suf) (netW ms (pre ++ suf))
  | [], pre, _, h => by rw [List.append_nil]; exact h
  | b :: suf, pre, mo, h => by
    have e : pre ++ b :: suf = (pre ++ [b]) ++ suf := by simp
    rw [e] at mo ⊢
    exact net_all ms suf (pre ++ [b]) mo (net_step (fun d hd => mo d (List.mem_append_left _ hd)) h)
theorem net_ok {ms : List Str} {bs : List Row} (mo : MsOk ms bs) : NetOk ms bs (netW ms bs) := by
  have h0 : NetOk ms [] (netW ms []) := by
    refine ⟨⟨fun x y w h => (nomatch h), fun x y c h ne => ?_⟩, fun x c h => ?_⟩
    · cases c with
      | nil => exact absurd h ne
      | cons d c => exact absurd h.1 List.not_mem_nil
    · cases c with
      | nil => exact Int.le_refl _
      | cons d c => exact absurd h.1 List.not_mem_nil
  have := net_all ms bs [] (by simpa using mo) h0
  simpa using this
end N4
set_option maxRecDepth 100000
set_option maxHeartbeats 8000000
namespace N4
open PySem L2 Evl GP HR SC SetM SetH
theorem hu1 {k : Nat} {A : Around} (r : Room k A) : A.units < cLine := by have := r.un; omega
/-! ### ways as they stand -/
def WayAt (K : PySem.W.Frag) (H : Hp) (v : V) (w : Way) : Prop := ∃ p q us, v = .ref p ∧ SqT K H p [.int w.t, .int (w.c.length : Nat), .ref q] ∧ SqT K H q us ∧ RowsAt H us w.c
def kk (x y : Str) : List L2.Key := [.inr x, .inr y]
structure WsL (K : PySem.W.Frag) (H : Hp) (ms : List Str) (kvs : List (List L2.Key × V)) (m : WMap) : Prop where
  ins : ∀ kv ∈ kvs, ∃ x ∈ ms, ∃ y ∈ ms, kv.1 = kk x y
  nd : (kvs.map (·.1)).Nodup
  no : ∀ x y, m x y = none → valV kvs (kk x y) = none
  val : ∀ x y w, m x y = some w → ∃ v, valV kvs (kk x y) = some v ∧ WayAt K H v w
def WsAt (K : PySem.W.Frag) (H : Hp) (ms : List Str) (d : Addr) (m : WMap) : Prop := ∃ kvs, H d = some (.dT kvs) ∧ WsL K H ms kvs m
theorem WayAt.ex {K : PySem.W.Frag} {H H' : Hp} {v : V} {w : Way} (h : WayAt K H v w) (e : Ex H H') : WayAt K H' v w := let ⟨p, q, us, h1, h2, h3, h4⟩ := h; ⟨p, q, us, h1, ex_t e h2, ex_t e h3, h4.ex e⟩
theorem WayAt.dp {K : PySem.W.Frag} {H : Hp} {v : V} {w : Way} (h : WayAt K H v w) : Dp K H v (wayD w) := by
  obtain ⟨p, q, us, rfl, h2, h3, h4⟩ := h
  exact .tup h2 (.cons (.int _) (.cons (.int _) (.cons (.tup h3 h4.dp) .nil)))
theorem bD_depth (d : Row) : (bD d).depth ≤ 2 := by simp [bD, PyData.depth, PyData.depthAll]
theorem rows_depth : ∀ c : List Row, PyData.depthAll (c.map bD) ≤ 2
  | [] => by simp [PyData.depthAll]
  | b :: c => by
    rw [List.map_cons, PyData.depthAll]
    exact Nat.max_le.mpr ⟨bD_depth b, rows_depth c⟩
theorem way_depth (w : Way) : (wayD w).depth ≤ 60 := by
  have := rows_depth w.c
  simp only [wayD, PyData.depth, PyData.depthAll]
  omega
theorem way_all (p q : Way) : PySem.W.AlikeAll [wayD p, wayD q] := by
  refine ⟨fun x hx y hy => ?_, fun x hx => ?_⟩
  · simp only [List.mem_cons, List.not_mem_nil, or_false] at hx hy
    rcases hx with rfl | rfl <;> rcases hy with rfl | rfl <;> exact way_alike _ _
  · simp only [List.mem_cons, List.not_mem_nil, or_false] at hx
    rcases hx with rfl | rfl <;> exact fun z => by cases z
theorem kk_inj {x y u v : Str} (h : kk x y = kk u v) : x = u ∧ y = v := by
  simp only [kk, List.cons.injEq, Sum.inr.injEq, and_true] at h
  exact h
theorem kk_V (x y : Str) : (kk x y).map kV = [.str x, .str y] := rfl
theorem WsL.ex {K : PySem.W.Frag} {H H' : Hp} {ms : List Str} {kvs : List (List L2.Key × V)} {m : WMap} (h : WsL K H ms kvs m) (e : Ex H H') : WsL K H' ms kvs m :=
  ⟨h.ins, h.nd, h.no, fun x y w g => let ⟨v, h1, h2⟩ := h.val x y w g; ⟨v, h1, h2.ex e⟩⟩
theorem WsAt.ex {K : PySem.W.Frag} {H H' : Hp} {ms : List Str} {d : Addr} {m : WMap} (h : WsAt K H ms d m) (e : Ex H H') : WsAt K H' ms d m := let ⟨kvs, h1, h2⟩ := h; ⟨kvs, e _ _ h1, h2.ex e⟩
theorem WsL.congr {K : PySem.W.Frag} {H : Hp} {ms : List Str} {kvs : List (List L2.Key × V)} {m m' : WMap} (h : WsL K H ms kvs m) (e : ∀ x y, m' x y = m x y) : WsL K H ms kvs m' := by
  have : m' = m := funext fun x => funext fun y => e x y
  rw [this]
  exact h
theorem flat_len (ms ns : List Str) : (ns.flatMap fun x => ms.map fun y => kk x y).length = ns.length * ms.length := by
  induction ns with
  | nil => simp
  | cons x ns ih => rw [List.flatMap_cons, List.length_append, ih, List.length_map, List.length_cons, Nat.succ_mul]; omega
theorem WsL.few {K : PySem.W.Frag} {H : Hp} {ms : List Str} {kvs : List (List L2.Key × V)} {m : WMap} (h : WsL K H ms kvs m) : kvs.length ≤ ms.length * ms.length := by
  have s : (kvs.map (·.1)) ⊆ ms.flatMap fun x => ms.map fun y => kk x y := fun k hk => by
    obtain ⟨kv, h1, rfl⟩ := List.mem_map.mp hk
    obtain ⟨x, hx, y, hy, e⟩ := h.ins kv h1
    rw [e]
    exact List.mem_flatMap.mpr ⟨x, hx, List.mem_map.mpr ⟨y, hy, rfl⟩⟩
  have := List.Nodup.length_le_of_subset h.nd s
  rwa [List.length_map, flat_len] at this
theorem valT_put (kvs : List (List L2.Key × V)) (k j : List L2.Key) (v : V) : valV (putK kvs k v) j = if j = k then some v else valV kvs j := valV_put kvs k j v
theorem putK_new {kvs : List (List L2.Key × V)} {k : List L2.Key} (v : V) (h : k ∉ kvs.map (·.1)) : putK kvs k v = kvs ++ [(k, v)] := by
  unfold putK
  rw [if_neg]
  intro z
  obtain ⟨kv, h1, h2⟩ := List.any_eq_true.mp z
  exact h (List.mem_map.mpr ⟨kv, h1, of_decide_eq_true h2⟩)
theorem putK_old {kvs : List (List L2.Key × V)} {k : List L2.Key} (v : V) (h : k ∈ kvs.map (·.1)) : (putK kvs k v).map (·.1) = kvs.map (·.1) := by
  unfold putK
  obtain ⟨kv, h1, h2⟩ := List.mem_map.mp h
  rw [if_pos (List.any_eq_true.mpr ⟨kv, h1, decide_eq_true h2⟩), List.map_map]
  apply List.map_congr_left
  intro q _
  show (if q.1 = k then (q.1, v) else q).1 = q.1
  split <;> rfl
theorem WsL.put {K : PySem.W.Frag} {H : Hp} {ms : List Str} {kvs : List (List L2.Key × V)} {m : WMap} (h : WsL K H ms kvs m) {x y : Str} {v : V} {w : Way} (hx : x ∈ ms) (hy : y ∈ ms) (hv : WayAt K H v w) :
    WsL K H ms (putK kvs (kk x y) v) (fun s e => if s = x ∧ e = y then some w else m s e) := by
  have vp : ∀ s e, valV (putK kvs (kk x y) v) (kk s e) = if s = x ∧ e = y then some v else valV kvs (kk s e) := fun s e => by
    rw [valT_put]
    by_cases c : s = x ∧ e = y
    · rw [if_pos c, c.1, c.2, if_pos rfl]
    · rw [if_neg c, if_neg fun z => c (kk_inj z)]
  by_cases c : kk x y ∈ kvs.map (·.1)
  · have ek := putK_old v c
    refine ⟨fun kv hkv => ?_, by rw [ek]; exact h.nd, fun s e n => ?_, fun s e u n => ?_⟩
    · have : kv.1 ∈ kvs.map (·.1) := by rw [← ek]; exact List.mem_map.mpr ⟨kv, hkv, rfl⟩
      obtain ⟨kv2, h1, h2⟩ := List.mem_map.mp this
      obtain ⟨a, ha, b, hb, e⟩ := h.ins kv2 h1
      exact ⟨a, ha, b, hb, by rw [← h2, e]⟩
    · rw [vp]
      by_cases d : s = x ∧ e = y
      · rw [if_pos d] at n
        cases n
      · rw [if_neg d] at n ⊢
        exact h.no s e n
    · rw [vp]
      by_cases d : s = x ∧ e = y
      · rw [if_pos d] at n ⊢
        cases n
        exact ⟨v, rfl, hv⟩
      · rw [if_neg d] at n ⊢
        exact h.val s e u n
  · have ep := putK_new v c
    refine ⟨fun kv hkv => ?_, ?_, fun s e n => ?_, fun s e u n => ?_⟩
    · rw [ep] at hkv
      rcases List.mem_append.mp hkv with hkv | hkv
      · exact h.ins kv hkv
      · rw [List.mem_singleton.mp hkv]
        exact ⟨x, hx, y, hy, rfl⟩
    · rw [ep, List.map_append]
      refine List.nodup_append.mpr ⟨h.nd, by simp, fun a ha b hb e => ?_⟩
      rw [List.map_cons, List.map_nil, List.mem_singleton] at hb
      have hb : b = kk x y := hb
      subst hb
      subst e
      exact c ha
    · rw [vp]
      by_cases d : s = x ∧ e = y
      · rw [if_pos d] at n
        cases n
      · rw [if_neg d] at n ⊢
        exact h.no s e n
    · rw [vp]
      by_cases d : s = x ∧ e = y
      · rw [if_pos d] at n ⊢
        cases n
        exact ⟨v, rfl, hv⟩
      · rw [if_neg d] at n ⊢
        exact h.val s e u n
theorem RowsAt.app {H : Hp} {us vs : List V} {c d : List Row} (h1 : RowsAt H us c) (h2 : RowsAt H vs d) : RowsAt H (us ++ vs) (c ++ d) := by
  refine ⟨by rw [List.length_append, List.length_append, h1.1, h2.1], fun j v e g1 g2 => ?_⟩
  by_cases l : j < us.length
  · rw [List.getElem?_append_left l] at g1
    rw [List.getElem?_append_left (by rw [← h1.1]; exact l)] at g2
    exact h1.2 j v e g1 g2
  · rw [List.getElem?_append_right (by omega)] at g1
    rw [List.getElem?_append_right (by rw [← h1.1]; omega), ← h1.1] at g2
    exact h2.2 _ v e g1 g2
theorem RowsAt.one {H : Hp} {p : Addr} {d : Row} (h : H p = some (.tup (rowV d))) : RowsAt H [.ref p] [d] := ⟨rfl, fun j v e h1 h2 => by
  match j, h1, h2 with
  | 0, h1, h2 =>
    cases h1
    cases h2
    exact ⟨p, rfl, h⟩
  | j + 1, h1, _ => simp at h1⟩
theorem ex_lock {H H4 : Hp} {d : Addr} {u o : HO} (hd : H d = some u) (e : Ex (upd H d o) H4) : Ex H (upd H4 d u) := fun b x hb => by
  by_cases c : b = d
  · rw [c] at hb ⊢
    rw [upd_same, ← hd, hb]
  · rw [upd_ne c]
    exact e b x (by rw [upd_ne c]; exact hb)
theorem dcT_it {J : It} {n : Nat} {G : Hp → Prop} {Y : Nat → Hp → V → Hp → Prop} (wk : L2.Walk J n G Y) {g : TG} {tt : TT} {tk tv : TE} {vs : List Nat} {σ : L2.St} {H1 : Hp} {D : Addr} {Qd : Hp → Prop} (Pv : Nat → Hp → Prop)
    (h0 : Pv 0 (upd H1 D (.dT []))) (hG : ∀ i H, i ≤ n → Pv i H → G H)
    (step : ∀ i x H H', i < n → Pv i H → Y i H x H' → g x (wipe σ vs) H' fun σ2 H2 => wipe σ2 vs = wipe σ vs ∧ tt σ2 H2 fun yes H3 => if yes = true then tk σ2 H3 fun y H4 => tv σ2 H4 fun z H5 => ∃ kvs k b, y = .ref b ∧ H5 b = some (.tup (k.map kV)) ∧ H5 D = some (.dT kvs) ∧ kvs.length < sizeLine ∧ Pv (i + 1) (upd H5 D (.dT (putK kvs k z))) else Pv (i + 1) H3)
    (fin : ∀ H, Pv n H → Qd H) :
    ∃ W : Nat → Nat → Hp → Prop, (∃ m, W 0 m (upd H1 D (.dT []))) ∧ ∀ i m H, W i m H →
      (J.stop i H ∧ Qd H) ∨ (J.go i H ∧ ∃ Nx : Hp → Prop, (∀ H', Nx H' → ∃ m', m' < m ∧ W (i + 1) m' H') ∧ ∀ x H', J.yld i H x H' → g x (wipe σ vs) H' fun σ2 H2 => wipe σ2 vs = wipe σ vs ∧ tt σ2 H2 fun yes H3 =>
        if yes = true then tk σ2 H3 fun y H4 => tv σ2 H4 fun z H5 => ∃ kvs k b, y = .ref b ∧ H5 b = some (.tup (k.map kV)) ∧ H5 D = some (.dT kvs) ∧ kvs.length < sizeLine ∧ Nx (upd H5 D (.dT (putK kvs k z))) else Nx H3) := by
  refine ⟨fun i m H => m = n - i ∧ i ≤ n ∧ Pv i H, ⟨_, rfl, Nat.zero_le _, h0⟩, ?_⟩
  rintro i m H ⟨rfl, hi, p⟩
  rcases Nat.lt_or_eq_of_le hi with lt | rfl
  · exact .inr ⟨wk.goes i H lt (hG i H hi p), Pv (i + 1), fun H' h => ⟨n - (i + 1), by omega, rfl, lt, h⟩, fun x H' hy => step i x H H' lt p (wk.yields i H x H' lt (hG i H hi p) hy)⟩
  · exact .inl ⟨wk.stops H (hG i H hi p), fin H p⟩
/-- all but dicts stays -/
def Td (H H' : Hp) : Prop := ∀ (t : Addr) (o : HO), (∀ kvs, o ≠ .dT kvs) → H t = some o → H' t = some o
theorem Td.ex {H H1 : Hp} (x : Ex H H1) : Td H H1 := fun t o _ h => x t o h
theorem Td.trans {H H1 H2 : Hp} (x : Td H H1) (y : Td H1 H2) : Td H H2 := fun t o n h => y t o n (x t o n h)
theorem Td.put {H : Hp} {D : Addr} {kvs : List (List L2.Key × V)} {o : HO} (h : H D = some (.dT kvs)) : Td H (upd H D o) := fun t u n g => by
  rw [upd_ne (fun z : t = D => n kvs (Option.some.inj ((g.symm.trans (by rw [z])).trans h)))]
  exact g
theorem Td.sq {K : PySem.W.Frag} {H H' : Hp} (x : Td H H') {p : Addr} {xs : List V} (h : SqT K H p xs) : SqT K H' p xs := by
  rcases h with (h | ⟨o, h⟩) | h
  · exact .inl (.inl (x _ _ (fun _ z => nomatch z) h))
  · exact .inl (.inr ⟨o, x _ _ (fun _ z => nomatch z) h⟩)
  · exact .inr h
theorem Td.tk {H H' : Hp} (x : Td H H') : TK H H' := fun p xs h => x p _ (fun _ z => nomatch z) h
theorem WayAt.td {K : PySem.W.Frag} {H H' : Hp} {v : V} {w : Way} (h : WayAt K H v w) (e : Td H H') : WayAt K H' v w := let ⟨p, q, us, h1, h2, h3, h4⟩ := h; ⟨p, q, us, h1, e.sq h2, e.sq h3, h4.keep e.tk⟩
theorem WsL.td {K : PySem.W.Frag} {H H' : Hp} {ms : List Str} {kvs : List (List L2.Key × V)} {m : WMap} (h : WsL K H ms kvs m) (e : Td H H') : WsL K H' ms kvs m :=
  ⟨h.ins, h.nd, h.no, fun x y w g => let ⟨v, h1, h2⟩ := h.val x y w g; ⟨v, h1, h2.td e⟩⟩
theorem val_at {kvs : List (List L2.Key × V)} (nd : (kvs.map (·.1)).Nodup) {i : Nat} {k : List L2.Key} {v : V} (h : kvs[i]? = some (k, v)) : valV kvs k = some v ∧ k ∉ (kvs.take i).map (·.1) := by
  induction kvs generalizing i with
  | nil => simp at h
  | cons p r ih =>
    rw [List.map_cons] at nd
    obtain ⟨n1, n2⟩ := List.nodup_cons.mp nd
    cases i with
    | zero =>
      cases h
      exact ⟨valV_pos rfl, by simp⟩
    | succ i =>
      have h' : r[i]? = some (k, v) := by simpa using h
      obtain ⟨g1, g2⟩ := ih n2 h'
      have hk : k ∈ r.map (·.1) := List.mem_map.mpr ⟨_, List.mem_of_getElem? h', rfl⟩
      have ne : p.1 ≠ k := fun z => n1 (by rw [z]; exact hk)
      refine ⟨by rw [valV_neg ne]; exact g1, ?_⟩
      rw [List.take_succ_cons, List.map_cons]
      intro z
      rcases List.mem_cons.mp z with z | z
      · exact ne z.symm
      · exact g2 z
/-- the empty way of the module -/
def EW (K : PySem.W.Frag) (a : Ad) : Prop := ∀ H, WayAt K H (.ref a.eW) ⟨0, []⟩
def OptAt (K : PySem.W.Frag) (H : Hp) (v : V) : Option Way → Prop
  | none => v = .non
  | some w => WayAt K H v w
theorem OptAt.ex {K : PySem.W.Frag} {H H' : Hp} {v : V} {o : Option Way} (h : OptAt K H v o) (e : Ex H H') : OptAt K H' v o := by
  cases o with
  | none => exact h
  | some w => exact WayAt.ex h e
theorem OptAt.td {K : PySem.W.Frag} {H H' : Hp} {v : V} {o : Option Way} (h : OptAt K H v o) (e : Td H H') : OptAt K H' v o := by
  cases o with
  | none => exact h
  | some w => exact WayAt.td h e
def spBest (K : PySem.W.Frag) : Sp := fun vs H Q _ => ∃ (d : Addr) (x y : Str) (ms : List Str) (m : WMap), vs = [.ref d, .str x, .str y] ∧ WsAt K H ms d m ∧ ∀ v H', Ex H H' → OptAt K H' v (best m x y) → Q v H'
def spWays (K : PySem.W.Frag) : Sp := fun vs H Q _ => ∃ (d mo b : Addr) (ms : List Str) (m : WMap) (r : Row), vs = [.ref d, .ref mo, .ref b] ∧ WsAt K H ms d m ∧ SqT K H mo (ms.map V.str) ∧ ms.Nodup ∧ ms.length ≤ 20 ∧ H b = some (.tup (rowV r)) ∧ (∀ x y w, best m x y = some w → w.c.length ≤ 1000) ∧
  ∀ d' H', Ex H H' → WsAt K H' ms d' (addW m ms r) → Q (.ref d') H'
section
variable {P : Program} {w : World} {K : PySem.W.Frag} {mg : Str → Option Value} {base : Heap} {a : Ad} {d : Fd} {fL fN fU fI : Addr}
theorem ok_best_way (T : TX K mg a) (D : FDS K a d) (Z : EW K a) : FnOk P w K mg base CX0 1 a.a_best_way d.a_best_way ["ways", "start", "end"] (spBest K) := by
  refine D.F_best_way.ok sc_best_way (fun vs H Q E h => ?_) (fun cdv A outer s H vs Q E hr h => ?_)
  · obtain ⟨d, x, y, ms, m, rfl, _⟩ := h
    rfl
  · obtain ⟨d, x, y, ms, m, rfl, ⟨kvs, hd, W⟩, fin⟩ := h
    refine ⟨_, (pss_cons (ps_if (pt_cmpR op_eq (pv 1) (pv 2) (nomark _)) (pss_one (ps_ret (pe_glob (v := .ref a.eW) rfl T.g_EMPTY_WAY rfl))) pss_nil)
        (pss_one (ps_ret (pe_dget1 (hu_of hr) (pv 0) (pe_tup (pa_cons (pv 1) (pa_cons (pv 2) pa_nil))) ⟨rfl, rfl, rfl, rfl⟩)))), ?_⟩
    refine ⟨_, rfl, _, rfl, rfl, _, rfl, ?_⟩
    unfold best at fin
    refine ite2 (fun h1 => ?_) (fun h1 => ?_)
    · have e : x = y := V.str.inj (of_decide_eq_true h1)
      rw [if_pos e] at fin
      exact fin _ _ (Ex.refl _) (Z H)
    · have e : x ≠ y := fun z => h1 (by rw [z]; exact decide_eq_true rfl)
      rw [if_neg e] at fin
      refine ⟨_, rfl, d, rfl, .inr ⟨kvs, .inl hd⟩, _, rfl, _, rfl, (by show 2 ≤ sizeLine; decide), fun t ht => ?_⟩
      have xt := Ex.new (o := .tup [.str x, .str y]) ht
      refine ⟨_, DGet.t (k := kk x y) (xt _ _ hd) upd_same, ?_⟩
      cases o : m x y with
      | none =>
        rw [o] at fin
        rw [W.no x y o]
        exact fin _ _ xt rfl
      | some u =>
        rw [o] at fin
        obtain ⟨v, h2, h3⟩ := W.val x y u o
        rw [h2]
        exact fin _ _ xt (h3.ex xt)
end
end N4
set_option maxRecDepth 100000
set_option maxHeartbeats 8000000
namespace N4
open PySem L2 Evl GP HR SC SetM SetH
/-- the new ways up to the i-th start and its j-th end -/
def stage (m : WMap) (ms : List Str) (b : Row) (i j : Nat) : WMap := fun s e => if s ∈ ms.take i ∨ (ms[i]? = some s ∧ e ∈ ms.take j) then growW m ms b s e else m s e
theorem stage_zero (m : WMap) (ms : List Str) (b : Row) (x y : Str) : stage m ms b 0 0 x y = m x y := by simp [stage]
theorem stage_row (m : WMap) (ms : List Str) (b : Row) {i : Nat} {s : Str} (hs : ms[i]? = some s) (x y : Str) : stage m ms b (i + 1) 0 x y = stage m ms b i ms.length x y := by
  unfold stage
  simp only [List.take_zero, List.not_mem_nil, and_false, or_false, List.take_length]
  by_cases hx : x ∈ ms.take i
  · have h1 : x ∈ ms.take (i + 1) := by
      rw [List.take_add_one]
      exact List.mem_append_left _ hx
    rw [if_pos h1, if_pos (.inl hx)]
  · by_cases e : x = s
    · subst e
      have h1 : x ∈ ms.take (i + 1) := by rw [List.take_add_one, hs]; simp
      rw [if_pos h1]
      by_cases hy : y ∈ ms
      · rw [if_pos (.inr ⟨hs, hy⟩)]
      · rw [if_neg (by rintro (h | h); exact hx h; exact hy h.2)]
        unfold growW
        rw [if_neg fun h => hy h.2.1]
    · rw [if_neg, if_neg]
      · rintro (h | h)
        · exact hx h
        · rw [hs] at h
          exact e (Option.some.inj h.1).symm
      · rw [List.take_add_one, hs]
        simp only [Option.toList_some, List.mem_append, List.mem_singleton]
        rintro (h | h)
        · exact hx h
        · exact e h
theorem stage_all (m : WMap) (ms : List Str) (b : Row) (x y : Str) : stage m ms b ms.length 0 x y = growW m ms b x y := by
  unfold stage
  simp only [List.take_zero, List.not_mem_nil, and_false, or_false, List.take_length]
  by_cases hx : x ∈ ms
  · rw [if_pos hx]
  · rw [if_neg hx]
    unfold growW
    rw [if_neg fun h => hx h.1]
theorem take_new {ms : List Str} (nd : ms.Nodup) {i : Nat} {s : Str} (hs : ms[i]? = some s) : s ∉ ms.take i := fun h => by
  obtain ⟨hi, es⟩ := List.getElem?_eq_some_iff.mp hs
  obtain ⟨j, hj, ej⟩ := List.mem_iff_getElem.mp h
  rw [List.length_take] at hj
  rw [List.getElem_take] at ej
  have := (List.nodup_iff_pairwise_ne.mp nd)
  have := List.pairwise_iff_getElem.mp this j i (by omega) hi (by omega)
  exact this (by rw [ej, es])
/-- a turn of the inner loop -/
theorem stage_step {m : WMap} {ms : List Str} {b : Row} {i j : Nat} {s e : Str} (nd : ms.Nodup) (hs : ms[i]? = some s) (he : ms[j]? = some e) :
    stage m ms b i j s e = m s e ∧ ∀ x y, stage m ms b i (j + 1) x y = if x = s ∧ y = e then growW m ms b s e else stage m ms b i j x y := by
  have n1 := take_new nd hs
  have n2 := take_new nd he
  refine ⟨?_, fun x y => ?_⟩
  · unfold stage
    rw [if_neg]
    rintro (h | h)
    · exact n1 h
    · exact n2 h.2
  · by_cases c : x = s ∧ y = e
    · rw [if_pos c]
      obtain ⟨rfl, rfl⟩ := c
      unfold stage
      rw [if_pos]
      refine .inr ⟨hs, ?_⟩
      rw [List.take_add_one, he]
      simp
    · rw [if_neg c]
      unfold stage
      have : (x ∈ ms.take i ∨ (ms[i]? = some x ∧ y ∈ ms.take (j + 1))) ↔ (x ∈ ms.take i ∨ (ms[i]? = some x ∧ y ∈ ms.take j)) := by
        constructor
        · rintro (h | ⟨h1, h2⟩)
          · exact .inl h
          · rw [List.take_add_one, he] at h2
            simp only [Option.toList_some, List.mem_append, List.mem_singleton] at h2
            rcases h2 with h2 | h2
            · exact .inr ⟨h1, h2⟩
            · rw [hs] at h1
              exact absurd ⟨(Option.some.inj h1).symm, h2⟩ c
        · rintro (h | ⟨h1, h2⟩)
          · exact .inl h
          · refine .inr ⟨h1, ?_⟩
            rw [List.take_add_one]
            exact List.mem_append_left _ h2
      by_cases q : x ∈ ms.take i ∨ (ms[i]? = some x ∧ y ∈ ms.take j)
      · rw [if_pos q, if_pos (this.mpr q)]
      · rw [if_neg q, if_neg fun z => q (this.mp z)]
section
variable {P : Program} {w : World} {K : PySem.W.Frag} {mg : Str → Option Value} {base : Heap} {a : Ad} {d : Fd} {fL fN fU fI : Addr}
theorem ok_ways_with (T : TX K mg a) (D : FDS K a d) (Z : EW K a) : FnOk P w K mg base CX0 2 a.a_ways_with d.a_ways_with ["ways", "moments", "bound"] (spWays K) := by
  have G_best_way : FnOk P w K mg base CX0 1 a.a_best_way d.a_best_way ["ways", "start", "end"] (spBest K) := ok_best_way T D Z
  refine D.F_ways_with.ok sc_ways_with (fun vs H Q E h => ?_) (fun cdv A outer s H vs Q E hr h => ?_)
  · obtain ⟨d, mo, b, ms, m, r, rfl, _⟩ := h
    rfl
  · obtain ⟨d, mo, b, ms, m, r, rfl, W0, hmo, nd, l20, hb, short, fin⟩ := h
    obtain ⟨x, y, k⟩ := r
    refine ⟨_, (pss_cons (ps_asg (pv 2) (pg_tup rfl (pgs_cons (pg_name (i := 3) sc_ways_with.nd rfl (Or.inl rfl)) (pgs_cons (pg_name (i := 4) sc_ways_with.nd rfl (Or.inl rfl)) (pgs_cons (pg_name (i := 5) sc_ways_with.nd rfl (Or.inl rfl)) (pgs_cons (pg_name (i := 6) sc_ways_with.nd rfl (Or.inl rfl)) pgs_nil))))))
        (pss_cons (ps_set (i := 7) sc_ways_with.nd rfl (Or.inl rfl) (pe_call G_best_way (hr.mono (by decide)) rfl T.f_best_way T.k_best_way D.B_best_way .nil pass0 (pa_cons (pv 0) (pa_cons (pv 4) (pa_cons (pv 5) pa_nil)))))
        (Evl.pss_cut (ps_if (PW.pt (pw_and (pt_cmpR op_notN (pv 7) pe_non (nomark _)) (pw_and1 (pt_cmpR op_lt (pe_ix ix_tup (pv 7) pe_int (fun _ _ => rfl)) (pv 6) (nomark _))))) (pss_one (ps_ret (pv 0))) pss_nil)
        (pss_cons (ps_lock (ps_setDcT (i := 8) (own := [("pair", 16)]) (g := gName 16) (tt := tYes) rfl (hu1 hr) sc_ways_with.nd rfl rfl (sw_trueD rfl rfl rfl (by decide +kernel)) (pi_keys (pv 0)) (blkOk_by (N := ["ways", "moments", "bound", "_", "first", "second", "limit", "old", "grown", "start", "before", "end", "after", "total", "chain", "way", "pair"]) (sc := defScope s_ways_with) (by decide +kernel)) (fun _ _ _ _ _ => (pg_name (i := 16) sc_ways_with.nd rfl (Or.inl rfl))) (fun _ _ _ _ _ => pts_nil) (fun _ _ _ _ _ => (pv 16)) (fun _ _ _ _ _ => (pe_dget (hu_of hr) (pv 0) (pv 16) (fun _ _ => rfl)))))
        (pss_cons (ps_for PassesOwn.never rfl (pi_tup (pv 1)) (pg_name (i := 9) sc_ways_with.nd rfl (Or.inl rfl)) (pss_cons (ps_set (i := 10) sc_ways_with.nd rfl (Or.inl rfl) (pe_call G_best_way (hr.mono (by decide)) rfl T.f_best_way T.k_best_way D.B_best_way .nil pass0 (pa_cons (pv 0) (pa_cons (pv 9) (pa_cons (pv 4) pa_nil)))))
        (pss_one (ps_for PassesOwn.never rfl (pi_tup (pv 1)) (pg_name (i := 11) sc_ways_with.nd rfl (Or.inl rfl)) (pss_cons (ps_set (i := 12) sc_ways_with.nd rfl (Or.inl rfl) (pe_call G_best_way (hr.mono (by decide)) rfl T.f_best_way T.k_best_way D.B_best_way .nil pass0 (pa_cons (pv 0) (pa_cons (pv 5) (pa_cons (pv 11) pa_nil)))))
        (pss_one (ps_if (PW.pt (pw_and (pt_cmpR op_ne (pv 9) (pv 11) (nomark _)) (pw_and (pt_cmpR op_notN (pv 10) pe_non (nomark _)) (pw_and1 (pt_cmpR op_notN (pv 12) pe_non (nomark _)))))) (pss_cons (ps_set (i := 13) sc_ways_with.nd rfl (Or.inl rfl) (pe_op op_add (pe_op op_add (pe_ix ix_tup (pv 10) pe_int (fun _ _ => rfl)) (pv 6)) (pe_ix ix_tup (pv 12) pe_int (fun _ _ => rfl))))
        (pss_cons (ps_set (i := 14) sc_ways_with.nd rfl (Or.inl rfl) (pe_tup (StX.pa_star (pe_ix ix_tup (pv 10) pe_int (fun _ _ => rfl)) (pa_cons (pv 2) (StX.pa_star (pe_ix ix_tup (pv 12) pe_int (fun _ _ => rfl)) pa_nil)))))
        (pss_cons (ps_set (i := 15) sc_ways_with.nd rfl (Or.inl rfl) (pe_tup (pa_cons (pv 13) (pa_cons (pe_callB call_len_seq (by rfl) T.b_len (by decide +kernel) (pa_cons (pv 14) pa_nil)) (pa_cons (pv 14) pa_nil)))))
        (pss_one (ps_dput (hu_of hr) (pv 8) (pe_tup (pa_cons (pv 9) (pa_cons (pv 11) pa_nil))) (pe_callB (cr_minD2 (K := K) rfl hr.units) (by rfl) T.b_min (by decide +kernel) (pa_cons (pv 15) (pa_cons (pe_dget2 (hu_of hr) (pv 8) (pe_tup (pa_cons (pv 9) (pa_cons (pv 11) pa_nil))) (pv 15) ⟨rfl, rfl, rfl, rfl⟩) pa_nil))) rfl))))) pss_nil)))))))
        (pss_one (ps_ret (pv 8)))))))), ?_⟩
    refine ⟨_, rfl, b, _, rfl, SqT.of hb, rfl, _, _, rfl, _, _, rfl, _, _, rfl, _, _, rfl, rfl, ?_⟩
    refine ⟨_, rfl, _, rfl, _, rfl, d, x, y, ms, m, rfl, W0, fun vo H1 e1 O => ?_⟩
    have W1 := W0.ex e1
    have hmo1 := ex_t e1 hmo
    have hb1 := e1 _ _ hb
    refine ⟨fun σ' H' => σ' = [some (.ref d), some (.ref mo), some (.ref b), some (.str "most"), some (.str x), some (.str y), some (.int k), some vo, none, none, none, none, none, none, none, none, none] ∧ H' = H1 ∧ addW m ms (x, y, k) = growW m ms (x, y, k), ?_, ?_⟩
    · have fin1 := fun h => fin d H1 e1 (by rw [show addW m ms (x, y, k) = m from h]; exact W1)
      unfold addW at fin1 ⊢
      dsimp only at fin1 ⊢
      cases ho : best m x y with
      | none =>
        rw [ho] at O
        obtain rfl : vo = .non := O
        exact ⟨_, rfl, rfl, _, rfl, iteF' rfl (iteF ⟨rfl, rfl, rfl⟩)⟩
      | some u =>
        rw [ho] at O
        obtain ⟨p, q, us, rfl, hp, hq, R⟩ := (O : WayAt K H1 vo u)
        refine ⟨_, rfl, rfl, _, rfl, iteT' rfl ⟨_, rfl, p, _, 0, _, rfl, rfl, hp, at_lit (n := 0) rfl rfl, _, rfl, _, _, rfl, rfl, _, rfl, ?_⟩⟩
        refine ite2 (fun h1 => ?_) (fun h1 => ?_)
        · have lt : u.t < k := of_decide_eq_true h1
          rw [ho] at fin1
          dsimp only at fin1
          exact ⟨_, rfl, fin1 (if_pos lt)⟩
        · have nl : ¬ u.t < k := fun z => h1 (decide_eq_true z)
          exact ⟨rfl, rfl, if_neg nl⟩
    · rintro σ' H' ⟨rfl, rfl, eadd⟩
      rw [eadd] at fin
      clear eadd
      obtain ⟨kvs, hd1, WL⟩ := id W1
      have few := WL.few
      have few2 : ms.length * ms.length ≤ 400 := Nat.mul_le_mul l20 l20
      have big : 100000 ≤ sizeLine := by decide
      refine ⟨d, .dT kvs, hd1, True.intro, fun od => ?_⟩
      refine ⟨_, rfl, d, od, rfl, .inr ⟨kvs, upd_same, fun D1 hD1 => dcT_it walk_keysT (fun i H2 => Ex (upd H' d (.frz od (.dT kvs))) H2 ∧ H2 D1 = some (.dT (kvs.take i))) ⟨Ex.new hD1, upd_same⟩ (fun i H2 _ h => h.1 _ _ upd_same) ?_ ?_⟩⟩
      · rintro i v H2 H2' hi ⟨e2, hD2⟩ ⟨rfl, kq, u, q, hk, rfl, hq⟩
        obtain ⟨va, nk⟩ := val_at WL.nd hk
        unfold gName tYes
        dsimp only
        refine ⟨rfl, iteT' rfl ⟨_, rfl, _, rfl, _, rfl, d, u, rfl, .inr ⟨kvs, kq, q, .inr ⟨od, e2 _ _ upd_same⟩, rfl, hq, va.symm⟩, kvs.take i, kq, q, rfl, hq, hD2, by rw [List.length_take]; omega, Ex.mut e2 hD1, ?_⟩⟩
        rw [upd_same, putK_new u nk, List.take_add_one, hk]
        rfl
      · rintro H2 ⟨e2, hD2⟩
        rw [List.take_length] at hD2
        refine ⟨e2 _ _ upd_same, ?_⟩
        have xl := ex_lock hd1 e2
        have nD : D1 ≠ d := fun z => by rw [z, upd_same] at hD1; cases hD1
        have hD3 : upd H2 d (.dT kvs) D1 = some (.dT kvs) := by rw [upd_ne nD]; exact hD2
        have hDn : H' D1 = none := by rw [upd_ne nD] at hD1; exact hD1
        generalize upd H2 d (.dT kvs) = H3 at *
        -- the two loops
        refine ⟨_, rfl, mo, rfl, ⟨_, ex_t xl hmo1⟩, for_it (walk_tup (xs := ms.map V.str)) (fun i σ' H4 => (∃ o9 o10 o11 o12 o13 o14 o15 o16, σ' = [some (.ref d), some (.ref mo), some (.ref b), some (.str "most"), some (.str x), some (.str y), some (.int k), some vo, some (.ref D1), o9, o10, o11, o12, o13, o14, o15, o16]) ∧ Ex H' H4 ∧ ∃ kv, H4 D1 = some (.dT kv) ∧ WsL K H4 ms kv (stage m ms (x, y, k) i 0)) ⟨⟨_, _, _, _, _, _, _, _, rfl⟩, xl, kvs, hD3, (WL.ex xl).congr (stage_zero m ms _)⟩ (fun i σ' H4 _ h => ex_t h.2.1 hmo1) ?_ ?_⟩
        · rintro i v σ' H4 H4' hi ⟨⟨o9, o10, o11, o12, o13, o14, o15, o16, rfl⟩, e4, kv, hD4, W4⟩ ⟨rfl, hv⟩
          obtain ⟨s, hs, rfl⟩ : ∃ s, ms[i]? = some s ∧ v = .str s := by
            rw [List.getElem?_map] at hv
            obtain ⟨s, h1, h2⟩ := Option.map_eq_some_iff.mp hv
            exact ⟨s, h1, h2.symm⟩
          have ins := List.mem_of_getElem? hs
          refine ⟨_, rfl, _, rfl, _, rfl, d, s, x, ms, m, rfl, W1.ex e4, fun vb H5 e5 OB => ?_⟩
          refine ⟨_, rfl, mo, rfl, ⟨_, ex_t (e4.trans e5) hmo1⟩, for_it (walk_tup (xs := ms.map V.str)) (fun j σ' H6 => (∃ o11 o12 o13 o14 o15 o16, σ' = [some (.ref d), some (.ref mo), some (.ref b), some (.str "most"), some (.str x), some (.str y), some (.int k), some vo, some (.ref D1), some (.str s), some vb, o11, o12, o13, o14, o15, o16]) ∧ Ex H' H6 ∧ Td H5 H6 ∧ ∃ kv, H6 D1 = some (.dT kv) ∧ WsL K H6 ms kv (stage m ms (x, y, k) i j)) ⟨⟨_, _, _, _, _, _, rfl⟩, e4.trans e5, fun _ _ _ h => h, kv, e5 _ _ hD4, W4.ex e5⟩ (fun j σ' H6 _ h => ex_t h.2.1 hmo1) ?_ ?_⟩
          · rintro j v σ' H6 H6' hj ⟨⟨o11, o12, o13, o14, o15, o16, rfl⟩, e6, t6, kv6, hD6, W6⟩ ⟨rfl, hv⟩
            obtain ⟨e, he, rfl⟩ : ∃ s, ms[j]? = some s ∧ v = .str s := by
              rw [List.getElem?_map] at hv
              obtain ⟨s, h1, h2⟩ := Option.map_eq_some_iff.mp hv
              exact ⟨s, h1, h2.symm⟩
            have ine := List.mem_of_getElem? he
            obtain ⟨st0, st1⟩ := stage_step (b := (x, y, k)) (m := m) nd hs he
            refine ⟨_, rfl, _, rfl, _, rfl, d, y, e, ms, m, rfl, W1.ex e6, fun va H7 e7 OA => ?_⟩
            have OB7 := (OB.td t6).ex e7
            have hD7 := e7 _ _ hD6
            have W7 := W6.ex e7
            have x7 := e6.trans e7
            have t7 := t6.trans (Td.ex e7)
            -- nothing is put
            have same : growW m ms (x, y, k) s e = m s e → (∃ p11 p12 p13 p14 p15 p16, [some (V.ref d), some (.ref mo), some (.ref b), some (.str "most"), some (.str x), some (.str y), some (.int k), some vo, some (.ref D1), some (.str s), some vb, some (.str e), some va, o13, o14, o15, o16] = [some (.ref d), some (.ref mo), some (.ref b), some (.str "most"), some (.str x), some (.str y), some (.int k), some vo, some (.ref D1), some (.str s), some vb, p11, p12, p13, p14, p15, p16]) ∧ Ex H' H7 ∧ Td H5 H7 ∧ ∃ kv, H7 D1 = some (.dT kv) ∧ WsL K H7 ms kv (stage m ms (x, y, k) i (j + 1)) := fun h => by
              refine ⟨⟨_, _, _, _, _, _, rfl⟩, x7, t7, kv6, hD7, W7.congr fun u z => ?_⟩
              rw [st1]
              by_cases c : u = s ∧ z = e
              · rw [if_pos c, c.1, c.2, h, st0]
              · rw [if_neg c]
            refine ⟨_, rfl, _, rfl, rfl, _, rfl, ?_⟩
            by_cases se : s = e
            · refine iteF' (by rw [se]; simp) (iteF (same ?_))
              unfold growW
              rw [if_neg fun h => h.2.2 se]
            · refine iteT' (by simpa using se) ⟨_, rfl, rfl, _, rfl, ?_⟩
              cases hp : best m s x with
              | none =>
                rw [hp] at OB7
                obtain rfl : vb = .non := OB7
                refine iteF' rfl (iteF (same ?_))
                unfold growW
                rw [if_pos ⟨ins, ine, se⟩, hp]
              | some p =>
                rw [hp] at OB7
                obtain ⟨pb, qb, ub, rfl, hpb, hqb, Rb⟩ := (OB7 : WayAt K H7 vb p)
                refine iteT' rfl ⟨_, rfl, rfl, _, rfl, ?_⟩
                cases hq : best m y e with
                | none =>
                  rw [hq] at OA
                  obtain rfl : va = .non := OA
                  refine iteF' rfl (same ?_)
                  unfold growW
                  rw [if_pos ⟨ins, ine, se⟩, hp, hq]
                | some q =>
                  rw [hq] at OA
                  obtain ⟨pa, qa, ua, rfl, hpa, hqa, Ra⟩ := (OA : WayAt K H7 va q)
                  refine iteT' rfl ?_
                  have lb := Rb.1
                  have la := Ra.1
                  have sb := short _ _ _ hp
                  have sa := short _ _ _ hq
                  refine ⟨_, rfl, pb, _, 0, _, rfl, rfl, hpb, at_lit (n := 0) rfl rfl, _, rfl, _, _, rfl, rfl, _, rfl, pa, _, 0, _, rfl, rfl, hpa, at_lit (n := 0) rfl rfl, _, _, rfl, rfl, ?_⟩
                  refine ⟨_, rfl, pb, _, 2, _, rfl, rfl, hpb, at_lit (n := 2) rfl rfl, qb, ub, rfl, .inl hqb, _, rfl, _, rfl, pa, _, 2, _, rfl, rfl, hpa, at_lit (n := 2) rfl rfl, qa, ua, rfl, .inl hqa, ?_, fun t ht => ?_⟩
                  · simp only [List.length_append, List.length_cons, List.length_nil]
                    omega
                  have et := Ex.new (o := .tup (ub ++ V.ref b :: (ua ++ []))) ht
                  have h8 : upd H7 t (.tup (ub ++ V.ref b :: (ua ++ []))) t = some (.tup (ub ++ V.ref b :: (ua ++ []))) := upd_same
                  generalize upd H7 t (.tup (ub ++ V.ref b :: (ua ++ []))) = H8 at *
                  refine ⟨_, rfl, _, rfl, t, _, rfl, .inr (SqT.of h8), _, rfl, (by show 3 ≤ sizeLine; decide), fun t2 ht2 => ?_⟩
                  have et2 := Ex.new (o := .tup [.int (p.t + k + q.t), .int ((ub ++ V.ref b :: (ua ++ [])).length : Nat), .ref t]) ht2
                  have h9 : upd H8 t2 (.tup [.int (p.t + k + q.t), .int ((ub ++ V.ref b :: (ua ++ [])).length : Nat), .ref t]) t2 = some (.tup [.int (p.t + k + q.t), .int ((ub ++ V.ref b :: (ua ++ [])).length : Nat), .ref t]) := upd_same
                  generalize upd H8 t2 (.tup [.int (p.t + k + q.t), .int ((ub ++ V.ref b :: (ua ++ [])).length : Nat), .ref t]) = H9 at *
                  have x9 := et.trans et2
                  have WA : WayAt K H9 (.ref t2) (over p (x, y, k) q) := by
                    have R : RowsAt H9 (ub ++ ([V.ref b] ++ ua)) (p.c ++ ([(x, y, k)] ++ q.c)) := (Rb.ex x9).app ((RowsAt.one (x9 _ _ (x7 _ _ hb1))).app (Ra.ex x9))
                    refine ⟨t2, t, _, rfl, ?_, SqT.of (by rw [et2 _ _ h8, List.append_nil]; rfl), R⟩
                    have e3 : (ub ++ V.ref b :: (ua ++ [])).length = (over p (x, y, k) q).c.length := by
                      simp only [over, List.length_append, List.length_cons, List.length_nil]
                      omega
                    rw [e3] at h9
                    exact SqT.of h9
                  have W9 := W7.ex x9
                  have hD9 := x9 _ _ hD7
                  refine ⟨_, rfl, _, rfl, D1, rfl, .inr ⟨kv6, .inl hD9⟩, _, rfl, _, rfl, (by show 2 ≤ sizeLine; decide), fun t3 ht3 => ?_⟩
                  have et3 := Ex.new (o := .tup [.str s, .str e]) ht3
                  have h10 : upd H9 t3 (.tup [.str s, .str e]) t3 = some (.tup [.str s, .str e]) := upd_same
                  generalize upd H9 t3 (.tup [.str s, .str e]) = H10 at *
                  refine ⟨_, rfl, _, DGet.t (k := kk s e) (et3 _ _ hD9) h10, ?_⟩
                  -- the lesser of the two
                  have key : ∃ (v : V) (u : Way), (valV kv6 (kk s e)).getD (.ref t2) = v ∧ WayAt K H10 v u ∧ (m s e).getD (over p (x, y, k) q) = u := by
                    cases o : m s e with
                    | none => exact ⟨_, _, rfl, by rw [W6.no s e (st0.trans o)]; exact WA.ex et3, rfl⟩
                    | some u =>
                      obtain ⟨v, g1, g2⟩ := (W9.ex et3).val s e u (st0.trans o)
                      exact ⟨v, u, by rw [g1]; rfl, g2, rfl⟩
                  obtain ⟨v2, u2, ev, WV, eu⟩ := key
                  rw [ev]
                  have WA10 := WA.ex et3
                  refine ⟨_, _, wayD (over p (x, y, k) q), wayD u2, rfl, WA10.dp, WV.dp, way_all _ _, way_depth _, way_depth _, _, rfl, _, rfl, _, rfl, (by show 2 ≤ sizeLine; decide), fun t4 ht4 => ⟨D1, _, rfl, DPut.t (k := kk s e) (Ex.new ht4 _ _ (et3 _ _ hD9)) upd_same ?_, ?_⟩⟩
                  · have := W6.few
                    omega
                  have et4 := Ex.new (o := .tup [.str s, .str e]) ht4
                  have hD11 : upd H10 t4 (.tup [.str s, .str e]) D1 = some (.dT kv6) := et4 _ _ (et3 _ _ hD9)
                  generalize upd H10 t4 (.tup [.str s, .str e]) = H11 at *
                  have x11 := (x9.trans et3).trans et4
                  have WL11 : WayAt K H11 (if PySem.W.dataLt (wayD u2) (wayD (over p (x, y, k) q)) = true then v2 else .ref t2) (lesser (over p (x, y, k) q) u2) := by
                    unfold lesser ltW
                    by_cases c : PySem.W.dataLt (wayD u2) (wayD (over p (x, y, k) q)) = true
                    · rw [if_pos c, if_pos c]
                      exact WV.ex et4
                    · rw [if_neg c, if_neg c]
                      exact WA10.ex et4
                  have eg : growW m ms (x, y, k) s e = some (lesser (over p (x, y, k) q) u2) := by
                    unfold growW
                    rw [if_pos ⟨ins, ine, se⟩, hp, hq]
                    dsimp only
                    rw [eu]
                  have tp := Td.put (o := .dT (putK kv6 (kk s e) (if PySem.W.dataLt (wayD u2) (wayD (over p (x, y, k) q)) = true then v2 else .ref t2))) hD11
                  refine ⟨⟨_, _, _, _, _, _, rfl⟩, Ex.mut (x7.trans x11) hDn, (t7.trans (Td.ex x11)).trans tp, _, upd_same, ((((W6.ex e7).ex x11).put ins ine WL11).td tp).congr fun u z => ?_⟩
                  rw [st1]
                  by_cases c : u = s ∧ z = e
                  · rw [if_pos c, if_pos c, eg]
                  · rw [if_neg c, if_neg c]
          · rintro σ' H6 ⟨⟨o11, o12, o13, o14, o15, o16, rfl⟩, e6, _, kv6, hD6, W6⟩
            rw [List.length_map] at W6
            exact ⟨⟨_, _, _, _, _, _, _, _, rfl⟩, e6, kv6, hD6, W6.congr fun u z => stage_row m ms _ hs u z⟩
        · rintro σ' H6 ⟨⟨o9, o10, o11, o12, o13, o14, o15, o16, rfl⟩, e6, kv6, hD6, W6⟩
          rw [List.length_map] at W6
          exact ⟨_, rfl, fin D1 H6 (e1.trans e6) ⟨kv6, hD6, W6.congr fun u z => (stage_all m ms _ u z).symm⟩⟩
end
end N4
set_option maxRecDepth 100000
set_option maxHeartbeats 4000000
namespace N4
open PySem L2 Evl GP HR SC SetM SetH
/-! ### best chains pass no moment twice -/
def srcs (c : List Row) : List Str := c.map (·.1)
theorem Wk.places {bs : List Row} : ∀ {c : List Row} {x y : Str}, Wk bs x c y → srcs c ++ [y] = x :: c.map (·.2.1)
  | [], x, y, h => by
    have h : x = y := h
    rw [h]
    rfl
  | b :: c, x, y, ⟨_, h2, h3⟩ => by
    show b.1 :: (srcs c ++ [y]) = _
    rw [Wk.places h3, h2]
    rfl
theorem Wk.mem {bs : List Row} : ∀ {c : List Row} {x y : Str}, Wk bs x c y → ∀ b ∈ c, b ∈ bs
  | [], _, _, _, _, h => absurd h List.not_mem_nil
  | d :: c, _, _, ⟨h1, _, h3⟩, b, h => by
    rcases List.mem_cons.mp h with rfl | h
    · exact h1
    · exact Wk.mem h3 b h
theorem src_split : ∀ {c : List Row} {z : Str}, z ∈ srcs c → ∃ c1 d c2, c = c1 ++ d :: c2 ∧ d.1 = z
  | d :: c, z, h => by
    rcases List.mem_cons.mp (show z ∈ d.1 :: srcs c from h) with h | h
    · exact ⟨[], d, c, rfl, h.symm⟩
    · obtain ⟨c1, e, c2, h1, h2⟩ := src_split h
      exact ⟨d :: c1, e, c2, by rw [h1]; rfl, h2⟩
theorem nodup_of {y : Str} : ∀ {c : List Row}, (∀ c1 b c2, c = c1 ++ b :: c2 → b.1 ∉ srcs c2 ++ [y]) → (srcs c ++ [y]).Nodup
  | [], _ => by simp [srcs]
  | d :: c, h => by
    show (d.1 :: (srcs c ++ [y])).Nodup
    refine List.nodup_cons.mpr ⟨h [] d c rfl, nodup_of fun c1 b c2 e => h (d :: c1) b c2 (by rw [e]; rfl)⟩
theorem least_simple {bs : List Row} {x y : Str} {c : List Row} (N : NoNeg bs) (h : Wk bs x c y) (least : ∀ c', Wk bs x c' y → leW (wy c) (wy c')) : (srcs c ++ [y]).Nodup := by
  have shorter : ∀ c', Wk bs x c' y → sumR c' ≤ sumR c → c'.length < c.length → False := fun c' w s l => by
    have e := leW.asym (least c' w) (leW.short (p := wy c') (q := wy c) s l)
    have e2 : c = c' := e.2
    rw [e2] at l
    omega
  refine nodup_of fun c1 b c2 e hm => ?_
  subst e
  obtain ⟨z, w1, w2⟩ := h.mid
  have w2' := w2
  obtain ⟨hb, hz, w3⟩ := w2
  rcases List.mem_append.mp hm with hm | hm
  · obtain ⟨d1, d, d2, rfl, ed⟩ := src_split hm
    obtain ⟨z2, w4, w5⟩ := w3.mid
    have ez : z2 = d.1 := w5.2.1.symm
    have cyc : Wk bs b.1 (b :: d1) b.1 := ⟨hb, rfl, by rw [← ed, ← ez]; exact w4⟩
    have s := N _ _ cyc
    refine shorter (c1 ++ d :: d2) (w1.app (by rw [← hz, ← ed, ← ez]; exact w5)) ?_ ?_
    · simp only [sumR_app, sumR] at s ⊢
      omega
    · simp only [List.length_append, List.length_cons]
      omega
  · have ey : b.1 = y := List.mem_singleton.mp hm
    have cyc : Wk bs b.1 (b :: c2) b.1 := ⟨hb, rfl, by rw [ey]; exact w3⟩
    have s := N _ _ cyc
    refine shorter c1 (by rw [← ey, hz]; exact w1) ?_ ?_
    · simp only [sumR_app, sumR] at s ⊢
      omega
    · simp only [List.length_append, List.length_cons]
      omega
theorem good_simple {ms : List Str} {bs : List Row} {m : WMap} (G : Good ms bs m) (N : NoNeg bs) {x y : Str} {w : Way} (h : m x y = some w) : (srcs w.c ++ [y]).Nodup := by
  obtain ⟨ne, h1, h2, _⟩ := G.sound x y w h
  refine least_simple N h1 fun c' w' => ?_
  obtain ⟨u, e, l⟩ := G.least x y c' w' ne
  rw [h] at e
  cases e
  rwa [way_wy h2] at l
theorem good_len {ms : List Str} {bs : List Row} {m : WMap} (G : Good ms bs m) (N : NoNeg bs) (mo : MsOk ms bs) {x y : Str} {w : Way} (h : best m x y = some w) : w.c.length ≤ ms.length := by
  unfold best at h
  by_cases e : x = y
  · rw [if_pos e] at h
    cases h
    exact Nat.zero_le _
  · rw [if_neg e] at h
    have nd := good_simple G N h
    obtain ⟨_, h1, _, _, iy⟩ := G.sound x y w h
    have := sub_len nd fun z hz => by
      rcases List.mem_append.mp hz with hz | hz
      · obtain ⟨b, hb, rfl⟩ := List.mem_map.mp hz
        exact (mo b (h1.mem b hb)).1
      · rw [List.mem_singleton.mp hz]
        exact iy
    rw [List.length_append] at this
    unfold srcs at this
    rw [List.length_map] at this
    omega
/-- what a net's ways are good for: its bounds, or those before the ring -/
theorem NetOk.good {ms : List Str} {bs : List Row} {r : RW} (h : NetOk ms bs r) : ∃ bs', (∀ b ∈ bs', b ∈ bs) ∧ Good ms bs' r.2 ∧ NoNeg bs' := by
  obtain ⟨o, m⟩ := r
  cases o with
  | none =>
    obtain ⟨G, N⟩ := (h : Good ms bs m ∧ NoNeg bs)
    exact ⟨bs, fun _ h => h, G, N⟩
  | some ring =>
    obtain ⟨bs1, b, bs2, q, e, G, N, _⟩ := h
    exact ⟨bs1, fun d hd => by rw [e]; exact List.mem_append_left _ hd, G, N⟩
theorem net_len {ms : List Str} {bs : List Row} (mo : MsOk ms bs) {x y : Str} {w : Way} (h : best (netW ms bs).2 x y = some w) : w.c.length ≤ ms.length := by
  obtain ⟨bs', s, G, N⟩ := (net_ok mo).good
  exact good_len G N (fun d hd => mo d (s d hd)) h
theorem netW_snoc (ms : List Str) (bs : List Row) (b : Row) : netW ms (bs ++ [b]) = stepR ms (netW ms bs) b := by
  unfold netW
  rw [List.foldl_append]
  rfl
end N4
set_option maxRecDepth 100000
set_option maxHeartbeats 8000000
namespace N4
open PySem L2 Evl GP HR SC SetM SetH
def RingAt (K : PySem.W.Frag) (H : Hp) (v : V) : Option (List Row) → Prop
  | none => v = .non
  | some c => ∃ q us, v = .ref q ∧ SqT K H q us ∧ RowsAt H us c
theorem RingAt.ex {K : PySem.W.Frag} {H H' : Hp} {v : V} {o : Option (List Row)} (h : RingAt K H v o) (e : Ex H H') : RingAt K H' v o := by
  cases o with
  | none => exact h
  | some c =>
    obtain ⟨q, us, h1, h2, h3⟩ := h
    exact ⟨q, us, h1, ex_t e h2, h3.ex e⟩
def KnAt (K : PySem.W.Frag) (H : Hp) (ms : List Str) (t : Addr) (r : RW) : Prop := ∃ v d, SqT K H t [v, .ref d] ∧ RingAt K H v r.1 ∧ WsAt K H ms d r.2
theorem KnAt.ex {K : PySem.W.Frag} {H H' : Hp} {ms : List Str} {t : Addr} {r : RW} (h : KnAt K H ms t r) (e : Ex H H') : KnAt K H' ms t r := let ⟨v, d, h1, h2, h3⟩ := h; ⟨v, d, ex_t e h1, h2.ex e, h3.ex e⟩
def spNoRing (K : PySem.W.Frag) : Sp := fun vs H Q _ => vs = [] ∧ ∀ t H', Ex H H' → (∀ ms, KnAt K H' ms t (none, fun _ _ => none)) → Q (.ref t) H'
def spRWith (K : PySem.W.Frag) : Sp := fun vs H Q _ => ∃ (t mo b : Addr) (ms : List Str) (r : RW) (e : Row), vs = [.ref t, .ref mo, .ref b] ∧ KnAt K H ms t r ∧ SqT K H mo (ms.map V.str) ∧ ms.Nodup ∧ ms.length ≤ 20 ∧ H b = some (.tup (rowV e)) ∧ (∀ x y w, best r.2 x y = some w → w.c.length ≤ 1000) ∧
  ∀ t' H', Ex H H' → KnAt K H' ms t' (stepR ms r e) → Q (.ref t') H'
def spRW (K : PySem.W.Frag) : Sp := fun vs H Q _ => ∃ (bo mo : Addr) (us : List V) (bs : List Row) (ms : List Str), vs = [.ref bo, .ref mo] ∧ SqT K H bo us ∧ RowsAt H us bs ∧ MsOk ms bs ∧ SqT K H mo (ms.map V.str) ∧ ms.Nodup ∧ ms.length ≤ 20 ∧
  ∀ t H', Ex H H' → KnAt K H' ms t (netW ms bs) → Q (.ref t) H'
section
variable {P : Program} {w : World} {K : PySem.W.Frag} {mg : Str → Option Value} {base : Heap} {a : Ad} {d : Fd} {fL fN fU fI : Addr}
theorem ok_no_ring (T : TX K mg a) (D : FDS K a d) : FnOk P w K mg base CX0 1 a.a_no_ring d.a_no_ring [] (spNoRing K) := by
  refine D.F_no_ring.ok sc_no_ring (fun vs H Q E h => ?_) (fun cdv A outer s H vs Q E hr h => ?_)
  · obtain ⟨rfl, _⟩ := h
    rfl
  · obtain ⟨rfl, fin⟩ := h
    refine ⟨_, (pss_one (ps_ret (pe_tup (pa_cons pe_non (pa_cons pe_dnewT pa_nil))))), ?_⟩
    refine fun p hp => ⟨(by show 2 ≤ sizeLine; decide), fun t ht => ?_⟩
    have ep := Ex.new (o := .dT []) hp
    have et := Ex.new (o := .tup [.non, .ref p]) ht
    exact fin t _ (ep.trans et) fun ms => ⟨.non, p, SqT.of upd_same, rfl, [], et _ _ upd_same, ⟨fun kv h => absurd h List.not_mem_nil, List.nodup_nil, fun _ _ _ => rfl, fun _ _ _ h => nomatch h⟩⟩
theorem ok_ring_and_ways_with (T : TX K mg a) (D : FDS K a d) (Z : EW K a) : FnOk P w K mg base CX0 3 a.a_ring_and_ways_with d.a_ring_and_ways_with ["known", "moments", "bound"] (spRWith K) := by
  have G_best_way : FnOk P w K mg base CX0 1 a.a_best_way d.a_best_way ["ways", "start", "end"] (spBest K) := ok_best_way T D Z
  have G_ways_with : FnOk P w K mg base CX0 2 a.a_ways_with d.a_ways_with ["ways", "moments", "bound"] (spWays K) := ok_ways_with T D Z
  refine D.F_ring_and_ways_with.ok sc_ring_and_ways_with (fun vs H Q E h => ?_) (fun cdv A outer s H vs Q E hr h => ?_)
  · obtain ⟨t, mo, b, ms, r, e, rfl, _⟩ := h
    rfl
  · obtain ⟨t, mo, b, ms, ⟨o, m⟩, ⟨x, y, k⟩, rfl, KN, hmo, nd, l20, hb, short, fin⟩ := h
    refine ⟨_, (pss_cons (ps_asg (pv 0) (pg_tup rfl (pgs_cons (pg_name (i := 3) sc_ring_and_ways_with.nd rfl (Or.inl rfl)) (pgs_cons (pg_name (i := 4) sc_ring_and_ways_with.nd rfl (Or.inl rfl)) pgs_nil))))
        (pss_cons (ps_if (pt_cmpR op_notN (pv 3) pe_non (nomark _)) (pss_one (ps_ret (pv 0))) pss_nil)
        (pss_cons (ps_asg (pv 2) (pg_tup rfl (pgs_cons (pg_name (i := 5) sc_ring_and_ways_with.nd rfl (Or.inl rfl)) (pgs_cons (pg_name (i := 6) sc_ring_and_ways_with.nd rfl (Or.inl rfl)) (pgs_cons (pg_name (i := 7) sc_ring_and_ways_with.nd rfl (Or.inl rfl)) (pgs_cons (pg_name (i := 8) sc_ring_and_ways_with.nd rfl (Or.inl rfl)) pgs_nil))))))
        (pss_cons (ps_set (i := 9) sc_ring_and_ways_with.nd rfl (Or.inl rfl) (pe_call G_best_way (hr.mono (by decide)) rfl T.f_best_way T.k_best_way D.B_best_way .nil pass0 (pa_cons (pv 4) (pa_cons (pv 7) (pa_cons (pv 6) pa_nil)))))
        (pss_cons (ps_if (PW.pt (pw_and (pt_cmpR op_notN (pv 9) pe_non (nomark _)) (pw_and1 (pt_cmpR op_lt (pe_op op_add (pe_ix ix_tup (pv 9) pe_int (fun _ _ => rfl)) (pv 8)) pe_int (nomark _))))) (pss_one (ps_ret (pe_tup (pa_cons (pe_tup (pa_cons (pv 2) (StX.pa_star (pe_ix ix_tup (pv 9) pe_int (fun _ _ => rfl)) pa_nil))) (pa_cons (pv 4) pa_nil))))) pss_nil)
        (pss_one (ps_ret (pe_tup (pa_cons pe_non (pa_cons (pe_call G_ways_with (hr.mono (by decide)) rfl T.f_ways_with T.k_ways_with D.B_ways_with .nil pass0 (pa_cons (pv 4) (pa_cons (pv 1) (pa_cons (pv 2) pa_nil)))) pa_nil)))))))))), ?_⟩
    obtain ⟨v, d, ht, RA, WA⟩ := id KN
    have big : 100000 ≤ sizeLine := by decide
    refine ⟨_, rfl, t, _, rfl, ht, rfl, _, _, rfl, _, _, rfl, rfl, ?_⟩
    cases o with
    | some ring =>
      obtain ⟨q, us, rfl, _⟩ := RA
      refine ⟨_, rfl, rfl, _, rfl, iteT' rfl ⟨_, rfl, fin t H (Ex.refl _) KN⟩⟩
    | none =>
      obtain rfl : v = .non := RA
      refine ⟨_, rfl, rfl, _, rfl, iteF' rfl ?_⟩
      refine ⟨_, rfl, b, _, rfl, SqT.of hb, rfl, _, _, rfl, _, _, rfl, _, _, rfl, _, _, rfl, rfl, ?_⟩
      refine ⟨_, rfl, _, rfl, _, rfl, d, y, x, ms, m, rfl, WA, fun vo H1 e1 O => ?_⟩
      have grow : ∀ {tt : V → Hp → Prop}, stepR ms (none, m) (x, y, k) = (none, addW m ms (x, y, k)) → True := fun _ => trivial
      unfold stepR at fin
      dsimp only at fin
      -- what is left: (None, ways_with(ways, moments, bound))
      have last : stepR ms (none, m) (x, y, k) = (none, addW m ms (x, y, k)) → ∀ d' H2, Ex H H2 → WsAt K H2 ms d' (addW m ms (x, y, k)) → ∀ t' H3, Ex H2 H3 → H3 t' = some (.tup [.non, .ref d']) → Q (.ref t') H3 := fun h d' H2 e2 W t' H3 e3 g => by
        refine fin t' H3 (e2.trans e3) ?_
        have h' := h
        unfold stepR at h'
        dsimp only at h'
        rw [h']
        exact ⟨.non, d', SqT.of g, rfl, W.ex e3⟩
      cases ho : best m y x with
      | none =>
        rw [ho] at O
        obtain rfl : vo = .non := O
        refine ⟨_, rfl, rfl, _, rfl, iteF' rfl (iteF ?_)⟩
        refine ⟨_, rfl, _, rfl, _, rfl, d, mo, b, ms, m, (x, y, k), rfl, WA.ex e1, ex_t e1 hmo, nd, l20, e1 _ _ hb, short, fun d' H2 e2 W2 => ⟨(by show 2 ≤ sizeLine; decide), fun t' ht' => ?_⟩⟩
        exact last (by unfold stepR; dsimp only; rw [ho]) d' H2 (e1.trans e2) W2 t' _ (Ex.new ht') upd_same
      | some u =>
        rw [ho] at O
        obtain ⟨p, q, us, rfl, hp, hq, R⟩ := (O : WayAt K H1 vo u)
        refine ⟨_, rfl, rfl, _, rfl, iteT' rfl ⟨_, rfl, p, _, 0, _, rfl, rfl, hp, at_lit (n := 0) rfl rfl, _, rfl, _, _, rfl, rfl, _, _, rfl, rfl, _, rfl, ?_⟩⟩
        refine ite2 (fun h1 => ?_) (fun h1 => ?_)
        · have lt : u.t + k < 0 := of_decide_eq_true h1
          have sb := short _ _ _ ho
          have lb := R.1
          rw [ho] at fin
          dsimp only at fin
          rw [if_pos lt] at fin
          refine ⟨_, rfl, _, rfl, p, _, 2, _, rfl, rfl, hp, at_lit (n := 2) rfl rfl, q, us, rfl, .inl hq, ?_, fun t1 ht1 => ⟨_, rfl, (by show 2 ≤ sizeLine; decide), fun t2 ht2 => ?_⟩⟩
          · simp only [List.length_append, List.length_cons, List.length_nil]
            omega
          · have x1 := Ex.new (o := .tup (V.ref b :: (us ++ []))) ht1
            have x2 := Ex.new (o := .tup [.ref t1, .ref d]) ht2
            refine fin t2 _ ((e1.trans x1).trans x2) ⟨.ref t1, d, SqT.of upd_same, ⟨t1, _, rfl, SqT.of (x2 _ _ upd_same), ?_⟩, WA.ex ((e1.trans x1).trans x2)⟩
            have R2 : RowsAt H1 (V.ref b :: (us ++ [])) ((x, y, k) :: u.c) := by
              rw [List.append_nil]
              exact (RowsAt.one (e1 _ _ hb)).app R
            exact R2.ex (x1.trans x2)
        · have nl : ¬ u.t + k < 0 := fun z => h1 (decide_eq_true z)
          refine ⟨_, rfl, _, rfl, _, rfl, d, mo, b, ms, m, (x, y, k), rfl, WA.ex e1, ex_t e1 hmo, nd, l20, e1 _ _ hb, short, fun d' H2 e2 W2 => ⟨(by show 2 ≤ sizeLine; decide), fun t' ht' => ?_⟩⟩
          exact last (by unfold stepR; dsimp only; rw [ho]; exact if_neg nl) d' H2 (e1.trans e2) W2 t' _ (Ex.new ht') upd_same
theorem ok_ring_and_ways (T : TX K mg a) (D : FDS K a d) (Z : EW K a) : FnOk P w K mg base CX0 4 a.a_ring_and_ways d.a_ring_and_ways ["bounds", "moments"] (spRW K) := by
  have G_no_ring : FnOk P w K mg base CX0 1 a.a_no_ring d.a_no_ring [] (spNoRing K) := ok_no_ring T D
  have G_ring_and_ways_with : FnOk P w K mg base CX0 3 a.a_ring_and_ways_with d.a_ring_and_ways_with ["known", "moments", "bound"] (spRWith K) := ok_ring_and_ways_with T D Z
  refine D.F_ring_and_ways.ok sc_ring_and_ways (fun vs H Q E h => ?_) (fun cdv A outer s H vs Q E hr h => ?_)
  · obtain ⟨bo, mo, us, bs, ms, rfl, _⟩ := h
    rfl
  · obtain ⟨bo, mo, us, bs, ms, rfl, hbo, R, mok, hmo, nd, l20, fin⟩ := h
    refine ⟨_, (pss_cons (ps_set (i := 2) sc_ring_and_ways.nd rfl (Or.inl rfl) (pe_call0 G_no_ring (hr.mono (by decide)) rfl T.f_no_ring T.k_no_ring D.B_no_ring .nil pass0))
        (pss_cons (ps_for PassesOwn.never rfl (pi_tup (pv 0)) (pg_name (i := 3) sc_ring_and_ways.nd rfl (Or.inl rfl)) (pss_one (ps_set (i := 2) sc_ring_and_ways.nd rfl (Or.inl rfl) (pe_call G_ring_and_ways_with (hr.mono (by decide)) rfl T.f_ring_and_ways_with T.k_ring_and_ways_with D.B_ring_and_ways_with .nil pass0 (pa_cons (pv 2) (pa_cons (pv 1) (pa_cons (pv 3) pa_nil)))))))
        (pss_one (ps_ret (pv 2))))), ?_⟩
    have lu := R.1
    refine ⟨rfl, fun t H1 e1 KN => ?_⟩
    refine ⟨_, rfl, bo, rfl, ⟨us, ex_t e1 hbo⟩, for_it walk_tup (fun i σ' H2 => (∃ t' o3, σ' = [some (.ref bo), some (.ref mo), some (.ref t'), o3] ∧ KnAt K H2 ms t' (netW ms (bs.take i))) ∧ Ex H H2) ⟨⟨t, none, rfl, KN ms⟩, e1⟩ (fun i σ' H2 _ h => ex_t h.2 hbo) ?_ ?_⟩
    · rintro i v σ' H2 H2' hi ⟨⟨t', o3, rfl, KN0⟩, e2⟩ ⟨rfl, hv⟩
      obtain ⟨b, p, hb, rfl, hp⟩ := R.get hv
      have tk : bs.take (i + 1) = bs.take i ++ [b] := by rw [List.take_add_one, hb]; rfl
      have mt : MsOk ms (bs.take i) := fun d hd => mok d (List.mem_of_mem_take hd)
      refine ⟨_, rfl, _, rfl, _, rfl, t', mo, p, ms, netW ms (bs.take i), b, rfl, KN0, ex_t e2 hmo, nd, l20, e2 _ _ hp, fun x y w h => by have := net_len mt h; omega, fun t2 H3 e3 KN3 => ?_⟩
      refine ⟨⟨t2, _, rfl, ?_⟩, e2.trans e3⟩
      rw [tk, netW_snoc]
      exact KN3
    · rintro σ' H2 ⟨⟨t', o3, rfl, KN0⟩, e2⟩
      rw [lu, List.take_length] at KN0
      exact ⟨_, rfl, fin t' H2 e2 KN0⟩
end
end N4
set_option maxRecDepth 100000
set_option maxHeartbeats 8000000
namespace N4
open PySem L2 Evl GP HR SC SetM SetH
/-- the sums of the ways, as a dict -/
structure MnL (ms : List Str) (kvs : List (List L2.Key × V)) (m : WMap) : Prop where
  ins : ∀ kv ∈ kvs, ∃ x ∈ ms, ∃ y ∈ ms, kv.1 = kk x y
  nd : (kvs.map (·.1)).Nodup
  val : ∀ x y, valV kvs (kk x y) = (m x y).map fun w => .int w.t
def MnAt (H : Hp) (ms : List Str) (v : V) (r : RW) : Prop := match r.1 with
  | some _ => v = .non
  | none => ∃ d kvs, v = .ref d ∧ H d = some (.dT kvs) ∧ MnL ms kvs r.2
theorem MnAt.ex {H H' : Hp} {ms : List Str} {v : V} {r : RW} (h : MnAt H ms v r) (e : Ex H H') : MnAt H' ms v r := by
  obtain ⟨o, m⟩ := r
  cases o with
  | some c => exact h
  | none =>
    obtain ⟨d, kvs, h1, h2, h3⟩ := (h : ∃ d kvs, v = .ref d ∧ H d = some (.dT kvs) ∧ MnL ms kvs m)
    exact ⟨d, kvs, h1, e _ _ h2, h3⟩
def tOf (m : WMap) : List L2.Key → V
  | [.inr x, .inr y] => .int (((m x y).map Way.t).getD 0)
  | _ => .int 0
theorem valV_keys (f : List L2.Key → V) : ∀ (kvs : List (List L2.Key × V)) (k : List L2.Key), valV (kvs.map fun kv => (kv.1, f kv.1)) k = (valV kvs k).map fun _ => f k
  | [], k => rfl
  | p :: r, k => by
    rw [List.map_cons]
    by_cases e : p.1 = k
    · rw [valV_pos e, valV_pos (p := (p.1, f p.1)) e]
      show some (f p.1) = _
      rw [e]
      rfl
    · rw [valV_neg e, valV_neg (p := (p.1, f p.1)) e, valV_keys f r k]
theorem WsL.mean {K : PySem.W.Frag} {H : Hp} {ms : List Str} {kvs : List (List L2.Key × V)} {m : WMap} (h : WsL K H ms kvs m) : MnL ms (kvs.map fun kv => (kv.1, tOf m kv.1)) m := by
  refine ⟨fun kv hkv => ?_, by rw [List.map_map]; exact h.nd, fun x y => ?_⟩
  · obtain ⟨q, hq, rfl⟩ := List.mem_map.mp hkv
    exact h.ins q hq
  · rw [valV_keys]
    cases o : m x y with
    | none =>
      rw [h.no x y o]
      rfl
    | some w =>
      obtain ⟨v, h1, _⟩ := h.val x y w o
      rw [h1]
      show some (V.int (((m x y).map Way.t).getD 0)) = _
      rw [o]
      rfl
def spMean (K : PySem.W.Frag) : Sp := fun vs H Q _ => ∃ (rv : V) (d : Addr) (ms : List Str) (r : RW), vs = [rv, .ref d] ∧ RingAt K H rv r.1 ∧ WsAt K H ms d r.2 ∧ ms.length ≤ 20 ∧ ∀ v H', Ex H H' → MnAt H' ms v r → Q v H'
section
variable {P : Program} {w : World} {K : PySem.W.Frag} {mg : Str → Option Value} {base : Heap} {a : Ad} {d : Fd} {fL fN fU fI : Addr}
theorem ok_meaning_of (T : TX K mg a) (D : FDS K a d) : FnOk P w K mg base CX0 1 a.a_meaning_of d.a_meaning_of ["ring", "ways"] (spMean K) := by
  refine D.F_meaning_of.ok sc_meaning_of (fun vs H Q E h => ?_) (fun cdv A outer s H vs Q E hr h => ?_)
  · obtain ⟨rv, d, ms, r, rfl, _⟩ := h
    rfl
  · obtain ⟨rv, d, ms, ⟨o, m⟩, rfl, RA, ⟨kvs, hd, WL⟩, l20, fin⟩ := h
    refine ⟨_, (pss_cons (ps_if (pt_cmpR op_notN (pv 0) pe_non (nomark _)) (pss_one (ps_ret pe_non)) pss_nil)
        (pss_one (ps_lock (ps_ret (pe_dcT (own := [("pair", 2)]) (g := gName 2) (tt := tYes) rfl (hu1 hr) sc_meaning_of.nd (pi_keys (pv 1)) (blkOk_by (N := ["ring", "ways", "pair"]) (sc := defScope s_meaning_of) (by decide +kernel)) (fun _ _ _ _ _ => (pg_name (i := 2) sc_meaning_of.nd rfl (Or.inl rfl))) (fun _ _ _ _ _ => pts_nil) (fun _ _ _ _ _ => (pv 2)) (fun _ _ _ _ _ => (pe_ix (ix_tupK (K := K)) (pe_dget (hu_of hr) (pv 1) (pv 2) (fun _ _ => rfl)) pe_int (fun _ _ => rfl)))))))), ?_⟩
    cases o with
    | some ring =>
      obtain ⟨q, us, rfl, _⟩ := RA
      exact ⟨_, rfl, rfl, _, rfl, iteT' rfl (fin .non H (Ex.refl _) rfl)⟩
    | none =>
      obtain rfl : rv = .non := RA
      refine ⟨_, rfl, rfl, _, rfl, iteF' rfl ?_⟩
      have few := WL.few
      have few2 : ms.length * ms.length ≤ 400 := Nat.mul_le_mul l20 l20
      have big : 100000 ≤ sizeLine := by decide
      refine ⟨d, .dT kvs, hd, True.intro, fun od => ?_⟩
      refine ⟨_, rfl, d, od, rfl, .inr ⟨kvs, upd_same, fun D1 hD1 => dcT_it walk_keysT (fun i H2 => Ex (upd H d (.frz od (.dT kvs))) H2 ∧ H2 D1 = some (.dT ((kvs.take i).map fun kv => (kv.1, tOf m kv.1)))) ⟨Ex.new hD1, upd_same⟩ (fun i H2 _ h => h.1 _ _ upd_same) ?_ ?_⟩⟩
      · rintro i v H2 H2' hi ⟨e2, hD2⟩ ⟨rfl, kq, u, q, hk, rfl, hq⟩
        obtain ⟨va, nk⟩ := val_at WL.nd hk
        obtain ⟨x, _, y, _, ek⟩ := WL.ins _ (List.mem_of_getElem? hk)
        have ek2 : kq = kk x y := ek
        obtain ⟨w0, hw, WA⟩ : ∃ w0, m x y = some w0 ∧ WayAt K H u w0 := by
          cases hm : m x y with
          | none =>
            have := WL.no x y hm
            rw [← ek2, va] at this
            cases this
          | some w0 =>
            obtain ⟨v, h1, h2⟩ := WL.val x y w0 hm
            rw [← ek2, va] at h1
            cases h1
            exact ⟨w0, rfl, h2⟩
        have t2 : Td H H2' := fun b o n hb => by
          refine e2 b o ?_
          rw [upd_ne (fun z : b = d => n kvs (Option.some.inj ((hb.symm.trans (by rw [z])).trans hd)))]
          exact hb
        obtain ⟨p, q2, us, rfl, hp, hq2, R⟩ := WA.td t2
        unfold gName tYes
        dsimp only
        refine ⟨rfl, iteT' rfl ⟨_, rfl, _, rfl, _, rfl, d, .ref p, rfl, .inr ⟨kvs, kq, q, .inr ⟨od, e2 _ _ upd_same⟩, rfl, hq, va.symm⟩, p, _, 0, _, rfl, rfl, hp, at_lit (n := 0) rfl rfl, _, kq, q, rfl, hq, hD2, by rw [List.length_map, List.length_take]; omega, Ex.mut e2 hD1, ?_⟩⟩
        have nk2 : kq ∉ (((kvs.take i).map fun kv => (kv.1, tOf m kv.1)).map (·.1)) := by
          rw [List.map_map]
          exact nk
        rw [upd_same, putK_new _ nk2, List.take_add_one, hk]
        simp only [Option.toList_some, List.map_append, List.map_cons, List.map_nil]
        have : tOf m kq = .int w0.t := by
          rw [ek2]
          show V.int (((m x y).map Way.t).getD 0) = _
          rw [hw]
          rfl
        rw [this]
      · rintro H2 ⟨e2, hD2⟩
        rw [List.take_length] at hD2
        have xl := ex_lock hd e2
        have nD : D1 ≠ d := fun z => by rw [z, upd_same] at hD1; cases hD1
        have hD3 : upd H2 d (.dT kvs) D1 = some (.dT (kvs.map fun kv => (kv.1, tOf m kv.1))) := by rw [upd_ne nD]; exact hD2
        exact ⟨e2 _ _ upd_same, fin _ _ xl ⟨D1, _, rfl, hD3, WL.mean⟩⟩
end
end N4
set_option maxRecDepth 100000
set_option maxHeartbeats 4000000
/-! an attribute among the targets; what L2N's exceptions ask of a star -/
namespace KW
open PySem PySem.Spec PyProof.Rows L2 StX
def gFld (K : PySem.W.Frag) (ta : TE) (f : Str) : TG := fun v σ H Q => ta σ H fun x H2 => ∃ a C dx fs, x = .ref a ∧ H2 a = some (.ins C dx fs) ∧ Cls K C ∧ NoAttr K C f ∧ fs.length < 1000 ∧ Q σ (upd H2 a (.ins C dx (putF f v fs)))
section
variable {X : Cx} {o : Expr} {f : Str} {ta : TE} {pos : Pos}
theorem pg_fld (ha : PE X o ta)
    (hs : ∀ v, assign (.Attribute o f pos) X.env v = (do
      let ov ← holding [v] (eval o X.env)
      standAt pos.atName
      holding [v, ov] (setAttr ov f v)
      release [v, ov] []) := by intro _; rfl) : PG X (.Attribute o f pos) (gFld X.K ta f) := by
  refine ⟨fun pins s σ H v u Q I r h => ?_⟩
  rw [hs]
  refine wpAny_bind (wpAny_holding (thn (ha.run pins s σ H _ I h) fun ov s2 ⟨x, H2, I2, rx, a, C, dx, fs, ex, ea, c, n, l, q2⟩ => ?_))
  subst ex
  obtain rfl : ov = Value.ref a := rx
  refine wpAny_bind (wpAny_standAt (wpAny_bind (wpAny_holding (setattr_ok I2 ea c n l r fun s3 I3 => ?_))))
  exact wpAny_release ⟨σ, _, I3, q2⟩
end
theorem cxUpN {P : Program} {w : World} : CXUp (L2N.CX P w) := by
  rintro outer s H s2 H2 E e s' un kp ho ⟨a, B, H', cls, d, ea, fl, hok, ub, na, os, ag, he⟩
  refine ⟨a, B, H', cls, d, ea, fl, hok, ⟨fun b o q n hb => ub.keep b o (kp b o q) (un.free b o q n (by simp)) hb, fun b o q hb => ub.slot b o (kp b o q) hb, fun b o q n => ub.free b o (kp b o q) (un.free b o q n (by simp)),
    fun b o q hb => ub.there b o (kp b o q) hb, fun b xs q => ub.tups b xs (un.tups b xs q), fun b o xs q => ub.frzs b o xs (un.frzs b o xs q), fun b ps q => ?_⟩, na, os.trans ho, ag, he⟩
  obtain ⟨m1, e1⟩ := un.tbls b ps q
  obtain ⟨m2, e2⟩ := ub.tbls b _ e1
  exact ⟨m1 ++ m2, by rw [e2, Array.append_assoc]⟩
end KW
set_option maxRecDepth 100000
set_option maxHeartbeats 4000000
/-! tuple(d), the keys of d tuples of ints and texts -/
namespace TV
open PySem PySem.Spec PyProof.Rows L2
section
variable {prog : Program} {w : World} {A : Around} {E : Value → Shared → Prop} {s : Shared} {r d : Addr} {n : Nat} {P : Nat → Value → Prop} {OK : Heap → Prop}
theorem code_tuple_new_dict {Q₁ : Value → Shared → Prop} (K : PySem.W.KdlSrc prog w "dict" r d n P OK) (hh : A.handled = none) (hok : OK s.heap) (hn : n ≤ sizeLine)
    (h : ∀ (h' : Heap) (tk : Nat) (acc : Array Value), (∀ b o, s.heap.get? b = some o → h'.get? b = some o) → ItemsOf P acc n →
      Q₁ (.ref h'.objs.size) { s with heap := h'.push { cls := .type "tuple", data := .seq acc }, toks := tk }) :
    codeAny (model prog w) A (.call (.builtin "tuple.__new__") ⟨[.type "tuple", .ref r], []⟩) (wants Q₁ E) s := by
  refine codeAny_of_tree ?_
  show wpAny _ A.in1 (do checkBuiltinCall "tuple.__new__" ⟨[.type "tuple", .ref r], []⟩; again (.builtin "tuple.__new__" ⟨[.type "tuple", .ref r], []⟩)) _ _ s
  refine wpAny_bind (wpAny_of_eq (F.newCall_tuple_1 _) (wpAny_pure ⟨plainId_quiet F.plain_tuple_new _, codeAny_builtin F.entry_tuple_new ?_⟩))
  rw [Around.under_plainId F.plain_tuple_new _]
  have hsub := sub_tuple_self
  have hinit := init_tuple_lookup
  have hmh := madeHere_tuple
  have hTI : s.TypeIs (.ref r) "dict" := K.type s hok
  have hh1 : A.in1.handled = none := hh
  wp_walk using wpAny_typeOf hTI, collect_kdl (A := A.in1) K hh1 hok hn
  intro h' tk acc hk hacc
  show wpAny _ _ (Builtin.Tuple.tupleExact acc.toList.toArray >>= fun v => ret v) _ _ _
  unfold Builtin.Tuple.tupleExact
  refine wpAny_bind (wpAny_newObj_type ?_ (by show acc.toList.toArray.size ≤ sizeLine; simp only [Array.toArray_toList]; rw [hacc.1]; exact hn))
  refine wpAny_pure ?_
  have e : acc.toList.toArray = acc := by simp
  rw [e]
  exact h h' tk acc hk hacc
theorem call_tuple_dict {Q : Value → Shared → Prop} (K : PySem.W.KdlSrc prog w "dict" r d n P OK) (hh : A.handled = none) (hok : OK s.heap) (hn : n ≤ sizeLine)
    (hQ : ∀ (h' : Heap) (tk : Nat) (acc : Array Value), (∀ b o, s.heap.get? b = some o → h'.get? b = some o) → ItemsOf P acc n →
      Q (.ref h'.objs.size) { s with heap := h'.push { cls := .type "tuple", data := .seq acc }, toks := tk }) :
    wpAny (model prog w) A (call (.type "tuple") [.ref r]) Q E s := by
  refine callType_codes (Q₁ := fun obj s₁ => s₁.TypeIs obj "tuple" ∧ Q obj s₁) F.called_tuple (F.typeCall_tuple_1 _) F.entry_object_init
    (code_tuple_new_dict (A := A.in1) K hh hok hn fun h' tk acc hk hacc => ⟨⟨_, Heap.get?_push_size _ rfl, rfl⟩, hQ h' tk acc hk hacc⟩) fun obj s₁ h₁ => ?_
  exact ⟨h₁.1, F.args_object_init_2 obj _, object_init_meets F.called_tuple.init.lookup F.called_tuple.made (by decide) prog w A.in1 _ s₁ ⟨h₁.1, rfl, h₁.2⟩⟩
end
end TV
namespace HR
open PySem PySem.Spec PyProof.Rows L2
section
variable {X : Cx}
/-- tuple(d), d by tuples: its keys -/
def rKeysTT : List V → Hp → VK → Prop := fun xs H Q => ∃ (d : Addr) (kvs : List (List L2.Key × V)), xs = [.ref d] ∧ H d = some (.dT kvs) ∧ ∀ (ks : List Addr) q, ks.length = kvs.length → (∀ (i : Nat) (b : Addr) (kv : List L2.Key × V), ks[i]? = some b → kvs[i]? = some kv → H b = some (.tup (kv.1.map kV))) → H q = none → Q (.ref q) (upd H q (.tup (ks.map V.ref)))
theorem cr_keysTT (hc : X.calm = true) : CallR X (.type "tuple") rKeysTT := by
  intro pins s σ H xs us Q I rx h
  obtain ⟨d, kvs, rfl, hd, q⟩ := h
  rw [Vals.ref1 rx]
  obtain ⟨z, hs, ys, rel, dd⟩ := dt_of I.hok hd
  obtain ⟨es, ep, raw, he⟩ := TV.raw_of dd
  have hl : kvs.length = ys.length := Paired.length rel
  have hes : es.size = ys.length := by
    have := congrArg List.length he
    rwa [List.length_map, Array.length_toList] at this
  refine TV.call_tuple_dict (PySem.KdlSrc.rawDict (d := d) (es := es) (ep := ep) hs) (I.ok.hd hc) raw (by omega) fun h' tk acc hk hacc => ?_
  have I1 : Inv X pins σ H { s with heap := h', toks := tk } := I.kept hk
  have ent : ∀ (j : Nat) (w : Value), acc.toList[j]? = some w → ∃ y : List L2.Key × Addr × Value, ys[j]? = some y ∧ w = .ref y.2.1 := fun j w hw => by
    obtain ⟨hi, hv⟩ := hacc.2 j w (by rw [← Array.getElem?_toList]; exact hw)
    have hj : j < ys.length := by omega
    refine ⟨ys[j], List.getElem?_eq_getElem hj, ?_⟩
    have e1 : es.toList[j]? = some (entryOfKey (tupleKind (mixKind X.prog X.w)) ys[j]) := by rw [he, List.getElem?_map, List.getElem?_eq_getElem hj]; rfl
    have e2 : es.toList[j]? = some es[j] := by rw [Array.getElem?_toList, Array.getElem?_eq_getElem hi]
    rw [hv, Option.some.inj (e2.symm.trans e1)]
    rfl
  have la : acc.toList.length = ys.length := by rw [Array.length_toList, hacc.1, hes]
  refine ⟨.ref h'.objs.size, upd H h'.objs.size (.tup ((ys.map fun y => y.2.1).map V.ref)), I1.laid (t' := tk) (fun b o q => Heap.get?_push_of_some _ q) (Nat.le_refl _) (show ObjOk X.prog X.w _ _ _ (.tup _) from ⟨by rw [List.length_map, List.length_map, ← hl]; exact z, acc.toList, ?_, ?_⟩), rfl, q _ _ (by rw [List.length_map, hl]) (fun i b kv hb hkv => ?_) (I1.hok.fresh (Nat.le_refl _))⟩
  · refine vals_of_at (by rw [List.length_map, List.length_map, la]) fun j x w h1 h2 => ?_
    obtain ⟨y, hy, rfl⟩ := ent j w h2
    rw [List.map_map, List.getElem?_map, hy] at h1
    cases h1
    rfl
  · have := IsTup.new h' acc.toList.toArray
    rw [Array.toArray_toList] at this ⊢
    exact this
  · rw [List.getElem?_map] at hb
    obtain ⟨y, hy, rfl⟩ := Option.map_eq_some_iff.mp hb
    obtain ⟨y2, hy2, hr⟩ := TV.pair_get rel hkv
    rw [hy] at hy2
    cases hy2
    exact hr.2.1
end
end HR
set_option maxRecDepth 100000
set_option maxHeartbeats 8000000
namespace N4
open PySem L2 Evl GP HR SC SetM SetH
abbrev s_Net_init : Stmt := inClass (top 22) 0
theorem sc_Net_init : FnScope ["self", "moments", "bounds", "bound", "name", "firsts", "names"] ["self", "moments", "bounds"] (defScope s_Net_init) := ⟨rfl, rfl, rfl, by decide +kernel, rfl, by decide +kernel, by decide +kernel⟩
/-- the bounds, each once -/
def flatR (bs : List Row) : List Row := bs.foldl (fun acc r => if r ∈ acc then acc else acc ++ [r]) []
theorem flatR_snoc (bs : List Row) (b : Row) : flatR (bs ++ [b]) = if b ∈ flatR bs then flatR bs else flatR bs ++ [b] := by
  unfold flatR
  rw [List.foldl_append]
  rfl
theorem snoc_ind {α : Type} {P : List α → Prop} (h0 : P []) (h1 : ∀ l a, P l → P (l ++ [a])) : ∀ l, P l := fun l => by
  have : ∀ s p, P p → P (p ++ s) := by
    intro s
    induction s with
    | nil => exact fun p h => by rw [List.append_nil]; exact h
    | cons a s ih => exact fun p h => by rw [show p ++ a :: s = (p ++ [a]) ++ s by simp]; exact ih _ (h1 p a h)
  have := this l [] h0
  simpa using this
theorem flatR_mem (bs : List Row) : ∀ b, b ∈ flatR bs ↔ b ∈ bs := by
  refine snoc_ind (P := fun bs => ∀ b, b ∈ flatR bs ↔ b ∈ bs) (fun b => Iff.rfl) (fun l a ih b => ?_) bs
  rw [flatR_snoc]
  by_cases h : a ∈ flatR l
  · rw [if_pos h, ih b]
    simp only [List.mem_append, List.mem_singleton]
    exact ⟨.inl, fun z => z.elim id fun e => e ▸ (ih a).mp h⟩
  · rw [if_neg h]
    simp only [List.mem_append, List.mem_singleton, ih b]
theorem flatR_nd (bs : List Row) : (flatR bs).Nodup := by
  refine snoc_ind (P := fun bs => (flatR bs).Nodup) List.nodup_nil (fun l a ih => ?_) bs
  rw [flatR_snoc]
  by_cases h : a ∈ flatR l
  · rw [if_pos h]
    exact ih
  · rw [if_neg h]
    exact List.nodup_append.mpr ⟨ih, by simp, fun x hx y hy e => h (by rw [List.mem_singleton.mp hy] at e; rwa [← e])⟩
theorem flatR_len (bs : List Row) : (flatR bs).length ≤ bs.length := by
  refine snoc_ind (P := fun bs => (flatR bs).length ≤ bs.length) (Nat.le_refl _) (fun l a ih => ?_) bs
  rw [flatR_snoc, List.length_append]
  split
  · omega
  · rw [List.length_append]
    show _ + 1 ≤ _ + 1
    omega
def rowK (d : Row) : List L2.Key := [.inr "most", .inr d.1, .inr d.2.1, .inl d.2.2]
theorem rowK_V (d : Row) : (rowK d).map kV = rowV d := rfl
theorem rowK_inj {d e : Row} (h : rowK d = rowK e) : d = e := by
  obtain ⟨x, y, k⟩ := d
  obtain ⟨u, v, j⟩ := e
  simp only [rowK, List.cons.injEq, Sum.inr.injEq, Sum.inl.injEq, and_true, true_and] at h
  obtain ⟨h1, h2, h3⟩ := h
  subst h1 h2 h3
  rfl
/-- names handed in: a list or a tuple -/
def MoArg (K : PySem.W.Frag) (H : Hp) (v : V) (es : List Str) : Prop := ∃ p, v = .ref p ∧ (SqL K H p (es.map V.str) ∨ SqT K H p (es.map V.str))
theorem MoArg.ex {K : PySem.W.Frag} {H H' : Hp} {v : V} {es : List Str} (h : MoArg K H v es) (e : Ex H H') : MoArg K H' v es := by
  obtain ⟨p, h1, h2 | h2⟩ := h
  · exact ⟨p, h1, .inl (ex_l e h2)⟩
  · exact ⟨p, h1, .inr (ex_t e h2)⟩
structure NetP (bs : List Row) (ms : List Str) : Prop where
  ok : ∀ b ∈ bs, RowOk b
  mok : MsOk ms bs
  nd : ms.Nodup
  so : PyProof.Rows.sortedS ms = true
  nm : ∀ z ∈ ms, isNameS z = true
  l20 : ms.length ≤ 20
  ndb : bs.Nodup
  lb : bs.length ≤ 1000
/-- a net with these bounds and moments -/
def NetAt (K : PySem.W.Frag) (C : Addr) (H : Hp) (q : Addr) (bs : List Row) (ms : List Str) : Prop := ∃ dx bo mo rv d mv us, H q = some (.ins C dx [("bounds", .ref bo), ("moments", .ref mo), ("ring", rv), ("_ways", .ref d), ("_meaning", mv)]) ∧ SqT K H bo us ∧ RowsAt H us bs ∧ SqT K H mo (ms.map V.str) ∧
  RingAt K H rv (netW ms bs).1 ∧ WsAt K H ms d (netW ms bs).2 ∧ MnAt H ms mv (netW ms bs)
theorem NetAt.ex {K : PySem.W.Frag} {C : Addr} {H H' : Hp} {q : Addr} {bs : List Row} {ms : List Str} (h : NetAt K C H q bs ms) (e : Ex H H') : NetAt K C H' q bs ms := by
  obtain ⟨dx, bo, mo, rv, d, mv, us, h1, h2, h3, h4, h5, h6, h7⟩ := h
  exact ⟨dx, bo, mo, rv, d, mv, us, e _ _ h1, ex_t e h2, h3.ex e, ex_t e h4, h5.ex e, h6.ex e, h7.ex e⟩
/-- the class of nets -/
structure CN (K : PySem.W.Frag) (mg : Str → Option Value) (C fI D0 T0 : Addr) : Prop where
  cl : L2.Cls K C
  n1 : NoAttr K C "bounds"
  n2 : NoAttr K C "moments"
  n3 : NoAttr K C "ring"
  n4 : NoAttr K C "_ways"
  n5 : NoAttr K C "_meaning"
  gC : mg "Net" = some (.ref C)
  mkr : Mk K C fI
  FI : ∃ oc od doc pm an cdv ct osl, K.lookup fI = some ⟨oc, od, .func (PySem.W.fnOf "__init__" "Net.__init__" (defArgs s_Net_init) (defBody s_Net_init) (defScope s_Net_init) .none (.ref D0) doc pm an cdv ct), osl⟩ ∧ PySem.W.codeIn K cdv "Net.__init__" = true
  kw : PySem.W.nsIn K D0 "moments" = some (some (.ref T0))
  emp : ∀ H, SqT K H T0 []
theorem or_go {K : PySem.W.Frag} {ta : TE} {p : Addr} {us : List V} {σ : L2.St} {H H0 : Hp} {R : It → Hp → Prop} (ht : ∀ Q : VK, Q (.ref p) H → ta σ H Q) (e : Ex H0 H) (h : SqL K H0 p us ∨ SqT K H0 p us)
    (hR : ∀ (J : It) (G : Hp → Prop), L2.Walk J us.length G (YAt us) → (∀ H', Ex H0 H' → G H') → R J H) : iList K ta σ H R ∨ iTup K ta σ H R := by
  rcases h with h | h
  · exact .inl (ht _ ⟨p, rfl, ⟨us, ex_l e h⟩, hR _ _ walk_list fun _ e => ex_l e h⟩)
  · exact .inr (ht _ ⟨p, rfl, ⟨us, ex_t e h⟩, hR _ _ walk_tup fun _ e => ex_t e h⟩)
/-- all but instances stays -/
def Ti (H H' : Hp) : Prop := ∀ (t : Addr) (o : HO), (∀ C dx fs, o ≠ .ins C dx fs) → H t = some o → H' t = some o
theorem Ti.ex {H H1 : Hp} (x : Ex H H1) : Ti H H1 := fun t o _ h => x t o h
theorem Ti.trans {H H1 H2 : Hp} (x : Ti H H1) (y : Ti H1 H2) : Ti H H2 := fun t o n h => y t o n (x t o n h)
theorem Ti.put {H : Hp} {q C dx : Addr} {fs : List (Str × V)} {o : HO} (h : H q = some (.ins C dx fs)) : Ti H (upd H q o) := fun t u n g => by
  rw [upd_ne (fun z : t = q => n _ _ _ (Option.some.inj ((g.symm.trans (by rw [z])).trans h)))]
  exact g
theorem Ti.sq {K : PySem.W.Frag} {H H' : Hp} (x : Ti H H') {p : Addr} {xs : List V} (h : SqT K H p xs) : SqT K H' p xs := by
  rcases h with (h | ⟨o, h⟩) | h
  · exact .inl (.inl (x _ _ (fun _ _ _ z => nomatch z) h))
  · exact .inl (.inr ⟨o, x _ _ (fun _ _ _ z => nomatch z) h⟩)
  · exact .inr h
theorem Ti.tk {H H' : Hp} (x : Ti H H') : TK H H' := fun p xs h => x p _ (fun _ _ _ z => nomatch z) h
theorem WayAt.ti {K : PySem.W.Frag} {H H' : Hp} {v : V} {w : Way} (h : WayAt K H v w) (e : Ti H H') : WayAt K H' v w := let ⟨p, q, us, h1, h2, h3, h4⟩ := h; ⟨p, q, us, h1, e.sq h2, e.sq h3, h4.keep e.tk⟩
theorem WsAt.ti {K : PySem.W.Frag} {H H' : Hp} {ms : List Str} {d : Addr} {m : WMap} (h : WsAt K H ms d m) (e : Ti H H') : WsAt K H' ms d m := by
  obtain ⟨kvs, h1, h2⟩ := h
  exact ⟨kvs, e _ _ (fun _ _ _ z => nomatch z) h1, h2.ins, h2.nd, h2.no, fun x y w g => let ⟨v, g1, g2⟩ := h2.val x y w g; ⟨v, g1, g2.ti e⟩⟩
theorem RingAt.ti {K : PySem.W.Frag} {H H' : Hp} {v : V} {o : Option (List Row)} (h : RingAt K H v o) (e : Ti H H') : RingAt K H' v o := by
  cases o with
  | none => exact h
  | some c =>
    obtain ⟨q, us, h1, h2, h3⟩ := h
    exact ⟨q, us, h1, e.sq h2, h3.keep e.tk⟩
theorem MnAt.ti {H H' : Hp} {ms : List Str} {v : V} {r : RW} (h : MnAt H ms v r) (e : Ti H H') : MnAt H' ms v r := by
  obtain ⟨o, m⟩ := r
  cases o with
  | some c => exact h
  | none =>
    obtain ⟨d, kvs, h1, h2, h3⟩ := (h : ∃ d kvs, v = .ref d ∧ H d = some (.dT kvs) ∧ MnL ms kvs m)
    exact ⟨d, kvs, h1, e _ _ (fun _ _ _ z => nomatch z) h2, h3⟩
theorem sub_lenR : ∀ {l m : List Str}, l.Nodup → (∀ z ∈ l, z ∈ m) → l.length ≤ m.length := fun nd h => sub_len nd h
def Kq (q : Addr) (H H' : Hp) : Prop := ∀ a o, a ≠ q → H a = some o → H' a = some o
theorem Kq.ex {q : Addr} {H H' : Hp} (e : Ex H H') : Kq q H H' := fun a o _ h => e a o h
theorem Kq.trans {q : Addr} {H H1 H2 : Hp} (x : Kq q H H1) (y : Kq q H1 H2) : Kq q H H2 := fun a o n h => y a o n (x a o n h)
theorem Kq.put {q : Addr} {H : Hp} {o : HO} : Kq q H (upd H q o) := fun a u n h => by rw [upd_ne n]; exact h
def spInit (K : PySem.W.Frag) (C : Addr) : Sp := fun vs H Q _ => ∃ (q dx bt : Addr) (mv : V) (us : List V) (bs : List Row) (es pool : List Str), vs = [.ref q, mv, .ref bt] ∧ H q = some (.ins C dx []) ∧ H bt = some (.tup us) ∧ RowsAt H us bs ∧ (∀ b ∈ bs, RowOk b) ∧ bs.length ≤ 1000 ∧
  MoArg K H mv es ∧ (∀ z ∈ es, isNameS z = true) ∧ es.length ≤ 40 ∧ pool.length ≤ 20 ∧ (∀ z ∈ es, z ∈ pool) ∧ (∀ b ∈ bs, ∀ z ∈ nm2 b, z ∈ pool) ∧
  ∀ (ms : List Str) H', Kq q H H' → NetAt K C H' q (flatR bs) ms → NetP (flatR bs) ms → (∀ z, z ∈ ms ↔ z ∈ es ∨ ∃ b ∈ bs, z ∈ nm2 b) → Q .non H'
section
variable {P : Program} {w : World} {K : PySem.W.Frag} {mg : Str → Option Value} {base : Heap} {a : Ad} {d : Fd} {fL fN fU fI f0 D0 T0 : Addr}
theorem ok_init (T : TX K mg a) (D : FDS K a d) (R : ER K mg P a fL fN fU fI) (Z : EW K a) (M : CN K mg a.cT f0 D0 T0) : KW.FnM P w K mg base (L2N.CX P w) 5 f0 "moments" (.ref T0) (spInit K a.cT) := by
  have G_check_bound : FnOk P w K mg base (L2N.CX P w) 3 a.a_check_bound d.a_check_bound ["value"] (spChk K a.cL) := ok_check_bound T D R
  have G_is_name : FnOk P w K mg base CX0 1 a.a_is_name d.a_is_name ["value"] (spIsName K) := ok_is_name T D
  have G_moments_of : FnOk P w K mg base CX0 3 a.a_moments_of d.a_moments_of ["literals"] (spMoments K) := ok_moments_of T D
  have G_ring_and_ways : FnOk P w K mg base CX0 4 a.a_ring_and_ways d.a_ring_and_ways ["bounds", "moments"] (spRW K) := ok_ring_and_ways T D Z
  have G_meaning_of : FnOk P w K mg base CX0 1 a.a_meaning_of d.a_meaning_of ["ring", "ways"] (spMean K) := ok_meaning_of T D
  obtain ⟨oc, od, doc, pm, an, cdv, ct, osl, lk, hcd⟩ := M.FI
  refine KW.fn_kw (p1 := "self") (pv := "bounds") (sp := spInit K a.cT) lk hcd sc_Net_init KW.cxUpN M.kw rfl (fun u m us => ?_) (fun u us => ?_) (fun A outer s H vs Q E hr h => ?_)
  · cases us with
    | nil => rfl
    | cons _ _ => rfl
  · cases us with
    | nil => exact ⟨_, _, _, _, _, _, rfl, rfl, rfl⟩
    | cons _ _ => exact ⟨_, _, _, _, _, _, rfl, rfl, rfl⟩
  · obtain ⟨q, dx, bt, mv, us, bs, es, pool, rfl, hq, hb, RA, ok, lb, MA, nmE, l30, p20, subE, subB, fin⟩ := h
    refine ⟨_, (pss_cons (ps_for PassesOwn.leaving rfl (pi_tup (pv 2)) (pg_name (i := 3) sc_Net_init.nd rfl (Or.inl rfl)) (pss_one (ps_expr (pe_call G_check_bound (hr.mono (by decide)) rfl T.f_check_bound T.k_check_bound D.B_check_bound .nil (L2N.passes_call (L2N.takes_of rfl rfl rfl rfl) (fun _ _ _ _ h => h)) (pa_cons (pv 3) pa_nil)))))
        (pss_cons (ps_for PassesOwn.leaving rfl (pi_or (pi_list (pv 1)) (pi_tup (pv 1))) (pg_name (i := 4) sc_Net_init.nd rfl (Or.inl rfl)) (pss_one (ps_if (pt_not (pt_val (pe_call G_is_name (hr.mono (by decide)) rfl T.f_is_name T.k_is_name D.B_is_name .nil pass0 (pa_cons (pv 4) pa_nil)))) (pss_one (NX.ps_raiseSup rfl R.eN hr (L2N.takes_of rfl rfl rfl rfl) (by exact (pa_cons (pv 4) pa_nil)))) pss_nil)))
        (pss_cons (ps_setDcT (i := 5) (own := [("bound", 3)]) (g := gName 3) (tt := tYes) rfl (hu1 hr) sc_Net_init.nd rfl rfl (sw_trueD rfl rfl rfl (by decide +kernel)) (pi_tup (pv 2)) (blkOk_by (N := ["self", "moments", "bounds", "bound", "name", "firsts", "names"]) (sc := defScope s_Net_init) (by decide +kernel)) (fun _ _ _ _ _ => (pg_name (i := 3) sc_Net_init.nd rfl (Or.inl rfl))) (fun _ _ _ _ _ => pts_nil) (fun _ _ _ _ _ => (pv 3)) (fun _ _ _ _ _ => pe_bl))
        (Evl.pss_cut (ps_set (i := 6) sc_Net_init.nd rfl (Or.inl rfl) (pe_op op_catA (pe_call G_moments_of (hr.mono (by decide)) rfl T.f_moments_of T.k_moments_of D.B_moments_of .nil pass0 (pa_cons (pv 2) pa_nil)) (pe_callTy call_tuple_of (by rfl) T.b_tuple (by decide +kernel) (pa_cons (pv 1) pa_nil))))
        (pss_cons (ps_fld (pv 0) (pe_callTy (cr_keysTT rfl) (by rfl) T.b_tuple (by decide +kernel) (pa_cons (pv 5) pa_nil)) rfl)
        (pss_cons (ps_fld (pv 0) (pe_callTy call_tuple_of (by rfl) T.b_tuple (by decide +kernel) (pa_cons (pe_callB (TSet.cr_sortedX rfl) (by rfl) T.b_sorted (by decide +kernel) (pa_cons (pe_callTy (TSet.cr_setXTK (K := K) (P := P) (w := w) rfl) (by rfl) T.b_set (by decide +kernel) (pa_cons (pv 6) pa_nil)) pa_nil)) pa_nil)) rfl)
        (pss_cons (ps_asg (pe_call G_ring_and_ways (hr.mono (by decide)) rfl T.f_ring_and_ways T.k_ring_and_ways D.B_ring_and_ways .nil pass0 (pa_cons (pe_fld (pv 0) rfl) (pa_cons (pe_fld (pv 0) rfl) pa_nil))) (pg_tup rfl (pgs_cons (KW.pg_fld (pv 0)) (pgs_cons (KW.pg_fld (pv 0)) pgs_nil))))
        (pss_one (ps_fld (pv 0) (pe_call G_meaning_of (hr.mono (by decide)) rfl T.f_meaning_of T.k_meaning_of D.B_meaning_of .nil pass0 (pa_cons (pe_fld (pv 0) rfl) (pa_cons (pe_fld (pv 0) rfl) pa_nil))) rfl))))))))), ?_⟩
    have lu := RA.1
    have big : 100000 ≤ sizeLine := by decide
    -- the bounds are checked
    refine ⟨_, rfl, bt, rfl, ⟨us, SqT.of hb⟩, for_it walk_tup (fun i σ' H1 => (∃ o3, σ' = [some (.ref q), some mv, some (.ref bt), o3, none, none, none]) ∧ Ex H H1) ⟨⟨none, rfl⟩, Ex.refl _⟩ (fun i σ' H1 _ h => SqT.of (h.2 _ _ hb)) ?_ ?_⟩
    · rintro i v σ' H1 H1' hi ⟨⟨o3, rfl⟩, e1⟩ ⟨rfl, hv⟩
      obtain ⟨b, p, hbi, rfl, hp⟩ := RA.get hv
      have okb := ok b (List.mem_of_getElem? hbi)
      exact ⟨_, rfl, .ref p, bD b, rfl, row_dp (SqT.of (e1 _ _ hp)), row_sz okb, fun _ H2 e2 => ⟨⟨_, rfl⟩, e1.trans e2⟩, fun z => by rw [row_is okb] at z; cases z⟩
    rintro σ' H1 ⟨⟨o3, rfl⟩, e1⟩
    -- the names are checked
    obtain ⟨pm, rfl, hpm⟩ := id MA
    refine or_go (fun Q q => ⟨_, rfl, q⟩) e1 hpm fun J G wk hG => for_it wk (fun i σ' H2 => (∃ o3 o4, σ' = [some (.ref q), some (.ref pm), some (.ref bt), o3, o4, none, none]) ∧ Ex H H2) ⟨⟨_, none, rfl⟩, e1⟩ (fun i σ' H2 _ h => hG H2 h.2) ?_ ?_
    · rintro i v σ' H2 H2' hi ⟨⟨o3, o4, rfl⟩, e2⟩ ⟨rfl, hv⟩
      rw [List.getElem?_map] at hv
      obtain ⟨z, hz, rfl⟩ := Option.map_eq_some_iff.mp hv
      have nz := nmE z (List.mem_of_getElem? hz)
      refine ⟨_, rfl, .str z, .str z, rfl, .str z, line8 nz, fun H3 e3 => ⟨_, rfl, ?_⟩⟩
      rw [show isNameD (.str z) = true from nz]
      exact iteF' rfl ⟨⟨_, _, rfl⟩, e2.trans e3⟩
    rintro σ' H2 ⟨⟨o3', o4, rfl⟩, e2⟩
    -- the bounds, each once
    refine ⟨_, rfl, bt, rfl, ⟨us, SqT.of (e2 _ _ hb)⟩, fun D1 hD1 => dcT_it walk_tup (fun i H3 => Ex H H3 ∧ ∃ kvs, H3 D1 = some (.dT kvs) ∧ kvs.map (·.1) = (flatR (bs.take i)).map rowK) ⟨e2.trans (Ex.new hD1), [], upd_same, rfl⟩ (fun i H3 _ h => SqT.of (h.1 _ _ hb)) ?_ ?_⟩
    · rintro i v H3 H3' hi ⟨e3, kvs, hD3, ek⟩ ⟨rfl, hv⟩
      obtain ⟨b, p, hbi, rfl, hp⟩ := RA.get hv
      unfold gName tYes
      dsimp only
      have lk : kvs.length ≤ bs.length := by
        have := congrArg List.length ek
        rw [List.length_map, List.length_map] at this
        have h1 := flatR_len (bs.take i)
        rw [List.length_take] at h1
        omega
      have hDn : H D1 = none := fresh_back e2 hD1
      refine ⟨rfl, iteT' rfl ⟨_, rfl, kvs, rowK b, p, rfl, e3 _ _ hp, hD3, by omega, Ex.mut e3 hDn, _, upd_same, ?_⟩⟩
      have tk : bs.take (i + 1) = bs.take i ++ [b] := by rw [List.take_add_one, hbi]; rfl
      rw [tk, flatR_snoc]
      by_cases h : b ∈ flatR (bs.take i)
      · rw [if_pos h, putK_old _ (by rw [ek]; exact List.mem_map_of_mem h), ek]
      · rw [if_neg h, putK_new _ (by
          rw [ek]
          intro z
          obtain ⟨c, hc, e⟩ := List.mem_map.mp z
          rw [rowK_inj e] at hc
          exact h hc), List.map_append, ek, List.map_append]
        rfl
    rintro H3 ⟨e3, kvs, hD3, ek⟩
    rw [lu, List.take_length] at ek
    -- names
    refine ⟨fun σ' H4 => ∃ o3 o4 tn ys, σ' = [some (.ref q), some (.ref pm), some (.ref bt), o3, o4, some (.ref D1), some (.ref tn)] ∧ Ex H H4 ∧ H4 D1 = some (.dT kvs) ∧ SqT K H4 tn ((ys ++ es).map V.str) ∧ ys.Nodup ∧ ∀ z, z ∈ ys ↔ ∃ b ∈ bs, z ∈ nm2 b, ?_, ?_⟩
    · refine ⟨_, rfl, bt, us, bs, pool, rfl, SqT.of (e3 _ _ hb), RA.ex e3, ok, by omega, subB, fun u ys H4 e4 hu nd so mem => ?_⟩
      have ly : ys.length ≤ 20 := Nat.le_trans (sub_len nd fun z hz => by
        obtain ⟨b, hb, hz⟩ := (mem z).mp hz
        exact subB b hb z hz) p20
      have cat : ∀ pe H5, Ex H4 H5 → SqT K H5 pe (es.map V.str) → rCatA K (.ref u) (.ref pe) H5 (fun v H6 => ∃ p3 p4 tn ys, [some (V.ref q), some (.ref pm), some (.ref bt), o3', o4, some (.ref D1), some v] = [some (.ref q), some (.ref pm), some (.ref bt), p3, p4, some (.ref D1), some (.ref tn)] ∧ Ex H H6 ∧ H6 D1 = some (.dT kvs) ∧ SqT K H6 tn ((ys ++ es).map V.str) ∧ ys.Nodup ∧ ∀ z, z ∈ ys ↔ ∃ b ∈ bs, z ∈ nm2 b) := fun pe H5 e5 hpe => by
        have hu5 := e5 _ _ hu
        have x5 := (e3.trans e4).trans e5
        have hD5 := e5 _ _ (e4 _ _ hD3)
        refine ⟨u, pe, _, _, rfl, rfl, SqT.of hu5, hpe, by rw [List.length_map, List.length_map]; omega, fun z => ?_, fun _ z => ?_, fun _ _ p hp => ?_⟩
        · have z : ys = [] := List.map_eq_nil_iff.mp z
          exact ⟨_, _, pe, ys, rfl, x5, hD5, by rw [z]; exact hpe, nd, mem⟩
        · have z : es = [] := List.map_eq_nil_iff.mp z
          exact ⟨_, _, u, ys, rfl, x5, hD5, by rw [z, List.append_nil]; exact SqT.of hu5, nd, mem⟩
        · have x6 := Ex.new (o := .tup (ys.map V.str ++ es.map V.str)) hp
          exact ⟨_, _, p, ys, rfl, x5.trans x6, x6 _ _ hD5, SqT.of (by rw [upd_same, List.map_append]), nd, mem⟩
      refine ⟨_, rfl, pm, es.map V.str, rfl, ?_⟩
      rcases hpm with hl | ht
      · exact .inl ⟨ex_l (e3.trans e4) hl, fun p hp => cat p _ (Ex.new hp) (SqT.of upd_same)⟩
      · exact .inr ⟨ex_t (e3.trans e4) ht, cat pm H4 (Ex.refl _) (ex_t (e3.trans e4) ht)⟩
    rintro σ' H4 ⟨o3, o4, tn, ys, rfl, e4, hD4, htn, ndy, memy⟩
    have lys : ys.length ≤ 20 := Nat.le_trans (sub_len ndy fun z hz => by
      obtain ⟨b, hb, hz⟩ := (memy z).mp hz
      exact subB b hb z hz) p20
    -- self.bounds
    refine ⟨_, rfl, D1, kvs, rfl, hD4, fun ks t lk each ht => ⟨_, rfl, q, a.cT, dx, [], rfl, ?_, M.cl, M.n1, by show 0 < 1000; decide, ?_⟩⟩
    · exact (Ex.new ht) _ _ (e4 _ _ hq)
    have xt := Ex.new (o := .tup (ks.map V.ref)) ht
    have ht5 : upd H4 t (.tup (ks.map V.ref)) t = some (.tup (ks.map V.ref)) := upd_same
    have e5 := e4.trans xt
    have hq5 := e5 _ _ hq
    have R5 : RowsAt (upd H4 t (.tup (ks.map V.ref))) (ks.map V.ref) (flatR bs) := by
      have l1 : kvs.length = (flatR bs).length := by
        have := congrArg List.length ek
        rwa [List.length_map, List.length_map] at this
      refine ⟨by rw [List.length_map, lk, l1], fun j v r h1 h2 => ?_⟩
      rw [List.getElem?_map] at h1
      obtain ⟨p, hp, rfl⟩ := Option.map_eq_some_iff.mp h1
      have jl : j < kvs.length := by rw [l1]; exact (List.getElem?_eq_some_iff.mp h2).1
      have g := each j p kvs[j] hp (List.getElem?_eq_getElem jl)
      have ekj : kvs[j].1 = rowK r := by
        have := congrArg (fun l => l[j]?) ek
        rw [List.getElem?_map, List.getElem?_map, h2, List.getElem?_eq_getElem jl] at this
        exact Option.some.inj this
      rw [ekj, rowK_V] at g
      exact ⟨p, rfl, xt _ _ g⟩
    have htn5 := ex_t xt htn
    generalize upd H4 t (.tup (ks.map V.ref)) = H5 at *
    have ti6 := Ti.put (o := .ins a.cT dx (putF "bounds" (.ref t) [])) hq5
    have hq6 : upd H5 q (.ins a.cT dx (putF "bounds" (.ref t) [])) q = some (.ins a.cT dx [("bounds", .ref t)]) := upd_same
    have k6 : Kq q H (upd H5 q (.ins a.cT dx (putF "bounds" (.ref t) []))) := (Kq.ex e5).trans Kq.put
    have ht6 := ti6 _ _ (by intro _ _ _ z; cases z) ht5
    have R6 := R5.keep ti6.tk
    have htn6 := ti6.sq htn5
    generalize upd H5 q (.ins a.cT dx (putF "bounds" (.ref t) [])) = H6 at *
    -- self.moments
    refine ⟨_, rfl, tn, _, rfl, htn6, ?_, fun l S ndl ml ll hS => ?_⟩
    · rw [List.length_append]
      omega
    have xS := Ex.new (o := TSet.SetX P w S l) hS
    refine ⟨S, l, rfl, upd_same, ?_, fun ms p pm so hp => ⟨p, _, rfl, .inl ⟨SqL.of upd_same, fun mo hmo => ⟨_, rfl, q, a.cT, dx, _, rfl, (xS.trans ((Ex.new hp).trans (Ex.new hmo))) _ _ hq6, M.cl, M.n2, by show 1 < 1000; decide, ?_⟩⟩⟩⟩
    · rw [List.length_append] at ll
      omega
    have x7 := xS.trans ((Ex.new (o := .lst (ms.map V.str)) hp).trans (Ex.new (o := .tup (ms.map V.str)) hmo))
    have hmo7 : upd (upd (upd H6 S (TSet.SetX P w S l)) p (.lst (ms.map V.str))) mo (.tup (ms.map V.str)) mo = some (.tup (ms.map V.str)) := upd_same
    have hq7 := x7 _ _ hq6
    have ht7 := x7 _ _ ht6
    have R7 := R6.ex x7
    have k7 := k6.trans (Kq.ex x7)
    generalize upd (upd (upd H6 S (TSet.SetX P w S l)) p (.lst (ms.map V.str))) mo (.tup (ms.map V.str)) = H7 at *
    have ti8 := Ti.put (o := .ins a.cT dx (putF "moments" (.ref mo) [("bounds", .ref t)])) hq7
    have hq8 : upd H7 q (.ins a.cT dx (putF "moments" (.ref mo) [("bounds", .ref t)])) q = some (.ins a.cT dx [("bounds", .ref t), ("moments", .ref mo)]) := upd_same
    have k8 : Kq q H (upd H7 q (.ins a.cT dx (putF "moments" (.ref mo) [("bounds", .ref t)]))) := k7.trans Kq.put
    have ht8 := ti8 _ _ (by intro _ _ _ z; cases z) ht7
    have hmo8 := ti8 _ _ (by intro _ _ _ z; cases z) hmo7
    have R8 := R7.keep ti8.tk
    generalize upd H7 q (.ins a.cT dx (putF "moments" (.ref mo) [("bounds", .ref t)])) = H8 at *
    have ndm : ms.Nodup := pm.nodup_iff.mpr ndl
    have memM : ∀ z, z ∈ ms ↔ z ∈ es ∨ ∃ b ∈ bs, z ∈ nm2 b := fun z => by
      rw [pm.mem_iff, ml z, List.mem_append, memy z]
      exact Or.comm
    have lm : ms.length ≤ 20 := Nat.le_trans (sub_len ndm fun z hz => by
      rcases (memM z).mp hz with h | ⟨b, hb, h⟩
      · exact subE z h
      · exact subB b hb z h) p20
    have mok : MsOk ms (flatR bs) := fun b hb => by
      have hb := (flatR_mem bs b).mp hb
      exact ⟨(memM _).mpr (.inr ⟨b, hb, by simp [nm2]⟩), (memM _).mpr (.inr ⟨b, hb, by simp [nm2]⟩), (ok b hb).2.2⟩
    have NP : NetP (flatR bs) ms := ⟨fun b hb => ok b ((flatR_mem bs b).mp hb), mok, ndm, so, fun z hz => by
      rcases (memM z).mp hz with h | ⟨b, hb, h⟩
      · exact nmE z h
      · have := ok b hb
        simp only [nm2, List.mem_cons, List.not_mem_nil, or_false] at h
        rcases h with rfl | rfl
        · exact this.1
        · exact this.2.1, lm, flatR_nd bs, Nat.le_trans (flatR_len bs) lb⟩
    -- self.ring, self._ways
    refine ⟨_, rfl, q, a.cT, dx, _, _, rfl, hq8, M.cl, M.n1, rfl, _, rfl, q, a.cT, dx, _, _, rfl, hq8, M.cl, M.n2, rfl, t, mo, _, flatR bs, ms, rfl, SqT.of ht8, R8, mok, SqT.of hmo8, ndm, lm, fun kn H9 e9 KN => ?_⟩
    obtain ⟨rv, dd, hkn, RG, WS⟩ := KN
    have hq9 := e9 _ _ hq8
    have ti10 := Ti.put (o := .ins a.cT dx (putF "ring" rv [("bounds", .ref t), ("moments", .ref mo)])) hq9
    have hq10 : upd H9 q (.ins a.cT dx (putF "ring" rv [("bounds", .ref t), ("moments", .ref mo)])) q = some (.ins a.cT dx [("bounds", .ref t), ("moments", .ref mo), ("ring", rv)]) := upd_same
    refine ⟨kn, _, rfl, hkn, rfl, _, _, rfl, _, rfl, q, a.cT, dx, _, rfl, hq9, M.cl, M.n3, by show 2 < 1000; decide, _, _, rfl, _, rfl, q, a.cT, dx, _, rfl, hq10, M.cl, M.n4, by show 3 < 1000; decide, rfl, ?_⟩
    have k10 := (k8.trans (Kq.ex e9)).trans (Kq.put (o := .ins a.cT dx (putF "ring" rv [("bounds", .ref t), ("moments", .ref mo)])))
    have t89 := (Ti.ex e9).trans ti10
    generalize upd H9 q (.ins a.cT dx (putF "ring" rv [("bounds", .ref t), ("moments", .ref mo)])) = H10 at *
    have ti11 := Ti.put (o := .ins a.cT dx (putF "_ways" (.ref dd) [("bounds", .ref t), ("moments", .ref mo), ("ring", rv)])) hq10
    have hq11 : upd H10 q (.ins a.cT dx (putF "_ways" (.ref dd) [("bounds", .ref t), ("moments", .ref mo), ("ring", rv)])) q = some (.ins a.cT dx [("bounds", .ref t), ("moments", .ref mo), ("ring", rv), ("_ways", .ref dd)]) := upd_same
    have k11 := k10.trans (Kq.put (o := .ins a.cT dx (putF "_ways" (.ref dd) [("bounds", .ref t), ("moments", .ref mo), ("ring", rv)])))
    have t911 := ti10.trans ti11
    have t811 := t89.trans ti11
    generalize upd H10 q (.ins a.cT dx (putF "_ways" (.ref dd) [("bounds", .ref t), ("moments", .ref mo), ("ring", rv)])) = H11 at *
    -- self._meaning
    refine ⟨_, rfl, q, a.cT, dx, _, _, rfl, hq11, M.cl, M.n3, rfl, _, rfl, q, a.cT, dx, _, _, rfl, hq11, M.cl, M.n4, rfl, rv, dd, ms, netW ms (flatR bs), rfl, RG.ti t911, WS.ti t911, lm, fun mn H12 e12 MN => ⟨_, rfl, q, a.cT, dx, _, rfl, e12 _ _ hq11, M.cl, M.n5, by show 4 < 1000; decide, ?_⟩⟩
    have hq12 := e12 _ _ hq11
    have ti13 := Ti.put (o := .ins a.cT dx (putF "_meaning" mn [("bounds", .ref t), ("moments", .ref mo), ("ring", rv), ("_ways", .ref dd)])) hq12
    have tf := (t811.trans (Ti.ex e12)).trans ti13
    have tg := (t911.trans (Ti.ex e12)).trans ti13
    refine fin ms _ ((k11.trans (Kq.ex e12)).trans Kq.put) ⟨dx, t, mo, rv, dd, mn, _, upd_same, tf.sq (SqT.of ht8), R8.keep tf.tk, tf.sq (SqT.of hmo8), RG.ti tg, WS.ti tg, MN.ti ti13⟩ NP memM
end
end N4
set_option maxRecDepth 100000
set_option maxHeartbeats 8000000
namespace N4
open PySem L2 Evl GP HR SC SetM SetH
abbrev s_Net_check : Stmt := inClass (top 22) 10
theorem sc_Net_check : FnScope ["self", "names", "name"] ["self", "names"] (defScope s_Net_check) := ⟨rfl, rfl, rfl, by decide +kernel, rfl, by decide +kernel, by decide +kernel⟩
abbrev s_Net_most : Stmt := inClass (top 22) 1
theorem sc_Net_most : FnScope ["self", "x", "y", "way"] ["self", "x", "y"] (defScope s_Net_most) := ⟨rfl, rfl, rfl, by decide +kernel, rfl, by decide +kernel, by decide +kernel⟩
abbrev s_Net_chain : Stmt := inClass (top 22) 2
theorem sc_Net_chain : FnScope ["self", "x", "y", "way"] ["self", "x", "y"] (defScope s_Net_chain) := ⟨rfl, rfl, rfl, by decide +kernel, rfl, by decide +kernel, by decide +kernel⟩
abbrev s_Net_and : Stmt := inClass (top 22) 7
theorem sc_Net_and : FnScope ["self", "other", "names"] ["self", "other"] (defScope s_Net_and) := ⟨rfl, rfl, rfl, by decide +kernel, rfl, by decide +kernel, by decide +kernel⟩
abbrev s_Net_len : Stmt := inClass (top 22) 9
theorem sc_Net_len : FnScope ["self"] ["self"] (defScope s_Net_len) := ⟨rfl, rfl, rfl, by decide +kernel, rfl, by decide +kernel, by decide +kernel⟩
/-- a method of the class -/
structure MF (K : PySem.W.Frag) (C : Addr) (m qual : Str) (st : Stmt) (f : Addr) (d : FuncData) : Prop where
  mt : Meth K C m f
  F : Fun K m qual st f d
structure NM (K : PySem.W.Frag) (C fK fT fH fA fN : Addr) (dK dT dH dA dN : FuncData) : Prop where
  K1 : MF K C "_check" "Net._check" s_Net_check fK dK
  T1 : MF K C "most" "Net.most" s_Net_most fT dT
  BT : Binds K dT ["self", "x", "y"] []
  H1 : MF K C "chain" "Net.chain" s_Net_chain fH dH
  BH : Binds K dH ["self", "x", "y"] []
  A1 : MF K C "__and__" "Net.__and__" s_Net_and fA dA
  BA : Binds K dA ["self", "other"] []
  N1 : MF K C "__len__" "Net.__len__" s_Net_len fN dN
  BN : Binds K dN ["self"] []
  sf : PySem.W.selfFirst K C = true
/-- what a check of names lets out -/
def ChkE (a : Ad) (H : Hp) (q : Addr) (ms : List Str) (r : RW) (zs : List Str) (E : XK) : Prop :=
  (∀ C dx fs rv ring, H q = some (.ins C dx fs) → fs.lookup ("ring" : Str) = some rv → r.1 = some ring → Raised a.cI "ring" rv H E) ∧
  (r.1 = none → ∀ (i : Nat) (z : Str), zs[i]? = some z → z ∉ ms → (∀ y ∈ zs.take i, y ∈ ms) → Raised a.cU "name" (.str z) H E)
def ChkOk (ms : List Str) (r : RW) (zs : List Str) : Prop := r.1 = none ∧ ∀ z ∈ zs, z ∈ ms
theorem ChkE.ex {a : Ad} {H H' : Hp} {q : Addr} {ms : List Str} {r : RW} {zs : List Str} {E : XK} {C dx : Addr} {fs : List (Str × V)} (h : ChkE a H q ms r zs E) (hq : H q = some (.ins C dx fs)) (e : Ex H H') : ChkE a H' q ms r zs E := by
  refine ⟨fun C' dx' fs' rv ring h1 h2 h3 => ?_, fun h1 i z h2 h3 h4 => (h.2 h1 i z h2 h3 h4).ex e⟩
  rw [e _ _ hq] at h1
  cases h1
  exact (h.1 C dx fs rv ring hq h2 h3).ex e
def spCheck (K : PySem.W.Frag) (a : Ad) : Sp := fun vs H Q E => ∃ (q t : Addr) (bs : List Row) (ms zs : List Str), vs = [.ref q, .ref t] ∧ NetAt K a.cT H q bs ms ∧ H t = some (.tup (zs.map V.str)) ∧ ChkE a H q ms (netW ms bs) zs E ∧ (ChkOk ms (netW ms bs) zs → ∀ H', Ex H H' → Q .non H')
def IntAt (v : V) : Option Way → Prop
  | none => v = .non
  | some w => v = .int w.t
def ChnAt (K : PySem.W.Frag) (H : Hp) (v : V) : Option Way → Prop
  | none => v = .non
  | some w => ∃ q us, v = .ref q ∧ SqT K H q us ∧ RowsAt H us w.c
def spMost (K : PySem.W.Frag) (a : Ad) : Sp := fun vs H Q E => ∃ (q : Addr) (x y : Str) (bs : List Row) (ms : List Str), vs = [.ref q, .str x, .str y] ∧ NetAt K a.cT H q bs ms ∧ ChkE a H q ms (netW ms bs) [x, y] E ∧
  (ChkOk ms (netW ms bs) [x, y] → ∀ v H', Ex H H' → IntAt v (best (netW ms bs).2 x y) → Q v H')
def spChn (K : PySem.W.Frag) (a : Ad) : Sp := fun vs H Q E => ∃ (q : Addr) (x y : Str) (bs : List Row) (ms : List Str), vs = [.ref q, .str x, .str y] ∧ NetAt K a.cT H q bs ms ∧ ChkE a H q ms (netW ms bs) [x, y] E ∧
  (ChkOk ms (netW ms bs) [x, y] → ∀ v H', Ex H H' → ChnAt K H' v (best (netW ms bs).2 x y) → Q v H')
def spLen (K : PySem.W.Frag) (a : Ad) : Sp := fun vs H Q _ => ∃ (q : Addr) (bs : List Row) (ms : List Str), vs = [.ref q] ∧ NetAt K a.cT H q bs ms ∧ Q (.int (bs.length : Nat)) H
def spAnd (K : PySem.W.Frag) (a : Ad) : Sp := fun vs H Q _ => ∃ (q r : Addr) (bs cs : List Row) (ms ns pool : List Str), vs = [.ref q, .ref r] ∧ NetAt K a.cT H q bs ms ∧ NetP bs ms ∧ NetAt K a.cT H r cs ns ∧ NetP cs ns ∧ bs.length + cs.length ≤ 1000 ∧ pool.length ≤ 20 ∧ (∀ z ∈ ms, z ∈ pool) ∧ (∀ z ∈ ns, z ∈ pool) ∧
  ∀ (x : Addr) (ks : List Str) H', Ex H H' → NetAt K a.cT H' x (flatR (bs ++ cs)) ks → NetP (flatR (bs ++ cs)) ks → (∀ z, z ∈ ks ↔ z ∈ ms ∨ z ∈ ns) → Q (.ref x) H'
theorem mk_net {K : PySem.W.Frag} {C : Addr} {H : Hp} {us : List V} {bs : List Row} {es pool : List Str} {y : V} {Q : VK} {E : XK} (RA : RowsAt H us bs) (ok : ∀ b ∈ bs, RowOk b) (lb : bs.length ≤ 1000) (MA : MoArg K H y es) (nmE : ∀ z ∈ es, isNameS z = true) (l40 : es.length ≤ 40) (p20 : pool.length ≤ 20) (subE : ∀ z ∈ es, z ∈ pool) (subB : ∀ b ∈ bs, ∀ z ∈ nm2 b, z ∈ pool)
    (fin : ∀ (x : Addr) (ms : List Str) H', H x = none → Ex H H' → NetAt K C H' x (flatR bs) ms → NetP (flatR bs) ms → (∀ z, z ∈ ms ↔ z ∈ es ∨ ∃ b ∈ bs, z ∈ nm2 b) → Q (.ref x) H') : KW.tMkM C (spInit K C) E us y Q H := by
  have big : 100000 ≤ sizeLine := by decide
  have lu := RA.1
  refine ⟨by omega, fun x dx hx hdx ne p hp => ?_⟩
  have e1 : Ex H (upd (upd H dx (.own x)) x (.ins C dx [])) := fun b o h => by
    rw [upd_ne (fun z => by rw [z, hx] at h; cases h), upd_ne (fun z => by rw [z, hdx] at h; cases h)]
    exact h
  have e2 := Ex.new (o := .tup us) hp
  have e := e1.trans e2
  exact ⟨x, dx, p, y, us, bs, es, pool, rfl, e2 _ _ upd_same, upd_same, RA.ex e, ok, lb, MA.ex e, nmE, l40, p20, subE, subB, fun ms H' k NA NP mem => ⟨rfl, fin x ms H' hx (fun b o h => k b o (fun z => by rw [z, hx] at h; cases h) (e b o h)) NA NP mem⟩⟩
section
variable {P : Program} {w : World} {K : PySem.W.Frag} {mg : Str → Option Value} {base : Heap} {a : Ad} {d : Fd} {fL fN fU fI f0 D0 T0 : Addr} {fK fT fH fA fn : Addr} {dK dT dH dA dn : FuncData}
theorem ok_check (T : TX K mg a) (D : FDS K a d) (R : ER K mg P a fL fN fU fI) (M : CN K mg a.cT f0 D0 T0) (N : NM K a.cT fK fT fH fA fn dK dT dH dA dn) :
    FnR P w K mg base (L2N.CX P w) 1 fK (fun vs H Q E => ∃ ws rest, vs = ws ++ rest ∧ ws.length = ["self"].length ∧ rest.length ≤ sizeLine ∧ ∀ p, H p = Option.none → spCheck K a (ws ++ [V.ref p]) (upd H p (.tup rest)) Q E) := by
  obtain ⟨oc, od, kV, doc, pm, an, cdv, ct, osl, rfl, lk, hcd⟩ := N.K1.F.ex
  refine StX.fn_star (ps := ["self"]) (pv := "names") (sp := spCheck K a) lk hcd sc_Net_check KW.cxUpN (fun us rest hl => match us, rest, hl with | [_], [], _ => rfl | [_], _ :: _, _ => rfl) (fun A outer s H vs Q E hr h => ?_)
  obtain ⟨q, t, bs, ms, zs, rfl, NA, ht, CE, fin⟩ := h
  refine ⟨_, (pss_cons (ps_if (pt_cmpR op_notN (pe_fld (pv 0) rfl) pe_non (nomark _)) (pss_one (NX.ps_raiseSup rfl R.eI hr (L2N.takes_of rfl rfl rfl rfl) (by exact (pa_cons (pe_fld (pv 0) rfl) pa_nil)))) pss_nil)
        (pss_one (ps_for PassesOwn.leaving rfl (pi_tup (pv 1)) (pg_name (i := 2) sc_Net_check.nd rfl (Or.inl rfl)) (pss_one (ps_if (pt_cmpR op_notIn_seq (pv 2) (pe_fld (pv 0) rfl) rfl) (pss_one (NX.ps_raiseSup rfl R.eU hr (L2N.takes_of rfl rfl rfl rfl) (by exact (pa_cons (pv 2) pa_nil)))) pss_nil))))), ?_⟩
  obtain ⟨dx, bo, mo, rv, dd, mv, us, hq, hbo, RA, hmo, RG, WS, MN⟩ := id NA
  refine ⟨_, rfl, q, a.cT, dx, _, _, rfl, hq, M.cl, M.n3, rfl, ?_⟩
  cases hr1 : (netW ms bs).1 with
  | some ring =>
    rw [hr1] at RG
    obtain ⟨p, vs, rfl, hp, Rr⟩ := id RG
    exact ⟨rfl, _, rfl, iteT' rfl ⟨_, rfl, q, a.cT, dx, _, _, rfl, hq, M.cl, M.n3, rfl, _, rfl, fun de hde => CE.1 _ _ _ _ ring hq rfl hr1 de _ (Ex.new hde) hde upd_same⟩⟩
  | none =>
    rw [hr1] at RG
    obtain rfl : rv = .non := RG
    refine ⟨rfl, _, rfl, iteF' rfl ?_⟩
    refine ⟨_, rfl, t, rfl, ⟨_, SqT.of ht⟩, for_it (walk_tup (xs := zs.map V.str)) (fun i σ' H1 => (∃ o2, σ' = [some (.ref q), some (.ref t), o2]) ∧ Ex H H1 ∧ ∀ z ∈ zs.take i, z ∈ ms) ⟨⟨none, rfl⟩, Ex.refl _, fun z h => absurd h (by simp)⟩ (fun i σ' H1 _ h => SqT.of (h.2.1 _ _ ht)) ?_ ?_⟩
    · rintro i v σ' H1 H1' hi ⟨⟨o2, rfl⟩, e1, yes⟩ ⟨rfl, hv⟩
      rw [List.getElem?_map] at hv
      obtain ⟨z, hz, rfl⟩ := Option.map_eq_some_iff.mp hv
      refine ⟨_, rfl, _, rfl, q, a.cT, dx, _, _, rfl, e1 _ _ hq, M.cl, M.n2, rfl, mo, _, rfl, .inr (ex_t e1 hmo), rfl, flat_strs ms, _, rfl, ?_⟩
      rw [show (if true = true then !inV (.str z) (ms.map V.str) else inV (.str z) (ms.map V.str)) = !decide (z ∈ ms) from congrArg (!·) (inV_strs z ms)]
      by_cases h : z ∈ ms
      · refine iteF' (by rw [decide_eq_true h]; rfl) ⟨⟨_, rfl⟩, e1, fun y hy => ?_⟩
        rw [List.take_add_one, hz] at hy
        rcases List.mem_append.mp hy with hy | hy
        · exact yes y hy
        · rw [List.mem_singleton.mp hy]
          exact h
      · exact iteT' (by rw [decide_eq_false h]; rfl) ⟨_, rfl, _, rfl, fun de hde => CE.2 hr1 i z hz h yes de _ (e1.trans (Ex.new hde)) (fresh_back e1 hde) upd_same⟩
    · rintro σ' H1 ⟨⟨o2, rfl⟩, e1, yes⟩
      rw [List.length_map, List.take_length] at yes
      exact fin ⟨hr1, yes⟩ H1 e1
theorem ok_most (T : TX K mg a) (D : FDS K a d) (R : ER K mg P a fL fN fU fI) (Z : EW K a) (M : CN K mg a.cT f0 D0 T0) (N : NM K a.cT fK fT fH fA fn dK dT dH dA dn) : FnOk P w K mg base (L2N.CX P w) 2 fT dT ["self", "x", "y"] (spMost K a) := by
  have G_best_way : FnOk P w K mg base CX0 1 a.a_best_way d.a_best_way ["ways", "start", "end"] (spBest K) := ok_best_way T D Z
  have GK := ok_check (P := P) (w := w) (base := base) T D R M N
  refine NX.okX N.T1.F sc_Net_most (fun vs H Q E h => ?_) (fun cdv A outer s H vs Q E hr h => ?_)
  · obtain ⟨q, x, y, bs, ms, rfl, _⟩ := h
    rfl
  · obtain ⟨q, x, y, bs, ms, rfl, NA, CE, fin⟩ := h
    have hr2 : Room 1 _ := hr.mono (by decide)
    refine ⟨_, (pss_cons (ps_expr (KW.pe_methR (pv 0) M.cl N.K1.mt GK hr2 (L2N.passes_call (L2N.takes_of rfl rfl rfl rfl) (fun _ _ _ _ h => h)) (pa_cons (pv 1) (pa_cons (pv 2) pa_nil))))
        (pss_cons (ps_set (i := 3) sc_Net_most.nd rfl (Or.inl rfl) (pe_call G_best_way (hr.mono (by decide)) rfl T.f_best_way T.k_best_way D.B_best_way .nil pass0 (pa_cons (pe_fld (pv 0) rfl) (pa_cons (pv 1) (pa_cons (pv 2) pa_nil)))))
        (pss_one (ps_ret (pe_ifExp (pt_cmpR op_isN (pv 3) pe_non (nomark _)) pe_non (pe_ix ix_tup (pv 3) pe_int (fun _ _ => rfl))))))), ?_⟩
    obtain ⟨dx, bo, mo, rv, dd, mv, us, hq, hbo, RA, hmo, RG, WS, MN⟩ := id NA
    refine ⟨_, rfl, q, dx, _, rfl, hq, rfl, _, rfl, _, rfl, [.ref q], [.str x, .str y], rfl, rfl, (by show 2 ≤ sizeLine; decide), fun p hp => ?_⟩
    have e1 := Ex.new (o := .tup [.str x, .str y]) hp
    refine ⟨q, p, bs, ms, [x, y], rfl, NA.ex e1, upd_same, CE.ex hq e1, fun ck H2 e2 => ?_⟩
    have e := e1.trans e2
    refine ⟨_, rfl, q, a.cT, dx, _, _, rfl, e _ _ hq, M.cl, M.n4, rfl, _, rfl, _, rfl, dd, x, y, ms, (netW ms bs).2, rfl, WS.ex e, fun v H3 e3 O => ?_⟩
    cases ho : best (netW ms bs).2 x y with
    | none =>
      rw [ho] at O
      obtain rfl : v = .non := O
      exact ⟨_, rfl, rfl, _, rfl, iteT' rfl (fin ck _ _ (e.trans e3) (by rw [ho]; rfl))⟩
    | some u =>
      rw [ho] at O
      obtain ⟨p2, q2, us2, rfl, hp2, hq2, R2⟩ := (O : WayAt K H3 v u)
      exact ⟨_, rfl, rfl, _, rfl, iteF' rfl ⟨_, rfl, p2, _, 0, _, rfl, rfl, hp2, at_lit (n := 0) rfl rfl, fin ck _ _ (e.trans e3) (by rw [ho]; rfl)⟩⟩
theorem ok_chain (T : TX K mg a) (D : FDS K a d) (R : ER K mg P a fL fN fU fI) (Z : EW K a) (M : CN K mg a.cT f0 D0 T0) (N : NM K a.cT fK fT fH fA fn dK dT dH dA dn) : FnOk P w K mg base (L2N.CX P w) 2 fH dH ["self", "x", "y"] (spChn K a) := by
  have G_best_way : FnOk P w K mg base CX0 1 a.a_best_way d.a_best_way ["ways", "start", "end"] (spBest K) := ok_best_way T D Z
  have GK := ok_check (P := P) (w := w) (base := base) T D R M N
  refine NX.okX N.H1.F sc_Net_chain (fun vs H Q E h => ?_) (fun cdv A outer s H vs Q E hr h => ?_)
  · obtain ⟨q, x, y, bs, ms, rfl, _⟩ := h
    rfl
  · obtain ⟨q, x, y, bs, ms, rfl, NA, CE, fin⟩ := h
    have hr2 : Room 1 _ := hr.mono (by decide)
    refine ⟨_, (pss_cons (ps_expr (KW.pe_methR (pv 0) M.cl N.K1.mt GK hr2 (L2N.passes_call (L2N.takes_of rfl rfl rfl rfl) (fun _ _ _ _ h => h)) (pa_cons (pv 1) (pa_cons (pv 2) pa_nil))))
        (pss_cons (ps_set (i := 3) sc_Net_chain.nd rfl (Or.inl rfl) (pe_call G_best_way (hr.mono (by decide)) rfl T.f_best_way T.k_best_way D.B_best_way .nil pass0 (pa_cons (pe_fld (pv 0) rfl) (pa_cons (pv 1) (pa_cons (pv 2) pa_nil)))))
        (pss_one (ps_ret (pe_ifExp (pt_cmpR op_isN (pv 3) pe_non (nomark _)) pe_non (pe_ix ix_tup (pv 3) pe_int (fun _ _ => rfl))))))), ?_⟩
    obtain ⟨dx, bo, mo, rv, dd, mv, us, hq, hbo, RA, hmo, RG, WS, MN⟩ := id NA
    refine ⟨_, rfl, q, dx, _, rfl, hq, rfl, _, rfl, _, rfl, [.ref q], [.str x, .str y], rfl, rfl, (by show 2 ≤ sizeLine; decide), fun p hp => ?_⟩
    have e1 := Ex.new (o := .tup [.str x, .str y]) hp
    refine ⟨q, p, bs, ms, [x, y], rfl, NA.ex e1, upd_same, CE.ex hq e1, fun ck H2 e2 => ?_⟩
    have e := e1.trans e2
    refine ⟨_, rfl, q, a.cT, dx, _, _, rfl, e _ _ hq, M.cl, M.n4, rfl, _, rfl, _, rfl, dd, x, y, ms, (netW ms bs).2, rfl, WS.ex e, fun v H3 e3 O => ?_⟩
    cases ho : best (netW ms bs).2 x y with
    | none =>
      rw [ho] at O
      obtain rfl : v = .non := O
      exact ⟨_, rfl, rfl, _, rfl, iteT' rfl (fin ck _ _ (e.trans e3) (by rw [ho]; rfl))⟩
    | some u =>
      rw [ho] at O
      obtain ⟨p2, q2, us2, rfl, hp2, hq2, R2⟩ := (O : WayAt K H3 v u)
      exact ⟨_, rfl, rfl, _, rfl, iteF' rfl ⟨_, rfl, p2, _, 2, _, rfl, rfl, hp2, at_lit (n := 2) rfl rfl, fin ck _ _ (e.trans e3) (by rw [ho]; exact ⟨q2, us2, rfl, hq2, R2⟩)⟩⟩
theorem ok_len (T : TX K mg a) (M : CN K mg a.cT f0 D0 T0) (N : NM K a.cT fK fT fH fA fn dK dT dH dA dn) : FnOk P w K mg base CX0 1 fn dn ["self"] (spLen K a) := by
  refine N.N1.F.ok sc_Net_len (fun vs H Q E h => ?_) (fun cdv A outer s H vs Q E hr h => ?_)
  · obtain ⟨q, bs, ms, rfl, _⟩ := h
    rfl
  · obtain ⟨q, bs, ms, rfl, ⟨dx, bo, mo, rv, dd, mv, us, hq, hbo, RA, _⟩, fin⟩ := h
    refine ⟨_, (pss_one (ps_ret (pe_callB call_len_seq (by rfl) T.b_len (by decide +kernel) (pa_cons (pe_fld (pv 0) rfl) pa_nil)))), ?_⟩
    refine ⟨_, rfl, q, a.cT, dx, _, _, rfl, hq, M.cl, M.n1, rfl, bo, us, rfl, .inr hbo, ?_⟩
    rw [RA.1]
    exact fin
theorem ok_and (T : TX K mg a) (D : FDS K a d) (R : ER K mg P a fL fN fU fI) (Z : EW K a) (M : CN K mg a.cT f0 D0 T0) (N : NM K a.cT fK fT fH fA fn dK dT dH dA dn) : FnOk P w K mg base (L2N.CX P w) 7 fA dA ["self", "other"] (spAnd K a) := by
  have GI := ok_init (P := P) (w := w) (base := base) T D R Z M
  refine NX.okX N.A1.F sc_Net_and (fun vs H Q E h => ?_) (fun cdv A outer s H vs Q E hr h => ?_)
  · obtain ⟨q, r, bs, cs, ms, ns, pool, rfl, _⟩ := h
    rfl
  · obtain ⟨q, r, bs, cs, ms, ns, pool, rfl, NA, PA, NB, PB, lbc, p20, s1, s2, fin⟩ := h
    have hr6 : Room 6 _ := hr.mono (by decide)
    refine ⟨_, (pss_cons (ps_set (i := 2) sc_Net_and.nd rfl (Or.inl rfl) (pe_op op_catA (pe_fld (pv 0) rfl) (pe_fld (pv 1) rfl)))
        (pss_one (ps_ret (KW.pe_mkMS M.mkr GI hr6 rfl M.gC (L2N.passes_call (L2N.takes_of rfl rfl rfl rfl) (fun _ _ _ _ h => h)) (pe_fld (pv 0) rfl) (pe_fld (pv 1) rfl) (pv 2))))), ?_⟩
    obtain ⟨dx, bo, mo, rv, dd, mv, us, hq, hbo, RA, hmo, _⟩ := id NA
    obtain ⟨dx2, bo2, mo2, rv2, dd2, mv2, us2, hq2, hbo2, RB, hmo2, _⟩ := id NB
    have big : 100000 ≤ sizeLine := by decide
    have la := PA.l20
    have lb := PB.l20
    -- the names of both
    refine ⟨_, rfl, q, a.cT, dx, _, _, rfl, hq, M.cl, M.n2, rfl, _, rfl, r, a.cT, dx2, _, _, rfl, hq2, M.cl, M.n2, rfl, ?_⟩
    have rest : ∀ tn H1, Ex H H1 → SqT K H1 tn ((ms ++ ns).map V.str) → StX.tStar K (tFld K (tVar 0) "bounds") (StX.tStar K (tFld K (tVar 1) "bounds") tNil) [some (.ref q), some (.ref r), some (.ref tn)] H1 (fun vs H2 => tVar 2 [some (.ref q), some (.ref r), some (.ref tn)] H2 fun y H3 => KW.tMkM a.cT (spInit K a.cT) E vs y Q H3) := fun tn H1 e1 htn => by
      refine ⟨_, rfl, q, a.cT, dx, _, _, rfl, e1 _ _ hq, M.cl, M.n1, rfl, bo, us, rfl, .inl (ex_t e1 hbo), _, rfl, r, a.cT, dx2, _, _, rfl, e1 _ _ hq2, M.cl, M.n1, rfl, bo2, us2, rfl, .inl (ex_t e1 hbo2), ?_⟩
      have R12 : RowsAt H1 (us ++ (us2 ++ [])) (bs ++ cs) := by
        rw [List.append_nil]
        exact (RA.ex e1).app (RB.ex e1)
      refine ⟨.ref tn, rfl, ?_⟩
      refine mk_net (pool := pool) (es := ms ++ ns) R12 (fun b hb => ?_) (by rw [List.length_append]; omega) ⟨tn, rfl, .inr htn⟩ (fun z hz => ?_) (by rw [List.length_append]; omega) p20 (fun z hz => ?_) (fun b hb z hz => ?_) fun x ks H' _ e' NC PC mem => fin x ks H' (e1.trans e') NC PC fun z => ?_
      · rcases List.mem_append.mp hb with hb | hb
        · exact PA.ok b hb
        · exact PB.ok b hb
      · rcases List.mem_append.mp hz with hz | hz
        · exact PA.nm z hz
        · exact PB.nm z hz
      · rcases List.mem_append.mp hz with hz | hz
        · exact s1 z hz
        · exact s2 z hz
      · simp only [nm2, List.mem_cons, List.not_mem_nil, or_false] at hz
        rcases List.mem_append.mp hb with hb | hb
        · have := PA.mok b hb
          rcases hz with rfl | rfl
          · exact s1 _ this.1
          · exact s1 _ this.2.1
        · have := PB.mok b hb
          rcases hz with rfl | rfl
          · exact s2 _ this.1
          · exact s2 _ this.2.1
      · rw [mem z, List.mem_append]
        constructor
        · rintro (h | ⟨b, hb, h⟩)
          · exact h
          · simp only [nm2, List.mem_cons, List.not_mem_nil, or_false] at h
            rcases List.mem_append.mp hb with hb | hb
            · have := PA.mok b hb
              rcases h with rfl | rfl
              · exact .inl this.1
              · exact .inl this.2.1
            · have := PB.mok b hb
              rcases h with rfl | rfl
              · exact .inr this.1
              · exact .inr this.2.1
        · exact .inl
    refine ⟨mo, mo2, _, _, rfl, rfl, hmo, hmo2, by rw [List.length_map, List.length_map]; omega, fun z => ?_, fun _ z => ?_, fun _ _ p hp => ?_⟩
    · have z : ms = [] := List.map_eq_nil_iff.mp z
      exact rest mo2 H (Ex.refl _) (by rw [z]; exact hmo2)
    · have z : ns = [] := List.map_eq_nil_iff.mp z
      exact rest mo H (Ex.refl _) (by rw [z, List.append_nil]; exact hmo)
    · exact rest p _ (Ex.new hp) (SqT.of (by rw [upd_same, List.map_append]))
end
end N4
set_option maxRecDepth 100000
set_option maxHeartbeats 8000000
namespace N4
open PySem L2 Evl GP HR SC SetM SetH
theorem hu65 {k : Nat} {A : Around} (r : Room k A) : A.units + 65 < cLine := by have := r.un; omega
theorem op_eqDK {X : Cx} {K : PySem.W.Frag} (hK : X.K = K) (hu : X.A.units + 64 < cLine) : OpR X (compareOp .Eq) (rEqD K) := hK ▸ op_eqD hu
theorem op_neDK {X : Cx} {K : PySem.W.Frag} (hK : X.K = K) (hu : X.A.units + 64 < cLine) : OpR X (compareOp .NotEq) (rNeD K) := hK ▸ op_neD hu
def Sh (n : Nat) (d : PyData) : Prop := d.canLay0 = true ∧ d.depth ≤ n
theorem Sh.all {n : Nat} : ∀ {ds : List PyData}, (∀ d ∈ ds, Sh n d) → PyData.canLayAll0 ds = true ∧ PyData.depthAll ds ≤ n
  | [], _ => ⟨by simp [PyData.canLayAll0], by simp [PyData.depthAll]⟩
  | d :: ds, h => by
    have a := h d List.mem_cons_self
    have b := Sh.all (ds := ds) fun x hx => h x (List.mem_cons_of_mem _ hx)
    refine ⟨?_, ?_⟩
    · rw [PyData.canLayAll0, a.1, b.1]
      rfl
    · rw [PyData.depthAll]
      exact Nat.max_le.mpr ⟨a.2, b.2⟩
theorem Sh.list {n : Nat} {ds : List PyData} (h : ∀ d ∈ ds, Sh n d) : Sh (n + 1) (.list ds) := ⟨by rw [PyData.canLay0]; exact (Sh.all h).1, by rw [PyData.depth]; exact Nat.succ_le_succ (Sh.all h).2⟩
theorem Sh.tuple {n : Nat} {ds : List PyData} (h : ∀ d ∈ ds, Sh n d) : Sh (n + 1) (.tuple ds) := ⟨by rw [PyData.canLay0]; exact (Sh.all h).1, by rw [PyData.depth]; exact Nat.succ_le_succ (Sh.all h).2⟩
theorem Sh.mono {n m : Nat} {d : PyData} (h : Sh n d) (l : n ≤ m) : Sh m d := ⟨h.1, Nat.le_trans h.2 l⟩
theorem Sh.sh {n : Nat} {d : PyData} (h : Sh n d) (l : n ≤ 64) : PySem.SeqAt.shaped d = true := Bool.and_eq_true_iff.mpr ⟨h.1, decide_eq_true (Nat.le_trans h.2 l)⟩
theorem sh_str {n : Nat} {s : Str} (h : PyData.strOk s = true) : Sh n (.str s) := by simp [Sh, PyData.canLay0, PyData.depth, h]
theorem sh_int {n : Nat} {i : Int} : Sh n (.int i) := by simp [Sh, PyData.canLay0, PyData.depth]
theorem sh_none {n : Nat} : Sh n .none := by simp [Sh, PyData.canLay0, PyData.depth]
theorem sh_pair {n : Nat} {a b : PyData} (h1 : Sh n a) (h2 : Sh n b) : Sh (n + 1) (.tuple [a, b]) := Sh.tuple fun x hx => by
  simp only [List.mem_cons, List.not_mem_nil, or_false] at hx
  rcases hx with rfl | rfl <;> assumption
theorem signs_lowX : ∀ c ∈ signs.cps.toList, c < 128 := by decide +kernel
theorem name_ok {z : Str} (h : isNameS z = true) : PyData.strOk z = true := by
  unfold isNameS at h
  simp only [Bool.and_eq_true, List.all_eq_true, decide_eq_true_eq] at h
  unfold PyData.strOk
  rw [← Array.all_toList, List.all_eq_true]
  intro c hc
  have := signs_lowX c (h.2.2 c hc)
  exact decide_eq_true (by omega)
theorem sh_row {d : Row} (h : RowOk d) : Sh 1 (bD d) := by
  refine Sh.tuple (n := 0) fun e he => ?_
  simp only [List.mem_cons, List.not_mem_nil, or_false] at he
  rcases he with rfl | rfl | rfl | rfl
  · exact sh_str (by decide +kernel)
  · exact sh_str (name_ok h.1)
  · exact sh_str (name_ok h.2.1)
  · exact sh_int
theorem row_any (l : Row) : ∀ ls : List Row, (ls.map bD).any (fun z => PyData.eqv z (bD l)) = decide (l ∈ ls)
  | [] => rfl
  | m :: ls => by
    rw [List.map_cons, List.any_cons, row_eqv, row_any l ls]
    by_cases h : m = l
    · subst h
      simp
    · have h2 : l ≠ m := fun e => h e.symm
      simp [h, h2]
theorem row_anyM (l : Row) (ls : List Row) : (ls.map bD).any (fun z => PyData.eqv z (bD l)) = decide (l ∈ ls) := row_any l ls
/-- the row is between different names of xs and f fulfils it -/
def RowIn (xs : List Str) (f : Str → Int) (r : Row) : Prop := r.1 ∈ xs ∧ r.2.1 ∈ xs ∧ r.1 ≠ r.2.1 ∧ f r.1 - f r.2.1 ≤ r.2.2
def spSizes : Sp := fun vs H Q _ => ∃ (b : Addr) (n : Nat), vs = [.ref b] ∧ Bx b n H ∧ n + 3 ≤ 1000000 ∧
  ∀ (t : Addr) (c s : Nat) H', (s = 0 ∨ 2 ≤ c) → c ≤ 6 → s ≤ 12 → H' t = some (.tup [.int (c : Int), .int (s : Int)]) → Kp b H H' → Bx b (n + 3) H' → Q (.ref t) H'
def spRow : Sp := fun vs H Q _ => ∃ (b l d : Addr) (n : Nat) (xs ys : List Str) (f : Str → Int), vs = [.ref b, .ref l, .ref d] ∧ Bx b n H ∧ n + 10 ≤ 1000000 ∧ l ≠ b ∧ Nms l xs H ∧ 2 ≤ xs.length ∧ xs.length ≤ 10 ∧ d ≠ b ∧ Hts d ys f H ∧ (∀ x ∈ xs, x ∈ ys) ∧
  ∀ (p : Addr) (r : Row) H', RowIn xs f r → H p = none → H' p = some (.tup (rowV r)) → Kp b H H' → Bx b (n + 10) H' → Q (.ref p) H'
def spRows : Sp := fun vs H Q _ => ∃ (b l d : Addr) (n s : Nat) (xs ys : List Str) (f : Str → Int), vs = [.ref b, .ref l, .ref d, .int (s : Int)] ∧ Bx b n H ∧ n + 12 * s ≤ 1000000 ∧ l ≠ b ∧ Nms l xs H ∧ (s = 0 ∨ 2 ≤ xs.length) ∧ xs.length ≤ 10 ∧ s ≤ 30 ∧ d ≠ b ∧ Hts d ys f H ∧ (∀ x ∈ xs, x ∈ ys) ∧
  ∀ (r : Addr) (us : List V) (ds : List Row) H', H r = none → H' r = some (.lst us) → RowsAt H' us ds → (∀ r ∈ ds, RowIn xs f r) → ds.length = s → Kp b H H' → Bx b (n + 12 * s) H' → Q (.ref r) H'
def spExtra (K : PySem.W.Frag) : Sp := fun vs H Q _ => ∃ (b l : Addr) (n : Nat) (xs : List Str) (z : Str), vs = [.ref b, .ref l, .str z] ∧ Bx b n H ∧ n + 1 ≤ 1000000 ∧ l ≠ b ∧ Nms l xs H ∧ xs.length ≤ 10 ∧
  ∀ (t : Addr) (es : List Str) H', H' t = some (.tup (es.map V.str)) → (∀ e ∈ es, e = z ∨ e ∈ xs) → es.length ≤ 11 → Kp b H H' → Bx b (n + 1) H' → Q (.ref t) H'
theorem Hts.kp {b d : Addr} {xs : List Str} {f : Str → Int} {H H' : Hp} (h : Hts d xs f H) (k : Kp b H H') (n : d ≠ b) : Hts d xs f H' := let ⟨kvs, h1, h2⟩ := h.at_; ⟨kvs, k.at n h1, h2⟩
theorem Nms.kp {b l : Addr} {xs : List Str} {H H' : Hp} (h : Nms l xs H) (k : Kp b H H') (n : l ≠ b) : Nms l xs H' := ⟨k.at n h.at_, h.nm, h.nd⟩
theorem Kp.fresh {b p : Addr} {n : Nat} {H H' : Hp} (k : Kp b H H') (x : Bx b n H') (h : H' p = none) : H p = none := by
  cases e : H p with
  | none => rfl
  | some o =>
    have g := k.at (x.ne h) e
    rw [h] at g
    cases g
section
variable {P : Program} {w : World} {K : PySem.W.Frag} {mg : Str → Option Value} {base : Heap} {a : Ad} {d : Fd}
theorem ok_law_sizes (T : TX K mg a) (D : FDS K a d) : FnOk P w K mg base CX0 3 a.a_law_sizes d.a_law_sizes ["box"] spSizes := by
  have G__law_take : FnOk P w K mg base CX0 2 a.a_law_take d.a_law_take ["box", "size"] spTake := ok_law_take T D
  refine D.F__law_sizes.ok sc_law_sizes (fun vs H Q E h => ?_) (fun cdv A outer s H vs Q E hr h => ?_)
  · obtain ⟨b, n, rfl, _⟩ := h
    rfl
  · obtain ⟨b, n, rfl, X, hn, q⟩ := h
    refine ⟨_, (pss_cons (ps_set (i := 1) sc_law_sizes.nd rfl (Or.inl rfl) (pe_call G__law_take (hr.mono (by decide)) rfl T.f__law_take T.k__law_take D.B__law_take .nil pass0 (pa_cons (pv 0) (pa_cons pe_int pa_nil))))
        (pss_cons (ps_if (pt_cmpR op_eq (pv 1) pe_int (nomark _)) (pss_one (ps_ret (pe_tup (pa_cons (pe_call G__law_take (hr.mono (by decide)) rfl T.f__law_take T.k__law_take D.B__law_take .nil pass0 (pa_cons (pv 0) (pa_cons pe_int pa_nil))) (pa_cons pe_int pa_nil))))) pss_nil)
        (pss_cons (ps_if (pt_cmpR op_eq (pv 1) pe_int (nomark _)) (pss_one (ps_ret (pe_tup (pa_cons (pe_op op_add pe_int (pe_call G__law_take (hr.mono (by decide)) rfl T.f__law_take T.k__law_take D.B__law_take .nil pass0 (pa_cons (pv 0) (pa_cons pe_int pa_nil)))) (pa_cons (pe_op op_add pe_int (pe_call G__law_take (hr.mono (by decide)) rfl T.f__law_take T.k__law_take D.B__law_take .nil pass0 (pa_cons (pv 0) (pa_cons pe_int pa_nil)))) pa_nil))))) pss_nil)
        (pss_one (ps_ret (pe_tup (pa_cons (pe_op op_add pe_int (pe_call G__law_take (hr.mono (by decide)) rfl T.f__law_take T.k__law_take D.B__law_take .nil pass0 (pa_cons (pv 0) (pa_cons pe_int pa_nil)))) (pa_cons (pe_call G__law_take (hr.mono (by decide)) rfl T.f__law_take T.k__law_take D.B__law_take .nil pass0 (pa_cons (pv 0) (pa_cons pe_int pa_nil))) pa_nil)))))))), ?_⟩
    refine ⟨_, rfl, b, 10, n, rfl, X, by omega, by decide, by decide, fun k H1 k1 X1 k10 k11 => ⟨_, rfl, rfl, _, rfl, ?_⟩⟩
    refine ite2 (fun h1 => ?_) (fun h1 => ?_)
    · refine ⟨_, rfl, b, 2, _, rfl, X1, by omega, by decide, by decide, fun c H2 k2 X2 c0 c1 => ⟨(by show 2 ≤ sizeLine; decide), fun t ht => ?_⟩⟩
      obtain ⟨c, rfl⟩ := Int.eq_ofNat_of_zero_le c0
      exact q t c 0 _ (.inl rfl) (by omega) (by omega) upd_same ((k1.trans k2).trans (Kp.ex (Ex.new ht))) ((X2.mono (by omega)).ex (Ex.new ht))
    · refine ⟨_, rfl, rfl, _, rfl, ?_⟩
      refine ite2 (fun h2 => ?_) (fun h2 => ?_)
      · refine ⟨_, rfl, b, 2, _, rfl, X1, by omega, by decide, by decide, fun c H2 k2 X2 c0 c1 => ⟨_, _, rfl, rfl, _, rfl, b, 7, _, rfl, X2, by omega, by decide, by decide, fun s H3 k3 X3 s0 s1 => ⟨_, _, rfl, rfl, (by show 2 ≤ sizeLine; decide), fun t ht => ?_⟩⟩⟩
        obtain ⟨c, rfl⟩ := Int.eq_ofNat_of_zero_le c0
        obtain ⟨s, rfl⟩ := Int.eq_ofNat_of_zero_le s0
        exact q t (5 + c) (6 + s) _ (.inr (by omega)) (by omega) (by omega) (by rw [upd_same, Int.natCast_add, Int.natCast_add]; rfl) (((k1.trans k2).trans k3).trans (Kp.ex (Ex.new ht))) (X3.ex (Ex.new ht))
      · refine ⟨_, rfl, b, 3, _, rfl, X1, by omega, by decide, by decide, fun c H2 k2 X2 c0 c1 => ⟨_, _, rfl, rfl, _, rfl, b, 8, _, rfl, X2, by omega, by decide, by decide, fun s H3 k3 X3 s0 s1 => ⟨(by show 2 ≤ sizeLine; decide), fun t ht => ?_⟩⟩⟩
        obtain ⟨c, rfl⟩ := Int.eq_ofNat_of_zero_le c0
        obtain ⟨s, rfl⟩ := Int.eq_ofNat_of_zero_le s0
        exact q t (2 + c) s _ (.inr (by omega)) (by omega) (by omega) (by rw [upd_same, Int.natCast_add]; rfl) (((k1.trans k2).trans k3).trans (Kp.ex (Ex.new ht))) (X3.ex (Ex.new ht))
theorem ok_law_row (T : TX K mg a) (D : FDS K a d) : FnOk P w K mg base CX0 5 a.a_law_row d.a_law_row ["box", "names", "heights"] spRow := by
  have G__law_take : FnOk P w K mg base CX0 2 a.a_law_take d.a_law_take ["box", "size"] spTake := ok_law_take T D
  have G__law_slack : FnOk P w K mg base CX0 4 a.a_law_slack d.a_law_slack ["box"] spSlack := ok_law_slack T D
  refine D.F__law_row.ok sc_law_row (fun vs H Q E h => ?_) (fun cdv A outer s H vs Q E hr h => ?_)
  · obtain ⟨b, l, d, n, xs, ys, f, rfl, _⟩ := h
    rfl
  · obtain ⟨b, l, d, n, xs, ys, f, rfl, X, hn, hlb, N, hx2, hx10, hdb, HT, sub, q⟩ := h
    refine ⟨_, (pss_cons (ps_set (i := 3) sc_law_row.nd rfl (Or.inl rfl) (pe_call G__law_take (hr.mono (by decide)) rfl T.f__law_take T.k__law_take D.B__law_take .nil pass0 (pa_cons (pv 0) (pa_cons (pe_callB call_len_seq (by rfl) T.b_len (by decide +kernel) (pa_cons (pv 1) pa_nil)) pa_nil))))
        (pss_cons (ps_set (i := 4) sc_law_row.nd rfl (Or.inl rfl) (pe_op op_modN (pe_callTy call_int1 (by rfl) T.b_int (by decide +kernel) (pa_cons (pe_op op_add (pe_op op_add (pv 3) pe_int) (pe_call G__law_take (hr.mono (by decide)) rfl T.f__law_take T.k__law_take D.B__law_take .nil pass0 (pa_cons (pv 0) (pa_cons (pe_op op_sub (pe_callB call_len_seq (by rfl) T.b_len (by decide +kernel) (pa_cons (pv 1) pa_nil)) pe_int) pa_nil)))) pa_nil)) (pe_callB call_len_seq (by rfl) T.b_len (by decide +kernel) (pa_cons (pv 1) pa_nil))))
        (pss_one (ps_ret (pe_tup (pa_cons pe_str (pa_cons (pe_ix (ix_listK (K := K)) (pv 1) (pv 3) (fun _ _ => rfl)) (pa_cons (pe_ix (ix_listK (K := K)) (pv 1) (pv 4) (fun _ _ => rfl)) (pa_cons (pe_op op_add (pe_op op_sub (pe_dget (hu_of hr) (pv 2) (pe_ix (ix_listK (K := K)) (pv 1) (pv 3) (fun _ _ => rfl)) (fun _ _ => rfl)) (pe_dget (hu_of hr) (pv 2) (pe_ix (ix_listK (K := K)) (pv 1) (pv 4) (fun _ _ => rfl)) (fun _ _ => rfl))) (pe_call G__law_slack (hr.mono (by decide)) rfl T.f__law_slack T.k__law_slack D.B__law_slack .nil pass0 (pa_cons (pv 0) pa_nil))) pa_nil))))))))), ?_⟩
    have hlm : (xs.map V.str).length = xs.length := List.length_map _
    refine ⟨_, rfl, _, rfl, l, _, rfl, .inl (SqL.of N.at_), b, _, n, rfl, X, by omega, by omega, by omega, fun p H1 k1 X1 p0 p1 => ?_⟩
    have N4 := N.kp k1 hlb
    refine ⟨_, rfl, _, _, rfl, rfl, _, rfl, _, rfl, l, _, rfl, .inl (SqL.of N4.at_), _, _, rfl, rfl, b, _, _, rfl, X1, by omega, by omega, by omega, fun t H2 k2 X2 t0 t1 => ?_⟩
    have k12 := k1.trans k2
    have N4 := N.kp k12 hlb
    obtain ⟨kvs, hkv, hf, _⟩ := (HT.kp k12 hdb).at_
    rw [hlm] at p1 t1
    obtain ⟨r0, r1, r2⟩ := next_place (m := xs.length) hx2 ⟨p0, p1⟩ t0 t1
    refine ⟨_, _, rfl, rfl, .inl ⟨_, rfl, _, rfl, l, _, rfl, .inl (SqL.of N4.at_), _, _, rfl, rfl, by omega, ?_⟩⟩
    rw [hlm]
    generalize ht2 : (p + 1 + t).fmod ((xs.length : Nat) : Int) = o at *
    obtain ⟨p, rfl⟩ := Int.eq_ofNat_of_zero_le p0
    obtain ⟨o, rfl⟩ := Int.eq_ofNat_of_zero_le r0
    have pl : p < xs.length := by omega
    have ol : o < xs.length := by omega
    have hx : xs[p]? = some xs[p] := List.getElem?_eq_getElem pl
    have hy : xs[o]? = some xs[o] := List.getElem?_eq_getElem ol
    have ix := sub _ (List.getElem_mem pl)
    have iy := sub _ (List.getElem_mem ol)
    have ne : xs[p] ≠ xs[o] := fun e => by
      have := (List.getElem_inj N.nd).mp e
      omega
    have g1 : DGet H2 d (kV (Sum.inr xs[p])) (some (.int (f xs[p]))) := by
      rw [← hf _ ix]
      exact DGet.k hkv
    have g2 : DGet H2 d (kV (Sum.inr xs[o])) (some (.int (f xs[o]))) := by
      rw [← hf _ iy]
      exact DGet.k hkv
    refine ⟨_, rfl, _, rfl, l, _, _, .str xs[p], rfl, rfl, SqL.of N4.at_, at_lit (n := p) rfl (by rw [List.getElem?_map, hx]; rfl), _, rfl, _, rfl, l, _, _, .str xs[o], rfl, rfl, SqL.of N4.at_, at_lit (n := o) ht2 (by rw [List.getElem?_map, hy]; rfl), ?_⟩
    refine ⟨_, rfl, _, rfl, _, rfl, l, _, _, .str xs[p], rfl, rfl, SqL.of N4.at_, at_lit (n := p) rfl (by rw [List.getElem?_map, hx]; rfl), d, _, rfl, g1, _, rfl, _, rfl, _, rfl, l, _, _, .str xs[o], rfl, rfl, SqL.of N4.at_, at_lit (n := o) ht2 (by rw [List.getElem?_map, hy]; rfl), d, _, rfl, g2, _, _, rfl, rfl, ?_⟩
    refine ⟨_, rfl, b, _, rfl, X2, by omega, fun z H3 z0 k3 X3 => ⟨_, _, rfl, rfl, (by show 4 ≤ sizeLine; decide), fun tp htp => ?_⟩⟩
    have k13 := k12.trans k3
    exact q tp (xs[p], xs[o], f xs[p] - f xs[o] + z) _ ⟨List.getElem_mem pl, List.getElem_mem ol, ne, by show f xs[p] - f xs[o] ≤ f xs[p] - f xs[o] + z; omega⟩ (k13.fresh X3 htp) upd_same (k13.trans (Kp.ex (Ex.new htp))) (X3.ex (Ex.new htp))
end
end N4
set_option maxRecDepth 100000
set_option maxHeartbeats 8000000
namespace N4
open PySem L2 Evl GP HR SC SetM SetH
def spKnown (K : PySem.W.Frag) : Sp := fun vs H Q _ => ∃ (r : Addr) (us : List V) (ds : List Row) (v : V) (es pool : List Str), vs = [.ref r, v] ∧ SqL K H r us ∧ RowsAt H us ds ∧ ds.length ≤ 40 ∧ MoArg K H v es ∧ es.length ≤ 20 ∧ pool.length ≤ 20 ∧ (∀ z ∈ es, z ∈ pool) ∧ (∀ b ∈ ds, ∀ z ∈ nm2 b, z ∈ pool) ∧
  ∀ (l : Addr) (ks : List Str) H', Ex H H' → H' l = some (.lst (ks.map V.str)) → ks.Nodup → PyProof.Rows.sortedS ks = true → (∀ z, z ∈ ks ↔ z ∈ es ∨ ∃ b ∈ ds, z ∈ nm2 b) → Q (.ref l) H'
def spFlat (K : PySem.W.Frag) : Sp := fun vs H Q _ => ∃ (r : Addr) (us : List V) (ds : List Row), vs = [.ref r] ∧ SqL K H r us ∧ RowsAt H us ds ∧ (∀ b ∈ ds, RowOk b) ∧ ds.length ≤ 1000 ∧
  ∀ (l : Addr) (us' : List V) H', Ex H H' → H' l = some (.lst us') → RowsAt H' us' (flatR ds) → Q (.ref l) H'
section
variable {P : Program} {w : World} {K : PySem.W.Frag} {mg : Str → Option Value} {base : Heap} {a : Ad} {d : Fd}
theorem ok_law_rows (T : TX K mg a) (D : FDS K a d) : FnOk P w K mg base CX0 6 a.a_law_rows d.a_law_rows ["box", "names", "heights", "size"] spRows := by
  have G__law_take : FnOk P w K mg base CX0 2 a.a_law_take d.a_law_take ["box", "size"] spTake := ok_law_take T D
  have G__law_row : FnOk P w K mg base CX0 5 a.a_law_row d.a_law_row ["box", "names", "heights"] spRow := ok_law_row T D
  refine D.F__law_rows.ok sc_law_rows (fun vs H Q E h => ?_) (fun cdv A outer s H vs Q E hr h => ?_)
  · obtain ⟨b, l, d, n, s, xs, ys, f, rfl, _⟩ := h
    rfl
  · obtain ⟨b, l, d, n, s, xs, ys, f, rfl, X, hn, hlb, N, hs2, hx10, s30, hdb, HT, sub, q⟩ := h
    refine ⟨_, (pss_cons (ps_set (i := 4) sc_law_rows.nd rfl (Or.inl rfl) (pe_lst pa_nil))
        (pss_cons (ps_for PassesOwn.never rfl (pi_range1 rfl T.b_range (pa_cons (pv 3) pa_nil)) (pg_name (i := 5) sc_law_rows.nd rfl (Or.inl rfl)) (pss_one (ps_if (PW.pt (pw_and (pt_truth (pv 4) (by intro _; rfl)) (pw_and1 (pt_cmpR op_eq (pe_call G__law_take (hr.mono (by decide)) rfl T.f__law_take T.k__law_take D.B__law_take .nil pass0 (pa_cons (pv 0) (pa_cons pe_int pa_nil))) pe_int (nomark _))))) (pss_one (ps_expr (pe_bm PySem.F.plainAttrs_list PySem.F.slot_list_append PySem.F.type_list_append mt_append (pv 4) (pa_cons (pe_ix (ix_listK (K := K)) (pv 4) (pe_call G__law_take (hr.mono (by decide)) rfl T.f__law_take T.k__law_take D.B__law_take .nil pass0 (pa_cons (pv 0) (pa_cons (pe_callB call_len_seq (by rfl) T.b_len (by decide +kernel) (pa_cons (pv 4) pa_nil)) pa_nil))) (fun _ _ => rfl)) pa_nil)))) (pss_one (ps_expr (pe_bm PySem.F.plainAttrs_list PySem.F.slot_list_append PySem.F.type_list_append mt_append (pv 4) (pa_cons (pe_call G__law_row (hr.mono (by decide)) rfl T.f__law_row T.k__law_row D.B__law_row .nil pass0 (pa_cons (pv 0) (pa_cons (pv 1) (pa_cons (pv 2) pa_nil)))) pa_nil)))))))
        (pss_one (ps_ret (pv 4))))), ?_⟩
    have big : 100000 ≤ sizeLine := by decide
    refine ⟨Nat.zero_le _, fun rl hrl => ?_⟩
    have rlb := X.ne hrl
    refine ⟨_, rfl, (s : Int), rfl, by omega, by omega, for_range (lo := 0) (n := (s : Int).toNat) (fun i σ' H' => ∃ (us : List V) (ds : List Row), H' rl = some (.lst us) ∧ RowsAt H' us ds ∧ ds.length = i ∧ (∀ r ∈ ds, RowIn xs f r) ∧ (∃ v : Option V, σ' = [some (.ref b), some (.ref l), some (.ref d), some (.int (s : Int)), some (.ref rl), v]) ∧ Kp b H H' ∧ Bx b (n + 12 * i) H')
      ⟨[], [], upd_same, RowsAt.nil, rfl, fun r h => absurd h List.not_mem_nil, ⟨none, rfl⟩, Kp.ex (Ex.new hrl), X.ex (Ex.new hrl)⟩ ?_ ?_⟩
    · rintro i σ' H1 hi ⟨us, ds, hr1, R, ld, rin, ⟨v, rfl⟩, k1, X1⟩
      have lu := R.1
      -- a row of before, or a new one
      have put : ∀ (p : Addr) (r : Row) (H2 : Hp), RowIn xs f r → H2 p = some (.tup (rowV r)) → Kp b H1 H2 → Bx b (n + 12 * (i + 1)) H2 → ∃ (us' : List V) (ds' : List Row), (upd H2 rl (.lst (us ++ [.ref p]))) rl = some (.lst us') ∧ RowsAt (upd H2 rl (.lst (us ++ [.ref p]))) us' ds' ∧ ds'.length = i + 1 ∧ (∀ r ∈ ds', RowIn xs f r) ∧
          (∃ v : Option V, [some (V.ref b), some (.ref l), some (.ref d), some (.int (s : Int)), some (.ref rl), some (.int (0 + (i : Int)))] = [some (.ref b), some (.ref l), some (.ref d), some (.int (s : Int)), some (.ref rl), v]) ∧ Kp b H (upd H2 rl (.lst (us ++ [.ref p]))) ∧ Bx b (n + 12 * (i + 1)) (upd H2 rl (.lst (us ++ [.ref p]))) := fun p r H2 hr hp k2 X2 => by
        have hr2 := k2.at rlb hr1
        have tk := TK.lst (o := .lst (us ++ [V.ref p])) hr2
        refine ⟨_, ds ++ [r], upd_same, ((R.keep (k2.tup X1)).keep tk).snoc ⟨p, rfl, tk _ _ hp⟩, by rw [List.length_append, ld]; rfl, fun r' h => ?_, ⟨_, rfl⟩, (k1.trans k2).mut hrl rlb, Bx.mut X hrl (k1.trans k2) X2⟩
        rcases List.mem_append.mp h with h | h
        · exact rin r' h
        · rw [List.mem_singleton.mp h]
          exact hr
      refine ⟨_, rfl, !us.isEmpty, .inl ⟨_, SqL.of hr1, by cases us <;> rfl⟩, ?_⟩
      refine ite2 (fun h1 => ?_) (fun h1 => iteF ?_)
      · refine ⟨_, rfl, b, 6, _, rfl, X1, by omega, by decide, by decide, fun t H2 k2 X2 t0 t1 => ⟨rfl, _, rfl, ?_⟩⟩
        have hpos : 0 < us.length := by
          cases us with
          | nil => cases h1
          | cons _ _ => simp
        refine ite2 (fun h2 => ?_) (fun h2 => ?_)
        · refine ⟨_, rfl, .inl ⟨rfl, _, SqL.of (k2.at rlb hr1)⟩, _, rfl, _, rfl, _, rfl, rl, _, rfl, .inl (SqL.of (k2.at rlb hr1)), b, _, _, rfl, X2, by omega, by omega, by omega, fun o H3 k3 X3 o0 o1 => ?_⟩
          obtain ⟨o, rfl⟩ := Int.eq_ofNat_of_zero_le o0
          have ol : o < ds.length := by omega
          have k23 := k2.trans k3
          obtain ⟨p, hp, ht⟩ := (R.keep (k23.tup X1)).at (List.getElem?_eq_getElem ol)
          exact ⟨rl, us, _, _, rfl, rfl, SqL.of (k23.at rlb hr1), at_lit (n := o) rfl hp, rl, us, _, rfl, rfl, k23.at rlb hr1, by omega, put p _ H3 (rin _ (List.getElem_mem ol)) ht k23 (X3.mono (by omega))⟩
        · refine ⟨_, rfl, .inl ⟨rfl, _, SqL.of (k2.at rlb hr1)⟩, _, rfl, _, rfl, _, rfl, b, l, d, n + 12 * i + 1, xs, ys, f, rfl, X2, by omega, hlb, N.kp (k1.trans k2) hlb, (hs2.resolve_left (by omega)), hx10, hdb, HT.kp (k1.trans k2) hdb, sub, fun p r H3 hr0 _ hp k3 X3 => ?_⟩
          have k23 := Kp.trans k2 k3
          exact ⟨rl, us, _, rfl, rfl, k23.at rlb hr1, by omega, put p r H3 hr0 hp k23 (X3.mono (by omega))⟩
      · refine ⟨_, rfl, .inl ⟨rfl, _, SqL.of ((Kp.refl b H1).at rlb hr1)⟩, _, rfl, _, rfl, _, rfl, b, l, d, n + 12 * i, xs, ys, f, rfl, X1, by omega, hlb, N.kp (k1.trans (Kp.refl b H1)) hlb, (hs2.resolve_left (by omega)), hx10, hdb, HT.kp (k1.trans (Kp.refl b H1)) hdb, sub, fun p r H3 hr0 _ hp k3 X3 => ?_⟩
        have k23 := Kp.trans (Kp.refl b H1) k3
        exact ⟨rl, us, _, rfl, rfl, k23.at rlb hr1, by omega, put p r H3 hr0 hp k23 (X3.mono (by omega))⟩
    · rintro σ' H1 ⟨us, ds, hr1, R, ld, rin, ⟨v, rfl⟩, k1, X1⟩
      exact ⟨_, rfl, q rl us ds H1 hrl hr1 R rin (by omega) k1 (X1.mono (by omega))⟩
theorem ok_law_extra (T : TX K mg a) (D : FDS K a d) : FnOk P w K mg base CX0 3 a.a_law_extra d.a_law_extra ["box", "names", "lone"] (spExtra K) := by
  have G__law_take : FnOk P w K mg base CX0 2 a.a_law_take d.a_law_take ["box", "size"] spTake := ok_law_take T D
  refine D.F__law_extra.ok sc_law_extra (fun vs H Q E h => ?_) (fun cdv A outer s H vs Q E hr h => ?_)
  · obtain ⟨b, l, n, xs, z, rfl, _⟩ := h
    rfl
  · obtain ⟨b, l, n, xs, z, rfl, X, hn, hlb, N, hx10, q⟩ := h
    refine ⟨_, (pss_cons (ps_set (i := 3) sc_law_extra.nd rfl (Or.inl rfl) (pe_call G__law_take (hr.mono (by decide)) rfl T.f__law_take T.k__law_take D.B__law_take .nil pass0 (pa_cons (pv 0) (pa_cons pe_int pa_nil))))
        (pss_cons (ps_if (pt_cmpR op_eq (pv 3) pe_int (nomark _)) (pss_one (ps_ret (pe_tup pa_nil))) pss_nil)
        (pss_cons (ps_if (pt_cmpR op_eq (pv 3) pe_int (nomark _)) (pss_one (ps_ret (pe_tup (pa_cons (pv 2) pa_nil)))) pss_nil)
        (pss_cons (ps_if (pt_cmpR op_eq (pv 3) pe_int (nomark _)) (pss_one (ps_ret (pe_callTy call_tuple_of (by rfl) T.b_tuple (by decide +kernel) (pa_cons (pv 1) pa_nil)))) pss_nil)
        (pss_one (ps_ret (pe_op op_catA (pe_tup (pa_cons (pv 2) pa_nil)) (pe_callTy call_tuple_of (by rfl) T.b_tuple (by decide +kernel) (pa_cons (pv 1) pa_nil))))))))), ?_⟩
    have big : 100000 ≤ sizeLine := by decide
    refine ⟨_, rfl, b, 4, n, rfl, X, by omega, by decide, by decide, fun k H1 k1 X1 k10 k11 => ⟨_, rfl, rfl, _, rfl, ?_⟩⟩
    have N1 := N.kp k1 hlb
    refine ite2 (fun h1 => ?_) (fun h1 => ?_)
    · exact ⟨Nat.zero_le _, fun t ht => q t [] _ upd_same (fun e h => absurd h List.not_mem_nil) (Nat.zero_le _) (k1.trans (Kp.ex (Ex.new ht))) (X1.ex (Ex.new ht))⟩
    refine ⟨_, rfl, rfl, _, rfl, ?_⟩
    refine ite2 (fun h2 => ?_) (fun h2 => ?_)
    · exact ⟨_, rfl, (by show 1 ≤ sizeLine; decide), fun t ht => q t [z] _ upd_same (fun e h => .inl (List.mem_singleton.mp h)) (by show 1 ≤ 11; decide) (k1.trans (Kp.ex (Ex.new ht))) (X1.ex (Ex.new ht))⟩
    refine ⟨_, rfl, rfl, _, rfl, ?_⟩
    refine ite2 (fun h3 => ?_) (fun h3 => ?_)
    · exact ⟨_, rfl, l, _, rfl, .inl ⟨SqL.of N1.at_, fun t ht => q t xs _ upd_same (fun e h => .inr h) (by omega) (k1.trans (Kp.ex (Ex.new ht))) (X1.ex (Ex.new ht))⟩⟩
    · refine ⟨_, rfl, (by show 1 ≤ sizeLine; decide), fun t1 ht1 => ?_⟩
      have e1 := Ex.new (o := .tup [.str z]) ht1
      refine ⟨_, rfl, l, _, rfl, .inl ⟨SqL.of (e1 _ _ N1.at_), fun t2 ht2 => ?_⟩⟩
      have e2 := Ex.new (o := .tup (xs.map V.str)) ht2
      have k3 := k1.trans (Kp.ex (e1.trans e2))
      have X3 := X1.ex (e1.trans e2)
      refine ⟨t1, t2, _, _, rfl, rfl, SqT.of (e2 _ _ upd_same), SqT.of upd_same, by rw [List.length_map]; show 1 + xs.length ≤ sizeLine; omega, (fun h => by cases h), fun _ h => ?_, fun _ _ t ht => ?_⟩
      · have h : xs = [] := List.map_eq_nil_iff.mp h
        exact q t1 [z] _ (e2 _ _ upd_same) (fun e h => .inl (List.mem_singleton.mp h)) (by show 1 ≤ 11; decide) k3 X3
      · refine q t (z :: xs) _ (by rw [upd_same]; rfl) (fun e h => ?_) (by rw [List.length_cons]; omega) (k3.trans (Kp.ex (Ex.new ht))) (X3.ex (Ex.new ht))
        rcases List.mem_cons.mp h with h | h
        · exact .inl h
        · exact .inr h
theorem ok_law_flat (T : TX K mg a) (D : FDS K a d) : FnOk P w K mg base CX0 1 a.a_law_flat d.a_law_flat ["rows"] (spFlat K) := by
  refine D.F__law_flat.ok sc_law_flat (fun vs H Q E h => ?_) (fun cdv A outer s H vs Q E hr h => ?_)
  · obtain ⟨r, us, ds, rfl, _⟩ := h
    rfl
  · obtain ⟨r, us, ds, rfl, hr1, R, ok, l1000, fin⟩ := h
    refine ⟨_, (pss_cons (ps_set (i := 1) sc_law_flat.nd rfl (Or.inl rfl) (pe_lst pa_nil))
        (pss_cons (ps_for PassesOwn.never rfl (pi_list (pv 0)) (pg_name (i := 2) sc_law_flat.nd rfl (Or.inl rfl)) (pss_one (ps_if (pt_cmpR (op_notInD (hu65 hr)) (pv 2) (pv 1) rfl) (pss_one (ps_expr (pe_bm PySem.F.plainAttrs_list PySem.F.slot_list_append PySem.F.type_list_append mt_append (pv 1) (pa_cons (pv 2) pa_nil)))) pss_nil)))
        (pss_one (ps_ret (pv 1))))), ?_⟩
    have big : 100000 ≤ sizeLine := by decide
    have lu := R.1
    refine ⟨Nat.zero_le _, fun l hl => ?_⟩
    refine ⟨_, rfl, r, rfl, ⟨us, ex_l (Ex.new hl) hr1⟩, for_it walk_list (fun i σ' H1 => (∃ o2, σ' = [some (.ref r), some (.ref l), o2]) ∧ Ex H H1 ∧ ∃ ws, H1 l = some (.lst ws) ∧ RowsAt H1 ws (flatR (ds.take i))) ⟨⟨none, rfl⟩, Ex.new hl, [], upd_same, RowsAt.nil⟩ (fun i σ' H1 _ h => ex_l h.2.1 hr1) ?_ ?_⟩
    · rintro i v σ' H1 H1' hi ⟨⟨o2, rfl⟩, e1, ws, hl1, W⟩ ⟨rfl, hv⟩
      obtain ⟨b, p, hb, rfl, hp⟩ := R.get hv
      have okb := ok b (List.mem_of_getElem? hb)
      have tk : ds.take (i + 1) = ds.take i ++ [b] := by rw [List.take_add_one, hb]; rfl
      have okW : ∀ c ∈ flatR (ds.take i), RowOk c := fun c hc => ok c (List.mem_of_mem_take ((flatR_mem _ c).mp hc))
      refine ⟨_, rfl, _, rfl, bD b, (flatR (ds.take i)).map bD, row_dp (SqT.of (e1 _ _ hp)), .lst (SqL.of hl1) W.dp, (sh_row okb).sh (by decide), (Sh.list (n := 1) fun x hx => ?_).sh (by decide), _, rfl, ?_⟩
      · obtain ⟨c, hc, rfl⟩ := List.mem_map.mp hx
        exact sh_row (okW c hc)
      rw [row_any]
      by_cases h : b ∈ flatR (ds.take i)
      · refine iteF' (by rw [decide_eq_true h]; rfl) ⟨⟨_, rfl⟩, e1, ws, hl1, ?_⟩
        rw [tk, flatR_snoc, if_pos h]
        exact W
      · refine iteT' (by rw [decide_eq_false h]; rfl) ⟨_, rfl, .inl ⟨rfl, _, SqL.of hl1⟩, _, rfl, l, ws, _, rfl, rfl, hl1, ?_, ⟨_, rfl⟩, Ex.mut e1 hl, _, upd_same, ?_⟩
        · have := flatR_len (ds.take i)
          rw [List.length_take] at this
          have := W.1
          omega
        · rw [tk, flatR_snoc, if_neg h]
          have t := TK.lst (o := .lst (ws ++ [V.ref p])) hl1
          exact (W.keep t).snoc ⟨p, rfl, t _ _ (e1 _ _ hp)⟩
    · rintro σ' H1 ⟨⟨o2, rfl⟩, e1, ws, hl1, W⟩
      rw [lu, List.take_length] at W
      exact ⟨_, rfl, fin l ws H1 e1 hl1 W⟩
end
end N4
set_option maxRecDepth 100000
set_option maxHeartbeats 8000000
namespace N4
open PySem L2 Evl GP HR SC SetM SetH
theorem passN {X : Cx} : Passes (L2N.CX X.prog X.w) X (fun _ _ _ => False) := L2N.passes_call (W := fun _ _ _ _ => False) NX.takes0 fun _ _ _ _ h => h
theorem cutV_from {xs : List V} {k : Nat} (h : k ≤ xs.length) : cutV xs (some (k : Int)) none = xs.drop k := by
  unfold cutV
  rw [HT.sIx_none, HT.sIx_nat, Nat.min_eq_left h]
  exact List.take_of_length_le (by rw [List.length_drop]; exact Nat.le_refl _)
theorem cutV_to {xs : List V} {k : Nat} (h : k ≤ xs.length) : cutV xs none (some (k : Int)) = xs.take k := by
  unfold cutV
  rw [HT.sIx_none, HT.sIx_nat, Nat.min_eq_left h]
  simp
section
variable {K : PySem.W.Frag} {σ : L2.St} {H1 : Hp} {J : It} {G : Hp → Prop} {te : TE} {tt : TT}
theorem lcAt {xs : List V} (w : Walk J xs.length G (YAt xs)) (f : Nat → V) {j : Nat} {vs : List Nat} (hz : xs.length < sizeLine) (hG : ∀ H', Ex H1 H' → G H') (hw : ∀ v, wipe ((wipe σ vs).set j (some v)) vs = wipe σ vs)
    (he : ∀ (i : Nat) (v : V), xs[i]? = some v → ∀ H', Ex H1 H' → Ev te ((wipe σ vs).set j (some v)) H' (f i)) {Qd : Hp → Prop} {D : Addr} (hD : H1 D = none) (k : ∀ H', Ex H1 H' → H' D = some (.lst ((List.range xs.length).map f)) → Qd H') :
    ∃ W : Nat → Nat → Hp → Prop, (∃ m, W 0 m (upd H1 D (.lst []))) ∧ ∀ i m H, W i m H →
      (J.stop i H ∧ Qd H) ∨ (J.go i H ∧ ∃ Nx : Hp → Prop, (∀ H', Nx H' → ∃ m', m' < m ∧ W (i + 1) m' H') ∧ ∀ x H', J.yld i H x H' → gName j x (wipe σ vs) H' fun σ2 H2 => wipe σ2 vs = wipe σ vs ∧ tYes σ2 H2 fun b H3 =>
        if b = true then te σ2 H3 fun y H4 => ∃ acc, H4 D = some (.lst acc) ∧ acc.length < sizeLine ∧ Nx (upd H4 D (.lst (acc ++ [y]))) else Nx H3) := by
  refine lc_it w (fun i H => Ex H1 H ∧ H D = some (.lst ((List.range i).map f))) ⟨Ex.new hD, upd_same⟩ (fun i H _ p => hG H p.1) ?_ (fun H p => k H p.1 p.2)
  rintro i x H H' hi ⟨e, hl⟩ ⟨rfl, hx⟩
  unfold gName tYes
  dsimp only
  refine ⟨hw _, ?_⟩
  rw [if_pos rfl]
  refine he i x hx H' e H' (Ex.refl _) _ fun H4 e4 => ⟨_, e4 D _ hl, by rw [List.length_map, List.length_range]; omega, Ex.mut (e.trans e4) hD, ?_⟩
  rw [upd_same, List.range_succ, List.map_append]
  rfl
end
theorem FnOk.toR {P : Program} {w : World} {K : PySem.W.Frag} {mg : Str → Option Value} {base : Heap} {CX : CXT} {k : Nat} {f : Addr} {fd : FuncData} {ps : List Str} {sp : Sp} (F : FnOk P w K mg base CX k f fd ps sp) (hb : Binds K fd ps []) : FnR P w K mg base CX k f sp := (F.raw hb .nil).imp fun vs H Q E h => by
  rw [List.append_nil]
  exact h
theorem len_1 {us : List V} (h : us.length = 1) : ∃ v0, us = [v0] := by
  match us, h with
  | [v0], _ => exact ⟨v0, rfl⟩
theorem len_2 {us : List V} (h : us.length = 2) : ∃ v0 v1, us = [v0, v1] := by
  match us, h with
  | [v0, v1], _ => exact ⟨v0, v1, rfl⟩
theorem len_3 {us : List V} (h : us.length = 3) : ∃ v0 v1 v2, us = [v0, v1, v2] := by
  match us, h with
  | [v0, v1, v2], _ => exact ⟨v0, v1, v2, rfl⟩
theorem len_4 {us : List V} (h : us.length = 4) : ∃ v0 v1 v2 v3, us = [v0, v1, v2, v3] := by
  match us, h with
  | [v0, v1, v2, v3], _ => exact ⟨v0, v1, v2, v3, rfl⟩
theorem len_5 {us : List V} (h : us.length = 5) : ∃ v0 v1 v2 v3 v4, us = [v0, v1, v2, v3, v4] := by
  match us, h with
  | [v0, v1, v2, v3, v4], _ => exact ⟨v0, v1, v2, v3, v4, rfl⟩
theorem len_6 {us : List V} (h : us.length = 6) : ∃ v0 v1 v2 v3 v4 v5, us = [v0, v1, v2, v3, v4, v5] := by
  match us, h with
  | [v0, v1, v2, v3, v4, v5], _ => exact ⟨v0, v1, v2, v3, v4, v5, rfl⟩
theorem len_7 {us : List V} (h : us.length = 7) : ∃ v0 v1 v2 v3 v4 v5 v6, us = [v0, v1, v2, v3, v4, v5, v6] := by
  match us, h with
  | [v0, v1, v2, v3, v4, v5, v6], _ => exact ⟨v0, v1, v2, v3, v4, v5, v6, rfl⟩
theorem ge_7 {us : List V} (h : 7 ≤ us.length) : ∃ v0 v1 v2 v3 v4 v5 v6 rest, us = v0 :: v1 :: v2 :: v3 :: v4 :: v5 :: v6 :: rest := by
  obtain _ | ⟨v0, us⟩ := us
  · simp at h
  obtain _ | ⟨v1, us⟩ := us
  · simp at h
  obtain _ | ⟨v2, us⟩ := us
  · simp at h
  obtain _ | ⟨v3, us⟩ := us
  · simp at h
  obtain _ | ⟨v4, us⟩ := us
  · simp at h
  obtain _ | ⟨v5, us⟩ := us
  · simp at h
  obtain _ | ⟨v6, us⟩ := us
  · simp at h
  exact ⟨v0, v1, v2, v3, v4, v5, v6, us, rfl⟩
theorem ge_4 {us : List V} (h : 4 ≤ us.length) : ∃ v0 v1 v2 v3 rest, us = v0 :: v1 :: v2 :: v3 :: rest := by
  obtain _ | ⟨v0, us⟩ := us
  · simp at h
  obtain _ | ⟨v1, us⟩ := us
  · simp at h
  obtain _ | ⟨v2, us⟩ := us
  · simp at h
  obtain _ | ⟨v3, us⟩ := us
  · simp at h
  exact ⟨v0, v1, v2, v3, us, rfl⟩
theorem RowsAt.take {H : Hp} {us : List V} {ds : List Row} (A : RowsAt H us ds) (k : Nat) : RowsAt H (us.take k) (ds.take k) := ⟨by rw [List.length_take, List.length_take, A.1], fun j v d h1 h2 => by
  rw [List.getElem?_take] at h1 h2
  split at h1
  · rename_i hj
    rw [if_pos hj] at h2
    exact A.2 j v d h1 h2
  · cases h1⟩
theorem RowsAt.drop {H : Hp} {us : List V} {ds : List Row} (A : RowsAt H us ds) (k : Nat) : RowsAt H (us.drop k) (ds.drop k) := ⟨by rw [List.length_drop, List.length_drop, A.1], fun j v d h1 h2 => by
  rw [List.getElem?_drop] at h1 h2
  exact A.2 _ v d h1 h2⟩
def flatA (acc bs : List Row) : List Row := bs.foldl (fun acc r => if r ∈ acc then acc else acc ++ [r]) acc
theorem flatA_snoc (acc bs : List Row) (b : Row) : flatA acc (bs ++ [b]) = if b ∈ flatA acc bs then flatA acc bs else flatA acc bs ++ [b] := by
  unfold flatA
  rw [List.foldl_append]
  rfl
theorem flatA_mem (acc bs : List Row) : ∀ b, b ∈ bs → b ∈ flatA acc bs := by
  refine snoc_ind (P := fun bs => ∀ b, b ∈ bs → b ∈ flatA acc bs) (fun b h => absurd h List.not_mem_nil) (fun l a ih b h => ?_) bs
  rw [flatA_snoc]
  rcases List.mem_append.mp h with h | h
  · split
    · exact ih b h
    · exact List.mem_append_left _ (ih b h)
  · rw [List.mem_singleton.mp h]
    split
    · assumption
    · exact List.mem_append_right _ (List.mem_singleton.mpr rfl)
theorem flatA_flat (acc bs : List Row) : flatA acc (flatR bs) = flatA acc bs := by
  refine snoc_ind (P := fun bs => flatA acc (flatR bs) = flatA acc bs) rfl (fun l a ih => ?_) bs
  rw [flatR_snoc, flatA_snoc]
  by_cases h : a ∈ flatR l
  · rw [if_pos h, ih, if_pos (flatA_mem acc l a ((flatR_mem l a).mp h))]
  · rw [if_neg h, flatA_snoc, ih]
theorem flatR_app (a b : List Row) : flatR (a ++ b) = flatA (flatR a) b := by
  unfold flatR flatA
  rw [List.foldl_append]
theorem flatR_join (a b : List Row) : flatR (flatR a ++ flatR b) = flatR (a ++ b) := by
  rw [flatR_app, flatA_flat, show flatR (flatR a) = flatR a from flatA_flat [] a, flatR_app]
/-- the names that the rows use -/
def NmOf (ds : List Row) (z : Str) : Prop := ∃ b ∈ ds, z ∈ nm2 b
def spPlain (K : PySem.W.Frag) (C : Addr) (n : Nat) : Sp := fun vs H Q _ => ∃ (r : Addr) (us : List V) (ds : List Row) (pool : List Str), vs = [.ref r] ∧ SqL K H r us ∧ RowsAt H us ds ∧ (∀ b ∈ ds, RowOk b) ∧ ds.length ≤ 7 * n ∧ 1 ≤ n ∧ n ≤ 10 ∧ pool.length ≤ 20 ∧ (∀ b ∈ ds, ∀ z ∈ nm2 b, z ∈ pool) ∧
  ∀ (q : Addr) (ms : List Str) H', Ex H H' → NetAt K C H' q (flatR ds) ms → NetP (flatR ds) ms → (∀ z, z ∈ ms ↔ NmOf ds z) → Q (.ref q) H'
section
variable {P : Program} {w : World} {K : PySem.W.Frag} {mg : Str → Option Value} {base : Heap} {a : Ad} {d : Fd} {fL fN fU fI f0 D0 T0 : Addr} {fK fT fH fA fn : Addr} {dK dT dH dA dn : FuncData}
theorem ok_law_plain (T : TX K mg a) (D : FDS K a d) (R : ER K mg P a fL fN fU fI) (Z : EW K a) (M : CN K mg a.cT f0 D0 T0) (N : NM K a.cT fK fT fH fA fn dK dT dH dA dn) : ∀ n, FnOk P w K mg base CX0 (7 + n) a.a_law_plain d.a_law_plain ["rows"] (spPlain K a.cT n)
  | 0 => by
    refine D.F__law_plain.ok sc_law_plain (fun vs H Q E h => ?_) (fun cdv A outer s H vs Q E hr h => ?_)
    · obtain ⟨r, us, ds, pool, rfl, _⟩ := h
      rfl
    · obtain ⟨r, us, ds, pool, rfl, _, _, _, _, n1, _⟩ := h
      omega
  | n + 1 => by
    have GI := ok_init (P := P) (w := w) (base := base) T D R Z M
    have GA : FnR P w K mg base (L2N.CX P w) 7 fA (spAnd K a) := FnOk.toR (ok_and T D R Z M N) N.BA
    have GP : FnOk P w K mg base CX0 (7 + n) a.a_law_plain d.a_law_plain ["rows"] (spPlain K a.cT n) := ok_law_plain T D R Z M N n
    refine D.F__law_plain.ok sc_law_plain (fun vs H Q E h => ?_) (fun cdv A outer s H vs Q E hr h => ?_)
    · obtain ⟨r, us, ds, pool, rfl, _⟩ := h
      rfl
    obtain ⟨r, us, ds, pool, rfl, hr1, RA, ok, l7, _, n10, p20, sub, fin⟩ := h
    have hrP : Room (7 + n) _ := hr
    have hr6 : Room 6 _ := hrP.mono (by omega)
    have hr9 : Room 7 _ := hrP.mono (by omega)
    refine ⟨_, (pss_cons (ps_if (pt_cmpR op_eq (pe_callB call_len_seq (by rfl) T.b_len (by decide +kernel) (pa_cons (pv 0) pa_nil)) pe_int (nomark _)) (pss_one (ps_ret (KW.pe_mkM0 M.mkr GI hr6 rfl M.gC passN))) pss_nil)
        (pss_cons (ps_if (pt_cmpR op_eq (pe_callB call_len_seq (by rfl) T.b_len (by decide +kernel) (pa_cons (pv 0) pa_nil)) pe_int (nomark _)) (pss_one (ps_ret (KW.pe_mkM M.mkr GI hr6 rfl M.gC passN (pa_cons (pe_ix (ix_listK (K := K)) (pv 0) pe_int (fun _ _ => rfl)) pa_nil)))) pss_nil)
        (pss_cons (ps_if (pt_cmpR op_eq (pe_callB call_len_seq (by rfl) T.b_len (by decide +kernel) (pa_cons (pv 0) pa_nil)) pe_int (nomark _)) (pss_one (ps_ret (KW.pe_mkM M.mkr GI hr6 rfl M.gC passN (pa_cons (pe_ix (ix_listK (K := K)) (pv 0) pe_int (fun _ _ => rfl)) (pa_cons (pe_ix (ix_listK (K := K)) (pv 0) pe_int (fun _ _ => rfl)) pa_nil))))) pss_nil)
        (pss_cons (ps_if (pt_cmpR op_eq (pe_callB call_len_seq (by rfl) T.b_len (by decide +kernel) (pa_cons (pv 0) pa_nil)) pe_int (nomark _)) (pss_one (ps_ret (KW.pe_mkM M.mkr GI hr6 rfl M.gC passN (pa_cons (pe_ix (ix_listK (K := K)) (pv 0) pe_int (fun _ _ => rfl)) (pa_cons (pe_ix (ix_listK (K := K)) (pv 0) pe_int (fun _ _ => rfl)) (pa_cons (pe_ix (ix_listK (K := K)) (pv 0) pe_int (fun _ _ => rfl)) pa_nil)))))) pss_nil)
        (pss_cons (ps_if (pt_cmpR op_eq (pe_callB call_len_seq (by rfl) T.b_len (by decide +kernel) (pa_cons (pv 0) pa_nil)) pe_int (nomark _)) (pss_one (ps_ret (KW.pe_mkM M.mkr GI hr6 rfl M.gC passN (pa_cons (pe_ix (ix_listK (K := K)) (pv 0) pe_int (fun _ _ => rfl)) (pa_cons (pe_ix (ix_listK (K := K)) (pv 0) pe_int (fun _ _ => rfl)) (pa_cons (pe_ix (ix_listK (K := K)) (pv 0) pe_int (fun _ _ => rfl)) (pa_cons (pe_ix (ix_listK (K := K)) (pv 0) pe_int (fun _ _ => rfl)) pa_nil))))))) pss_nil)
        (pss_cons (ps_if (pt_cmpR op_eq (pe_callB call_len_seq (by rfl) T.b_len (by decide +kernel) (pa_cons (pv 0) pa_nil)) pe_int (nomark _)) (pss_one (ps_ret (KW.pe_mkM M.mkr GI hr6 rfl M.gC passN (pa_cons (pe_ix (ix_listK (K := K)) (pv 0) pe_int (fun _ _ => rfl)) (pa_cons (pe_ix (ix_listK (K := K)) (pv 0) pe_int (fun _ _ => rfl)) (pa_cons (pe_ix (ix_listK (K := K)) (pv 0) pe_int (fun _ _ => rfl)) (pa_cons (pe_ix (ix_listK (K := K)) (pv 0) pe_int (fun _ _ => rfl)) (pa_cons (pe_ix (ix_listK (K := K)) (pv 0) pe_int (fun _ _ => rfl)) pa_nil)))))))) pss_nil)
        (pss_cons (ps_if (pt_cmpR op_eq (pe_callB call_len_seq (by rfl) T.b_len (by decide +kernel) (pa_cons (pv 0) pa_nil)) pe_int (nomark _)) (pss_one (ps_ret (KW.pe_mkM M.mkr GI hr6 rfl M.gC passN (pa_cons (pe_ix (ix_listK (K := K)) (pv 0) pe_int (fun _ _ => rfl)) (pa_cons (pe_ix (ix_listK (K := K)) (pv 0) pe_int (fun _ _ => rfl)) (pa_cons (pe_ix (ix_listK (K := K)) (pv 0) pe_int (fun _ _ => rfl)) (pa_cons (pe_ix (ix_listK (K := K)) (pv 0) pe_int (fun _ _ => rfl)) (pa_cons (pe_ix (ix_listK (K := K)) (pv 0) pe_int (fun _ _ => rfl)) (pa_cons (pe_ix (ix_listK (K := K)) (pv 0) pe_int (fun _ _ => rfl)) pa_nil))))))))) pss_nil)
        (pss_cons (ps_set (i := 1) sc_law_plain.nd rfl (Or.inl rfl) (KW.pe_mkM M.mkr GI hr6 rfl M.gC passN (pa_cons (pe_ix (ix_listK (K := K)) (pv 0) pe_int (fun _ _ => rfl)) (pa_cons (pe_ix (ix_listK (K := K)) (pv 0) pe_int (fun _ _ => rfl)) (pa_cons (pe_ix (ix_listK (K := K)) (pv 0) pe_int (fun _ _ => rfl)) (pa_cons (pe_ix (ix_listK (K := K)) (pv 0) pe_int (fun _ _ => rfl)) (pa_cons (pe_ix (ix_listK (K := K)) (pv 0) pe_int (fun _ _ => rfl)) (pa_cons (pe_ix (ix_listK (K := K)) (pv 0) pe_int (fun _ _ => rfl)) (pa_cons (pe_ix (ix_listK (K := K)) (pv 0) pe_int (fun _ _ => rfl)) pa_nil)))))))))
        (pss_cons (ps_if (pt_cmpR op_eq (pe_callB call_len_seq (by rfl) T.b_len (by decide +kernel) (pa_cons (pv 0) pa_nil)) pe_int (nomark _)) (pss_one (ps_ret (pv 1))) pss_nil)
        (pss_one (ps_ret (pe_op (QS.op_own2 (op := .BitAnd) N.sf N.A1.mt.at_ N.A1.mt.fn GA hr9 passN) (pv 1) (pe_call GP hrP rfl T.f__law_plain T.k__law_plain D.B__law_plain .nil pass0 (pa_cons (pe_slice sl_list (pv 0) (po_some pe_int) po_none) pa_nil)))))))))))))), ?_⟩
    have lu := RA.1
    have big : 100000 ≤ sizeLine := by decide
    have ET : MoArg K H (.ref T0) [] := ⟨T0, rfl, .inr (M.emp H)⟩
    have all_made : KW.tMkM a.cT (spInit K a.cT) (fun _ _ _ => False) us (.ref T0) Q H := mk_net (pool := pool) RA ok (by omega) ET (fun z h => absurd h List.not_mem_nil) (Nat.zero_le _) p20 (fun z h => absurd h List.not_mem_nil) sub fun q ms H' hq e NA NP mem => fin q ms H' e NA NP fun z => by
      rw [mem z]
      exact ⟨fun h => h.elim (fun h => absurd h List.not_mem_nil) id, .inr⟩
    refine ⟨_, rfl, r, _, rfl, .inl hr1, rfl, _, rfl, ?_⟩
    by_cases h0 : us.length = 0
    · refine iteT' (by rw [h0]; rfl) ?_
      obtain rfl : us = [] := List.eq_nil_of_length_eq_zero h0
      exact all_made
    refine iteF' (decide_eq_false fun z => h0 (by have := V.int.inj z; omega)) ?_
    refine ⟨_, rfl, r, _, rfl, .inl hr1, rfl, _, rfl, ?_⟩
    by_cases h1 : us.length = 1
    · refine iteT' (by rw [h1]; rfl) ?_
      obtain ⟨v0, rfl⟩ := len_1 h1
      exact ⟨_, rfl, r, _, 0, v0, rfl, rfl, hr1, at_lit (n := 0) rfl rfl, all_made⟩
    refine iteF' (decide_eq_false fun z => h1 (by have := V.int.inj z; omega)) ?_
    refine ⟨_, rfl, r, _, rfl, .inl hr1, rfl, _, rfl, ?_⟩
    by_cases h2 : us.length = 2
    · refine iteT' (by rw [h2]; rfl) ?_
      obtain ⟨v0, v1, rfl⟩ := len_2 h2
      exact ⟨_, rfl, r, _, 0, v0, rfl, rfl, hr1, at_lit (n := 0) rfl rfl, _, rfl, r, _, 1, v1, rfl, rfl, hr1, at_lit (n := 1) rfl rfl, all_made⟩
    refine iteF' (decide_eq_false fun z => h2 (by have := V.int.inj z; omega)) ?_
    refine ⟨_, rfl, r, _, rfl, .inl hr1, rfl, _, rfl, ?_⟩
    by_cases h3 : us.length = 3
    · refine iteT' (by rw [h3]; rfl) ?_
      obtain ⟨v0, v1, v2, rfl⟩ := len_3 h3
      exact ⟨_, rfl, r, _, 0, v0, rfl, rfl, hr1, at_lit (n := 0) rfl rfl, _, rfl, r, _, 1, v1, rfl, rfl, hr1, at_lit (n := 1) rfl rfl, _, rfl, r, _, 2, v2, rfl, rfl, hr1, at_lit (n := 2) rfl rfl, all_made⟩
    refine iteF' (decide_eq_false fun z => h3 (by have := V.int.inj z; omega)) ?_
    refine ⟨_, rfl, r, _, rfl, .inl hr1, rfl, _, rfl, ?_⟩
    by_cases h4 : us.length = 4
    · refine iteT' (by rw [h4]; rfl) ?_
      obtain ⟨v0, v1, v2, v3, rfl⟩ := len_4 h4
      exact ⟨_, rfl, r, _, 0, v0, rfl, rfl, hr1, at_lit (n := 0) rfl rfl, _, rfl, r, _, 1, v1, rfl, rfl, hr1, at_lit (n := 1) rfl rfl, _, rfl, r, _, 2, v2, rfl, rfl, hr1, at_lit (n := 2) rfl rfl, _, rfl, r, _, 3, v3, rfl, rfl, hr1, at_lit (n := 3) rfl rfl, all_made⟩
    refine iteF' (decide_eq_false fun z => h4 (by have := V.int.inj z; omega)) ?_
    refine ⟨_, rfl, r, _, rfl, .inl hr1, rfl, _, rfl, ?_⟩
    by_cases h5 : us.length = 5
    · refine iteT' (by rw [h5]; rfl) ?_
      obtain ⟨v0, v1, v2, v3, v4, rfl⟩ := len_5 h5
      exact ⟨_, rfl, r, _, 0, v0, rfl, rfl, hr1, at_lit (n := 0) rfl rfl, _, rfl, r, _, 1, v1, rfl, rfl, hr1, at_lit (n := 1) rfl rfl, _, rfl, r, _, 2, v2, rfl, rfl, hr1, at_lit (n := 2) rfl rfl, _, rfl, r, _, 3, v3, rfl, rfl, hr1, at_lit (n := 3) rfl rfl, _, rfl, r, _, 4, v4, rfl, rfl, hr1, at_lit (n := 4) rfl rfl, all_made⟩
    refine iteF' (decide_eq_false fun z => h5 (by have := V.int.inj z; omega)) ?_
    refine ⟨_, rfl, r, _, rfl, .inl hr1, rfl, _, rfl, ?_⟩
    by_cases h6 : us.length = 6
    · refine iteT' (by rw [h6]; rfl) ?_
      obtain ⟨v0, v1, v2, v3, v4, v5, rfl⟩ := len_6 h6
      exact ⟨_, rfl, r, _, 0, v0, rfl, rfl, hr1, at_lit (n := 0) rfl rfl, _, rfl, r, _, 1, v1, rfl, rfl, hr1, at_lit (n := 1) rfl rfl, _, rfl, r, _, 2, v2, rfl, rfl, hr1, at_lit (n := 2) rfl rfl, _, rfl, r, _, 3, v3, rfl, rfl, hr1, at_lit (n := 3) rfl rfl, _, rfl, r, _, 4, v4, rfl, rfl, hr1, at_lit (n := 4) rfl rfl, _, rfl, r, _, 5, v5, rfl, rfl, hr1, at_lit (n := 5) rfl rfl, all_made⟩
    refine iteF' (decide_eq_false fun z => h6 (by have := V.int.inj z; omega)) ?_
    obtain ⟨v0, v1, v2, v3, v4, v5, v6, rest, rfl⟩ := ge_7 (us := us) (by omega)
    have R7 : RowsAt H [v0, v1, v2, v3, v4, v5, v6] (ds.take 7) := by have := RA.take 7; simpa using this
    have R8 : RowsAt H rest (ds.drop 7) := by have := RA.drop 7; simpa using this
    have nof : ∀ z, z ∈ ([] : List Str) ∨ (∃ b ∈ ds.take 7, z ∈ nm2 b) ↔ NmOf (ds.take 7) z := fun z => ⟨fun h => h.elim (fun h => absurd h List.not_mem_nil) id, .inr⟩
    refine ⟨_, rfl, r, _, 0, v0, rfl, rfl, hr1, at_lit (n := 0) rfl rfl, _, rfl, r, _, 1, v1, rfl, rfl, hr1, at_lit (n := 1) rfl rfl, _, rfl, r, _, 2, v2, rfl, rfl, hr1, at_lit (n := 2) rfl rfl, _, rfl, r, _, 3, v3, rfl, rfl, hr1, at_lit (n := 3) rfl rfl, _, rfl, r, _, 4, v4, rfl, rfl, hr1, at_lit (n := 4) rfl rfl, _, rfl, r, _, 5, v5, rfl, rfl, hr1, at_lit (n := 5) rfl rfl, _, rfl, r, _, 6, v6, rfl, rfl, hr1, at_lit (n := 6) rfl rfl, ?_⟩
    dsimp only [tNil]
    refine mk_net (pool := pool) R7 (fun b hb => ok b (List.mem_of_mem_take hb)) (by rw [List.length_take]; omega) ET (fun z h => absurd h List.not_mem_nil) (Nat.zero_le _) p20 (fun z h => absurd h List.not_mem_nil) (fun b hb => sub b (List.mem_of_mem_take hb)) fun q ms H1 hq e1 NA NP mem => ?_
    have hr2 := ex_l e1 hr1
    refine ⟨_, rfl, r, _, rfl, .inl hr2, rfl, _, rfl, ?_⟩
    by_cases h7 : (v0 :: v1 :: v2 :: v3 :: v4 :: v5 :: v6 :: rest).length = 7
    · refine iteT' (by rw [h7]; rfl) ⟨_, rfl, ?_⟩
      have tk : ds.take 7 = ds := List.take_of_length_le (by omega)
      rw [tk] at NA NP mem nof
      exact fin q ms H1 e1 NA NP fun z => by rw [mem z]; exact nof z
    refine iteF' (decide_eq_false fun z => h7 (by have := V.int.inj z; omega)) ?_
    refine ⟨_, rfl, _, rfl, 7, rfl, r, _, rfl, hr2, fun p hp => ?_⟩
    have e2 := Ex.new (o := .lst (cutV (v0 :: v1 :: v2 :: v3 :: v4 :: v5 :: v6 :: rest) (some 7) none)) hp
    have hc : cutV (v0 :: v1 :: v2 :: v3 :: v4 :: v5 :: v6 :: rest) (some 7) none = rest := cutV_from (k := 7) (by show 7 ≤ _; simp)
    have hp2 : upd H1 p (.lst (cutV (v0 :: v1 :: v2 :: v3 :: v4 :: v5 :: v6 :: rest) (some 7) none)) p = some (.lst rest) := by rw [upd_same, hc]
    have n1 : 1 ≤ n := by
      have : (v0 :: v1 :: v2 :: v3 :: v4 :: v5 :: v6 :: rest).length = rest.length + 7 := rfl
      omega
    refine ⟨p, rest, ds.drop 7, pool, rfl, SqL.of hp2, R8.ex (e1.trans e2), fun b hb => ok b (List.mem_of_mem_drop hb), by rw [List.length_drop]; omega, n1, by omega, p20, fun b hb => sub b (List.mem_of_mem_drop hb), fun q2 ms2 H3 e3 NB PB mem2 => ?_⟩
    have e4 := e2.trans e3
    have NA4 := NA.ex e4
    obtain ⟨dx1, _, _, _, _, _, _, h1, _⟩ := id NA4
    obtain ⟨dx2, _, _, _, _, _, _, h2, _⟩ := id NB
    have inp : ∀ k z, (∃ b ∈ ds.take k, z ∈ nm2 b) ∨ (∃ b ∈ ds.drop k, z ∈ nm2 b) → z ∈ pool := fun k z h => by
      rcases h with ⟨b, hb, h⟩ | ⟨b, hb, h⟩
      · exact sub b (List.mem_of_mem_take hb) z h
      · exact sub b (List.mem_of_mem_drop hb) z h
    refine ⟨q, q2, dx1, dx2, _, _, rfl, rfl, h1, h2, q, q2, flatR (ds.take 7), flatR (ds.drop 7), ms, ms2, pool, rfl, NA4, NP, NB, PB, ?_, p20, fun z hz => inp 7 z (.inl ((nof z).mp ((mem z).mp hz))), fun z hz => inp 7 z (.inr ((mem2 z).mp hz)), fun x ks H5 e5 NC PC mem3 => ?_⟩
    · have g1 := flatR_len (ds.take 7)
      have g2 := flatR_len (ds.drop 7)
      rw [List.length_take] at g1
      rw [List.length_drop] at g2
      omega
    have ej : flatR (flatR (ds.take 7) ++ flatR (ds.drop 7)) = flatR ds := by rw [flatR_join, List.take_append_drop]
    rw [ej] at NC PC
    refine fin x ks H5 ((e1.trans e4).trans e5) NC PC fun z => ?_
    · rw [mem3 z, mem z, nof z, mem2 z]
      constructor
      · rintro (⟨b, hb, h⟩ | ⟨b, hb, h⟩)
        · exact ⟨b, List.mem_of_mem_take hb, h⟩
        · exact ⟨b, List.mem_of_mem_drop hb, h⟩
      · rintro ⟨b, hb, h⟩
        rw [← List.take_append_drop 7 ds] at hb
        rcases List.mem_append.mp hb with hb | hb
        · exact .inl ⟨b, hb, h⟩
        · exact .inr ⟨b, hb, h⟩
end
end N4
set_option maxRecDepth 100000
set_option maxHeartbeats 8000000
namespace N4
open PySem L2 Evl GP HR SC SetM SetH
def spNet (K : PySem.W.Frag) (C : Addr) : Sp := fun vs H Q _ => ∃ (r : Addr) (us : List V) (ds : List Row) (mv : V) (es pool : List Str), vs = [.ref r, mv] ∧ SqL K H r us ∧ RowsAt H us ds ∧ (∀ b ∈ ds, RowOk b) ∧ ds.length ≤ 28 ∧ MoArg K H mv es ∧ (∀ z ∈ es, isNameS z = true) ∧ es.length ≤ 20 ∧ pool.length ≤ 20 ∧ (∀ z ∈ es, z ∈ pool) ∧ (∀ b ∈ ds, ∀ z ∈ nm2 b, z ∈ pool) ∧
  ∀ (q : Addr) (ms : List Str) H', Ex H H' → NetAt K C H' q (flatR ds) ms → NetP (flatR ds) ms → (∀ z, z ∈ ms ↔ z ∈ es ∨ NmOf ds z) → Q (.ref q) H'
section
variable {P : Program} {w : World} {K : PySem.W.Frag} {mg : Str → Option Value} {base : Heap} {a : Ad} {d : Fd} {fL fN fU fI f0 D0 T0 : Addr} {fK fT fH fA fn : Addr} {dK dT dH dA dn : FuncData}
theorem truth_mo {K : PySem.W.Frag} {H : Hp} {mv : V} {es : List Str} (h : MoArg K H mv es) : TruV K mv H (!es.isEmpty) := by
  obtain ⟨p, rfl, h | h⟩ := h
  · exact .inl ⟨_, h, by cases es <;> rfl⟩
  · exact .inr (.inl ⟨_, h, by cases es <;> rfl⟩)
theorem ok_law_net (T : TX K mg a) (D : FDS K a d) (R : ER K mg P a fL fN fU fI) (Z : EW K a) (M : CN K mg a.cT f0 D0 T0) (N : NM K a.cT fK fT fH fA fn dK dT dH dA dn) : FnOk P w K mg base CX0 12 a.a_law_net d.a_law_net ["rows", "extra"] (spNet K a.cT) := by
  have GI := ok_init (P := P) (w := w) (base := base) T D R Z M
  have GA : FnR P w K mg base (L2N.CX P w) 7 fA (spAnd K a) := FnOk.toR (ok_and T D R Z M N) N.BA
  have GP : FnOk P w K mg base CX0 11 a.a_law_plain d.a_law_plain ["rows"] (spPlain K a.cT 4) := ok_law_plain T D R Z M N 4
  have G__law_plain := GP
  refine D.F__law_net.ok sc_law_net (fun vs H Q E h => ?_) (fun cdv A outer s H vs Q E hr h => ?_)
  · obtain ⟨r, us, ds, mv, es, pool, rfl, _⟩ := h
    rfl
  obtain ⟨r, us, ds, mv, es, pool, rfl, hr1, RA, ok, l28, MA, nmE, l20, p20, subE, sub, fin⟩ := h
  have hr6 : Room 6 _ := hr.mono (by decide)
  have hr9 : Room 7 _ := hr.mono (by decide)
  have hrP : Room 11 _ := hr.mono (by decide)
  refine ⟨_, (pss_cons (ps_if (pt_not (pt_truth (pv 1) (by intro _; rfl))) (pss_one (ps_ret (pe_call G__law_plain (hr.mono (by decide)) rfl T.f__law_plain T.k__law_plain D.B__law_plain .nil pass0 (pa_cons (pv 0) pa_nil)))) pss_nil)
        (pss_cons (ps_if (pt_cmpR op_eq (pe_callB call_len_seq (by rfl) T.b_len (by decide +kernel) (pa_cons (pv 0) pa_nil)) pe_int (nomark _)) (pss_one (ps_ret (KW.pe_mkMK0 M.mkr GI hr6 rfl M.gC passN (pv 1)))) pss_nil)
        (pss_cons (ps_if (pt_cmpR op_eq (pe_callB call_len_seq (by rfl) T.b_len (by decide +kernel) (pa_cons (pv 0) pa_nil)) pe_int (nomark _)) (pss_one (ps_ret (KW.pe_mkMK M.mkr GI hr6 rfl M.gC passN (pa_cons (pe_ix (ix_listK (K := K)) (pv 0) pe_int (fun _ _ => rfl)) pa_nil) (pv 1)))) pss_nil)
        (pss_cons (ps_if (pt_cmpR op_eq (pe_callB call_len_seq (by rfl) T.b_len (by decide +kernel) (pa_cons (pv 0) pa_nil)) pe_int (nomark _)) (pss_one (ps_ret (KW.pe_mkMK M.mkr GI hr6 rfl M.gC passN (pa_cons (pe_ix (ix_listK (K := K)) (pv 0) pe_int (fun _ _ => rfl)) (pa_cons (pe_ix (ix_listK (K := K)) (pv 0) pe_int (fun _ _ => rfl)) pa_nil)) (pv 1)))) pss_nil)
        (pss_cons (ps_if (pt_cmpR op_eq (pe_callB call_len_seq (by rfl) T.b_len (by decide +kernel) (pa_cons (pv 0) pa_nil)) pe_int (nomark _)) (pss_one (ps_ret (KW.pe_mkMK M.mkr GI hr6 rfl M.gC passN (pa_cons (pe_ix (ix_listK (K := K)) (pv 0) pe_int (fun _ _ => rfl)) (pa_cons (pe_ix (ix_listK (K := K)) (pv 0) pe_int (fun _ _ => rfl)) (pa_cons (pe_ix (ix_listK (K := K)) (pv 0) pe_int (fun _ _ => rfl)) pa_nil))) (pv 1)))) pss_nil)
        (pss_cons (ps_set (i := 2) sc_law_net.nd rfl (Or.inl rfl) (KW.pe_mkMK M.mkr GI hr6 rfl M.gC passN (pa_cons (pe_ix (ix_listK (K := K)) (pv 0) pe_int (fun _ _ => rfl)) (pa_cons (pe_ix (ix_listK (K := K)) (pv 0) pe_int (fun _ _ => rfl)) (pa_cons (pe_ix (ix_listK (K := K)) (pv 0) pe_int (fun _ _ => rfl)) (pa_cons (pe_ix (ix_listK (K := K)) (pv 0) pe_int (fun _ _ => rfl)) pa_nil)))) (pv 1)))
        (pss_cons (ps_if (pt_cmpR op_eq (pe_callB call_len_seq (by rfl) T.b_len (by decide +kernel) (pa_cons (pv 0) pa_nil)) pe_int (nomark _)) (pss_one (ps_ret (pv 2))) pss_nil)
        (pss_one (ps_ret (pe_op (QS.op_own2 (op := .BitAnd) N.sf N.A1.mt.at_ N.A1.mt.fn GA hr9 passN) (pv 2) (pe_call GP hrP rfl T.f__law_plain T.k__law_plain D.B__law_plain .nil pass0 (pa_cons (pe_slice sl_list (pv 0) (po_some pe_int) po_none) pa_nil)))))))))))), ?_⟩
  have lu := RA.1
  have big : 100000 ≤ sizeLine := by decide
  refine ⟨_, rfl, !es.isEmpty, truth_mo MA, ?_⟩
  by_cases h0 : es = []
  · subst h0
    refine iteT' rfl ⟨_, rfl, r, us, ds, pool, rfl, hr1, RA, ok, l28, by decide, by decide, p20, sub, fun q ms H' e NA NP mem => fin q ms H' e NA NP fun z => ?_⟩
    rw [mem z]
    exact ⟨.inr, fun h => h.elim (fun h => absurd h List.not_mem_nil) id⟩
  · refine iteF' (by cases es with | nil => exact absurd rfl h0 | cons _ _ => rfl) ?_
    have all_made : KW.tMkM a.cT (spInit K a.cT) (fun _ _ _ => False) us mv Q H := mk_net (pool := pool) RA ok (by omega) MA nmE (by omega) p20 subE sub fun q ms H' hq e NA NP mem => fin q ms H' e NA NP mem
    refine ⟨_, rfl, r, _, rfl, .inl hr1, rfl, _, rfl, ?_⟩
    by_cases h0 : us.length = 0
    · refine iteT' (by rw [h0]; rfl) ?_
      obtain rfl : us = [] := List.eq_nil_of_length_eq_zero h0
      exact ⟨mv, rfl, all_made⟩
    refine iteF' (decide_eq_false fun z => h0 (by have := V.int.inj z; omega)) ?_
    refine ⟨_, rfl, r, _, rfl, .inl hr1, rfl, _, rfl, ?_⟩
    by_cases h1 : us.length = 1
    · refine iteT' (by rw [h1]; rfl) ?_
      obtain ⟨v0, rfl⟩ := len_1 h1
      exact ⟨_, rfl, r, _, 0, v0, rfl, rfl, hr1, at_lit (n := 0) rfl rfl, mv, rfl, all_made⟩
    refine iteF' (decide_eq_false fun z => h1 (by have := V.int.inj z; omega)) ?_
    refine ⟨_, rfl, r, _, rfl, .inl hr1, rfl, _, rfl, ?_⟩
    by_cases h2 : us.length = 2
    · refine iteT' (by rw [h2]; rfl) ?_
      obtain ⟨v0, v1, rfl⟩ := len_2 h2
      exact ⟨_, rfl, r, _, 0, v0, rfl, rfl, hr1, at_lit (n := 0) rfl rfl, _, rfl, r, _, 1, v1, rfl, rfl, hr1, at_lit (n := 1) rfl rfl, mv, rfl, all_made⟩
    refine iteF' (decide_eq_false fun z => h2 (by have := V.int.inj z; omega)) ?_
    refine ⟨_, rfl, r, _, rfl, .inl hr1, rfl, _, rfl, ?_⟩
    by_cases h3 : us.length = 3
    · refine iteT' (by rw [h3]; rfl) ?_
      obtain ⟨v0, v1, v2, rfl⟩ := len_3 h3
      exact ⟨_, rfl, r, _, 0, v0, rfl, rfl, hr1, at_lit (n := 0) rfl rfl, _, rfl, r, _, 1, v1, rfl, rfl, hr1, at_lit (n := 1) rfl rfl, _, rfl, r, _, 2, v2, rfl, rfl, hr1, at_lit (n := 2) rfl rfl, mv, rfl, all_made⟩
    refine iteF' (decide_eq_false fun z => h3 (by have := V.int.inj z; omega)) ?_
    obtain ⟨v0, v1, v2, v3, rest, rfl⟩ := ge_4 (us := us) (by omega)
    have R4 : RowsAt H [v0, v1, v2, v3] (ds.take 4) := by have := RA.take 4; simpa using this
    have R8 : RowsAt H rest (ds.drop 4) := by have := RA.drop 4; simpa using this
    have nof : ∀ z, z ∈ es ∨ (∃ b ∈ ds.take 4, z ∈ nm2 b) ↔ z ∈ es ∨ NmOf (ds.take 4) z := fun z => Iff.rfl
    refine ⟨_, rfl, r, _, 0, v0, rfl, rfl, hr1, at_lit (n := 0) rfl rfl, _, rfl, r, _, 1, v1, rfl, rfl, hr1, at_lit (n := 1) rfl rfl, _, rfl, r, _, 2, v2, rfl, rfl, hr1, at_lit (n := 2) rfl rfl, _, rfl, r, _, 3, v3, rfl, rfl, hr1, at_lit (n := 3) rfl rfl, ?_⟩
    dsimp only [tNil]
    refine ⟨mv, rfl, ?_⟩
    refine mk_net (pool := pool) R4 (fun b hb => ok b (List.mem_of_mem_take hb)) (by rw [List.length_take]; omega) MA nmE (by omega) p20 subE (fun b hb => sub b (List.mem_of_mem_take hb)) fun q ms H1 hq e1 NA NP mem => ?_
    have hr2 := ex_l e1 hr1
    refine ⟨_, rfl, r, _, rfl, .inl hr2, rfl, _, rfl, ?_⟩
    by_cases h4 : (v0 :: v1 :: v2 :: v3 :: rest).length = 4
    · refine iteT' (by rw [h4]; rfl) ⟨_, rfl, ?_⟩
      have tk : ds.take 4 = ds := List.take_of_length_le (by omega)
      rw [tk] at NA NP mem
      exact fin q ms H1 e1 NA NP mem
    refine iteF' (decide_eq_false fun z => h4 (by have := V.int.inj z; omega)) ?_
    refine ⟨_, rfl, _, rfl, 4, rfl, r, _, rfl, hr2, fun p hp => ?_⟩
    have e2 := Ex.new (o := .lst (cutV (v0 :: v1 :: v2 :: v3 :: rest) (some 4) none)) hp
    have hc : cutV (v0 :: v1 :: v2 :: v3 :: rest) (some 4) none = rest := cutV_from (k := 4) (by show 4 ≤ _; simp)
    have hp2 : upd H1 p (.lst (cutV (v0 :: v1 :: v2 :: v3 :: rest) (some 4) none)) p = some (.lst rest) := by rw [upd_same, hc]
    refine ⟨p, rest, ds.drop 4, pool, rfl, SqL.of hp2, R8.ex (e1.trans e2), fun b hb => ok b (List.mem_of_mem_drop hb), by rw [List.length_drop]; omega, by decide, by decide, p20, fun b hb => sub b (List.mem_of_mem_drop hb), fun q2 ms2 H3 e3 NB PB mem2 => ?_⟩
    have e4 := e2.trans e3
    have NA4 := NA.ex e4
    obtain ⟨dx1, _, _, _, _, _, _, h1, _⟩ := id NA4
    obtain ⟨dx2, _, _, _, _, _, _, h2, _⟩ := id NB
    refine ⟨q, q2, dx1, dx2, _, _, rfl, rfl, h1, h2, q, q2, flatR (ds.take 4), flatR (ds.drop 4), ms, ms2, pool, rfl, NA4, NP, NB, PB, ?_, p20, fun z hz => ?_, fun z hz => ?_, fun x ks H5 e5 NC PC mem3 => ?_⟩
    · have g1 := flatR_len (ds.take 4)
      have g2 := flatR_len (ds.drop 4)
      rw [List.length_take] at g1
      rw [List.length_drop] at g2
      omega
    · rcases (mem z).mp hz with h | ⟨b, hb, h⟩
      · exact subE z h
      · exact sub b (List.mem_of_mem_take hb) z h
    · obtain ⟨b, hb, h⟩ := (mem2 z).mp hz
      exact sub b (List.mem_of_mem_drop hb) z h
    have ej : flatR (flatR (ds.take 4) ++ flatR (ds.drop 4)) = flatR ds := by rw [flatR_join, List.take_append_drop]
    rw [ej] at NC PC
    refine fin x ks H5 ((e1.trans e4).trans e5) NC PC fun z => ?_
    rw [mem3 z, mem z, mem2 z]
    constructor
    · rintro ((h | ⟨b, hb, h⟩) | ⟨b, hb, h⟩)
      · exact .inl h
      · exact .inr ⟨b, List.mem_of_mem_take hb, h⟩
      · exact .inr ⟨b, List.mem_of_mem_drop hb, h⟩
    · rintro (h | ⟨b, hb, h⟩)
      · exact .inl (.inl h)
      · rw [← List.take_append_drop 4 ds] at hb
        rcases List.mem_append.mp hb with hb | hb
        · exact .inl (.inr ⟨b, hb, h⟩)
        · exact .inr ⟨b, hb, h⟩
end
end N4
set_option maxRecDepth 100000
set_option maxHeartbeats 8000000
namespace N4
open PySem L2 Evl GP HR SC SetM SetH
theorem range_map (ds : List Row) (f : Row → V) : ((List.range ds.length).map fun i => f (ds.getD i ("", "", 0))) = ds.map f := by
  apply List.ext_getElem?
  intro i
  rw [List.getElem?_map, List.getElem?_map]
  by_cases h : i < ds.length
  · simp [h]
  · simp [h]
theorem getD_at {ds : List Row} {i : Nat} {r : Row} (h : ds[i]? = some r) : ds.getD i ("", "", 0) = r := by rw [List.getD_eq_getElem?_getD, h]; rfl
def spShaped (K : PySem.W.Frag) (C : Addr) : Sp := fun vs H Q _ => ∃ (q r l : Addr) (us : List V) (ds : List Row) (ks : List Str), vs = [.ref q, .ref r, .ref l] ∧ NetAt K C H q (flatR ds) ks ∧ NetP (flatR ds) ks ∧ SqL K H r us ∧ RowsAt H us ds ∧ (∀ b ∈ ds, RowOk b) ∧ ds.length ≤ 1000 ∧ SqL K H l (ks.map V.str) ∧ ∀ H', Ex H H' → Q (.bl true) H'
def spGoals : Sp := fun vs H Q _ => ∃ (b l : Addr) (n : Nat) (ks : List Str), vs = [.ref b, .ref l] ∧ Bx b n H ∧ n + 2 ≤ 1000000 ∧ l ≠ b ∧ H l = some (.lst (ks.map V.str)) ∧ ks.length ≤ 20 ∧
  ∀ (g : Addr) (gs : List Str) H', H g = none → H' g = some (.lst (gs.map V.str)) → (∀ z ∈ gs, z ∈ ks) → gs.length ≤ 20 → Kp b H H' → Bx b (n + 2) H' → Q (.ref g) H'
theorem names_eqv : ∀ ks : List Str, PyData.eqvAll (ks.map .str) (ks.map .str) = true
  | [] => by simp [PyData.eqvAll]
  | k :: ks => by simp [PyData.eqvAll, PyData.eqv, names_eqv ks]
theorem names_dp {K : PySem.W.Frag} {H : Hp} : ∀ ks : List Str, DpAll K H (ks.map V.str) (ks.map .str)
  | [] => .nil
  | k :: ks => .cons (.str k) (names_dp ks)
section
variable {P : Program} {w : World} {K : PySem.W.Frag} {mg : Str → Option Value} {base : Heap} {a : Ad} {d : Fd} {fL fN fU fI f0 D0 T0 : Addr} {fK fT fH fA fn : Addr} {dK dT dH dA dn : FuncData}
theorem ok_law_known (T : TX K mg a) (D : FDS K a d) : FnOk P w K mg base CX0 1 a.a_law_known d.a_law_known ["rows", "extra"] (spKnown K) := by
  refine D.F__law_known.ok sc_law_known (fun vs H Q E h => ?_) (fun cdv A outer s H vs Q E hr h => ?_)
  · obtain ⟨r, us, ds, v, es, pool, rfl, _⟩ := h
    rfl
  · obtain ⟨r, us, ds, v, es, pool, rfl, hr1, RA, l40, MA, le, p20, subE, sub, fin⟩ := h
    refine ⟨_, (pss_cons (ps_set (i := 2) sc_law_known.nd rfl (Or.inl rfl) (pe_lst pa_nil))
        (pss_cons (ps_for PassesOwn.never rfl (pi_list (pe_op op_cat (pe_op op_cat (pe_lc (own := [("row", 4)]) (g := gName 4) (tt := tYes) rfl sc_law_known.nd (pi_list (pv 0)) (blkOk_by (N := ["rows", "extra", "found", "name", "row"]) (sc := defScope s_law_known) (by decide +kernel)) (fun _ _ _ _ _ => (pg_name (i := 4) sc_law_known.nd rfl (Or.inl rfl))) (fun _ _ _ _ _ => pts_nil) (fun _ _ _ _ _ => (pe_ix (ix_tupK (K := K)) (pv 4) pe_int (fun _ _ => rfl)))) (pe_lc (own := [("row", 4)]) (g := gName 4) (tt := tYes) rfl sc_law_known.nd (pi_list (pv 0)) (blkOk_by (N := ["rows", "extra", "found", "name", "row"]) (sc := defScope s_law_known) (by decide +kernel)) (fun _ _ _ _ _ => (pg_name (i := 4) sc_law_known.nd rfl (Or.inl rfl))) (fun _ _ _ _ _ => pts_nil) (fun _ _ _ _ _ => (pe_ix (ix_tupK (K := K)) (pv 4) pe_int (fun _ _ => rfl))))) (pe_callTy call_list_of (by rfl) T.b_list (by decide +kernel) (pa_cons (pv 1) pa_nil)))) (pg_name (i := 3) sc_law_known.nd rfl (Or.inl rfl)) (pss_one (ps_if (pt_cmpR op_notIn_seq (pv 3) (pv 2) rfl) (pss_one (ps_expr (pe_bm PySem.F.plainAttrs_list PySem.F.slot_list_append PySem.F.type_list_append mt_append (pv 2) (pa_cons (pv 3) pa_nil)))) pss_nil)))
        (pss_one (ps_ret (pe_callB cr_sortedS (by rfl) T.b_sorted (by decide +kernel) (pa_cons (pv 2) pa_nil)))))), ?_⟩
    have big : 100000 ≤ sizeLine := by decide
    have lu := RA.1
    refine ⟨Nat.zero_le _, fun l hl => ?_⟩
    have e1 := Ex.new (o := .lst []) hl
    have hl1 : upd H l (.lst []) l = some (.lst []) := upd_same
    generalize upd H l (.lst []) = H1 at *
    refine ⟨_, rfl, r, rfl, ⟨us, ex_l e1 hr1⟩, fun F hF => lcAt (H1 := H1) (xs := us) walk_list (fun i => .str (ds.getD i ("", "", 0)).1) (by omega) (fun H' e => ex_l (e1.trans e) hr1) (fun _ => rfl) ?_ hF ?_⟩
    · intro i v hv H' e H2 e2 Q' q'
      obtain ⟨b, p, hb, rfl, hp⟩ := RA.get hv
      have g := q' H2 (Ex.refl _)
      rw [getD_at hb] at g
      exact ⟨_, rfl, p, _, 1, _, rfl, rfl, SqT.of (((e1.trans e).trans e2) _ _ hp), at_lit (n := 1) rfl rfl, g⟩
    intro H2 e2 hF2
    rw [lu, range_map ds fun r => V.str r.1] at hF2
    have e12 := e1.trans e2
    refine ⟨_, rfl, r, rfl, ⟨us, ex_l e12 hr1⟩, fun G hG => lcAt (H1 := H2) (xs := us) walk_list (fun i => .str (ds.getD i ("", "", 0)).2.1) (by omega) (fun H' e => ex_l (e12.trans e) hr1) (fun _ => rfl) ?_ hG ?_⟩
    · intro i v hv H' e H3 e3 Q' q'
      obtain ⟨b, p, hb, rfl, hp⟩ := RA.get hv
      have g := q' H3 (Ex.refl _)
      rw [getD_at hb] at g
      exact ⟨_, rfl, p, _, 2, _, rfl, rfl, SqT.of (((e12.trans e).trans e3) _ _ hp), at_lit (n := 2) rfl rfl, g⟩
    intro H3 e3 hG3
    rw [lu, range_map ds fun r => V.str r.2.1] at hG3
    refine ⟨F, G, _, _, rfl, rfl, e3 _ _ hF2, hG3, by rw [List.length_map, List.length_map]; omega, fun p hp => ?_⟩
    have e4 := Ex.new (o := .lst (ds.map (fun r => V.str r.1) ++ ds.map (fun r => V.str r.2.1))) hp
    have e14 := (e12.trans e3).trans e4
    obtain ⟨pm, rfl, hpm⟩ := id MA
    refine ⟨_, rfl, pm, _, rfl, hpm.imp (ex_l e14) (ex_t e14), fun p2 hp2 => ?_⟩
    have e5 := Ex.new (o := .lst (es.map V.str)) hp2
    refine ⟨p, p2, _, _, rfl, rfl, e5 _ _ upd_same, upd_same, ?_, fun p3 hp3 => ?_⟩
    · rw [List.length_append, List.length_map, List.length_map, List.length_map]
      omega
    have hl6 := (((e2.trans e3).trans e4).trans (e5.trans (Ex.new (o := .lst (ds.map (fun r => V.str r.1) ++ ds.map (fun r => V.str r.2.1) ++ es.map V.str)) hp3))) _ _ hl1
    have e6 := e14.trans (e5.trans (Ex.new (o := .lst (ds.map (fun r => V.str r.1) ++ ds.map (fun r => V.str r.2.1) ++ es.map V.str)) hp3))
    obtain ⟨L, eL⟩ : ∃ L : List Str, L = ds.map (·.1) ++ ds.map (·.2.1) ++ es := ⟨_, rfl⟩
    have hL : ds.map (fun r => V.str r.1) ++ ds.map (fun r => V.str r.2.1) ++ es.map V.str = L.map V.str := by rw [eL, List.map_append, List.map_append, List.map_map, List.map_map]; rfl
    rw [hL] at e6 hl6 ⊢
    have hp6 : ∀ {Hx : Hp}, upd Hx p3 (.lst (L.map V.str)) p3 = some (.lst (L.map V.str)) := upd_same
    have hp7 := hp6 (Hx := upd (upd H3 p (.lst (ds.map (fun r => V.str r.1) ++ ds.map (fun r => V.str r.2.1)))) p2 (.lst (es.map V.str)))
    generalize upd (upd (upd H3 p (.lst (ds.map (fun r => V.str r.1) ++ ds.map (fun r => V.str r.2.1)))) p2 (.lst (es.map V.str))) p3 (.lst (L.map V.str)) = H6 at *
    have memL : ∀ z, z ∈ L ↔ z ∈ es ∨ ∃ b ∈ ds, z ∈ nm2 b := fun z => by
      rw [eL]
      simp only [List.mem_append, List.mem_map, nm2, List.mem_cons, List.not_mem_nil, or_false]
      constructor
      · rintro ((⟨b, hb, rfl⟩ | ⟨b, hb, rfl⟩) | h)
        · exact .inr ⟨b, hb, .inl rfl⟩
        · exact .inr ⟨b, hb, .inr rfl⟩
        · exact .inl h
      · rintro (h | ⟨b, hb, rfl | rfl⟩)
        · exact .inr h
        · exact .inl (.inl ⟨b, hb, rfl⟩)
        · exact .inl (.inr ⟨b, hb, rfl⟩)
    have nl : p3 ≠ l := fun z => by
      rw [z] at hp3
      have := (e5 _ _ ((e4) _ _ (e3 _ _ (e2 _ _ hl1))))
      rw [hp3] at this
      cases this
    refine ⟨p3, rfl, ⟨_, SqL.of hp7⟩, for_it (walk_list (xs := L.map V.str)) (fun i σ' H7 => (∃ o3 o4, σ' = [some (.ref r), some (.ref pm), some (.ref l), o3, o4]) ∧ Ex H H7 ∧ H7 p3 = some (.lst (L.map V.str)) ∧ ∃ ks, H7 l = some (.lst (ks.map V.str)) ∧ ks.Nodup ∧ ∀ z, z ∈ ks ↔ z ∈ L.take i) ⟨⟨none, none, rfl⟩, e6, hp7, [], hl6, List.nodup_nil, fun z => by simp⟩ (fun i σ' H7 _ h => SqL.of h.2.2.1) ?_ ?_⟩
    · rintro i v σ' H7 H7' hi ⟨⟨o3, o4, rfl⟩, e7, hp7, ks, hk, nd, mk⟩ ⟨rfl, hv⟩
      rw [List.getElem?_map] at hv
      obtain ⟨z, hz, rfl⟩ := Option.map_eq_some_iff.mp hv
      have tk : L.take (i + 1) = L.take i ++ [z] := by rw [List.take_add_one, hz]; rfl
      refine ⟨_, rfl, _, rfl, l, _, rfl, .inl (SqL.of hk), rfl, flat_strs ks, _, rfl, ?_⟩
      rw [show (if true = true then !inV (.str z) (ks.map V.str) else inV (.str z) (ks.map V.str)) = !decide (z ∈ ks) from congrArg (!·) (inV_strs z ks)]
      by_cases h : z ∈ ks
      · refine iteF' (by rw [decide_eq_true h]; rfl) ⟨⟨_, _, rfl⟩, e7, hp7, ks, hk, nd, fun y => ?_⟩
        rw [tk, List.mem_append, List.mem_singleton, mk y]
        exact ⟨.inl, fun h' => h'.elim id fun e => e ▸ (mk z).mp h⟩
      · have kl : ks.length ≤ 20 := Nat.le_trans (sub_len nd fun y hy => by
          rcases (memL y).mp (List.mem_of_mem_take ((mk y).mp hy)) with h | ⟨b, hb, h⟩
          · exact subE y h
          · exact sub b hb y h) p20
        refine iteT' (by rw [decide_eq_false h]; rfl) ⟨_, rfl, .inl ⟨rfl, _, SqL.of hk⟩, _, rfl, l, _, _, rfl, rfl, hk, by rw [List.length_map]; omega, ⟨_, _, rfl⟩, Ex.mut e7 hl, by rw [upd_ne nl]; exact hp7, ks ++ [z], by rw [upd_same, List.map_append]; rfl, ?_, fun y => ?_⟩
        · exact List.nodup_append.mpr ⟨nd, by simp, fun x hx y hy e => h (by rw [List.mem_singleton.mp hy] at e; rwa [← e])⟩
        · rw [tk, List.mem_append, List.mem_append, mk y]
    · rintro σ' H7 ⟨⟨o3, o4, rfl⟩, e7, hp7, ks, hk, nd, mk⟩
      rw [List.length_map, List.take_length] at mk
      have kl : ks.length ≤ 20 := Nat.le_trans (sub_len nd fun y hy => by
        rcases (memL y).mp ((mk y).mp hy) with h | ⟨b, hb, h⟩
        · exact subE y h
        · exact sub b hb y h) p20
      exact ⟨_, rfl, l, ks, rfl, SqL.of hk, by omega, fun ys p pm2 so hp => fin p ys _ (e7.trans (Ex.new hp)) upd_same (pm2.nodup_iff.mpr nd) so fun z => by rw [pm2.mem_iff, mk z, memL z]⟩
theorem ok_law_shaped (T : TX K mg a) (D : FDS K a d) (M : CN K mg a.cT f0 D0 T0) (N : NM K a.cT fK fT fH fA fn dK dT dH dA dn) : FnOk P w K mg base CX0 3 a.a_law_shaped d.a_law_shaped ["net", "rows", "known"] (spShaped K a.cT) := by
  have G__law_flat : FnOk P w K mg base CX0 1 a.a_law_flat d.a_law_flat ["rows"] (spFlat K) := ok_law_flat T D
  have GN : FnR P w K mg base CX0 1 fn (spLen K a) := FnOk.toR (ok_len T M N) N.BN
  refine D.F__law_shaped.ok sc_law_shaped (fun vs H Q E h => ?_) (fun cdv A outer s H vs Q E hr h => ?_)
  · obtain ⟨q, r, l, us, ds, ks, rfl, _⟩ := h
    rfl
  · obtain ⟨q, r, l, us, ds, ks, rfl, NA, NP, hr1, RA, ok, l1000, hl, fin⟩ := h
    have hr3 : Room 2 _ := hr.mono (by decide)
    refine ⟨_, (pss_cons (ps_set (i := 3) sc_law_shaped.nd rfl (Or.inl rfl) (pe_call G__law_flat (hr.mono (by decide)) rfl T.f__law_flat T.k__law_flat D.B__law_flat .nil pass0 (pa_cons (pv 1) pa_nil)))
        (pss_one (ps_ret (pe_and (pe_cmpR (op_eqD hr.units) (pe_fld (pv 0) rfl) (pe_callTy call_tuple_of (by rfl) T.b_tuple (by decide +kernel) (pa_cons (pv 3) pa_nil)) (nomark _)) (pe_and (pe_cmpR (op_eqD hr.units) (pe_fld (pv 0) rfl) (pe_callTy call_tuple_of (by rfl) T.b_tuple (by decide +kernel) (pa_cons (pv 2) pa_nil)) (nomark _)) (pe_one (pe_cmpR op_eq (pe_callB (QS.cr_lenO N.N1.mt.at_ N.N1.mt.fn GN hr3 pass0) (by rfl) T.b_len (by decide +kernel) (pa_cons (pv 0) pa_nil)) (pe_callB call_len_seq (by rfl) T.b_len (by decide +kernel) (pa_cons (pv 3) pa_nil)) (nomark _)))))))), ?_⟩
    have big : 100000 ≤ sizeLine := by decide
    refine ⟨_, rfl, r, us, ds, rfl, hr1, RA, ok, l1000, fun l2 us2 H1 e1 hl2 R2 => ?_⟩
    have NA1 := NA.ex e1
    obtain ⟨dx, bo, mo, rv, dd, mv, ub, hq, hbo, RB, hmo, _⟩ := id NA1
    have okF : ∀ x ∈ (flatR ds).map bD, Sh 1 x := fun x hx => by
      obtain ⟨c, hc, rfl⟩ := List.mem_map.mp hx
      exact sh_row (NP.ok c hc)
    have okN : ∀ x ∈ ks.map PyData.str, Sh 1 x := fun x hx => by
      obtain ⟨c, hc, rfl⟩ := List.mem_map.mp hx
      exact sh_str (name_ok (NP.nm c hc))
    have lF := flatR_len ds
    have l2 := R2.1
    refine ⟨_, rfl, q, a.cT, dx, _, _, rfl, hq, M.cl, M.n1, rfl, _, rfl, _, us2, rfl, .inl ⟨SqL.of hl2, fun t ht => ?_⟩⟩
    have e2 := Ex.new (o := .tup us2) ht
    refine ⟨.tuple ((flatR ds).map bD), .tuple ((flatR ds).map bD), .tup (ex_t e2 hbo) (RB.ex e2).dp, .tup (SqT.of upd_same) (R2.ex e2).dp, (Sh.tuple okF).sh (by decide), (Sh.tuple okF).sh (by decide), _, rfl, ?_⟩
    rw [show PyData.eqv (.tuple ((flatR ds).map bD)) (.tuple ((flatR ds).map bD)) = true by simp [PyData.eqv, eqvC]]
    refine iteT' rfl ⟨_, rfl, q, a.cT, dx, _, _, rfl, e2 _ _ hq, M.cl, M.n2, rfl, _, rfl, l, _, rfl, .inl ⟨ex_l (e1.trans e2) hl, fun t3 ht3 => ?_⟩⟩
    have e3 := Ex.new (o := .tup (ks.map V.str)) ht3
    refine ⟨.tuple (ks.map .str), .tuple (ks.map .str), .tup (ex_t e3 (ex_t e2 hmo)) (names_dp ks), .tup (SqT.of upd_same) (names_dp ks), (Sh.tuple okN).sh (by decide), (Sh.tuple okN).sh (by decide), _, rfl, ?_⟩
    rw [show PyData.eqv (.tuple (ks.map .str)) (.tuple (ks.map .str)) = true by simp [PyData.eqv, names_eqv]]
    have e23 := e2.trans e3
    refine iteT' rfl ⟨_, rfl, q, dx, _, rfl, e23 _ _ hq, q, flatR ds, ks, rfl, NA1.ex e23, (flatR ds).length, rfl, ?_, _, rfl, _, us2, rfl, .inl (SqL.of (e23 _ _ hl2)), rfl, ?_⟩
    · omega
    rw [show decide (V.int ((flatR ds).length : Nat) = V.int (us2.length : Nat)) = true from decide_eq_true (by rw [l2])]
    exact fin _ (e1.trans e23)
end
end N4
set_option maxRecDepth 100000
set_option maxHeartbeats 4000000
namespace N4
open PySem L2 Evl GP HR SC SetM SetH
theorem way_same {u w : Way} (h : u.t = w.t ∧ u.c = w.c) : u = w := by
  cases u
  cases w
  simp only [Way.mk.injEq]
  exact h
/-! ### nets without a negative ring -/
theorem NetOk.none {ms : List Str} {bs : List Row} {r : RW} (h : NetOk ms bs r) (N : NoNeg bs) : r.1 = none ∧ Good ms bs r.2 := by
  obtain ⟨o, m⟩ := r
  cases o with
  | none => exact ⟨rfl, (h : Good ms bs m ∧ NoNeg bs).1⟩
  | some ring =>
    obtain ⟨bs1, b, bs2, q, e, G, _, _, hb, lt, _⟩ := (h : ∃ bs1 b bs2 q, bs = bs1 ++ b :: bs2 ∧ Good ms bs1 m ∧ NoNeg bs1 ∧ netW ms bs1 = (Option.none, m) ∧ best m b.2.1 b.1 = some q ∧ q.t + b.2.2 < 0 ∧ ring = b :: q.c)
    obtain ⟨w, t⟩ := G.bsd hb
    have := N b.1 (b :: q.c) ⟨by rw [e]; simp, rfl, w.sub fun x hx => by rw [e]; exact List.mem_append_left _ hx⟩
    simp only [sumR] at this
    omega
theorem NoNeg.sub {bs cs : List Row} (N : NoNeg bs) (s : ∀ b ∈ cs, b ∈ bs) : NoNeg cs := fun x c h => N x c (h.sub s)
theorem best_same {ms : List Str} {f1 f2 : List Row} (m1 : MsOk ms f1) (N4 : NoNeg f1) (s1 : ∀ b ∈ f1, b ∈ f2) (s2 : ∀ b ∈ f2, b ∈ f1) (s g : Str) : best (netW ms f2).2 s g = best (netW ms f1).2 s g := by
  have G1 := ((net_ok m1).none N4).2
  have G2 := ((net_ok (fun b hb => m1 b (s2 b hb) : MsOk ms f2)).none (N4.sub s2)).2
  unfold best
  by_cases ne : s = g
  · rw [if_pos ne, if_pos ne]
  rw [if_neg ne, if_neg ne]
  generalize (netW ms f1).2 = a at *
  generalize (netW ms f2).2 = b at *
  have key : ∀ {x y : List Row} {m n : WMap}, Good ms x m → Good ms y n → (∀ b ∈ x, b ∈ y) → ∀ w, m s g = some w → ∃ u, n s g = some u ∧ leW u w := fun Gx Gy sub w h => by
    obtain ⟨_, w1, t1, _⟩ := Gx.sound s g w h
    obtain ⟨u, hu, l⟩ := Gy.least s g w.c (w1.sub sub) ne
    rw [← way_wy t1] at l
    exact ⟨u, hu, l⟩
  cases ha : a s g with
  | none =>
    cases hb : b s g with
    | none => rfl
    | some u =>
      obtain ⟨v, hv, _⟩ := key G2 G1 s2 u hb
      rw [ha] at hv
      cases hv
  | some v =>
    obtain ⟨u, hu, l1⟩ := key G1 G2 s1 v ha
    obtain ⟨v', hv, l2⟩ := key G2 G1 s2 u hu
    rw [ha] at hv
    cases hv
    rw [hu]
    exact congrArg some (way_same (leW.asym l1 l2))
/-! ### heights -/
theorem NoNeg.high {bs : List Row} (f : Str → Int) (h : ∀ b ∈ bs, f b.1 - f b.2.1 ≤ b.2.2) : NoNeg bs := by
  have key : ∀ {c : List Row} {x y : Str}, Wk bs x c y → f x - f y ≤ sumR c := by
    intro c
    induction c with
    | nil =>
      intro x y w
      obtain rfl : x = y := w
      simp [sumR]
    | cons b c ih =>
      rintro x y ⟨h1, rfl, h3⟩
      have := h b h1
      have := ih h3
      simp only [sumR]
      omega
  intro x c w
  have := key w
  omega
theorem names_same {a b : List Str} (na : a.Nodup) (nb : b.Nodup) (sa : PyProof.Rows.sortedS a = true) (sb : PyProof.Rows.sortedS b = true) (m : ∀ z, z ∈ a ↔ z ∈ b) : a = b := HR.asc_same (HR.asc_of sa na) (HR.asc_of sb nb) m
/-! ### the least values -/
def tmL (m : WMap) (ms : List Str) (y : Str) : List Int := ms.filterMap fun z => (best m z y).map fun w => -w.t
def tm (m : WMap) (ms : List Str) (y : Str) : Int := (tmL m ms y).foldr max 0
theorem max_ge (l : List Int) : (∀ x ∈ l, x ≤ l.foldr max 0) ∧ (l.foldr max 0 = 0 ∨ l.foldr max 0 ∈ l) := by
  induction l with
  | nil => exact ⟨fun x h => absurd h List.not_mem_nil, .inl rfl⟩
  | cons a l ih =>
    obtain ⟨i1, i2⟩ := ih
    rw [List.foldr_cons]
    refine ⟨fun x hx => ?_, ?_⟩
    · rcases List.mem_cons.mp hx with rfl | hx
      · exact Int.le_max_left _ _
      · exact Int.le_trans (i1 x hx) (Int.le_max_right _ _)
    · rcases Int.le_total a (l.foldr max 0) with h | h
      · rw [Int.max_eq_right h]
        exact i2.imp id fun h => List.mem_cons_of_mem _ h
      · rw [Int.max_eq_left h]
        exact .inr List.mem_cons_self
theorem mem_tmL {m : WMap} {ms : List Str} {y : Str} {i : Int} : i ∈ tmL m ms y ↔ ∃ z ∈ ms, ∃ w, best m z y = some w ∧ i = -w.t := by
  unfold tmL
  rw [List.mem_filterMap]
  constructor
  · rintro ⟨z, hz, h⟩
    obtain ⟨w, hw, rfl⟩ := Option.map_eq_some_iff.mp h
    exact ⟨z, hz, w, hw, rfl⟩
  · rintro ⟨z, hz, w, hw, rfl⟩
    exact ⟨z, hz, by rw [hw]; rfl⟩
theorem best_self (m : WMap) (y : Str) : best m y y = some ⟨0, []⟩ := by
  unfold best
  rw [if_pos rfl]
theorem zero_in {m : WMap} {ms : List Str} {y : Str} (h : y ∈ ms) : (0 : Int) ∈ tmL m ms y := mem_tmL.mpr ⟨y, h, _, best_self m y, rfl⟩
theorem tm_in {m : WMap} {ms : List Str} {y : Str} (h : y ∈ ms) : tm m ms y ∈ tmL m ms y := by
  rcases (max_ge (tmL m ms y)).2 with e | e
  · have : tm m ms y = 0 := e
    rw [this]
    exact zero_in h
  · exact e
theorem tm_ge {m : WMap} {ms : List Str} {y : Str} {i : Int} (h : i ∈ tmL m ms y) : i ≤ tm m ms y := (max_ge (tmL m ms y)).1 i h
theorem tm_is {m : WMap} {ms : List Str} {y : Str} {i : Int} (hy : y ∈ ms) (h : i ∈ tmL m ms y) (u : ∀ j ∈ tmL m ms y, j ≤ i) : i = tm m ms y := Int.le_antisymm (tm_ge h) (u _ (tm_in hy))
theorem tm_pos {m : WMap} {ms : List Str} {y : Str} (h : y ∈ ms) : 0 ≤ tm m ms y := tm_ge (zero_in h)
section
variable {ms : List Str} {bs : List Row} {m : WMap}
theorem tm_full (G : Good ms bs m) (N : NoNeg bs) (mo : MsOk ms bs) {b : Row} (hb : b ∈ bs) : tm m ms b.1 - tm m ms b.2.1 ≤ b.2.2 := by
  obtain ⟨z, hz, w, hw, e⟩ := mem_tmL.mp (tm_in (m := m) (mo b hb).1)
  obtain ⟨w1, t1⟩ := G.bsd hw
  obtain ⟨w', h', l⟩ := G.bl N (w1.app (Wk.one hb))
  have l := l.le
  have : w'.t ≤ sumR (w.c ++ [b]) := l
  simp only [sumR_app, sumR] at this
  have := tm_ge (mem_tmL.mpr ⟨z, hz, w', h', rfl⟩)
  omega
theorem tm_high (G : Good ms bs m) (f : Str → Int) (hf : ∀ b ∈ bs, f b.1 - f b.2.1 ≤ b.2.2) {y : Str} (hy : y ∈ ms) {lift : Int} (hl : ∀ z ∈ ms, -f z ≤ lift) : tm m ms y ≤ f y + lift := by
  obtain ⟨z, hz, w, hw, e⟩ := mem_tmL.mp (tm_in (m := m) hy)
  obtain ⟨w1, t1⟩ := G.bsd hw
  have key : ∀ {c : List Row} {x y : Str}, Wk bs x c y → f x - f y ≤ sumR c := by
    intro c
    induction c with
    | nil =>
      intro x y w
      obtain rfl : x = y := w
      simp [sumR]
    | cons b c ih =>
      rintro x y ⟨h1, rfl, h3⟩
      have := hf b h1
      have := ih h3
      simp only [sumR]
      omega
  have := key w1
  have := hl z hz
  omega
theorem tm_more {cs : List Row} {n : WMap} (G : Good ms bs m) (G2 : Good ms cs n) (N4 : NoNeg cs) (s : ∀ b ∈ bs, b ∈ cs) {y : Str} (hy : y ∈ ms) : tm m ms y ≤ tm n ms y := by
  obtain ⟨z, hz, w, hw, e⟩ := mem_tmL.mp (tm_in (m := m) hy)
  obtain ⟨w1, t1⟩ := G.bsd hw
  obtain ⟨w', h', l⟩ := G2.bl N4 (w1.sub s)
  have l : w'.t ≤ sumR w.c := l.le
  have := tm_ge (mem_tmL.mpr ⟨z, hz, w', h', rfl⟩)
  omega
/-! ### what is held -/
def hAdd (T : Str → Int) (h : List Str) (b : Row) : List Str := if b.1 ∈ h ∧ b.2.1 ∉ h ∧ T b.1 - T b.2.1 = b.2.2 then h ++ [b.2.1] else h
def hRow (T : Str → Int) (h : List Str) (rows : List Row) : List Str := rows.foldl (hAdd T) h
def hRun (T : Str → Int) (rows : List Row) (h : List Str) : Nat → List Str
  | 0 => h
  | i + 1 => hRow T (hRun T rows h i) rows
theorem hAdd_mono (T : Str → Int) (h : List Str) (b : Row) : ∀ z ∈ h, z ∈ hAdd T h b := fun z hz => by
  unfold hAdd
  split
  · exact List.mem_append_left _ hz
  · exact hz
theorem hRow_mono (T : Str → Int) : ∀ (rows : List Row) (h : List Str), ∀ z ∈ h, z ∈ hRow T h rows
  | [], _, _, hz => hz
  | b :: rows, h, z, hz => hRow_mono T rows (hAdd T h b) z (hAdd_mono T h b z hz)
theorem hRow_step (T : Str → Int) : ∀ (rows : List Row) (h : List Str) (b : Row), b ∈ rows → b.1 ∈ h → T b.1 - T b.2.1 = b.2.2 → b.2.1 ∈ hRow T h rows
  | d :: rows, h, b, hb, h1, ht => by
    show b.2.1 ∈ hRow T (hAdd T h d) rows
    rcases List.mem_cons.mp hb with rfl | hb
    · refine hRow_mono T rows _ _ ?_
      unfold hAdd
      by_cases g : b.2.1 ∈ h
      · rw [if_neg fun q => q.2.1 g]
        exact g
      · rw [if_pos ⟨h1, g, ht⟩]
        exact List.mem_append_right _ (List.mem_singleton.mpr rfl)
    · exact hRow_step T rows (hAdd T h d) b hb (hAdd_mono T h d _ h1) ht
theorem hRun_mono (T : Str → Int) (rows : List Row) (h : List Str) (i : Nat) : ∀ j, ∀ z ∈ hRun T rows h i, z ∈ hRun T rows h (i + j)
  | 0, _, hz => hz
  | j + 1, z, hz => hRow_mono T rows _ z (hRun_mono T rows h i j z hz)
theorem hRun_walk (T : Str → Int) (rows : List Row) (h : List Str) {bs : List Row} (s : ∀ b ∈ bs, b ∈ rows) (full : ∀ b ∈ bs, T b.1 - T b.2.1 ≤ b.2.2) : ∀ {c : List Row} {x y : Str} {i : Nat}, Wk bs x c y → T x - T y = sumR c → x ∈ hRun T rows h i → y ∈ hRun T rows h (i + c.length)
  | [], x, y, i, w, _, hx => by
    obtain rfl : x = y := w
    exact hx
  | b :: c, x, y, i, ⟨h1, h2, h3⟩, ht, hx => by
    have key : ∀ {c : List Row} {x y : Str}, Wk bs x c y → T x - T y ≤ sumR c := by
      intro c
      induction c with
      | nil =>
        intro x y w
        obtain rfl : x = y := w
        simp [sumR]
      | cons b c ih =>
        rintro x y ⟨h1, rfl, h3⟩
        have := full b h1
        have := ih h3
        simp only [sumR]
        omega
    subst h2
    have k1 := full b h1
    have k2 := key h3
    simp only [sumR] at ht
    have st : b.2.1 ∈ hRun T rows h (i + 1) := hRow_step T rows _ b (s b h1) hx (by omega)
    have := hRun_walk T rows h s full h3 (by omega) st
    rwa [show i + (b :: c).length = i + 1 + c.length by simp only [List.length_cons]; omega]
theorem hAdd_ok (T : Str → Int) (ks : List Str) {h : List Str} {b : Row} (nd : h.Nodup) (s : ∀ z ∈ h, z ∈ ks) (hb : b.2.1 ∈ ks) : (hAdd T h b).Nodup ∧ ∀ z ∈ hAdd T h b, z ∈ ks := by
  unfold hAdd
  split
  · rename_i g
    refine ⟨List.nodup_append.mpr ⟨nd, by simp, fun x hx y hy e => g.2.1 (by rw [List.mem_singleton.mp hy] at e; rwa [← e])⟩, fun z hz => ?_⟩
    rcases List.mem_append.mp hz with hz | hz
    · exact s z hz
    · rw [List.mem_singleton.mp hz]
      exact hb
  · exact ⟨nd, s⟩
theorem hRow_ok (T : Str → Int) (ks : List Str) : ∀ (rows : List Row) {h : List Str}, h.Nodup → (∀ z ∈ h, z ∈ ks) → (∀ b ∈ rows, b.2.1 ∈ ks) → (hRow T h rows).Nodup ∧ ∀ z ∈ hRow T h rows, z ∈ ks
  | [], _, nd, s, _ => ⟨nd, s⟩
  | b :: rows, h, nd, s, hr => by
    obtain ⟨n1, s1⟩ := hAdd_ok T ks nd s (hr b List.mem_cons_self)
    exact hRow_ok T ks rows n1 s1 fun d hd => hr d (List.mem_cons_of_mem _ hd)
theorem hRun_ok (T : Str → Int) (ks : List Str) (rows : List Row) {h : List Str} (nd : h.Nodup) (s : ∀ z ∈ h, z ∈ ks) (hr : ∀ b ∈ rows, b.2.1 ∈ ks) : ∀ i, (hRun T rows h i).Nodup ∧ ∀ z ∈ hRun T rows h i, z ∈ ks
  | 0 => ⟨nd, s⟩
  | i + 1 => hRow_ok T ks rows (hRun_ok T ks rows nd s hr i).1 (hRun_ok T ks rows nd s hr i).2 hr
theorem held_all (G : Good ms bs m) (N : NoNeg bs) (mo : MsOk ms bs) (nd : ms.Nodup) {rows : List Row} (s : ∀ b ∈ bs, b ∈ rows) (s2 : ∀ b ∈ rows, b ∈ bs) : (hRun (tm m ms) rows (ms.filter fun z => decide (tm m ms z = 0)) ms.length).length = ms.length := by
  obtain ⟨n1, s1⟩ := hRun_ok (tm m ms) ms rows (h := ms.filter fun z => decide (tm m ms z = 0)) (nd.filter _) (fun z hz => (List.mem_filter.mp hz).1) (fun b hb => (mo b (s2 b hb)).2.1) ms.length
  refine Nat.le_antisymm (sub_len n1 s1) (sub_len nd fun y hy => ?_)
  obtain ⟨z, hz, w, hw, e⟩ := mem_tmL.mp (tm_in (m := m) hy)
  obtain ⟨w1, t1⟩ := G.bsd hw
  have z0 : tm m ms z = 0 := by
    obtain ⟨u, hu, v, hv, e2⟩ := mem_tmL.mp (tm_in (m := m) hz)
    obtain ⟨v1, t2⟩ := G.bsd hv
    obtain ⟨w', h', l⟩ := G.bl N (v1.app w1)
    have l : w'.t ≤ sumR (v.c ++ w.c) := l.le
    rw [sumR_app] at l
    have := tm_ge (mem_tmL.mpr ⟨u, hu, w', h', rfl⟩)
    have := tm_pos (m := m) hz
    omega
  have zin : z ∈ hRun (tm m ms) rows (ms.filter fun z => decide (tm m ms z = 0)) 0 := List.mem_filter.mpr ⟨hz, decide_eq_true z0⟩
  have := hRun_walk (tm m ms) rows _ s (fun b hb => tm_full G N mo hb) w1 (by omega) zin
  have lc := good_len G N mo hw
  have := hRun_mono (tm m ms) rows _ (0 + w.c.length) (ms.length - w.c.length) y this
  rwa [show 0 + w.c.length + (ms.length - w.c.length) = ms.length by omega] at this
end
end N4
set_option maxRecDepth 100000
set_option maxHeartbeats 8000000
namespace N4
open PySem L2 Evl GP HR SC SetM SetH
theorem op_catAK {X : Cx} {K : PySem.W.Frag} (h : X.K = K := by rfl) : OpR X (binaryOp .Add) (rCatA K) := by
  subst h
  exact op_catA
/-- all but lists stays -/
def Tl (H H' : Hp) : Prop := ∀ (t : Addr) (o : HO), (∀ (xs : List V), o ≠ .lst xs) → H t = some o → H' t = some o
theorem Tl.sq {K : PySem.W.Frag} {H H' : Hp} (x : Tl H H') {p : Addr} {xs : List V} (h : SqT K H p xs) : SqT K H' p xs := by
  rcases h with (h | ⟨o, h⟩) | h
  · exact .inl (.inl (x _ _ (fun _ z => nomatch z) h))
  · exact .inl (.inr ⟨o, x _ _ (fun _ z => nomatch z) h⟩)
  · exact .inr h
theorem Tl.ex {H H1 : Hp} (x : Ex H H1) : Tl H H1 := fun t o _ h => x t o h
theorem Tl.trans {H H1 H2 : Hp} (x : Tl H H1) (y : Tl H1 H2) : Tl H H2 := fun t o n h => y t o n (x t o n h)
theorem Tl.lst {H : Hp} {l : Addr} {xs : List V} {o : HO} (h : H l = some (.lst xs)) : Tl H (upd H l o) := fun t u n g => by
  rw [upd_ne (fun z : t = l => n _ (Option.some.inj ((g.symm.trans (by rw [z])).trans h)))]
  exact g
theorem Tl.tk {H H' : Hp} (x : Tl H H') : TK H H' := fun p xs h => x p _ (fun _ z => nomatch z) h
theorem WayAt.tl {K : PySem.W.Frag} {H H' : Hp} {v : V} {w : Way} (h : WayAt K H v w) (e : Tl H H') : WayAt K H' v w := let ⟨p, q, us, h1, h2, h3, h4⟩ := h; ⟨p, q, us, h1, e.sq h2, e.sq h3, h4.keep e.tk⟩
theorem OptAt.tl {K : PySem.W.Frag} {H H' : Hp} {v : V} {o : Option Way} (h : OptAt K H v o) (e : Tl H H') : OptAt K H' v o := by
  cases o with
  | none => exact h
  | some w => exact WayAt.tl h e
theorem WsAt.tl {K : PySem.W.Frag} {H H' : Hp} {ms : List Str} {d : Addr} {m : WMap} (h : WsAt K H ms d m) (e : Tl H H') : WsAt K H' ms d m := by
  obtain ⟨kvs, h1, h2⟩ := h
  exact ⟨kvs, e _ _ (fun _ z => nomatch z) h1, h2.ins, h2.nd, h2.no, fun x y w g => let ⟨v, g1, g2⟩ := h2.val x y w g; ⟨v, g1, g2.tl e⟩⟩
theorem RingAt.tl {K : PySem.W.Frag} {H H' : Hp} {v : V} {o : Option (List Row)} (h : RingAt K H v o) (e : Tl H H') : RingAt K H' v o := by
  cases o with
  | none => exact h
  | some c =>
    obtain ⟨q, us, h1, h2, h3⟩ := h
    exact ⟨q, us, h1, e.sq h2, h3.keep e.tk⟩
theorem MnAt.tl {H H' : Hp} {ms : List Str} {v : V} {r : RW} (h : MnAt H ms v r) (e : Tl H H') : MnAt H' ms v r := by
  obtain ⟨o, m⟩ := r
  cases o with
  | some c => exact h
  | none =>
    obtain ⟨d, kvs, h1, h2, h3⟩ := (h : ∃ d kvs, v = .ref d ∧ H d = some (.dT kvs) ∧ MnL ms kvs m)
    exact ⟨d, kvs, h1, e _ _ (fun _ z => nomatch z) h2, h3⟩
theorem NetAt.tl {K : PySem.W.Frag} {C : Addr} {H H' : Hp} {q : Addr} {bs : List Row} {ms : List Str} (h : NetAt K C H q bs ms) (e : Tl H H') : NetAt K C H' q bs ms := by
  obtain ⟨dx, bo, mo, rv, d, mv, us, h1, h2, h3, h4, h5, h6, h7⟩ := h
  exact ⟨dx, bo, mo, rv, d, mv, us, e _ _ (fun _ z => nomatch z) h1, e.sq h2, h3.keep e.tk, e.sq h4, h5.tl e, h6.tl e, h7.tl e⟩
theorem Kp.tl {b : Addr} {n : Nat} {H H' : Hp} (k : Kp b H H') (X : Bx b n H) : Tl H H' := fun t o n h => by
  refine k.k t o (fun z => ?_) h
  subst z
  obtain ⟨c, ns, i, r, m, t, Y⟩ := X
  exact absurd (Option.some.inj (h.symm.trans Y.box)) (n _)
/-! ### lists of things -/
def LAt {α : Type} (R : Hp → V → α → Prop) (H : Hp) (vs : List V) (ds : List α) : Prop := vs.length = ds.length ∧ ∀ (j : Nat) (v : V) (d : α), vs[j]? = some v → ds[j]? = some d → R H v d
section
variable {α : Type} {R : Hp → V → α → Prop}
theorem LAt.nil {H : Hp} : LAt R H [] [] := ⟨rfl, fun j v d h => by simp at h⟩
theorem LAt.mono {H H' : Hp} {vs : List V} {ds : List α} (A : LAt R H vs ds) (h : ∀ v d, R H v d → R H' v d) : LAt R H' vs ds := ⟨A.1, fun j v d h1 h2 => h v d (A.2 j v d h1 h2)⟩
theorem LAt.app {H : Hp} {vs us : List V} {ds es : List α} (A : LAt R H vs ds) (B : LAt R H us es) : LAt R H (vs ++ us) (ds ++ es) := by
  refine ⟨by rw [List.length_append, List.length_append, A.1, B.1], fun j v d h1 h2 => ?_⟩
  by_cases h : j < vs.length
  · rw [List.getElem?_append_left h] at h1
    rw [List.getElem?_append_left (by rw [← A.1]; exact h)] at h2
    exact A.2 j v d h1 h2
  · rw [List.getElem?_append_right (by omega)] at h1
    rw [List.getElem?_append_right (by rw [← A.1]; omega), ← A.1] at h2
    exact B.2 _ v d h1 h2
theorem LAt.one {H : Hp} {v : V} {d : α} (h : R H v d) : LAt R H [v] [d] := ⟨rfl, fun j u e h1 h2 => by
  cases j with
  | zero => cases h1; cases h2; exact h
  | succ j => simp at h1⟩
theorem LAt.get {H : Hp} {vs : List V} {ds : List α} (A : LAt R H vs ds) {i : Nat} {v : V} (h : vs[i]? = some v) : ∃ d, ds[i]? = some d ∧ R H v d := by
  have hl : i < ds.length := by
    rw [← A.1]
    exact (List.getElem?_eq_some_iff.mp h).1
  exact ⟨ds[i], List.getElem?_eq_getElem hl, A.2 i v _ h (List.getElem?_eq_getElem hl)⟩
end
section
variable {K : PySem.W.Frag} {σ : L2.St} {H1 : Hp} {J : It} {G : Hp → Prop} {te : TE} {tt : TT}
/-- [f(x) for x in xs if c(x)], the items are things of their own -/
theorem lcFR {α β : Type} {xs : List V} {ds : List α} (hd : ds.length = xs.length) (w : Walk J xs.length G (YAt xs)) {R : Hp → V → β → Prop} (hR : ∀ {H H' v b}, Tl H H' → R H v b → R H' v b) (c : α → Bool) (r : α → β) {j : Nat} {vs : List Nat} (hz : xs.length < sizeLine) (hG : ∀ H', Ex H1 H' → G H') (hw : ∀ v, wipe ((wipe σ vs).set j (some v)) vs = wipe σ vs)
    (ht : ∀ (i : Nat) (v : V) (x : α), xs[i]? = some v → ds[i]? = some x → ∀ H', Ex H1 H' → ∀ Q : Bool → Hp → Prop, (∀ H'', Ex H' H'' → Q (c x) H'') → tt ((wipe σ vs).set j (some v)) H' Q)
    (he : ∀ (i : Nat) (v : V) (x : α), xs[i]? = some v → ds[i]? = some x → c x = true → ∀ H', Ex H1 H' → ∀ Q : VK, (∀ y H'', Ex H' H'' → R H'' y (r x) → Q y H'') → te ((wipe σ vs).set j (some v)) H' Q)
    {Qd : Hp → Prop} {D : Addr} (hD : H1 D = none) (k : ∀ H' acc, Ex H1 H' → H' D = some (.lst acc) → LAt R H' acc ((ds.filter c).map r) → Qd H') :
    ∃ W : Nat → Nat → Hp → Prop, (∃ m, W 0 m (upd H1 D (.lst []))) ∧ ∀ i m H, W i m H →
      (J.stop i H ∧ Qd H) ∨ (J.go i H ∧ ∃ Nx : Hp → Prop, (∀ H', Nx H' → ∃ m', m' < m ∧ W (i + 1) m' H') ∧ ∀ x H', J.yld i H x H' → gName j x (wipe σ vs) H' fun σ2 H2 => wipe σ2 vs = wipe σ vs ∧ tt σ2 H2 fun b H3 =>
        if b = true then te σ2 H3 fun y H4 => ∃ acc, H4 D = some (.lst acc) ∧ acc.length < sizeLine ∧ Nx (upd H4 D (.lst (acc ++ [y]))) else Nx H3) := by
  refine lc_it w (fun i H => Ex H1 H ∧ ∃ acc : List V, H D = some (.lst acc) ∧ LAt R H acc (((ds.take i).filter c).map r)) ⟨Ex.new hD, [], upd_same, LAt.nil⟩ (fun i H _ p => hG H p.1) ?_ (fun H p => ?_)
  · rintro i x H H' hi ⟨e, acc, ha, A⟩ ⟨rfl, hx⟩
    obtain ⟨d, hdi⟩ : ∃ d, ds[i]? = some d := ⟨ds[i]'(by omega), by simp⟩
    unfold gName
    dsimp only
    refine ⟨hw _, ht i x d hx hdi H' e _ fun H3 e3 => ?_⟩
    have tk : (ds.take (i + 1)).filter c = (ds.take i).filter c ++ (if c d = true then [d] else []) := by
      rw [List.take_add_one, hdi, List.filter_append]
      simp only [Option.toList_some]
      by_cases hc : c d = true
      · rw [if_pos hc]; simp [hc]
      · rw [if_neg hc]; simp [hc]
    cases hc : c d with
    | true =>
      rw [if_pos rfl]
      refine he i x d hx hdi hc H3 (e.trans e3) _ fun y H4 e4 hy => ?_
      have e34 := e3.trans e4
      have hl := e34 _ _ ha
      have la := A.1
      have lf : ((ds.take i).filter c).length ≤ i := Nat.le_trans (List.length_filter_le _ _) (by rw [List.length_take]; omega)
      rw [List.length_map] at la
      refine ⟨acc, hl, by omega, Ex.mut (e.trans e34) hD, _, upd_same, ?_⟩
      rw [tk, hc, if_pos rfl, List.map_append]
      have tkl := Tl.lst (o := .lst (acc ++ [y])) hl
      exact (A.mono fun v d h => hR tkl (hR (Tl.ex e34) h)).app (LAt.one (hR tkl hy))
    | false =>
      rw [if_neg Bool.false_ne_true]
      refine ⟨e.trans e3, acc, e3 _ _ ha, ?_⟩
      rw [tk, hc, if_neg Bool.false_ne_true, List.append_nil]
      exact A.mono fun v d h => hR (Tl.ex e3) h
  · obtain ⟨e, acc, ha, A⟩ := p
    refine k H acc e ha ?_
    rwa [← hd, List.take_length] at A
end
end N4
set_option maxRecDepth 100000
set_option maxHeartbeats 8000000
namespace N4
open PySem L2 Evl GP HR SC SetM SetH
theorem pe_fldK {X : Cx} {K : PySem.W.Frag} {e : PySem.Expr} {f : PySem.Str} {pos : PySem.Pos} {ta : TE} (he : PE X e ta) (h : PySem.attributeBase e f X.env (PySem.eval e X.env) = PySem.eval e X.env) (hK : X.K = K := by rfl) : PE X (e.Attribute f pos) (tFld K ta f) := by
  subst hK
  exact pe_fld he h
abbrev s_Net_least_of : Stmt := inClass (top 22) 11
theorem sc_Net_least_of : FnScope ["self", "name", "ways", "other", "way"] ["self", "name"] (defScope s_Net_least_of) := ⟨rfl, rfl, rfl, by decide +kernel, rfl, by decide +kernel, by decide +kernel⟩
abbrev s_Net_least : Stmt := inClass (top 22) 3
theorem sc_Net_least : FnScope ["self", "name"] ["self"] (defScope s_Net_least) := ⟨rfl, rfl, rfl, by decide +kernel, rfl, by decide +kernel, by decide +kernel⟩
/-- the methods that tell the least values -/
structure NL (K : PySem.W.Frag) (C fB fO : Addr) (dB dO : FuncData) : Prop where
  B1 : MF K C "least" "Net.least" s_Net_least fB dB
  BB : Binds K dB ["self"] []
  O1 : MF K C "_least_of" "Net._least_of" s_Net_least_of fO dO
  BO : Binds K dO ["self", "name"] []
theorem tmL_eq (m : WMap) (ms : List Str) (y : Str) : ((ms.map fun z => best m z y).filter fun o => o.isSome).map (fun o => -((o.map Way.t).getD 0)) = tmL m ms y := by
  unfold tmL
  induction ms with
  | nil => rfl
  | cons z ms ih =>
    rw [List.map_cons, List.filterMap_cons]
    cases h : best m z y with
    | none => rw [List.filter_cons_of_neg (by simp)]; exact ih
    | some w => rw [List.filter_cons_of_pos (by simp), List.map_cons, ih]; rfl
/-- a name with its value -/
def PrAt (H : Hp) (v : V) (p : Str × Int) : Prop := ∃ q, v = .ref q ∧ H q = some (.tup [.str p.1, .int p.2])
theorem PrAt.tk {H H' : Hp} {v : V} {p : Str × Int} (t : TK H H') (h : PrAt H v p) : PrAt H' v p := let ⟨q, h1, h2⟩ := h; ⟨q, h1, t _ _ h2⟩
def tmP (T : Str → Int) (ks : List Str) : List (Str × Int) := ks.map fun y => (y, T y)
/-- the values of the names, as a tuple of pairs -/
def TmAt (K : PySem.W.Frag) (H : Hp) (v : V) (T : Str → Int) (ks : List Str) : Prop := ∃ t us, v = .ref t ∧ SqT K H t us ∧ LAt PrAt H us (tmP T ks)
theorem TmAt.ex {K : PySem.W.Frag} {H H' : Hp} {v : V} {T : Str → Int} {ks : List Str} (h : TmAt K H v T ks) (e : Ex H H') : TmAt K H' v T ks := let ⟨t, us, h1, h2, h3⟩ := h; ⟨t, us, h1, ex_t e h2, h3.mono fun _ _ g => PrAt.tk (TK.ex e) g⟩
theorem TmAt.tl {K : PySem.W.Frag} {H H' : Hp} {v : V} {T : Str → Int} {ks : List Str} (h : TmAt K H v T ks) (e : Tl H H') : TmAt K H' v T ks := let ⟨t, us, h1, h2, h3⟩ := h; ⟨t, us, h1, e.sq h2, h3.mono fun _ _ g => PrAt.tk e.tk g⟩
def spLeastOf (K : PySem.W.Frag) (C : Addr) : Sp := fun vs H Q _ => ∃ (q : Addr) (y : Str) (bs : List Row) (ms : List Str), vs = [.ref q, .str y] ∧ NetAt K C H q bs ms ∧ ms.length ≤ 20 ∧ y ∈ ms ∧ ∀ H', Ex H H' → Q (.int (tm (netW ms bs).2 ms y)) H'
def spLeast (K : PySem.W.Frag) (a : Ad) : Sp := fun vs H Q E => ∃ (q : Addr) (bs : List Row) (ms : List Str), vs = [.ref q] ∧ NetAt K a.cT H q bs ms ∧ ms.length ≤ 20 ∧ ChkE a H q ms (netW ms bs) [] E ∧
  ((netW ms bs).1 = none → ∀ v H', Ex H H' → TmAt K H' v (tm (netW ms bs).2 ms) ms → Q v H')
section
variable {P : Program} {w : World} {K : PySem.W.Frag} {mg : Str → Option Value} {base : Heap} {a : Ad} {d : Fd} {fL fN fU fI f0 D0 T0 : Addr} {fK fT fH fA fn fB fO : Addr} {dK dT dH dA dn dB dO : FuncData}
theorem ok_least_of (T : TX K mg a) (D : FDS K a d) (Z : EW K a) (M : CN K mg a.cT f0 D0 T0) (L : NL K a.cT fB fO dB dO) : FnOk P w K mg base CX0 2 fO dO ["self", "name"] (spLeastOf K a.cT) := by
  have G_best_way : FnOk P w K mg base CX0 1 a.a_best_way d.a_best_way ["ways", "start", "end"] (spBest K) := ok_best_way T D Z
  refine L.O1.F.ok sc_Net_least_of (fun vs H Q E h => ?_) (fun cdv A outer s H vs Q E hr h => ?_)
  · obtain ⟨q, y, bs, ms, rfl, _⟩ := h
    rfl
  · obtain ⟨q, y, bs, ms, rfl, NA, l20, ym, fin⟩ := h
    refine ⟨_, (pss_cons (ps_setLc (i := 2) (own := [("other", 3)]) (g := gName 3) (tt := tYes) rfl sc_Net_least_of.nd rfl rfl (sw_true rfl rfl rfl (by decide +kernel)) (pi_tup (pe_fldK (K := K) (pv 0) rfl)) (blkOk_by (N := ["self", "name", "ways", "other", "way"]) (sc := defScope s_Net_least_of) (by decide +kernel)) (fun _ _ _ _ _ => (pg_name (i := 3) sc_Net_least_of.nd rfl (Or.inl rfl))) (fun _ _ _ _ _ => pts_nil) (fun _ _ _ _ _ => (pe_call G_best_way (hr.mono (by decide)) rfl T.f_best_way T.k_best_way D.B_best_way .nil pass0 (pa_cons (pe_fldK (K := K) (pv 0) rfl) (pa_cons (pv 3) (pa_cons (pv 1) pa_nil))))))
        (pss_one (ps_ret (pe_callB (cr_max rfl) (by rfl) T.b_max (by decide +kernel) (pa_cons (pe_lc (own := [("way", 4)]) (g := gName 4) rfl sc_Net_least_of.nd (pi_list (pv 2)) (blkOk_by (N := ["self", "name", "ways", "other", "way"]) (sc := defScope s_Net_least_of) (by decide +kernel)) (fun _ _ _ _ _ => (pg_name (i := 4) sc_Net_least_of.nd rfl (Or.inl rfl))) (fun _ _ _ _ _ => (pts_one (pt_cmpR op_notN (pv 4) pe_non (nomark _)))) (fun _ _ _ _ _ => (pe_un un_neg (pe_ix (ix_tupK (K := K)) (pv 4) pe_int (fun _ _ => rfl))))) pa_nil))))), ?_⟩
    have big : 100000 ≤ sizeLine := by decide
    obtain ⟨dx, bo, mo, rv, dd, mv, us, hq, hbo, RA, hmo, RG, WS, MN⟩ := id NA
    have hq0 := hq
    refine ⟨_, rfl, q, a.cT, dx, _, _, rfl, hq, M.cl, M.n2, rfl, mo, rfl, ⟨_, hmo⟩, fun F hF => lcFR (H1 := H) (xs := ms.map V.str) (ds := ms) (by simp) walk_tup (R := fun H v o => OptAt K H v o) (fun t h => OptAt.tl h t) (fun _ => true) (fun z => best (netW ms bs).2 z y) (by simp; omega) (fun H' e => ex_t e hmo) (fun _ => rfl) ?_ ?_ hF ?_⟩
    · intro i v x hv hx H' e' Q' q'
      exact q' H' (Ex.refl _)
    · intro i v x hv hx _ H' e' Q' q'
      rw [List.getElem?_map, hx] at hv
      cases hv
      refine ⟨_, rfl, q, a.cT, dx, _, _, rfl, e' _ _ hq, M.cl, M.n4, rfl, _, rfl, _, rfl, dd, x, y, ms, (netW ms bs).2, rfl, WS.ex e', fun v H3 e3 O => q' v H3 e3 O⟩
    intro H1 acc e1 hF1 A1
    rw [show (ms.filter fun _ => true) = ms from List.filter_eq_self.mpr fun _ _ => rfl] at A1
    have la := A1.1
    rw [List.length_map] at la
    refine ⟨_, rfl, F, rfl, ⟨acc, SqL.of hF1⟩, fun F2 hF2 => lcFR (H1 := H1) (xs := acc) (ds := ms.map fun z => best (netW ms bs).2 z y) (by rw [List.length_map, la]) walk_list (R := fun H v i => v = V.int i) (fun t h => h) (fun o => o.isSome) (fun o => -((o.map Way.t).getD 0)) (by omega) (fun H' e => SqL.of (e _ _ hF1)) (fun _ => rfl) ?_ ?_ hF2 ?_⟩
    · intro i v o hv ho H' e' Q' q'
      have O := A1.2 i v o hv ho
      have q2 := q' H' (Ex.refl _)
      cases o with
      | none =>
        obtain rfl : v = .non := O
        exact ⟨_, rfl, rfl, _, rfl, q2⟩
      | some u =>
        obtain ⟨p, q3, us3, rfl, _⟩ := (O : WayAt K H1 v u)
        exact ⟨_, rfl, rfl, _, rfl, q2⟩
    · intro i v o hv ho hs H' e' Q' q'
      have O := A1.2 i v o hv ho
      cases o with
      | none => cases hs
      | some u =>
        obtain ⟨p, q3, us3, rfl, hp, _⟩ := (O : WayAt K H1 v u)
        exact ⟨_, rfl, p, _, 0, _, rfl, rfl, ex_t e' hp, at_lit (n := 0) rfl rfl, _, rfl, q' _ _ (Ex.refl _) rfl⟩
    intro H2 acc2 e2 hF22 A2
    have es : acc2 = (tmL (netW ms bs).2 ms y).map V.int := by
      have e0 : ((ms.map fun z => best (netW ms bs).2 z y).filter fun o => o.isSome).map (fun o => -((o.map Way.t).getD 0)) = tmL (netW ms bs).2 ms y := by
        exact tmL_eq _ ms y
      rw [e0] at A2
      apply List.ext_getElem?
      intro i
      rw [List.getElem?_map]
      cases h1 : (tmL (netW ms bs).2 ms y)[i]? with
      | none =>
        have := A2.1
        rw [List.getElem?_eq_none_iff] at h1
        exact List.getElem?_eq_none_iff.mpr (by omega)
      | some k =>
        have hi := (List.getElem?_eq_some_iff.mp h1).1
        have hi2 : i < acc2.length := by rw [A2.1]; exact hi
        have := A2.2 i _ k (List.getElem?_eq_getElem hi2) h1
        rw [List.getElem?_eq_getElem hi2, this]
        rfl
    refine ⟨F2, tmL (netW ms bs).2 ms y, rfl, SqL.of (by rw [hF22, es]), List.length_pos_of_mem (zero_in ym), fun k hk hu => ?_⟩
    rw [tm_is ym hk hu]
    exact fin _ (e1.trans e2)
theorem ok_least (T : TX K mg a) (D : FDS K a d) (R : ER K mg P a fL fN fU fI) (Z : EW K a) (M : CN K mg a.cT f0 D0 T0) (N : NM K a.cT fK fT fH fA fn dK dT dH dA dn) (L : NL K a.cT fB fO dB dO) : FnOk P w K mg base (L2N.CX P w) 3 fB dB ["self"] (spLeast K a) := by
  have GK := ok_check (P := P) (w := w) (base := base) T D R M N
  have GO := ok_least_of (P := P) (w := w) (mg := mg) (base := base) T D Z M L
  refine NX.okX L.B1.F sc_Net_least (fun vs H Q E h => ?_) (fun cdv A outer s H vs Q E hr h => ?_)
  · obtain ⟨q, bs, ms, rfl, _⟩ := h
    rfl
  · obtain ⟨q, bs, ms, rfl, NA, l20, CE, fin⟩ := h
    have hr2 : Room 1 _ := hr.mono (by decide)
    have hr3 : Room 2 _ := hr.mono (by decide)
    refine ⟨_, (pss_cons (ps_expr (KW.pe_methR0 (pv 0) M.cl N.K1.mt GK hr2 (L2N.passes_call (L2N.takes_of rfl rfl rfl rfl) (fun _ _ _ _ h => h))))
        (pss_one (ps_ret (pe_callTy call_tuple_of (by rfl) T.b_tuple (by decide +kernel) (pa_cons (pe_lc (own := [("name", 1)]) (g := gName 1) (tt := tYes) rfl sc_Net_least.nd (pi_tup (pe_fldK (K := K) (pv 0) rfl)) (blkOk_by (N := ["self", "name"]) (sc := defScope s_Net_least) (by decide +kernel)) (fun _ _ _ _ _ => (pg_name (i := 1) sc_Net_least.nd rfl (Or.inl rfl))) (fun _ _ _ _ _ => pts_nil) (fun _ _ _ _ _ => (pe_tup (pa_cons (pv 1) (pa_cons (pe_meth (pv 0) M.cl L.O1.mt GO hr3 L.BO .nil pass0 (pa_cons (pv 1) pa_nil)) pa_nil))))) pa_nil))))), ?_⟩
    have big : 100000 ≤ sizeLine := by decide
    obtain ⟨dx, bo, mo, rv, dd, mv, us, hq, hbo, RA, hmo, RG, WS, MN⟩ := id NA
    refine ⟨_, rfl, q, dx, _, rfl, hq, rfl, ?_⟩
    dsimp only [tNil]
    refine ⟨[.ref q], [], rfl, rfl, (by show 0 ≤ sizeLine; omega), fun p hp => ?_⟩
    have e1 := Ex.new (o := .tup []) hp
    refine ⟨q, p, bs, ms, [], rfl, NA.ex e1, upd_same, CE.ex hq e1, fun ck H2 e2 => ?_⟩
    have e12 := e1.trans e2
    refine ⟨_, rfl, q, a.cT, dx, _, _, rfl, e12 _ _ hq, M.cl, M.n2, rfl, mo, rfl, ⟨_, ex_t e12 hmo⟩, fun F hF => lcFR (H1 := H2) (xs := ms.map V.str) (ds := ms) (by simp) walk_tup (R := PrAt) (fun t h => PrAt.tk t.tk h) (fun _ => true) (fun z => (z, tm (netW ms bs).2 ms z)) (by simp; omega) (fun H' e => ex_t (e12.trans e) hmo) (fun _ => rfl) ?_ ?_ hF ?_⟩
    · intro i v x hv hx H' e' Q' q'
      exact q' H' (Ex.refl _)
    · intro i v x hv hx _ H' e' Q' q'
      rw [List.getElem?_map, hx] at hv
      cases hv
      have xm := List.mem_of_getElem? hx
      refine ⟨_, rfl, _, rfl, q, dx, _, rfl, e' _ _ (e12 _ _ hq), rfl, _, rfl, ?_⟩
      dsimp only [tNil]
      refine ⟨q, x, bs, ms, rfl, NA.ex (e12.trans e'), l20, xm, fun H3 e3 => ⟨(by show 2 ≤ sizeLine; omega), fun p2 hp2 => q' _ _ (e3.trans (Ex.new hp2)) ⟨p2, rfl, upd_same⟩⟩⟩
    intro H3 acc e3 hF3 A3
    rw [show (ms.filter fun _ => true) = ms from List.filter_eq_self.mpr fun _ _ => rfl] at A3
    refine ⟨F, acc, rfl, .inl ⟨SqL.of hF3, fun t ht => ?_⟩⟩
    have e4 := Ex.new (o := .tup acc) ht
    exact fin ck.1 _ _ ((e12.trans e3).trans e4) ⟨t, acc, rfl, SqT.of upd_same, A3.mono fun _ _ g => PrAt.tk (TK.ex e4) g⟩
end
end N4
set_option maxRecDepth 100000
set_option maxHeartbeats 8000000
namespace N4
open PySem L2 Evl GP HR SC SetM SetH
def spFull (K : PySem.W.Frag) : Sp := fun vs H Q _ => ∃ (r d : Addr) (us : List V) (ds : List Row) (xs : List Str) (f : Str → Int), vs = [.ref r, .ref d] ∧ SqL K H r us ∧ RowsAt H us ds ∧ ds.length ≤ 1000 ∧ Hts d xs f H ∧ (∀ b ∈ ds, b.1 ∈ xs ∧ b.2.1 ∈ xs) ∧
  ∀ H', Ex H H' → Q (.bl (ds.all (okRow f))) H'
def spTimes (K : PySem.W.Frag) : Sp := fun vs H Q _ => ∃ (v : V) (l : Addr) (T : Str → Int) (ks : List Str), vs = [v, .ref l] ∧ TmAt K H v T ks ∧ SqL K H l (ks.map V.str) ∧ ks.length ≤ 20 ∧ (∀ y ∈ ks, 0 ≤ T y) ∧
  ∀ (d : Addr) H', H d = none → Ex H H' → Hts d ks T H' → Q (.ref d) H'
section
variable {P : Program} {w : World} {K : PySem.W.Frag} {mg : Str → Option Value} {base : Heap} {a : Ad} {d : Fd}
def prD (p : Str × Int) : PyData := .tuple [.str p.1, .int p.2]
theorem PrAt.dp {H : Hp} {v : V} {p : Str × Int} (h : PrAt H v p) : Dp K H v (prD p) := let ⟨q, h1, h2⟩ := h; h1 ▸ .tup (SqT.of h2) (.cons (.str _) (.cons (.int _) .nil))
theorem prs_dp {H : Hp} : ∀ {us : List V} {ps : List (Str × Int)}, LAt PrAt H us ps → DpAll K H us (ps.map prD)
  | [], [], _ => .nil
  | [], _ :: _, A => by have := A.1; simp at this
  | _ :: _, [], A => by have := A.1; simp at this
  | u :: us, p :: ps, A => .cons (A.2 0 u p rfl rfl).dp (prs_dp ⟨Nat.succ.inj A.1, fun j v d h1 h2 => A.2 (j + 1) v d h1 h2⟩)
theorem TmAt.dp {H : Hp} {v : V} {Tm : Str → Int} {ks : List Str} (h : TmAt K H v Tm ks) : Dp K H v (.tuple ((tmP Tm ks).map prD)) := let ⟨t, us, h1, h2, h3⟩ := h; h1 ▸ .tup h2 (prs_dp h3)
theorem Hts.get {d : Addr} {xs : List Str} {f : Str → Int} {H : Hp} (h : Hts d xs f H) {x : Str} (hx : x ∈ xs) : DGet H d (kV (Sum.inr x)) (some (.int (f x))) := by
  obtain ⟨kvs, h1, h2, _⟩ := h.at_
  rw [← h2 x hx]
  exact DGet.k h1
theorem Hts.ex {d : Addr} {xs : List Str} {f : Str → Int} {H H' : Hp} (h : Hts d xs f H) (e : Ex H H') : Hts d xs f H' := let ⟨kvs, h1, h2⟩ := h.at_; ⟨kvs, e _ _ h1, h2⟩
theorem ok_law_fulfilled (T : TX K mg a) (D : FDS K a d) : FnOk P w K mg base CX0 1 a.a_law_fulfilled d.a_law_fulfilled ["rows", "times"] (spFull K) := by
  refine D.F__law_fulfilled.ok sc_law_fulfilled (fun vs H Q E h => ?_) (fun cdv A outer s H vs Q E hr h => ?_)
  · obtain ⟨r, d, us, ds, xs, f, rfl, _⟩ := h
    rfl
  · obtain ⟨r, d, us, ds, xs, f, rfl, hr1, R, l10, HT, sub, q⟩ := h
    refine ⟨_, (pss_one (ps_ret (pe_callB (cr_all rfl) (by rfl) T.b_all (by decide +kernel) (pa_cons (pe_lc (own := [("row", 2)]) (g := gName 2) (tt := tYes) (te := tOp (rI0 fun i j => .bl (decide (i ≤ j))) (tOp (rI0 fun i j => .int (i - j)) (tDGet (tVar 1) (tOp (rIxT K) (tVar 2) (tC (.int 1)))) (tDGet (tVar 1) (tOp (rIxT K) (tVar 2) (tC (.int 2))))) (tOp (rIxT K) (tVar 2) (tC (.int 3)))) rfl sc_law_fulfilled.nd (pi_list (pv 0)) (blkOk_by (N := ["rows", "times", "row"]) (sc := defScope s_law_fulfilled) (by decide +kernel)) (fun _ _ _ _ _ => (pg_name (i := 2) sc_law_fulfilled.nd rfl (Or.inl rfl))) (fun _ _ _ _ _ => pts_nil) (fun _ _ _ _ _ => (pe_cmpR op_le (pe_op op_sub (pe_dget (hu_of hr) (pv 1) (pe_ix (ix_tupK (K := K)) (pv 2) pe_int (fun _ _ => rfl)) (fun _ _ => rfl)) (pe_dget (hu_of hr) (pv 1) (pe_ix (ix_tupK (K := K)) (pv 2) pe_int (fun _ _ => rfl)) (fun _ _ => rfl))) (pe_ix (ix_tupK (K := K)) (pv 2) pe_int (fun _ _ => rfl)) (nomark _)))) pa_nil)))), ?_⟩
    have big : 100000 ≤ sizeLine := by decide
    have lu := R.1
    refine ⟨_, rfl, r, rfl, ⟨_, hr1⟩, fun F hF => lcAt (H1 := H) (xs := us) walk_list (fun i => .bl (okRow f (ds.getD i ("", "", 0)))) (by omega) (fun H' e => ex_l e hr1) (fun _ => rfl) ?_ hF ?_⟩
    · intro i v hv H' e H2 e2 Q' q'
      obtain ⟨b, p, hb, rfl, hp⟩ := R.get hv
      have g := q' H2 (Ex.refl _)
      rw [getD_at hb] at g
      have h2 := HT.ex (e.trans e2)
      have hm := sub b (List.mem_of_getElem? hb)
      have hp2 := (e.trans e2) _ _ hp
      exact ⟨_, rfl, _, rfl, p, _, 1, _, rfl, rfl, SqT.of hp2, at_lit (n := 1) rfl rfl, d, _, rfl, h2.get hm.1, _, rfl, _, rfl, p, _, 2, _, rfl, rfl, SqT.of hp2, at_lit (n := 2) rfl rfl, d, _, rfl, h2.get hm.2, _, _, rfl, rfl, _, rfl, p, _, 3, _, rfl, rfl, SqT.of hp2, at_lit (n := 3) rfl rfl, _, _, rfl, rfl, g⟩
    intro H2 e2 hF2
    rw [lu, range_map ds fun r => V.bl (okRow f r)] at hF2
    refine ⟨F, ds.map (okRow f), rfl, SqL.of (by rw [hF2, List.map_map]; rfl), ?_⟩
    rw [List.all_map]
    exact q H2 e2
theorem ok_law_times (T : TX K mg a) (D : FDS K a d) : FnOk P w K mg base CX0 2 a.a_law_times d.a_law_times ["told", "known"] (spTimes K) := by
  have G__law_integer : FnOk P w K mg base CX0 1 a.a_law_integer d.a_law_integer ["told"] (spLawInt K) := ok_law_integer T D
  refine D.F__law_times.ok sc_law_times (fun vs H Q E h => ?_) (fun cdv A outer s H vs Q E hr h => ?_)
  · obtain ⟨v, l, Tm, ks, rfl, _⟩ := h
    rfl
  · obtain ⟨v, l, Tm, ks, rfl, TM, hl, l20, pos, fin⟩ := h
    refine ⟨_, (pss_cons (ps_if (PW.pt (pw_or (pt_not (pt_val (pe_callB call_isi (by rfl) T.b_isinstance (by decide +kernel) (pa_cons (pv 0) (pa_cons (pe_bltn (v := .ty "tuple") (by rfl) T.b_tuple (by decide +kernel) rfl) pa_nil))))) (pw_or1 (pt_cmpR op_ne (pe_callB call_len_seq (by rfl) T.b_len (by decide +kernel) (pa_cons (pv 0) pa_nil)) (pe_callB call_len_seq (by rfl) T.b_len (by decide +kernel) (pa_cons (pv 1) pa_nil)) (nomark _))))) (pss_one (ps_ret pe_non)) pss_nil)
        (pss_cons (ps_set (i := 2) sc_law_times.nd rfl (Or.inl rfl) pe_dnewK)
        (pss_cons (ps_for PassesOwn.never rfl (pi_range1 rfl T.b_range (pa_cons (pe_callB call_len_seq (by rfl) T.b_len (by decide +kernel) (pa_cons (pv 1) pa_nil)) pa_nil)) (pg_name (i := 3) sc_law_times.nd rfl (Or.inl rfl)) (pss_cons (ps_set (i := 4) sc_law_times.nd rfl (Or.inl rfl) (pe_ix ix_tup (pv 0) (pv 3) (fun _ _ => rfl)))
        (pss_cons (ps_if (PW.pt (pw_or (pt_not (pt_val (pe_callB call_isi (by rfl) T.b_isinstance (by decide +kernel) (pa_cons (pv 4) (pa_cons (pe_bltn (v := .ty "tuple") (by rfl) T.b_tuple (by decide +kernel) rfl) pa_nil))))) (pw_or (pt_cmpR op_ne (pe_callB call_len_seq (by rfl) T.b_len (by decide +kernel) (pa_cons (pv 4) pa_nil)) pe_int (nomark _)) (pw_or1 (pt_cmpR op_ne (pe_ix ix_tup (pv 4) pe_int (fun _ _ => rfl)) (pe_ix (ix_listK (K := K)) (pv 1) (pv 3) (fun _ _ => rfl)) (nomark _)))))) (pss_one (ps_ret pe_non)) pss_nil)
        (pss_cons (ps_if (PW.pt (pw_or (pt_not (pt_val (pe_call G__law_integer (hr.mono (by decide)) rfl T.f__law_integer T.k__law_integer D.B__law_integer .nil pass0 (pa_cons (pe_ix ix_tup (pv 4) pe_int (fun _ _ => rfl)) pa_nil)))) (pw_or1 (pt_cmpR op_lt (pe_ix ix_tup (pv 4) pe_int (fun _ _ => rfl)) pe_int (nomark _))))) (pss_one (ps_ret pe_non)) pss_nil)
        (pss_one (ps_dput (hu_of hr) (pv 2) (pe_ix (ix_listK (K := K)) (pv 1) (pv 3) (fun _ _ => rfl)) (pe_ix ix_tup (pv 4) pe_int (fun _ _ => rfl)) rfl))))))
        (pss_one (ps_ret (pv 2)))))), ?_⟩
    have big : 100000 ≤ sizeLine := by decide
    have hd0 := TM.dp
    obtain ⟨t, us, rfl, ht, A1⟩ := TM
    have la := A1.1
    unfold tmP at la
    rw [List.length_map] at la
    have lk : (ks.map V.str).length = ks.length := List.length_map _
    refine ⟨_, rfl, _, _, _, _, _, rfl, .ty "tuple", dp_ty hd0, kit_tuple _, _, rfl, iteF' rfl ?_⟩
    refine ⟨_, rfl, t, us, rfl, .inr ht, _, rfl, l, _, rfl, .inl hl, rfl, _, rfl, iteF' (by rw [lk, la]; simp) ?_⟩
    refine fun d0 hd0 => ?_
    have e1 := Ex.new (o := .dK []) hd0
    refine ⟨_, rfl, l, _, rfl, .inl (ex_l e1 hl), _, rfl, by rw [lk]; omega, by rw [lk]; omega, for_range (lo := 0) (n := (((ks.map V.str).length : Nat) : Int).toNat) (fun i σ' H' => (∃ (o3 o4 : Option V), σ' = [some (.ref t), some (.ref l), some (.ref d0), o3, o4]) ∧ Ex H H' ∧ ∃ kvs : List (Key × V), H' d0 = some (.dK kvs) ∧ kvs.length ≤ i ∧ (∀ x ∈ ks.take i, valV kvs (.inr x) = some (.int (Tm x))) ∧ ∀ kv ∈ kvs, ∃ x ∈ ks, kv.1 = .inr x) ⟨⟨none, none, rfl⟩, e1, [], upd_same, Nat.le_refl _, fun x h => absurd h (by simp), fun kv h => absurd h (by simp)⟩ ?_ ?_⟩
    · rintro i σ' H1 hi ⟨⟨o3, o4, rfl⟩, e2, kvs, hk, kl, all, hks⟩
      have hi2 : i < ks.length := by simpa using hi
      obtain ⟨z, hz⟩ : ∃ z, ks[i]? = some z := ⟨ks[i], List.getElem?_eq_getElem hi2⟩
      have zm := List.mem_of_getElem? hz
      obtain ⟨u, hu⟩ : ∃ u, us[i]? = some u := ⟨us[i]'(by omega), List.getElem?_eq_getElem (by omega)⟩
      obtain ⟨pr, hpr, pq, rfl, hpq⟩ := A1.get hu
      unfold tmP at hpr
      rw [List.getElem?_map, hz] at hpr
      cases hpr
      have hq2 : H1 pq = some (.tup [.str z, .int (Tm z)]) := e2 _ _ hpq
      have e0 : (0 : Int) + (i : Int) = (i : Int) := by omega
      have hp0 : (PrAt (H1)) (.ref pq) (z, Tm z) := ⟨pq, rfl, hq2⟩
      refine ⟨_, rfl, _, rfl, t, us, (0 : Int) + (i : Int), .ref pq, rfl, rfl, ex_t e2 ht, at_lit (n := i) e0 hu, ?_⟩
      refine ⟨_, rfl, _, _, _, _, _, rfl, .ty "tuple", dp_ty hp0.dp, kit_tuple _, _, rfl, iteF' rfl ?_⟩
      refine ⟨_, rfl, pq, _, rfl, .inr (SqT.of hq2), rfl, _, rfl, iteF' rfl ?_⟩
      refine ⟨_, rfl, pq, _, 0, _, rfl, rfl, SqT.of hq2, at_lit (n := 0) rfl rfl, _, rfl, _, rfl, l, _, (0 : Int) + (i : Int), .str z, rfl, rfl, ex_l e2 hl, at_lit (n := i) e0 (by rw [List.getElem?_map, hz]; rfl), rfl, _, rfl, iteF' (by simp) ?_⟩
      refine ⟨_, rfl, pq, _, 1, _, rfl, rfl, SqT.of hq2, at_lit (n := 1) rfl rfl, .int (Tm z), .int (Tm z), rfl, .int _, True.intro, fun H2 e3 => ⟨_, rfl, iteF' rfl ?_⟩⟩
      have hq3 := e3 _ _ hq2
      have hk3 := e3 _ _ hk
      have e23 := e2.trans e3
      have pz := pos z zm
      refine ⟨_, rfl, pq, _, 1, _, rfl, rfl, SqT.of hq3, at_lit (n := 1) rfl rfl, _, _, rfl, rfl, _, rfl, iteF' (decide_eq_false (by omega)) ?_⟩
      refine ⟨_, rfl, pq, _, 1, _, rfl, rfl, SqT.of hq3, at_lit (n := 1) rfl rfl, _, rfl, _, rfl, _, rfl, l, _, (0 : Int) + (i : Int), .str z, rfl, rfl, ex_l e23 hl, at_lit (n := i) e0 (by rw [List.getElem?_map, hz]; rfl), d0, _, rfl, DPut.k (k := Sum.inr z) hk3 (by omega), ⟨_, _, rfl⟩, Ex.mut e23 hd0, _, upd_same, ?_, fun x hx => ?_, keys_ok hks zm⟩
      · have := length_putK kvs (.inr z) (.int (Tm z))
        omega
      · rw [valV_put]
        by_cases e : x = z
        · subst e
          simp
        · rw [if_neg (fun q => e (Sum.inr.inj q))]
          rw [List.take_add_one, hz, Option.toList_some] at hx
          rcases List.mem_append.mp hx with hx | hx
          · exact all x hx
          · exact absurd (List.mem_singleton.mp hx) e
    · rintro σ' H1 ⟨⟨o3, o4, rfl⟩, e2, kvs, hk, kl, all, hks⟩
      have tk : ks.take ((((ks.map V.str).length : Nat) : Int).toNat) = ks := List.take_of_length_le (by simp)
      rw [tk] at all
      exact ⟨_, rfl, fin d0 H1 hd0 e2 ⟨kvs, hk, all, hks, by simp at kl; omega⟩⟩
end
end N4
set_option maxRecDepth 100000
set_option maxHeartbeats 4000000
namespace N4
open PySem L2 Evl GP HR SC SetM SetH
/-! ### all walks that pass no moment twice -/
def lastS : Str → List Row → Str
  | s, [] => s
  | _, r :: p => lastS r.2.1 p
def dsts (p : List Row) : List Str := p.map (·.2.1)
theorem lastS_snoc (s : Str) (p : List Row) (r : Row) : lastS s (p ++ [r]) = r.2.1 := by
  induction p generalizing s with
  | nil => rfl
  | cons b p ih => exact ih _
theorem lastS_get (s : Str) (p : List Row) : (s :: dsts p)[p.length]? = some (lastS s p) := by
  induction p generalizing s with
  | nil => rfl
  | cons b p ih => exact ih _
theorem Wk.last {bs : List Row} : ∀ {p : List Row} {s y : Str}, Wk bs s p y → lastS s p = y
  | [], _, _, h => h
  | b :: p, s, y, ⟨h1, h2, h⟩ => Wk.last (p := p) (s := b.2.1) h
def stepOk (s : Str) (p : List Row) (r : Row) : Bool := decide (r.1 = lastS s p) && !decide (r.2.1 ∈ s :: dsts p)
def nxt (fl : List Row) (s : Str) (p : List Row) : List (List Row) := (fl.filter (stepOk s p)).map fun r => p ++ [r]
def ln (fl : List Row) (s : Str) : Nat → List (List Row)
  | 0 => [[]]
  | i + 1 => (ln fl s i).flatMap (nxt fl s)
def en (fl : List Row) (s : Str) : Nat → List (List Row)
  | 0 => []
  | i + 1 => en fl s i ++ ln fl s (i + 1)
theorem mem_nxt {fl : List Row} {s : Str} {p q : List Row} : q ∈ nxt fl s p ↔ ∃ r ∈ fl, r.1 = lastS s p ∧ r.2.1 ∉ s :: dsts p ∧ q = p ++ [r] := by
  unfold nxt stepOk
  simp only [List.mem_map, List.mem_filter, Bool.and_eq_true, decide_eq_true_eq, Bool.not_eq_true', decide_eq_false_iff_not]
  constructor
  · rintro ⟨r, ⟨h1, h2, h3⟩, rfl⟩
    exact ⟨r, h1, h2, h3, rfl⟩
  · rintro ⟨r, h1, h2, h3, rfl⟩
    exact ⟨r, ⟨h1, h2, h3⟩, rfl⟩
def Sw (fl : List Row) (s : Str) (p : List Row) : Prop := Wk fl s p (lastS s p) ∧ (s :: dsts p).Nodup
theorem Sw.snoc {fl : List Row} {s : Str} {p : List Row} {r : Row} : Sw fl s (p ++ [r]) ↔ Sw fl s p ∧ r ∈ fl ∧ r.1 = lastS s p ∧ r.2.1 ∉ s :: dsts p := by
  have e : s :: dsts (p ++ [r]) = (s :: dsts p) ++ [r.2.1] := by unfold dsts; rw [List.map_append]; rfl
  constructor
  · rintro ⟨h1, h2⟩
    obtain ⟨z, w1, w2, w3, _⟩ := h1.mid
    have ez := w1.last
    subst ez
    rw [e] at h2
    obtain ⟨n1, _, n3⟩ := List.nodup_append.mp h2
    exact ⟨⟨w1, n1⟩, w2, w3, fun h => n3 _ h _ (List.mem_singleton.mpr rfl) rfl⟩
  · rintro ⟨⟨w, n⟩, h1, h2, h3⟩
    refine ⟨?_, ?_⟩
    · rw [lastS_snoc]
      exact w.app (by rw [← h2]; exact Wk.one h1)
    · rw [e]
      exact List.nodup_append.mpr ⟨n, by simp, fun x hx y hy q => h3 (by rw [List.mem_singleton.mp hy] at q; rwa [← q])⟩
theorem mem_ln {fl : List Row} {s : Str} : ∀ {i : Nat} {p : List Row}, p ∈ ln fl s i ↔ Sw fl s p ∧ p.length = i
  | 0, p => by
    simp only [ln, List.mem_singleton, List.length_eq_zero_iff]
    constructor
    · rintro rfl
      exact ⟨⟨rfl, by simp [dsts]⟩, rfl⟩
    · exact fun h => h.2
  | i + 1, p => by
    show p ∈ (ln fl s i).flatMap (nxt fl s) ↔ _
    rw [List.mem_flatMap]
    constructor
    · rintro ⟨q, hq, h⟩
      obtain ⟨sw, l⟩ := mem_ln.mp hq
      obtain ⟨r, h1, h2, h3, rfl⟩ := mem_nxt.mp h
      exact ⟨Sw.snoc.mpr ⟨sw, h1, h2, h3⟩, by rw [List.length_append, l]; rfl⟩
    · rintro ⟨sw, l⟩
      rcases List.eq_nil_or_concat p with rfl | ⟨q, r, rfl⟩
      · simp at l
      · rw [List.concat_eq_append] at sw l ⊢
        obtain ⟨h0, h1, h2, h3⟩ := Sw.snoc.mp sw
        exact ⟨q, mem_ln.mpr ⟨h0, by rw [List.length_append] at l; simpa using l⟩, mem_nxt.mpr ⟨r, h1, h2, h3, rfl⟩⟩
theorem mem_en {fl : List Row} {s : Str} {p : List Row} : ∀ {k : Nat}, p ∈ en fl s k ↔ Sw fl s p ∧ 1 ≤ p.length ∧ p.length ≤ k
  | 0 => by
    simp only [en, List.not_mem_nil, false_iff]
    omega
  | k + 1 => by
    show p ∈ en fl s k ++ ln fl s (k + 1) ↔ _
    rw [List.mem_append, mem_en, mem_ln]
    constructor
    · rintro (⟨a, b, c⟩ | ⟨a, b⟩)
      · exact ⟨a, b, by omega⟩
      · exact ⟨a, by omega, by omega⟩
    · rintro ⟨a, b, c⟩
      by_cases h : p.length = k + 1
      · exact .inr ⟨a, h⟩
      · exact .inl ⟨a, b, by omega⟩
/-! ### how many -/
theorem Sw.row {fl : List Row} {s : Str} {p : List Row} (h : Sw fl s p) : p.Nodup ∧ ∀ b ∈ p, b ∈ fl := by
  refine ⟨?_, fun b hb => h.1.mem b hb⟩
  have := (List.nodup_cons.mp h.2).2
  unfold dsts at this
  exact (List.pairwise_map.mp this).imp fun h e => h (by rw [e])
theorem sub_lenA {α : Type} [DecidableEq α] : ∀ {l m : List α}, l.Nodup → (∀ z ∈ l, z ∈ m) → l.length ≤ m.length := by
  intro l
  induction l with
  | nil => intro m _ _; simp
  | cons a l ih =>
    intro m nd s
    obtain ⟨n1, n2⟩ := List.nodup_cons.mp nd
    have ha := s a List.mem_cons_self
    have := ih (m := m.erase a) n2 fun z hz => (List.mem_erase_of_ne (fun e => n1 (by rw [← e]; exact hz))).mpr (s z (List.mem_cons_of_mem _ hz))
    rw [List.length_erase_of_mem ha] at this
    have := List.length_pos_of_mem ha
    simp only [List.length_cons]
    omega
theorem nxt_len {fl : List Row} {s : Str} {p : List Row} (h : Sw fl s p) (nd : fl.Nodup) : (nxt fl s p).length ≤ fl.length - p.length := by
  obtain ⟨n1, s1⟩ := h.row
  unfold nxt
  rw [List.length_map]
  have := sub_lenA (l := p ++ fl.filter (stepOk s p)) (m := fl) ?_ ?_
  · rw [List.length_append] at this
    omega
  · refine List.nodup_append.mpr ⟨n1, nd.filter _, fun x hx y hy q => ?_⟩
    subst q
    have := (List.mem_filter.mp hy).2
    unfold stepOk at this
    simp only [Bool.and_eq_true, decide_eq_true_eq, Bool.not_eq_true', decide_eq_false_iff_not] at this
    exact this.2 (List.mem_cons_of_mem _ (List.mem_map.mpr ⟨x, hx, rfl⟩))
  · intro z hz
    rcases List.mem_append.mp hz with h | h
    · exact s1 z h
    · exact (List.mem_filter.mp h).1
theorem flat_le {α β : Type} (f : α → List β) (n : Nat) : ∀ (l : List α), (∀ x ∈ l, (f x).length ≤ n) → (l.flatMap f).length ≤ l.length * n
  | [], _ => by simp
  | x :: l, h => by
    rw [List.flatMap_cons, List.length_append, List.length_cons, Nat.succ_mul]
    have := flat_le f n l fun y hy => h y (List.mem_cons_of_mem _ hy)
    have := h x List.mem_cons_self
    omega
def lnB (n : Nat) : Nat → Nat
  | 0 => 1
  | i + 1 => lnB n i * (n - i)
def enB (n : Nat) : Nat → Nat
  | 0 => 0
  | i + 1 => enB n i + lnB n (i + 1)
theorem ln_len {fl : List Row} {s : Str} {n : Nat} (nd : fl.Nodup) (h : fl.length ≤ n) : ∀ i, (ln fl s i).length ≤ lnB n i
  | 0 => Nat.le_refl _
  | i + 1 => by
    refine Nat.le_trans (flat_le (nxt fl s) (n - i) (ln fl s i) fun p hp => ?_) (Nat.mul_le_mul (ln_len nd h i) (Nat.le_refl _))
    obtain ⟨sw, l⟩ := mem_ln.mp hp
    have := nxt_len sw nd
    omega
theorem en_len {fl : List Row} {s : Str} {n : Nat} (nd : fl.Nodup) (h : fl.length ≤ n) : ∀ i, (en fl s i).length ≤ enB n i
  | 0 => Nat.le_refl _
  | i + 1 => by
    show (en fl s i ++ ln fl s (i + 1)).length ≤ _
    rw [List.length_append]
    exact Nat.add_le_add (en_len nd h i) (ln_len nd h (i + 1))
theorem bnds : ∀ i < 8, lnB 12 i ≤ 4000000 ∧ enB 12 i ≤ 5000000 := by decide +kernel
theorem take_flat {α β : Type} (f : α → List β) (l : List α) (j : Nat) : ((l.take j).flatMap f).length ≤ (l.flatMap f).length := by
  conv => rhs; rw [← List.take_append_drop j l, List.flatMap_append, List.length_append]
  omega
/-! ### the best of them -/
def better (s g : Str) (b : Option Way) (p : List Row) : Bool := decide (lastS s p = g) && (match b with | none => true | some u => ltW (wy p) u)
def bestOf (s g : Str) (ps : List (List Row)) : Option Way := ps.foldl (fun b p => if better s g b p = true then some (wy p) else b) none
theorem bestOf_snoc (s g : Str) (ps : List (List Row)) (p : List Row) : bestOf s g (ps ++ [p]) = if better s g (bestOf s g ps) p = true then some (wy p) else bestOf s g ps := by
  unfold bestOf
  rw [List.foldl_append]
  rfl
theorem bestOf_ok (s g : Str) (ps : List (List Row)) : (∀ u, bestOf s g ps = some u → ∃ p ∈ ps, lastS s p = g ∧ u = wy p) ∧ (∀ p ∈ ps, lastS s p = g → ∃ u, bestOf s g ps = some u ∧ leW u (wy p)) := by
  refine snoc_ind (P := fun ps => (∀ u, bestOf s g ps = some u → ∃ p ∈ ps, lastS s p = g ∧ u = wy p) ∧ (∀ p ∈ ps, lastS s p = g → ∃ u, bestOf s g ps = some u ∧ leW u (wy p))) ⟨fun u h => (by cases h), fun p h => absurd h List.not_mem_nil⟩ (fun l a ih => ?_) ps
  obtain ⟨i1, i2⟩ := ih
  rw [bestOf_snoc]
  unfold better
  by_cases h1 : lastS s a = g
  · cases hb : bestOf s g l with
    | none =>
      rw [if_pos (by simp [h1])]
      refine ⟨fun u h => ⟨a, by simp, h1, (Option.some.inj h).symm⟩, fun p hp hg => ?_⟩
      rcases List.mem_append.mp hp with hp | hp
      · obtain ⟨u, h, _⟩ := i2 p hp hg
        rw [hb] at h
        cases h
      · rw [List.mem_singleton.mp hp]
        exact ⟨_, rfl, leW.refl _⟩
    | some v =>
      by_cases h2 : ltW (wy a) v = true
      · rw [if_pos (by simp [h1, h2])]
        refine ⟨fun u h => ⟨a, by simp, h1, (Option.some.inj h).symm⟩, fun p hp hg => ⟨_, rfl, ?_⟩⟩
        rcases List.mem_append.mp hp with hp | hp
        · obtain ⟨u, h, l2⟩ := i2 p hp hg
          rw [hb] at h
          cases h
          exact leW.trans (dlt_asym h2) l2
        · rw [List.mem_singleton.mp hp]
          exact leW.refl _
      · rw [if_neg (by simp [h1, h2])]
        refine ⟨fun u h => ?_, fun p hp hg => ?_⟩
        · obtain ⟨p, hp, h3, h4⟩ := i1 u (by rw [hb]; exact h)
          exact ⟨p, List.mem_append_left _ hp, h3, h4⟩
        · rcases List.mem_append.mp hp with hp | hp
          · obtain ⟨u, h, l2⟩ := i2 p hp hg
            rw [hb] at h
            exact ⟨u, h, l2⟩
          · rw [List.mem_singleton.mp hp]
            exact ⟨v, rfl, by unfold leW; simpa using h2⟩
  · rw [if_neg (by simp [h1])]
    refine ⟨fun u h => ?_, fun p hp hg => ?_⟩
    · obtain ⟨p, hp, h3, h4⟩ := i1 u h
      exact ⟨p, List.mem_append_left _ hp, h3, h4⟩
    · rcases List.mem_append.mp hp with hp | hp
      · exact i2 p hp hg
      · rw [List.mem_singleton.mp hp] at hg
        exact absurd hg h1
theorem best_agree {ms : List Str} {fl : List Row} (mo : MsOk ms fl) (N : NoNeg fl) (l8 : ms.length ≤ 8) {s g : Str} (ne : s ≠ g) : best (netW ms fl).2 s g = bestOf s g (en fl s 7) := by
  have G := ((net_ok mo).none N).2
  obtain ⟨o1, o2⟩ := bestOf_ok s g (en fl s 7)
  unfold best
  rw [if_neg ne]
  generalize (netW ms fl).2 = m at *
  cases hm : m s g with
  | none =>
    cases hb : bestOf s g (en fl s 7) with
    | none => rfl
    | some u =>
      obtain ⟨p, hp, h1, _⟩ := o1 u hb
      obtain ⟨w, h, _⟩ := G.least s g p (by rw [← h1]; exact (mem_en.mp hp).1.1) ne
      rw [hm] at h
      cases h
  | some w =>
    obtain ⟨_, w1, t1, _, gy⟩ := G.sound s g w hm
    have nd := good_simple G N hm
    have lc : w.c.length ≤ 7 := by
      have := sub_len nd fun z hz => by
        rcases List.mem_append.mp hz with hz | hz
        · obtain ⟨b, hb, rfl⟩ := List.mem_map.mp hz
          exact (mo b (w1.mem b hb)).1
        · rw [List.mem_singleton.mp hz]
          exact gy
      rw [List.length_append] at this
      unfold srcs at this
      rw [List.length_map] at this
      simp only [List.length_singleton] at this
      omega
    have lw := w1.last
    rw [w1.places] at nd
    have hin : w.c ∈ en fl s 7 := mem_en.mpr ⟨⟨by rw [lw]; exact w1, nd⟩, by
      cases hc : w.c with
      | nil =>
        rw [hc] at w1
        exact absurd w1 ne
      | cons _ _ => simp, lc⟩
    obtain ⟨u, hu, l1⟩ := o2 w.c hin lw
    obtain ⟨p, hp, h1, rfl⟩ := o1 u hu
    obtain ⟨w', h, l2⟩ := G.least s g p (by rw [← h1]; exact (mem_en.mp hp).1.1) ne
    rw [hm] at h
    cases h
    rw [hu]
    rw [← way_wy t1] at l1
    exact congrArg some (way_same (leW.asym l2 l1))
theorem lat_eq {α : Type} {f : α → V} {H : Hp} {acc : List V} {l : List α} (A : LAt (fun _ v i => v = f i) H acc l) : acc = l.map f := by
  apply List.ext_getElem?
  intro i
  rw [List.getElem?_map]
  cases h1 : l[i]? with
  | none =>
    have := A.1
    rw [List.getElem?_eq_none_iff] at h1
    exact List.getElem?_eq_none_iff.mpr (by omega)
  | some k =>
    have hi := (List.getElem?_eq_some_iff.mp h1).1
    have hi2 : i < acc.length := by rw [A.1]; exact hi
    have := A.2 i _ k (List.getElem?_eq_getElem hi2) h1
    rw [List.getElem?_eq_getElem hi2, this]
    rfl
section
variable {K : PySem.W.Frag} {σ : L2.St} {H1 : Hp} {J : It} {G : Hp → Prop} {te : TE}
theorem lcMR {α β : Type} {xs : List V} {ds : List α} (hd : ds.length = xs.length) (w : Walk J xs.length G (YAt xs)) {R : Hp → V → β → Prop} (hR : ∀ {H H' v b}, Tl H H' → R H v b → R H' v b) (r : α → β) {j : Nat} {vs : List Nat} (hz : xs.length < sizeLine) (hG : ∀ H', Ex H1 H' → G H') (hw : ∀ v, wipe ((wipe σ vs).set j (some v)) vs = wipe σ vs)
    (he : ∀ (i : Nat) (v : V) (x : α), xs[i]? = some v → ds[i]? = some x → ∀ H', Ex H1 H' → ∀ Q : VK, (∀ y H'', Ex H' H'' → R H'' y (r x) → Q y H'') → te ((wipe σ vs).set j (some v)) H' Q)
    {Qd : Hp → Prop} {D : Addr} (hD : H1 D = none) (k : ∀ H' acc, Ex H1 H' → H' D = some (.lst acc) → LAt R H' acc (ds.map r) → Qd H') :
    ∃ W : Nat → Nat → Hp → Prop, (∃ m, W 0 m (upd H1 D (.lst []))) ∧ ∀ i m H, W i m H →
      (J.stop i H ∧ Qd H) ∨ (J.go i H ∧ ∃ Nx : Hp → Prop, (∀ H', Nx H' → ∃ m', m' < m ∧ W (i + 1) m' H') ∧ ∀ x H', J.yld i H x H' → gName j x (wipe σ vs) H' fun σ2 H2 => wipe σ2 vs = wipe σ vs ∧ tYes σ2 H2 fun b H3 =>
        if b = true then te σ2 H3 fun y H4 => ∃ acc, H4 D = some (.lst acc) ∧ acc.length < sizeLine ∧ Nx (upd H4 D (.lst (acc ++ [y]))) else Nx H3) :=
  lcFR (R := R) hd w (fun t h => hR t h) (fun _ => true) r hz hG hw (fun i v x _ _ H' _ Q q => q H' (Ex.refl _)) (fun i v x hv hx _ => he i v x hv hx) hD fun H' acc e h A => k H' acc e h (by
    have e2 : ds.filter (fun _ => true) = ds := List.filter_eq_self.mpr fun _ _ => rfl
    rw [e2] at A
    exact A)
end
theorem chkE_no {a : Ad} {H : Hp} {q : Addr} {ms : List Str} {r : RW} {zs : List Str} {E : XK} (hr : r.1 = none) (hz : ∀ z ∈ zs, z ∈ ms) : ChkE a H q ms r zs E := ⟨fun _ _ _ _ _ _ _ h3 => (by rw [hr] at h3; cases h3), fun _ i z h2 h3 _ => absurd (hz z (List.mem_of_getElem? h2)) h3⟩
theorem seq_cut {t c : TS} {D : Ends} {σ : L2.St} {H : Hp} (Inv : L2.St → Hp → Prop) (h : ∀ N : L2.St → Hp → Prop, (∀ σ' H', Inv σ' H' → N σ' H') → t { nx := N, rt := D.rt, bk := D.bk, ct := D.ct } σ H) (k : ∀ σ' H', Inv σ' H' → c D σ' H') : tSeq t c D σ H := h (c D) k
/-! ### rings -/
theorem stepR_stay (ms : List Str) (ring : List Row) (m : WMap) : ∀ bs : List Row, bs.foldl (stepR ms) (some ring, m) = (some ring, m)
  | [] => rfl
  | b :: bs => stepR_stay ms ring m bs
/-- the ways do not hang on the names -/
theorem best_names {ms ns : List Str} {bs : List Row} (mo : MsOk ms bs) (no : MsOk ns bs) (N : NoNeg bs) (s g : Str) : best (netW ns bs).2 s g = best (netW ms bs).2 s g := by
  have G1 := ((net_ok mo).none N).2
  have G2 := ((net_ok no).none N).2
  unfold best
  by_cases ne : s = g
  · rw [if_pos ne, if_pos ne]
  rw [if_neg ne, if_neg ne]
  generalize (netW ms bs).2 = a at *
  generalize (netW ns bs).2 = b at *
  have key : ∀ {m n : WMap} {xs ys : List Str}, Good xs bs m → Good ys bs n → ∀ w, m s g = some w → ∃ u, n s g = some u ∧ leW u w := fun Gx Gy w h => by
    obtain ⟨_, w1, t1, _⟩ := Gx.sound s g w h
    obtain ⟨u, hu, l⟩ := Gy.least s g w.c w1 ne
    rw [← way_wy t1] at l
    exact ⟨u, hu, l⟩
  cases ha : a s g with
  | none =>
    cases hb : b s g with
    | none => rfl
    | some u =>
      obtain ⟨v, hv, _⟩ := key G2 G1 u hb
      rw [ha] at hv
      cases hv
  | some v =>
    obtain ⟨u, hu, l1⟩ := key G1 G2 v ha
    obtain ⟨v', hv, l2⟩ := key G2 G1 u hu
    rw [ha] at hv
    cases hv
    rw [hu]
    exact congrArg some (way_same (leW.asym l1 l2))
theorem net_ring {ms : List Str} {bs1 bs2 : List Row} {b : Row} {q : Way} (mo : MsOk ms bs1) (N : NoNeg bs1) (h : best (netW ms bs1).2 b.2.1 b.1 = some q) (lt : q.t + b.2.2 < 0) : (netW ms (bs1 ++ b :: bs2)).1 = some (b :: q.c) := by
  have n1 := ((net_ok mo).none N).1
  unfold netW at n1 h ⊢
  rw [List.foldl_append, List.foldl_cons]
  generalize bs1.foldl (stepR ms) (none, fun _ _ => none) = r at *
  obtain ⟨o, m⟩ := r
  obtain rfl : o = none := n1
  have e : stepR ms (none, m) b = (some (b :: q.c), m) := by
    unfold stepR
    dsimp only at h ⊢
    rw [h]
    simp only [lt, if_true]
  rw [e, stepR_stay]
/-- a net's ring: the first bound that closes one, and the best chain back among those before it -/
theorem ring_of {ms : List Str} {bs : List Row} {ring : List Row} (mo : MsOk ms bs) (h : (netW ms bs).1 = some ring) : ∃ bs1 b bs2 q, bs = bs1 ++ b :: bs2 ∧ NoNeg bs1 ∧ best (netW ms bs1).2 b.2.1 b.1 = some q ∧ q.t + b.2.2 < 0 ∧ ring = b :: q.c := by
  have ok := net_ok mo
  generalize hr : netW ms bs = r at *
  obtain ⟨o, m⟩ := r
  obtain rfl : o = some ring := h
  obtain ⟨bs1, b, bs2, q, e, G, N, en, hb, lt, er⟩ := (ok : ∃ bs1 b bs2 q, bs = bs1 ++ b :: bs2 ∧ Good ms bs1 m ∧ NoNeg bs1 ∧ netW ms bs1 = (Option.none, m) ∧ best m b.2.1 b.1 = some q ∧ q.t + b.2.2 < 0 ∧ ring = b :: q.c)
  exact ⟨bs1, b, bs2, q, e, N, by rw [en]; exact hb, lt, er⟩
theorem noneg_of {ms : List Str} {bs : List Row} (mo : MsOk ms bs) (h : (netW ms bs).1 = none) : NoNeg bs := by
  have ok := net_ok mo
  generalize netW ms bs = r at *
  obtain ⟨o, m⟩ := r
  obtain rfl : o = none := h
  exact (ok : Good ms bs m ∧ NoNeg bs).2
end N4
set_option maxRecDepth 100000
set_option maxHeartbeats 4000000
namespace N4
open PySem L2 Evl GP HR SC SetM SetH
/-! ### the table of least sums -/
abbrev Tb := Str → Str → Option Int
def rowT (t : Tb) (r : Row) : Tb := fun u v => if u = r.1 ∧ v = r.2.1 then (match t r.1 r.2.1 with | none => some r.2.2 | some o => if r.2.2 < o then some r.2.2 else some o) else t u v
def relax (t : Tb) (z x y : Str) : Tb := fun u v => if u = x ∧ v = y then (match t x z, t z y with | some a, some b => (match t x y with | none => some (a + b) | some o => if a + b < o then some (a + b) else some o) | _, _ => t x y) else t u v
def t0 : Tb := fun x y => if x = y then some 0 else none
def fy (t : Tb) (z x : Str) (l : List Str) : Tb := l.foldl (fun t y => relax t z x y) t
def fx (ks : List Str) (t : Tb) (z : Str) (l : List Str) : Tb := l.foldl (fun t x => fy t z x ks) t
def fz (ks : List Str) (t : Tb) (l : List Str) : Tb := l.foldl (fun t z => fx ks t z ks) t
def rowsT (l : List Row) : Tb := l.foldl rowT t0
def tab (rows : List Row) (ks : List Str) : Tb := fz ks (rowsT rows) ks
def Le (t t' : Tb) : Prop := ∀ x y v, t x y = some v → ∃ v', t' x y = some v' ∧ v' ≤ v
theorem Le.refl (t : Tb) : Le t t := fun x y v h => ⟨v, h, Int.le_refl _⟩
theorem Le.trans {a b c : Tb} (h : Le a b) (g : Le b c) : Le a c := fun x y v e => by
  obtain ⟨v1, e1, l1⟩ := h x y v e
  obtain ⟨v2, e2, l2⟩ := g x y v1 e1
  exact ⟨v2, e2, Int.le_trans l2 l1⟩
theorem foldl_le {α : Type} (f : Tb → α → Tb) (h : ∀ t a, Le t (f t a)) : ∀ (l : List α) (t : Tb), Le t (l.foldl f t)
  | [], t => Le.refl t
  | a :: l, t => (h t a).trans (foldl_le f h l (f t a))
theorem rowT_le (t : Tb) (r : Row) : Le t (rowT t r) := fun x y v h => by
  unfold rowT
  by_cases e : x = r.1 ∧ y = r.2.1
  · rw [if_pos e]
    rw [e.1, e.2] at h
    rw [h]
    dsimp only
    split
    · exact ⟨_, rfl, by omega⟩
    · exact ⟨_, rfl, Int.le_refl _⟩
  · rw [if_neg e]
    exact ⟨v, h, Int.le_refl _⟩
theorem relax_le (t : Tb) (z x y : Str) : Le t (relax t z x y) := fun u w v h => by
  unfold relax
  by_cases e : u = x ∧ w = y
  · rw [if_pos e]
    rw [e.1, e.2] at h
    rw [h]
    cases h1 : t x z with
    | none => exact ⟨v, rfl, Int.le_refl _⟩
    | some a =>
      cases h2 : t z y with
      | none => exact ⟨v, rfl, Int.le_refl _⟩
      | some b =>
        dsimp only
        split
        · exact ⟨_, rfl, by omega⟩
        · exact ⟨_, rfl, Int.le_refl _⟩
  · rw [if_neg e]
    exact ⟨v, h, Int.le_refl _⟩
theorem fy_le (t : Tb) (z x : Str) (l : List Str) : Le t (fy t z x l) := foldl_le _ (fun t y => relax_le t z x y) l t
theorem fx_le (ks : List Str) (t : Tb) (z : Str) (l : List Str) : Le t (fx ks t z l) := foldl_le _ (fun t x => fy_le t z x ks) l t
def At (t : Tb) (x y : Str) (s : Int) : Prop := ∃ v, t x y = some v ∧ v ≤ s
theorem At.le {t t' : Tb} {x y : Str} {s : Int} (h : At t x y s) (g : Le t t') : At t' x y s := by
  obtain ⟨v, e, l⟩ := h
  obtain ⟨v', e', l'⟩ := g x y v e
  exact ⟨v', e', Int.le_trans l' l⟩
theorem relax_at {t : Tb} {z x y : Str} {a b : Int} (h1 : At t x z a) (h2 : At t z y b) : At (relax t z x y) x y (a + b) := by
  obtain ⟨v1, e1, l1⟩ := h1
  obtain ⟨v2, e2, l2⟩ := h2
  unfold relax At
  dsimp only
  rw [if_pos ⟨rfl, rfl⟩, e1, e2]
  cases h : t x y with
  | none => exact ⟨_, rfl, by omega⟩
  | some o =>
    dsimp only
    split
    · exact ⟨_, rfl, by omega⟩
    · exact ⟨_, rfl, by omega⟩
theorem round {ks : List Str} {t : Tb} {z x y : Str} {a b : Int} (hx : x ∈ ks) (hy : y ∈ ks) (h1 : At t x z a) (h2 : At t z y b) : At (fx ks t z ks) x y (a + b) := by
  obtain ⟨l1, l2, e⟩ := List.append_of_mem hx
  obtain ⟨m1, m2, g⟩ := List.append_of_mem hy
  have ey : ∀ t', Le t t' → At (fy t' z x ks) x y (a + b) := fun t' lt => by
    unfold fy
    rw [g, List.foldl_append, List.foldl_cons]
    have l := foldl_le (fun t y => relax t z x y) (fun t y => relax_le t z x y) m1 t'
    exact (relax_at (h1.le (lt.trans l)) (h2.le (lt.trans l))).le (foldl_le (fun t y => relax t z x y) (fun t y => relax_le t z x y) m2 _)
  have : fx ks t z ks = l2.foldl (fun t x => fy t z x ks) (fy (l1.foldl (fun t x => fy t z x ks) t) z x ks) := by
    unfold fx
    conv => lhs; rw [show ks.foldl (fun t x => fy t z x ks) t = (l1 ++ x :: l2).foldl (fun t x => fy t z x ks) t by rw [← e]]
    rw [List.foldl_append, List.foldl_cons]
  rw [this]
  exact (ey _ (foldl_le (fun t x => fy t z x ks) (fun t x => fy_le t z x ks) l1 t)).le (foldl_le (fun t x => fy t z x ks) (fun t x => fy_le t z x ks) l2 _)
def inner (c : List Row) : List Str := srcs c.tail
theorem srcs_app (c d : List Row) : srcs (c ++ d) = srcs c ++ srcs d := List.map_append
theorem fz_snoc (ks : List Str) (t : Tb) (l : List Str) (z : Str) : fz ks t (l ++ [z]) = fx ks (fz ks t l) z ks := by
  unfold fz
  rw [List.foldl_append]
  rfl
theorem walks_in {rows : List Row} {ks : List Str} {t : Tb} (mo : ∀ b ∈ rows, b.1 ∈ ks ∧ b.2.1 ∈ ks) (b0 : ∀ x ∈ ks, At t x x 0) (b1 : ∀ b ∈ rows, At t b.1 b.2.1 b.2.2) (Z : List Str) :
    ∀ (x y : Str) (c : List Row), x ∈ ks → y ∈ ks → Wk rows x c y → (∀ z ∈ inner c, z ∈ Z) → (inner c).Nodup → At (fz ks t Z) x y (sumR c) := by
  refine snoc_ind (P := fun Z => ∀ (x y : Str) (c : List Row), x ∈ ks → y ∈ ks → Wk rows x c y → (∀ z ∈ inner c, z ∈ Z) → (inner c).Nodup → At (fz ks t Z) x y (sumR c)) ?_ ?_ Z
  · intro x y c hx hy wk sub _
    match c, wk, sub with
    | [], wk, _ =>
      have wk : x = y := wk
      subst wk
      exact b0 x hx
    | [b], wk, _ =>
      obtain ⟨h1, h2, h3⟩ := wk
      have h3 : b.2.1 = y := h3
      subst h2 h3
      have := b1 b h1
      show At _ _ _ (b.2.2 + 0)
      rwa [Int.add_zero]
    | b :: d :: c, _, sub => exact absurd (sub d.1 (by unfold inner srcs; simp)) List.not_mem_nil
  · intro Z z ih x y c hx hy wk sub nd
    rw [fz_snoc]
    by_cases hz : z ∈ inner c
    · cases c with
      | nil => exact absurd hz List.not_mem_nil
      | cons b c' =>
        have hz : z ∈ srcs c' := hz
        have nd : (srcs c').Nodup := nd
        have sub : ∀ u ∈ srcs c', u ∈ Z ++ [z] := sub
        obtain ⟨c1, d, c2, rfl, ed⟩ := src_split hz
        have wk' : Wk rows x ((b :: c1) ++ (d :: c2)) y := wk
        obtain ⟨z', w1, w2⟩ := wk'.mid
        have ez : d.1 = z' := w2.2.1
        have ez' : z' = z := by rw [← ez, ed]
        subst ez'
        have es : srcs (c1 ++ d :: c2) = srcs c1 ++ z' :: srcs c2 := by rw [srcs_app]; show _ ++ (d.1 :: srcs c2) = _; rw [ed]
        rw [es] at nd sub
        obtain ⟨n1, n2, n3⟩ := List.nodup_append.mp nd
        obtain ⟨n4, n5⟩ := List.nodup_cons.mp n2
        have zk : z' ∈ ks := by
          have := mo d w2.1
          rw [ed] at this
          exact this.1
        have s1 : ∀ u ∈ srcs c1, u ∈ Z := fun u hu => by
          rcases List.mem_append.mp (sub u (List.mem_append_left _ hu)) with h | h
          · exact h
          · exact absurd (List.mem_singleton.mp h) (n3 u hu z' List.mem_cons_self)
        have s2 : ∀ u ∈ srcs c2, u ∈ Z := fun u hu => by
          rcases List.mem_append.mp (sub u (List.mem_append_right _ (List.mem_cons_of_mem _ hu))) with h | h
          · exact h
          · exact absurd (List.mem_singleton.mp h ▸ hu) n4
        have a1 := ih x z' (b :: c1) hx zk w1 s1 n1
        have a2 := ih z' y (d :: c2) zk hy w2 s2 n5
        have := round hx hy a1 a2
        rwa [← sumR_app] at this
    · refine (ih x y c hx hy wk (fun u hu => ?_) nd).le (fx_le ks _ z ks)
      rcases List.mem_append.mp (sub u hu) with h | h
      · exact h
      · exact absurd (List.mem_singleton.mp h ▸ hu) hz
/-! ### what stands in the table is the sum of a walk -/
def Snd (rows : List Row) (t : Tb) : Prop := ∀ x y v, t x y = some v → ∃ c, Wk rows x c y ∧ sumR c = v
theorem foldl_snd {α : Type} {rows : List Row} (f : Tb → α → Tb) : ∀ (l : List α) (t : Tb), (∀ t, ∀ a ∈ l, Snd rows t → Snd rows (f t a)) → Snd rows t → Snd rows (l.foldl f t)
  | [], t, _, s => s
  | a :: l, t, h, s => foldl_snd f l (f t a) (fun t b hb => h t b (List.mem_cons_of_mem _ hb)) (h t a List.mem_cons_self s)
theorem rowT_snd {rows : List Row} {t : Tb} {r : Row} (hr : r ∈ rows) (s : Snd rows t) : Snd rows (rowT t r) := fun x y v h => by
  unfold rowT at h
  by_cases e : x = r.1 ∧ y = r.2.1
  · rw [if_pos e] at h
    have one : ∃ c, Wk rows x c y ∧ sumR c = r.2.2 := ⟨[r], by rw [e.1, e.2]; exact Wk.one hr, Int.add_zero _⟩
    cases ho : t r.1 r.2.1 with
    | none =>
      rw [ho] at h
      rw [← Option.some.inj h]
      exact one
    | some o =>
      rw [ho] at h
      dsimp only at h
      split at h
      · rw [← Option.some.inj h]
        exact one
      · rw [← Option.some.inj h, e.1, e.2]
        exact s _ _ _ ho
  · rw [if_neg e] at h
    exact s x y v h
theorem relax_snd {rows : List Row} {t : Tb} {z x y : Str} (s : Snd rows t) : Snd rows (relax t z x y) := fun u w v h => by
  unfold relax at h
  by_cases e : u = x ∧ w = y
  · rw [if_pos e] at h
    rw [e.1, e.2]
    cases h1 : t x z with
    | none => rw [h1] at h; exact s _ _ _ h
    | some a =>
      cases h2 : t z y with
      | none => rw [h1, h2] at h; exact s _ _ _ h
      | some b =>
        rw [h1, h2] at h
        obtain ⟨c1, w1, e1⟩ := s _ _ _ h1
        obtain ⟨c2, w2, e2⟩ := s _ _ _ h2
        have both : ∃ c, Wk rows x c y ∧ sumR c = a + b := ⟨c1 ++ c2, w1.app w2, by rw [sumR_app, e1, e2]⟩
        cases ho : t x y with
        | none =>
          rw [ho] at h
          rw [← Option.some.inj h]
          exact both
        | some o =>
          rw [ho] at h
          dsimp only at h
          split at h
          · rw [← Option.some.inj h]
            exact both
          · rw [← Option.some.inj h]
            exact s _ _ _ ho
  · rw [if_neg e] at h
    exact s u w v h
theorem tab_snd (rows : List Row) (ks : List Str) : Snd rows (tab rows ks) := by
  unfold tab fz fx fy rowsT
  refine foldl_snd _ ks _ (fun t z _ s => foldl_snd _ ks _ (fun t x _ s => foldl_snd _ ks _ (fun t y _ s => relax_snd s) s) s) ?_
  refine foldl_snd _ rows _ (fun t r hr s => rowT_snd hr s) ?_
  intro x y v h
  unfold t0 at h
  split at h
  · rename_i e
    exact ⟨[], e, Option.some.inj h⟩
  · cases h
theorem rowsT_at (rows : List Row) : (∀ x, At (rowsT rows) x x 0) ∧ ∀ b ∈ rows, At (rowsT rows) b.1 b.2.1 b.2.2 := by
  refine ⟨fun x => ?_, fun b hb => ?_⟩
  · have h0 : At t0 x x 0 := ⟨0, if_pos rfl, Int.le_refl _⟩
    exact h0.le (foldl_le rowT rowT_le rows t0)
  · obtain ⟨l1, l2, rfl⟩ := List.append_of_mem hb
    unfold rowsT
    rw [List.foldl_append, List.foldl_cons]
    refine At.le ?_ (foldl_le rowT rowT_le l2 _)
    generalize l1.foldl rowT t0 = t
    unfold rowT At
    dsimp only
    rw [if_pos ⟨rfl, rfl⟩]
    cases h : t b.1 b.2.1 with
    | none => exact ⟨_, rfl, Int.le_refl _⟩
    | some o =>
      dsimp only
      split
      · exact ⟨_, rfl, Int.le_refl _⟩
      · exact ⟨_, rfl, by omega⟩
theorem tab_at {rows : List Row} {ks : List Str} (mo : ∀ b ∈ rows, b.1 ∈ ks ∧ b.2.1 ∈ ks) {x y : Str} {c : List Row} (hx : x ∈ ks) (hy : y ∈ ks) (wk : Wk rows x c y) (nd : (inner c).Nodup) : At (tab rows ks) x y (sumR c) := by
  obtain ⟨h0, h1⟩ := rowsT_at rows
  refine walks_in mo (fun x _ => h0 x) h1 ks x y c hx hy wk (fun z hz => ?_) nd
  unfold inner srcs at hz
  obtain ⟨b, hb, rfl⟩ := List.mem_map.mp hz
  exact (mo b (wk.mem b (List.mem_of_mem_tail hb))).1
/-! ### a negative walk from a moment to itself -/
theorem not_nodup : ∀ {c : List Row}, ¬ (srcs c).Nodup → ∃ c1 d c2 e c3, c = c1 ++ d :: (c2 ++ e :: c3) ∧ e.1 = d.1
  | [], h => absurd (by unfold srcs; simp) h
  | b :: c, h => by
    by_cases hb : b.1 ∈ srcs c
    · obtain ⟨c2, e, c3, rfl, ee⟩ := src_split hb
      exact ⟨[], b, c2, e, c3, rfl, ee⟩
    · have h2 : ¬ (srcs c).Nodup := fun n => h (List.nodup_cons.mpr ⟨hb, n⟩)
      obtain ⟨c1, d, c2, e, c3, rfl, ee⟩ := not_nodup h2
      exact ⟨b :: c1, d, c2, e, c3, rfl, ee⟩
theorem neg_cycle {rows : List Row} : ∀ (n : Nat) (x : Str) (c : List Row), c.length ≤ n → Wk rows x c x → sumR c < 0 → ∃ x c, Wk rows x c x ∧ sumR c < 0 ∧ (inner c).Nodup
  | 0, x, c, l, _, s => by
    have : c = [] := List.length_eq_zero_iff.mp (by omega)
    subst this
    exact absurd s (by simp [sumR])
  | n + 1, x, c, l, wk, s => by
    by_cases nd : (inner c).Nodup
    · exact ⟨x, c, wk, s, nd⟩
    · cases c with
      | nil => exact absurd (by unfold inner srcs; simp) nd
      | cons b c' =>
        obtain ⟨c1, d, c2, e, c3, rfl, ee⟩ := not_nodup nd
        have wk' : Wk rows x ((b :: c1) ++ ((d :: c2) ++ (e :: c3))) x := by simpa using wk
        obtain ⟨z, w1, w23⟩ := wk'.mid
        obtain ⟨z', w2, w3⟩ := w23.mid
        have e1 : d.1 = z := w2.2.1
        have e2 : e.1 = z' := w3.2.1
        have ez : z' = z := by rw [← e2, ee, e1]
        subst ez
        have es : sumR (b :: (c1 ++ d :: (c2 ++ e :: c3))) = sumR (d :: c2) + sumR ((b :: c1) ++ (e :: c3)) := by
          rw [show b :: (c1 ++ d :: (c2 ++ e :: c3)) = (b :: c1) ++ ((d :: c2) ++ (e :: c3)) by simp]
          rw [sumR_app, sumR_app, sumR_app]
          omega
        rw [es] at s
        simp only [List.length_cons, List.length_append] at l
        by_cases neg : sumR (d :: c2) < 0
        · exact neg_cycle n z' (d :: c2) (by simp only [List.length_cons]; omega) w2 neg
        · exact neg_cycle n x ((b :: c1) ++ (e :: c3)) (by simp only [List.length_cons, List.length_append]; omega) (w1.app w3) (by omega)
theorem tab_self {rows : List Row} {ks : List Str} {x : Str} : At (tab rows ks) x x 0 := by
  have h0 := (rowsT_at rows).1 x
  exact h0.le (foldl_le _ (fun t z => fx_le ks t z ks) ks _)
def diag (rows : List Row) (ks : List Str) (x : Str) : Int := (tab rows ks x x).getD 0
theorem diag_eq (rows : List Row) (ks : List Str) (x : Str) : tab rows ks x x = some (diag rows ks x) := by
  obtain ⟨v, h, _⟩ := tab_self (rows := rows) (ks := ks) (x := x)
  unfold diag
  rw [h]
  rfl
/-- whether the table tells that there is a negative ring -/
def brok (rows : List Row) (ks : List Str) : Bool := ks.any fun x => decide (diag rows ks x < 0)
theorem brok_iff {rows : List Row} {ks : List Str} (mo : ∀ b ∈ rows, b.1 ∈ ks ∧ b.2.1 ∈ ks) : brok rows ks = false ↔ NoNeg rows := by
  constructor
  · intro h x c wk
    rcases (by omega : sumR c < 0 ∨ 0 ≤ sumR c) with s | s
    · exfalso
      obtain ⟨x, c, wk, s, nd⟩ := neg_cycle c.length x c (Nat.le_refl _) wk s
      have hx : x ∈ ks := by
        cases c with
        | nil => exact absurd s (by simp [sumR])
        | cons b c =>
          have := (mo b wk.1).1
          rw [wk.2.1] at this
          exact this
      obtain ⟨v, hv, lv⟩ := tab_at mo hx hx wk nd
      rw [diag_eq] at hv
      have hd := Option.some.inj hv
      have := List.any_eq_false.mp h x hx
      exact this (decide_eq_true (by omega))
    · exact s
  · intro N
    refine List.any_eq_false.mpr fun x hx h => ?_
    have lt := of_decide_eq_true h
    obtain ⟨c, wk, s⟩ := tab_snd rows ks x x _ (diag_eq rows ks x)
    have := N x c wk
    omega
theorem tab_best {rows : List Row} {ks : List Str} (mo : MsOk ks rows) (N : NoNeg rows) {x y : Str} (hx : x ∈ ks) (hy : y ∈ ks) : tab rows ks x y = (best (netW ks rows).2 x y).map (·.t) := by
  obtain ⟨n1, G⟩ := (net_ok mo).none N
  have mo' : ∀ b ∈ rows, b.1 ∈ ks ∧ b.2.1 ∈ ks := fun b hb => ⟨(mo b hb).1, (mo b hb).2.1⟩
  have low : ∀ w, best (netW ks rows).2 x y = some w → ∃ v, tab rows ks x y = some v ∧ v ≤ w.t := fun w h => by
    obtain ⟨wk, wt⟩ := G.bsd h
    rw [wt]
    refine tab_at mo' hx hy wk ?_
    by_cases e : x = y
    · unfold best at h
      rw [if_pos e] at h
      rw [← Option.some.inj h]
      unfold inner srcs
      simp
    · have h' : (netW ks rows).2 x y = some w := by
        unfold best at h
        rwa [if_neg e] at h
      have nd := good_simple G N h'
      exact ((List.nodup_append.mp nd).1).sublist (by unfold inner srcs; exact (List.tail_sublist w.c).map _)
  cases ht : tab rows ks x y with
  | none =>
    cases hb : best (netW ks rows).2 x y with
    | none => rfl
    | some w =>
      obtain ⟨v, hv, _⟩ := low w hb
      rw [ht] at hv
      cases hv
  | some v =>
    obtain ⟨c, wk, s⟩ := tab_snd rows ks x y v ht
    obtain ⟨w, hw, lw⟩ := G.bl N wk
    have l1 : w.t ≤ v := by have := lw.le; rw [← s]; exact this
    obtain ⟨v', hv', l2⟩ := low w hw
    rw [ht] at hv'
    cases hv'
    rw [hw]
    show some v = some w.t
    congr 1
    omega
end N4
set_option maxRecDepth 100000
set_option maxHeartbeats 8000000
namespace N4
open PySem L2 Evl GP HR SC SetM SetH
theorem rows_eqv (c : List Row) : PyData.eqv (.tuple (c.map bD)) (.tuple (c.map bD)) = true := by simp [PyData.eqv, eqvC]
theorem flatR_nodup (ds : List Row) (h : ds.Nodup) : flatR ds = ds := by
  revert h
  refine snoc_ind (P := fun ds => ds.Nodup → flatR ds = ds) (fun _ => rfl) (fun l a ih nd => ?_) ds
  obtain ⟨n1, _, n3⟩ := List.nodup_append.mp nd
  rw [flatR_snoc, ih n1, if_neg fun h => n3 a h a (List.mem_singleton.mpr rfl) rfl]
theorem flatR_flat (ds : List Row) (b : Row) : flatR (flatR ds ++ [b]) = flatR (ds ++ [b]) := by
  rw [flatR_snoc, flatR_snoc, flatR_nodup _ (flatR_nd ds)]
/-- the complement of a bound -/
def opp (r : Row) : Row := (r.2.1, r.1, -r.2.2 - 1)
theorem opp_ok {r : Row} (h : RowOk r) : RowOk (opp r) := ⟨h.2.1, h.1, fun z => h.2.2 z.symm⟩
theorem sum_rows (p : List Row) : (p.map fun r => r.2.2).sum = sumR p := by
  induction p with
  | nil => rfl
  | cons b p ih => rw [List.map_cons, List.sum_cons, ih]; rfl
/-- in a row: c goes on from each bound to the next, and from the last to the first -/
theorem ring_at {fl c : List Row} {x : Str} (h : Wk fl x c x) {k : Nat} {b e : Row} (hb : c[k]? = some b) (he : c[if k = 0 then c.length - 1 else k - 1]? = some e) : e.2.1 = b.1 := by
  have pl := h.places
  have hk := (List.getElem?_eq_some_iff.mp hb).1
  have l1 : (srcs c)[k]? = some b.1 := by unfold srcs; rw [List.getElem?_map, hb]; rfl
  by_cases z : k = 0
  · subst z
    rw [if_pos rfl] at he
    have a := congrArg (fun l => l[0]?) pl
    rw [List.getElem?_append_left (by unfold srcs; rw [List.length_map]; exact hk), l1] at a
    have bx : b.1 = x := Option.some.inj a
    have g := congrArg (fun l => l[c.length]?) pl
    have ls : (srcs c).length = c.length := List.length_map _
    rw [← ls, List.getElem?_concat_length, ls] at g
    have : (x :: c.map (·.2.1))[c.length]? = some e.2.1 := by
      obtain ⟨n, hn⟩ : ∃ n, c.length = n + 1 := ⟨c.length - 1, by omega⟩
      rw [hn]
      show (c.map (·.2.1))[n]? = _
      rw [List.getElem?_map, show n = c.length - 1 by omega, he]
      rfl
    rw [this] at g
    rw [bx]
    exact (Option.some.inj g).symm
  · rw [if_neg z] at he
    have a := congrArg (fun l => l[k]?) pl
    rw [List.getElem?_append_left (by unfold srcs; rw [List.length_map]; exact hk), l1] at a
    obtain ⟨n, rfl⟩ : ∃ n, k = n + 1 := ⟨k - 1, by omega⟩
    have : (x :: c.map (·.2.1))[n + 1]? = some e.2.1 := by
      show (c.map (·.2.1))[n]? = _
      rw [List.getElem?_map, show n = n + 1 - 1 by omega, he]
      rfl
    rw [this] at a
    exact (Option.some.inj a).symm
theorem atI_neg {α : Type} {xs : List α} {v : α} (h : xs[xs.length - 1]? = some v) : atI xs (-1) = some v := by
  have hj := (List.getElem?_eq_some_iff.mp h).1
  have e : ixN xs.length (-1) = some (xs.length - 1) := by
    unfold ixN
    rw [if_neg (by omega), if_pos (by omega)]
    congr 1
    omega
  unfold atI
  rw [e]
  exact h
def spOpp (K : PySem.W.Frag) : Sp := fun vs H Q _ => ∃ (p : Addr) (r : Row), vs = [.ref p] ∧ H p = some (.tup (rowV r)) ∧ ∀ p' H', Ex H H' → H' p' = some (.tup (rowV (opp r))) → Q (.ref p') H'
def spNeg (K : PySem.W.Frag) : Sp := fun vs H Q _ => ∃ (rg r : Addr) (us ws : List V) (c ds fl : List Row) (x : Str), vs = [.ref rg, .ref r] ∧ SqT K H rg us ∧ RowsAt H us c ∧ SqL K H r ws ∧ RowsAt H ws ds ∧ (∀ b ∈ ds, RowOk b) ∧ Wk fl x c x ∧ 2 ≤ c.length ∧ c.length ≤ 1000 ∧ ds.length ≤ 1000 ∧ (∀ b ∈ c, b ∈ ds) ∧ sumR c < 0 ∧ ∀ H', Ex H H' → Q (.bl true) H'
section
variable {P : Program} {w : World} {K : PySem.W.Frag} {mg : Str → Option Value} {base : Heap} {a : Ad} {d : Fd} {fL fN fU fI f0 D0 T0 : Addr}
theorem ok_law_opposed (T : TX K mg a) (D : FDS K a d) : FnOk P w K mg base CX0 1 a.a_law_opposed d.a_law_opposed ["row"] (spOpp K) := by
  refine D.F__law_opposed.ok sc_law_opposed (fun vs H Q E h => ?_) (fun cdv A outer s H vs Q E hr h => ?_)
  · obtain ⟨p, r, rfl, _⟩ := h
    rfl
  · obtain ⟨p, r, rfl, hp, fin⟩ := h
    refine ⟨_, (pss_one (ps_ret (pe_tup (pa_cons pe_str (pa_cons (pe_ix ix_tup (pv 0) pe_int (fun _ _ => rfl)) (pa_cons (pe_ix ix_tup (pv 0) pe_int (fun _ _ => rfl)) (pa_cons (pe_op op_sub (pe_un un_neg (pe_ix ix_tup (pv 0) pe_int (fun _ _ => rfl))) pe_int) pa_nil))))))), ?_⟩
    refine ⟨_, rfl, p, _, 2, _, rfl, rfl, SqT.of hp, at_lit (n := 2) rfl rfl, _, rfl, p, _, 1, _, rfl, rfl, SqT.of hp, at_lit (n := 1) rfl rfl, _, rfl, p, _, 3, _, rfl, rfl, SqT.of hp, at_lit (n := 3) rfl rfl, _, rfl, _, _, rfl, rfl, (by show 4 ≤ sizeLine; decide), fun t ht => ?_⟩
    exact fin t _ (Ex.new ht) upd_same
theorem ok_law_negative (T : TX K mg a) (D : FDS K a d) : FnOk P w K mg base CX0 2 a.a_law_negative d.a_law_negative ["ring", "rows"] (spNeg K) := by
  have G__law_integer : FnOk P w K mg base CX0 1 a.a_law_integer d.a_law_integer ["told"] (spLawInt K) := ok_law_integer T D
  refine D.F__law_negative.ok sc_law_negative (fun vs H Q E h => ?_) (fun cdv A outer s H vs Q E hr h => ?_)
  · obtain ⟨rg, r, us, ws, c, ds, fl, x, rfl, _⟩ := h
    rfl
  · obtain ⟨rg, r, us, ws, c, ds, fl, x, rfl, hrg, RG, hr1, RD, okD, wk, l2, l1000, ld1000, sub, neg, fin⟩ := h
    refine ⟨_, (pss_cons (ps_if (PW.pt (pw_or (pt_not (pt_val (pe_callB call_isi (by rfl) T.b_isinstance (by decide +kernel) (pa_cons (pv 0) (pa_cons (pe_bltn (v := .ty "tuple") (by rfl) T.b_tuple (by decide +kernel) rfl) pa_nil))))) (pw_or1 (pt_cmpR op_lt (pe_callB call_len_seq (by rfl) T.b_len (by decide +kernel) (pa_cons (pv 0) pa_nil)) pe_int (nomark _))))) (pss_one (ps_ret pe_bl)) pss_nil)
        (pss_cons (ps_for PassesOwn.never rfl (pi_range1 rfl T.b_range (pa_cons (pe_callB call_len_seq (by rfl) T.b_len (by decide +kernel) (pa_cons (pv 0) pa_nil)) pa_nil)) (pg_name (i := 2) sc_law_negative.nd rfl (Or.inl rfl)) (pss_one (ps_if (PW.pt (pw_or (pt_cmpR (op_notInD (hu65 hr)) (pe_ix ix_tup (pv 0) (pv 2) (fun _ _ => rfl)) (pv 1) rfl) (pw_or (pt_not (pt_val (pe_call G__law_integer (hr.mono (by decide)) rfl T.f__law_integer T.k__law_integer D.B__law_integer .nil pass0 (pa_cons (pe_ix ix_tup (pe_ix ix_tup (pv 0) (pv 2) (fun _ _ => rfl)) pe_int (fun _ _ => rfl)) pa_nil)))) (pw_or1 (pt_cmpR op_ne (pe_ix ix_tup (pe_ix ix_tup (pv 0) (pe_op op_sub (pv 2) pe_int) (fun _ _ => rfl)) pe_int (fun _ _ => rfl)) (pe_ix ix_tup (pe_ix ix_tup (pv 0) (pv 2) (fun _ _ => rfl)) pe_int (fun _ _ => rfl)) (nomark _)))))) (pss_one (ps_ret pe_bl)) pss_nil)))
        (pss_one (ps_ret (pe_cmpR op_lt (pe_callB (cr_sum rfl) (by rfl) T.b_sum (by decide +kernel) (pa_cons (pe_lc (own := [("step", 3)]) (g := gName 3) (tt := tYes) rfl sc_law_negative.nd (pi_tup (pv 0)) (blkOk_by (N := ["ring", "rows", "k", "step"]) (sc := defScope s_law_negative) (by decide +kernel)) (fun _ _ _ _ _ => (pg_name (i := 3) sc_law_negative.nd rfl (Or.inl rfl))) (fun _ _ _ _ _ => pts_nil) (fun _ _ _ _ _ => (pe_ix (ix_tupK (K := K)) (pv 3) pe_int (fun _ _ => rfl)))) pa_nil)) pe_int (nomark _)))))), ?_⟩
    have big : 100000 ≤ sizeLine := by decide
    have lu := RG.1
    have hdp : Dp K H (.ref rg) (.tuple (c.map bD)) := .tup hrg RG.dp
    have shD : PySem.SeqAt.shaped (.list (ds.map bD)) = true := (Sh.list (n := 1) fun y hy => by
      obtain ⟨b, hb, rfl⟩ := List.mem_map.mp hy
      exact sh_row (okD b hb)).sh (by decide)
    refine ⟨_, rfl, _, _, _, _, _, rfl, .ty "tuple", dp_ty hdp, kit_tuple _, _, rfl, iteF' rfl ?_⟩
    refine ⟨_, rfl, rg, us, rfl, .inr hrg, _, _, rfl, rfl, _, rfl, iteF' (decide_eq_false (by omega)) ?_⟩
    refine ⟨_, rfl, rg, us, rfl, .inr hrg, _, rfl, by omega, by omega, for_range (lo := 0) (n := ((us.length : Nat) : Int).toNat) (fun i σ' H1 => (∃ o2 o3 : Option V, σ' = [some (.ref rg), some (.ref r), o2, o3]) ∧ Ex H H1) ⟨⟨none, none, rfl⟩, Ex.refl _⟩ ?_ ?_⟩
    · rintro i σ' H1 hi ⟨⟨o2, o3, rfl⟩, e1⟩
      have hi2 : i < c.length := by simp at hi; omega
      obtain ⟨b, hb⟩ : ∃ b, c[i]? = some b := ⟨c[i], List.getElem?_eq_getElem hi2⟩
      have bm := List.mem_of_getElem? hb
      obtain ⟨pb, hub, hpb⟩ := (RG.ex e1).at hb
      obtain ⟨e, he⟩ : ∃ e, c[if i = 0 then c.length - 1 else i - 1]? = some e := ⟨_, List.getElem?_eq_getElem (by split <;> omega)⟩
      obtain ⟨pe, hue, hpe⟩ := (RG.ex e1).at he
      have ei := ring_at wk hb he
      have e0 : (0 : Int) + (i : Int) = (i : Int) := by omega
      have hae : atI us ((0 : Int) + (i : Int) - 1) = some (.ref pe) := by
        by_cases z : i = 0
        · subst z
          rw [if_pos rfl, ← lu] at hue
          exact atI_neg hue
        · rw [if_neg z] at hue
          exact at_lit (n := i - 1) (by omega) hue
      refine ⟨_, rfl, _, rfl, rg, us, (0 : Int) + (i : Int), .ref pb, rfl, rfl, ex_t e1 hrg, at_lit (n := i) e0 hub, _, rfl, bD b, ds.map bD, row_dp (SqT.of hpb), .lst (ex_l e1 hr1) (RD.ex e1).dp, (sh_row (okD b (sub b bm))).sh (by decide), shD, _, rfl, ?_⟩
      rw [row_any, decide_eq_true (sub b bm)]
      refine iteF' rfl ?_
      refine ⟨_, rfl, _, rfl, rg, us, (0 : Int) + (i : Int), .ref pb, rfl, rfl, ex_t e1 hrg, at_lit (n := i) e0 hub, pb, _, 3, _, rfl, rfl, SqT.of hpb, at_lit (n := 3) rfl rfl, .int b.2.2, .int b.2.2, rfl, .int _, True.intro, fun H2 e2 => ⟨_, rfl, iteF' rfl ?_⟩⟩
      have e12 := e1.trans e2
      refine ⟨_, rfl, _, rfl, _, _, rfl, rfl, rg, us, _, .ref pe, rfl, rfl, ex_t e12 hrg, hae, pe, _, 2, _, rfl, rfl, SqT.of (e2 _ _ hpe), at_lit (n := 2) rfl rfl, _, rfl, _, rfl, rg, us, (0 : Int) + (i : Int), .ref pb, rfl, rfl, ex_t e12 hrg, at_lit (n := i) e0 hub, pb, _, 1, _, rfl, rfl, SqT.of (e2 _ _ hpb), at_lit (n := 1) rfl rfl, rfl, _, rfl, iteF' (by rw [ei]; simp) ?_⟩
      exact ⟨⟨_, _, rfl⟩, e12⟩
    · rintro σ' H1 ⟨⟨o2, o3, rfl⟩, e1⟩
      refine ⟨_, rfl, rg, rfl, ⟨us, ex_t e1 hrg⟩, fun F hF => lcAt (H1 := H1) (xs := us) walk_tup (fun i => .int (c.getD i ("", "", 0)).2.2) (by omega) (fun H' e' => ex_t (e1.trans e') hrg) (fun _ => rfl) ?_ hF ?_⟩
      · intro i v hv H' e' H2 e2 Q' q'
        obtain ⟨b, p, hb, rfl, hp⟩ := RG.get hv
        have g := q' H2 (Ex.refl _)
        rw [getD_at hb] at g
        exact ⟨_, rfl, p, _, 3, _, rfl, rfl, SqT.of (((e1.trans e').trans e2) _ _ hp), at_lit (n := 3) rfl rfl, g⟩
      intro H2 e2 hF2
      rw [lu, range_map c fun r => V.int r.2.2] at hF2
      refine ⟨F, c.map (fun r => r.2.2), rfl, SqL.of (by rw [hF2, List.map_map]; rfl), _, _, rfl, rfl, ?_⟩
      rw [sum_rows]
      show Q (.bl (decide (sumR c < 0))) H2
      rw [decide_eq_true neg]
      exact fin H2 (e1.trans e2)
end
theorem nm_go {i : Nat} {v : V} {σ : L2.St} {H : Hp} {Q : L2.St → Hp → Prop} (h : Q (σ.set i (some v)) H) : gName i v σ H Q := h
def spSpoilt : Sp := fun vs H Q _ => ∃ (b r : Addr) (n : Nat) (us : List V) (ds : List Row), vs = [.ref b, .ref r] ∧ Bx b n H ∧ n + 2 ≤ 1000000 ∧ r ≠ b ∧ H r = some (.lst us) ∧ RowsAt H us ds ∧ 1 ≤ ds.length ∧ ds.length ≤ 40 ∧
  ∀ (r' : Addr) (us' : List V) (ds' : List Row) (x : Row) H', H r' = none → H' r' = some (.lst us') → RowsAt H' us' ds' → ds'.length = ds.length + 1 → x ∈ ds → opp x ∈ ds' → (∀ y, y ∈ ds' ↔ y ∈ ds ∨ y = opp x) → Kp b H H' → Bx b (n + 2) H' → Q (.ref r') H'
section
variable {P : Program} {w : World} {K : PySem.W.Frag} {mg : Str → Option Value} {base : Heap} {a : Ad} {d : Fd} {fL fN fU fI f0 D0 T0 : Addr}
theorem ok_law_spoilt (T : TX K mg a) (D : FDS K a d) : FnOk P w K mg base CX0 3 a.a_law_spoilt d.a_law_spoilt ["box", "rows"] spSpoilt := by
  have G__law_take : FnOk P w K mg base CX0 2 a.a_law_take d.a_law_take ["box", "size"] spTake := ok_law_take T D
  have G__law_opposed : FnOk P w K mg base CX0 1 a.a_law_opposed d.a_law_opposed ["row"] (spOpp K) := ok_law_opposed T D
  refine D.F__law_spoilt.ok sc_law_spoilt (fun vs H Q E h => ?_) (fun cdv A outer s H vs Q E hr h => ?_)
  · obtain ⟨b, r, n, us, ds, rfl, _⟩ := h
    rfl
  · obtain ⟨b, r, n, us, ds, rfl, X, hn, rb, hr1, RA, l1, l40, fin⟩ := h
    refine ⟨_, (pss_cons (ps_set (i := 2) sc_law_spoilt.nd rfl (Or.inl rfl) (pe_ix (ix_listK (K := K)) (pv 1) (pe_call G__law_take (hr.mono (by decide)) rfl T.f__law_take T.k__law_take D.B__law_take .nil pass0 (pa_cons (pv 0) (pa_cons (pe_callB call_len_seq (by rfl) T.b_len (by decide +kernel) (pa_cons (pv 1) pa_nil)) pa_nil))) (fun _ _ => rfl)))
        (pss_cons (ps_set (i := 3) sc_law_spoilt.nd rfl (Or.inl rfl) (pe_call G__law_take (hr.mono (by decide)) rfl T.f__law_take T.k__law_take D.B__law_take .nil pass0 (pa_cons (pv 0) (pa_cons (pe_op op_add (pe_callB call_len_seq (by rfl) T.b_len (by decide +kernel) (pa_cons (pv 1) pa_nil)) pe_int) pa_nil))))
        (pss_one (ps_ret (pe_op op_cat (pe_op op_cat (pe_slice sl_list (pv 1) po_none (po_some (pv 3))) (pe_lst (pa_cons (pe_call G__law_opposed (hr.mono (by decide)) rfl T.f__law_opposed T.k__law_opposed D.B__law_opposed .nil pass0 (pa_cons (pv 2) pa_nil)) pa_nil))) (pe_slice sl_list (pv 1) (po_some (pv 3)) po_none)))))), ?_⟩
    have big : 100000 ≤ sizeLine := by decide
    have lu := RA.1
    refine ⟨_, rfl, _, rfl, _, rfl, r, _, rfl, .inl (SqL.of hr1), b, _, _, rfl, X, by omega, by omega, by omega, fun o H1 k1 X1 o0 o1 => ?_⟩
    obtain ⟨o, rfl⟩ := Int.eq_ofNat_of_zero_le o0
    have ol : o < ds.length := by omega
    obtain ⟨x, hx⟩ : ∃ x, ds[o]? = some x := ⟨ds[o], List.getElem?_eq_getElem ol⟩
    have xm := List.mem_of_getElem? hx
    have R1 := RA.keep (k1.tup X)
    obtain ⟨px, hux, hpx⟩ := R1.at hx
    refine ⟨r, us, _, _, rfl, rfl, SqL.of (k1.at rb hr1), at_lit (n := o) rfl hux, ?_⟩
    refine ⟨_, rfl, _, rfl, r, _, rfl, .inl (SqL.of (k1.at rb hr1)), _, _, rfl, rfl, b, _, _, rfl, X1, by omega, by omega, by omega, fun p H2 k2 X2 p0 p1 => ?_⟩
    obtain ⟨p, rfl⟩ := Int.eq_ofNat_of_zero_le p0
    have pl : p ≤ us.length := by omega
    have k12 := k1.trans k2
    have hr2 := k12.at rb hr1
    have hpx2 := (k2.tup X1) _ _ hpx
    have R2 := RA.keep (k12.tup X)
    refine ⟨_, rfl, _, rfl, (p : Int), rfl, r, us, rfl, SqL.of hr2, fun q1 hq1 => ?_⟩
    have x3 := Ex.new (o := .lst (cutV us none (some (p : Int)))) hq1
    have hq13 : upd H2 q1 (.lst (cutV us none (some (p : Int)))) q1 = some (.lst (us.take p)) := by rw [upd_same, cutV_to pl]
    generalize upd H2 q1 (.lst (cutV us none (some (p : Int)))) = H3 at *
    refine ⟨_, rfl, px, x, rfl, x3 _ _ hpx2, fun po H4 e4 hpo => ⟨(by show 1 ≤ sizeLine; omega), fun q2 hq2 => ?_⟩⟩
    have x5 := Ex.new (o := .lst [V.ref po]) hq2
    have hq25 : upd H4 q2 (.lst [V.ref po]) q2 = some (.lst [V.ref po]) := upd_same
    generalize upd H4 q2 (.lst [V.ref po]) = H5 at *
    have e35 := e4.trans x5
    refine ⟨q1, q2, _, _, rfl, rfl, e35 _ _ hq13, hq25, (by rw [List.length_take, List.length_singleton]; omega), fun q3 hq3 => ?_⟩
    have x6 := Ex.new (o := .lst (us.take p ++ [V.ref po])) hq3
    have hq36 : upd H5 q3 (.lst (us.take p ++ [V.ref po])) q3 = some (.lst (us.take p ++ [V.ref po])) := upd_same
    generalize upd H5 q3 (.lst (us.take p ++ [V.ref po])) = H6 at *
    have e26 := x3.trans (e35.trans x6)
    refine ⟨_, rfl, _, rfl, (p : Int), rfl, r, us, rfl, SqL.of (e26 _ _ hr2), fun q4 hq4 => ?_⟩
    have x7 := Ex.new (o := .lst (cutV us (some (p : Int)) none)) hq4
    have hq47 : upd H6 q4 (.lst (cutV us (some (p : Int)) none)) q4 = some (.lst (us.drop p)) := by rw [upd_same, cutV_from pl]
    generalize upd H6 q4 (.lst (cutV us (some (p : Int)) none)) = H7 at *
    refine ⟨q3, q4, _, _, rfl, rfl, x7 _ _ hq36, hq47, (by rw [List.length_append, List.length_take, List.length_drop, List.length_singleton]; omega), fun q5 hq5 => ?_⟩
    have x8 := Ex.new (o := .lst (us.take p ++ [V.ref po] ++ us.drop p)) hq5
    have e28 := e26.trans (x7.trans x8)
    have k18 := k12.trans (Kp.ex e28)
    have hpo8 := x8 _ _ (x7 _ _ (x6 _ _ (x5 _ _ hpo)))
    have R8 := R2.ex e28
    refine fin q5 _ ((ds.take p ++ [opp x]) ++ ds.drop p) x _ (k12.fresh X2 (fresh_back (e26.trans x7) hq5)) upd_same (((R8.take p).app (RowsAt.one hpo8)).app (R8.drop p)) ?_ xm (by simp) (fun y => ?_) k18 (X2.ex e28)
    · simp only [List.length_append, List.length_take, List.length_drop, List.length_singleton]
      omega
    · have td := List.take_append_drop p ds
      constructor
      · intro h
        simp only [List.mem_append, List.mem_singleton] at h
        rcases h with (h | h) | h
        · exact .inl (List.mem_of_mem_take h)
        · exact .inr h
        · exact .inl (List.mem_of_mem_drop h)
      · rintro (h | h)
        · rw [← td] at h
          simp only [List.mem_append, List.mem_singleton] at h ⊢
          rcases h with h | h
          · exact .inl (.inl h)
          · exact .inr h
        · rw [h]
          simp

end
def grp (m : WMap) (ms : List Str) (x : Str) : List Str := ms.filter fun z => (best m x z).isSome
abbrev s_Net_carried : Stmt := inClass (top 22) 4
theorem sc_Net_carried : FnScope ["self", "x", "name"] ["self", "x"] (defScope s_Net_carried) := ⟨rfl, rfl, rfl, by decide +kernel, rfl, by decide +kernel, by decide +kernel⟩
structure NR (K : PySem.W.Frag) (C fR : Addr) (dR : FuncData) : Prop where
  C1 : MF K C "carried" "Net.carried" s_Net_carried fR dR
  BC : Binds K dR ["self", "x"] []
def spCarried (K : PySem.W.Frag) (a : Ad) : Sp := fun vs H Q E => ∃ (q : Addr) (x : Str) (bs : List Row) (ms : List Str), vs = [.ref q, .str x] ∧ NetAt K a.cT H q bs ms ∧ ms.length ≤ 20 ∧ ChkE a H q ms (netW ms bs) [x] E ∧
  (ChkOk ms (netW ms bs) [x] → ∀ (t : Addr) H', Ex H H' → H' t = some (.tup ((grp (netW ms bs).2 ms x).map V.str)) → Q (.ref t) H')
section
variable {P : Program} {w : World} {K : PySem.W.Frag} {mg : Str → Option Value} {base : Heap} {a : Ad} {d : Fd} {fL fN fU fI f0 D0 T0 : Addr} {fK fT fH fA fn fB fO fR : Addr} {dK dT dH dA dn dB dO dR : FuncData}
theorem ok_carried (T : TX K mg a) (D : FDS K a d) (R : ER K mg P a fL fN fU fI) (Z : EW K a) (M : CN K mg a.cT f0 D0 T0) (N : NM K a.cT fK fT fH fA fn dK dT dH dA dn) (L : NR K a.cT fR dR) : FnOk P w K mg base (L2N.CX P w) 2 fR dR ["self", "x"] (spCarried K a) := by
  have GK := ok_check (P := P) (w := w) (base := base) T D R M N
  have G_best_way : FnOk P w K mg base CX0 1 a.a_best_way d.a_best_way ["ways", "start", "end"] (spBest K) := ok_best_way T D Z
  refine NX.okX L.C1.F sc_Net_carried (fun vs H Q E h => ?_) (fun cdv A outer s H vs Q E hr h => ?_)
  · obtain ⟨q, x, bs, ms, rfl, _⟩ := h
    rfl
  · obtain ⟨q, x, bs, ms, rfl, NA, l20, CE, fin⟩ := h
    have hr2 : Room 1 _ := hr.mono (by decide)
    refine ⟨_, (pss_cons (ps_expr (KW.pe_methR (pv 0) M.cl N.K1.mt GK hr2 (L2N.passes_call (L2N.takes_of rfl rfl rfl rfl) (fun _ _ _ _ h => h)) (pa_cons (pv 1) pa_nil)))
        (pss_one (ps_ret (pe_callTy call_tuple_of (by rfl) T.b_tuple (by decide +kernel) (pa_cons (pe_lc (own := [("name", 2)]) (g := gName 2) rfl sc_Net_carried.nd (pi_tup (pe_fldK (K := K) (pv 0) rfl)) (blkOk_by (N := ["self", "x", "name"]) (sc := defScope s_Net_carried) (by decide +kernel)) (fun _ _ _ _ _ => (pg_name (i := 2) sc_Net_carried.nd rfl (Or.inl rfl))) (fun _ _ _ _ _ => (pts_one (pt_cmpR op_notN (pe_call G_best_way (hr.mono (by decide)) rfl T.f_best_way T.k_best_way D.B_best_way .nil pass0 (pa_cons (pe_fldK (K := K) (pv 0) rfl) (pa_cons (pv 1) (pa_cons (pv 2) pa_nil)))) pe_non (nomark _)))) (fun _ _ _ _ _ => (pv 2))) pa_nil))))), ?_⟩
    have big : 100000 ≤ sizeLine := by decide
    obtain ⟨dx, bo, mo, rv, dd, mv, us, hq, hbo, RA, hmo, RG, WS, MN⟩ := id NA
    refine ⟨_, rfl, q, dx, _, rfl, hq, rfl, _, rfl, ?_⟩
    dsimp only [tNil]
    refine ⟨[.ref q], [.str x], rfl, rfl, (by show 1 ≤ sizeLine; omega), fun p hp => ?_⟩
    have e1 := Ex.new (o := .tup [V.str x]) hp
    refine ⟨q, p, bs, ms, [x], rfl, NA.ex e1, upd_same, CE.ex hq e1, fun ck H2 e2 => ?_⟩
    have e12 := e1.trans e2
    refine ⟨_, rfl, q, a.cT, dx, _, _, rfl, e12 _ _ hq, M.cl, M.n2, rfl, mo, rfl, ⟨_, ex_t e12 hmo⟩, fun F hF => lcFR (H1 := H2) (xs := ms.map V.str) (ds := ms) (by simp) walk_tup (R := fun _ v z => v = V.str z) (fun t h => h) (fun z => (best (netW ms bs).2 x z).isSome) (fun z => z) (by simp; omega) (fun H' e => ex_t (e12.trans e) hmo) (fun _ => rfl) ?_ ?_ hF ?_⟩
    · intro i v z hv hx H' e' Q' q'
      rw [List.getElem?_map, hx] at hv
      cases hv
      refine ⟨_, rfl, q, a.cT, dx, _, _, rfl, e' _ _ (e12 _ _ hq), M.cl, M.n4, rfl, _, rfl, _, rfl, dd, x, z, ms, (netW ms bs).2, rfl, WS.ex (e12.trans e'), fun v H3 e3 O => ?_⟩
      have q2 := q' H3 e3
      cases ho : best (netW ms bs).2 x z with
      | none =>
        rw [ho] at O q2
        obtain rfl : v = .non := O
        exact ⟨rfl, _, rfl, q2⟩
      | some u =>
        rw [ho] at O q2
        obtain ⟨p3, q3, us3, rfl, _⟩ := (O : WayAt K H3 v u)
        exact ⟨rfl, _, rfl, q2⟩
    · intro i v z hv hx _ H' e' Q' q'
      rw [List.getElem?_map, hx] at hv
      cases hv
      exact ⟨_, rfl, q' _ _ (Ex.refl _) rfl⟩
    intro H3 acc e3 hF3 A3
    have A4 := lat_eq (f := V.str) A3
    rw [List.map_id'] at A4
    subst A4
    refine ⟨F, _, rfl, .inl ⟨SqL.of hF3, fun t ht => ?_⟩⟩
    exact fin ck t _ ((e12.trans e3).trans (Ex.new ht)) upd_same
end
end N4
set_option maxRecDepth 100000
set_option maxHeartbeats 4000000
/-! == of two dicts whose keys are tuples, of such a dict and None -/
namespace DTQ
open PySem PySem.Calls PySem.Spec PyProof.Rows L2 PySem.SeqAt
section
variable {prog : Program} {w : World} {K : Type} [DecidableEq K] {knd : HeapKind prog w K} {A : Around} {E : Value → Shared → Prop} {s : Shared}
theorem samePairsH {nm : String} {a b : Addr} {xa xb : List (K × Addr × Value)} {e : K → Bool} {Q : Bool → Shared → Prop} (ha : (a == sysModules) = false) (hb : (b == sysModules) = false) (hu : knd.room A)
    (da : s.heap.DictOfH knd a xa) (db : s.heap.DictOfH knd b xb)
    (hits : xa.length = xb.length → ∀ x ∈ xa, (atKey xb x.1 = none ∧ e x.1 = false) ∨ ∃ p, atKey xb x.1 = some p ∧ EqP prog w A s x.2.2 p.2 (e x.1)) (h : Q (xa.length == xb.length && (xa.map (·.1)).all e) s) :
    wpAny (model prog w) A (Builtin.Dict.samePairs nm a b) Q E s := by
  obtain ⟨oa, es, ep, hoa, _, hda, hea, hka, hna⟩ := da
  obtain ⟨ob, es', ep', hob, _, hdb, heb, hkb, hnb⟩ := db
  have hla : xa.length = es.size := (size_of_entries hea).symm
  have hlb : xb.length = es'.size := (size_of_entries heb).symm
  rw [hla, hlb] at h
  unfold Builtin.Dict.samePairs Builtin.Dict.showsAll
  rw [if_neg (show ¬ (a == sysModules) = true by rw [ha]; exact Bool.false_ne_true), if_neg (show ¬ (b == sysModules) = true by rw [hb]; exact Bool.false_ne_true)]
  refine wpAny_bind (wpAny_pure (wpAny_bind (wpAny_pure ?_)))
  refine wpAny_bind (wpAny_dictEntries hoa hda ?_)
  dsimp only
  refine wpAny_bind (wpAny_dictEntries hob hdb ?_)
  by_cases hsz : es.size = es'.size
  case neg =>
    rw [if_pos (by simpa using hsz)]
    have hbf : (es.size == es'.size) = false := by simpa using hsz
    rw [hbf, Bool.false_and] at h
    exact wpAny_bind (wpAny_rule (wpAny_pure h))
  case pos =>
    have h' : Q ((xa.map (·.1)).all e) s := by simpa [hsz] using h
    have hits' := hits (by rw [hla, hlb]; exact hsz)
    rw [if_neg (by rw [hsz]; simp)]
    refine wpAny_bind (wpAny_dictEpoch hoa hda ?_)
    refine wpAny_bind ?_
    rw [Std.Legacy.Range.forIn_eq_forIn_range']
    simp only [Std.Legacy.Range.size, Nat.sub_zero, Nat.add_sub_cancel, Nat.div_one]
    refine wpAny_forIn_list _
      (fun rest q s' => s' = s ∧ q = (none, ()) ∧ ∃ i, rest = List.range' i (es.size - i) ∧ i ≤ es.size ∧ (xa.map (·.1)).all e = ((xa.drop i).map (·.1)).all e)
      _ ?_ ?_ _ _ ⟨rfl, rfl, 0, by simp, Nat.zero_le _, rfl⟩
    · rintro x rest q s' ⟨rfl, rfl, i, hr, hi, hpre⟩
      have hlt : i < es.size := by
        rcases Nat.lt_or_ge i es.size with h | h
        · exact h
        · rw [Nat.sub_eq_zero_of_le h] at hr; simp at hr
      obtain ⟨rfl, hrest⟩ : x = i ∧ rest = List.range' (i + 1) (es.size - (i + 1)) := by
        have e : es.size - i = (es.size - (i + 1)) + 1 := by omega
        rw [e, List.range'_succ] at hr
        injection hr with h1 h2
        exact ⟨h1, h2⟩
      refine wpAny_bind (wpAny_dictEntries hoa hda ?_)
      have hlt' : x < xa.length := by rw [hla]; exact hlt
      obtain ⟨k, c, v, hkv⟩ : ∃ k c v, xa[x]? = some (k, c, v) := ⟨_, _, _, List.getElem?_eq_getElem hlt'⟩
      have hent : es[x]? = some (entryOfKey knd (k, c, v)) := by rw [entry_at hea, hkv]; rfl
      rw [hent]
      have hdrop : xa.drop x = (k, c, v) :: xa.drop (x + 1) := by
        rw [List.drop_eq_getElem_cons hlt', List.getElem?_eq_getElem hlt'] at *
        rw [Option.some.inj hkv]
      have hm := List.mem_of_getElem? hkv
      rw [hdrop, List.map_cons, List.all_cons] at hpre
      show wpAny _ _ (holding [Value.ref c, v] _ >>= _) _ _ _
      refine wpAny_bind (wpAny_holding (wpAny_bind (wpAny_dictFind_heap hu (hka _ hm) hob hdb heb hkb hnb (fun hn => ?_) (fun j p hj => ?_))))
      · rcases hits' _ hm with ⟨_, ef⟩ | ⟨p, hp, _⟩
        · rw [ef, Bool.false_and] at hpre
          rw [hpre] at h'
          refine wpAny_pure ?_
          show wpAny _ _ (if (!false) = true then _ else _) _ _ _
          rw [if_pos (by decide)]
          exact wpAny_pure (wpAny_pure h')
        · exfalso
          unfold atKey at hp
          obtain ⟨z, hz, ez⟩ := Option.map_eq_some_iff.mp hp
          have z1 := List.find?_some hz
          have z2 := List.mem_of_find?_eq_some hz
          obtain ⟨j, hj, ej⟩ := List.mem_iff_getElem.mp z2
          have zk : z.1 = k := of_decide_eq_true z1
          refine hn j z.2 ?_
          rw [List.getElem?_eq_getElem hj, ej, ← zk]
      · have hat : atKey xb k = some p := by
          unfold atKey
          have hjl := (List.getElem?_eq_some_iff.mp hj).1
          cases hf : xb.find? fun x => decide (x.1 = k) with
          | none =>
            have := List.find?_eq_none.mp hf _ (List.mem_of_getElem? hj)
            simp at this
          | some z =>
            have z1 : z.1 = k := of_decide_eq_true (by simpa using List.find?_some hf)
            have z2 := List.mem_of_find?_eq_some hf
            obtain ⟨m, hm', em⟩ := List.mem_iff_getElem.mp z2
            have l1 : (xb.map (·.1))[m]? = some k := by rw [List.getElem?_map, List.getElem?_eq_getElem hm', em]; exact congrArg some z1
            have l2 : (xb.map (·.1))[j]? = some k := by rw [List.getElem?_map, hj]; rfl
            have mj : m = j := (List.getElem?_inj (by rw [List.length_map]; exact hm') hnb).mp (l1.trans l2.symm)
            subst mj
            rw [List.getElem?_eq_getElem hm', em] at hj
            rw [Option.some.inj hj]
            rfl
        have hjl := (List.getElem?_eq_some_iff.mp hj).1
        refine wpAny_bind (wpAny_dictEntries hob hdb ?_)
        rw [show es'[j]? = some (entryOfKey knd (k, p)) by rw [entry_at heb, hj]; rfl]
        rcases hits' _ hm with ⟨hn, _⟩ | ⟨p', hp', he⟩
        · dsimp only at hn
          rw [hat] at hn
          cases hn
        · dsimp only at hp' he
          rw [hat] at hp'
          cases hp'
          refine wpAny_holding (he _ _ ?_)
          cases ee : e k with
          | false =>
            rw [ee, Bool.false_and] at hpre
            rw [hpre] at h'
            show wpAny _ _ (if (!false) = true then _ else _) _ _ _
            rw [if_pos (by decide)]
            exact wpAny_pure (wpAny_pure h')
          | true =>
            rw [ee, Bool.true_and] at hpre
            show wpAny _ _ (if (!true) = true then _ else _) _ _ _
            rw [if_neg (by decide)]
            refine wpAny_bind (wpAny_dictEpoch hoa hda ?_)
            rw [if_neg (by simp)]
            exact wpAny_pure ⟨rfl, rfl, x + 1, hrest, hlt, hpre⟩
    · rintro q s' ⟨rfl, rfl, i, hr, hi, hpre⟩
      have hin : i = es.size := by
        rcases Nat.lt_or_ge i es.size with h | h
        · have e : es.size - i = (es.size - (i + 1)) + 1 := by omega
          rw [e, List.range'_succ] at hr; exact nomatch hr
        · exact Nat.le_antisymm hi h
      refine wpAny_pure ?_
      rw [hin, ← hla, List.drop_length] at hpre
      rw [hpre] at h'
      exact h'
theorem rcH_dicts {a b : Addr} {xa xb : List (K × Addr × Value)} {e : K → Bool} (ha : (a == sysModules) = false) (hb : (b == sysModules) = false) (hr : knd.room A.in1)
    (da : s.heap.DictOfH knd a xa) (db : s.heap.DictOfH knd b xb) (hu : A.units < cLine)
    (hits : xa.length = xb.length → ∀ x ∈ xa, (atKey xb x.1 = none ∧ e x.1 = false) ∨ ∃ p, atKey xb x.1 = some p ∧ EqP prog w A.in1 s x.2.2 p.2 (e x.1)) {Q : Value → Shared → Prop} (h : Q (.bool (xa.length == xb.length && (xa.map (·.1)).all e)) s) :
    wpAny (model prog w) A (richCompare .Eq (.ref a) (.ref b)) Q E s := by
  refine wpAny_richCompare_same_room (op := .Eq) da.typeIs db.typeIs PySem.F.slot_dict_eq (wpAny_call_entry PySem.F.slot_dict_eq da.typeIs PySem.F.entry_dict_eq ?_ (PySem.F.args_dict_eq_2 _ _)) hu
  show wpAny _ _ (Builtin.Dict.dictSlotArgs "__eq__" ⟨[.ref a, .ref b], []⟩ >>= _) _ _ s
  refine wpAny_bind ?_
  unfold Builtin.Dict.dictSlotArgs
  refine wpAny_bind (wpAny_notOrdered_dict da.typeIs ?_)
  show wpAny _ _ (pure (Value.ref a, Value.ref b)) _ _ s
  refine wpAny_pure ?_
  refine wpAny_bind (wpAny_isInstance (T := "dict") db.typeIs PySem.F.sub_dict_dict ?_)
  simp only [Bool.not_true, Bool.false_eq_true, if_false]
  refine wpAny_bind (wpAny_pure (wpAny_bind (wpAny_pure ?_)))
  refine wpAny_bind (samePairsH ha hb hr da db hits ?_)
  refine wpAny_pure ⟨_, rfl, ?_, ?_⟩
  · exact fun x => nomatch x
  · simpa using h
/-- a dict's own __eq__ with None -/
theorem dict_none {a : Addr} (da : s.TypeIs (.ref a) "dict") {Q' : Value → Shared → Prop} (hq : Q' .notImplemented s) {nm : String} (hs : Slot "dict" nm "dict.__eq__") : wpAny (model prog w) A (call (.builtin "dict.__eq__") [.ref a, .none]) Q' E s := by
  refine wpAny_call_entry hs da PySem.F.entry_dict_eq ?_ (PySem.F.args_dict_eq_2 _ _)
  show wpAny _ _ (Builtin.Dict.dictSlotArgs "__eq__" ⟨[.ref a, .none], []⟩ >>= _) _ _ s
  refine wpAny_bind ?_
  unfold Builtin.Dict.dictSlotArgs
  refine wpAny_bind (wpAny_notOrdered_dict da ?_)
  show wpAny _ _ (pure (Value.ref a, Value.none)) _ _ s
  refine wpAny_pure ?_
  refine wpAny_bind (wpAny_isInstance (T := "NoneType") (v := .none) rfl PySem.F.sub_NoneType_dict ?_)
  simp only [Bool.not_false, if_true]
  exact wpAny_bind (wpAny_rule (wpAny_pure ⟨_, rfl, hq⟩))
theorem none_eq_dict {a : Addr} (da : s.TypeIs (.ref a) "dict") (hu : A.units < cLine) {Q : Value → Shared → Prop} (h : Q (.bool false) s) : wpAny (model prog w) A (richCompare .Eq .none (.ref a)) Q E s :=
  rc_eq_decline_or (k := false) (Ta := "NoneType") (Tb := "dict") rfl da (by decide) F.sub_dict_NoneType F.slot_NoneType_eq F.slot_dict_eq_refl
    (fun _ hq => call_gives F.slot_NoneType_eq rfl F.entry_NoneType_eq (F.args_NoneType_eq_2 _ _) (NoneType___eq___none_ref_0 a) hq)
    (fun _ hq => dict_none da hq F.slot_dict_eq_refl)
    (fun _ hq => wpAny_of_eq (rfl : isSame .none (.ref a) = pure false) hq) (.inr hu) h
theorem dict_eq_none {a : Addr} (da : s.TypeIs (.ref a) "dict") (hu : A.units < cLine) {Q : Value → Shared → Prop} (h : Q (.bool false) s) : wpAny (model prog w) A (richCompare .Eq (.ref a) .none) Q E s :=
  rc_eq_decline_or (k := false) (Ta := "dict") (Tb := "NoneType") da rfl (by decide) F.sub_NoneType_dict F.slot_dict_eq F.slot_NoneType_eq_refl
    (fun _ hq => dict_none da hq F.slot_dict_eq)
    (fun _ hq => call_gives F.slot_NoneType_eq_refl rfl F.entry_NoneType_eq (F.args_NoneType_eq_2 _ _) (NoneType___eq___none_ref_0 a) hq)
    (fun _ hq => wpAny_of_eq (rfl : isSame (.ref a) .none = pure false) hq) (.inr hu) h
end
section
variable {X : Cx}
/-- two values, each None or a dict by tuples whose values are ints -/
def rEqDT : R2 := fun x y H Q => (x = .non ∧ y = .non ∧ Q (.bl true) H) ∨ (x = .non ∧ ∃ b kvs, y = .ref b ∧ H b = some (.dT kvs) ∧ Q (.bl false) H) ∨ (∃ a kvs, x = .ref a ∧ H a = some (.dT kvs) ∧ y = .non ∧ Q (.bl false) H) ∨
  ∃ (a b : Addr) (ks ls : List (List L2.Key × V)) (f g : List L2.Key → Int), x = .ref a ∧ y = .ref b ∧ H a = some (.dT ks) ∧ H b = some (.dT ls) ∧ (∀ p ∈ ks, p.2 = .int (f p.1)) ∧ (∀ k v, valV ls k = some v → v = .int (g k)) ∧
    Q (.bl (ks.length == ls.length && ks.all fun p => (valV ls p.1).isSome && f p.1 == g p.1)) H
theorem kt_mem {H : Hp} {kvs : List (List L2.Key × V)} {xs : List (List L2.Key × Addr × Value)} (r : KT H kvs xs) : (∀ x ∈ xs, ∃ p ∈ kvs, p.1 = x.1 ∧ RelV p.2 x.2.2) ∧ xs.map (·.1) = kvs.map (·.1) := by
  induction r with
  | nil => exact ⟨fun x h => absurd h List.not_mem_nil, rfl⟩
  | @cons p q ps qs hq t ih =>
    refine ⟨fun x hx => ?_, ?_⟩
    · rcases List.mem_cons.mp hx with rfl | hx
      · exact ⟨p, List.mem_cons_self, hq.1, hq.2.2⟩
      · obtain ⟨p', h1, h2⟩ := ih.1 x hx
        exact ⟨p', List.mem_cons_of_mem _ h1, h2⟩
    · rw [List.map_cons, List.map_cons, ih.2, hq.1]
theorem op_eqDT (hu : X.A.units + 2 < cLine) : OpR X (compareOp .Eq) rEqDT := by
  intro pins s σ H x y v u Q I rx ry h
  show wpAny (model X.prog X.w) X.A (richCompare .Eq v u) (EP X pins σ Q) X.xe s
  rcases h with ⟨rfl, rfl, q⟩ | ⟨rfl, b, kvs, rfl, hb, q⟩ | ⟨a, kvs, rfl, ha, rfl, q⟩ | ⟨a, b, ks, ls, f, g, rfl, rfl, ha, hb, hf, hg, q⟩
  · cases rx; cases ry
    exact PySem.EqNone.eq_none_none (fin_bl I q rfl)
  · cases rx
    obtain rfl : u = Value.ref b := ry
    obtain ⟨_, _, _, _, db⟩ := dt_of I.hok hb
    exact none_eq_dict db.typeIs (by omega) (fin_bl I q rfl)
  · obtain rfl : v = Value.ref a := rx
    cases ry
    obtain ⟨_, _, _, _, da⟩ := dt_of I.hok ha
    exact dict_eq_none da.typeIs (by omega) (fin_bl I q rfl)
  · obtain rfl : v = Value.ref a := rx
    obtain rfl : u = Value.ref b := ry
    obtain ⟨_, ya, xa, ra, da⟩ := dt_of I.hok ha
    obtain ⟨_, yb, xb, rb, db⟩ := dt_of I.hok hb
    have la := ra.length
    have lb := rb.length
    refine rcH_dicts (knd := tupleKind (mixKind X.prog X.w)) (e := fun k => (valV ls k).isSome && f k == g k) ya yb (tupleKind_room_in1 (by omega)) da db (by omega) (fun _ x hx => ?_) (fin_bl I q ?_)
    · obtain ⟨p, hp, hp1, rp⟩ := (kt_mem ra).1 x hx
      have ex := hf p hp
      rw [ex] at rp
      obtain ⟨t, e2⟩ := (show ∃ t, x.2.2 = Value.int (f p.1) t from rp)
      have rl := rb.val x.1
      cases hv : valV ls x.1 with
      | none =>
        rw [hv] at rl
        refine .inl ⟨?_, rfl⟩
        cases ha : atKey xb x.1 with
        | none => rfl
        | some p => rw [ha] at rl; exact absurd rl (by simp [RelO])
      | some v2 =>
        have e3 := hg _ _ hv
        rw [hv] at rl
        obtain ⟨u2, h2, r2⟩ := RelO.some_of (v := v2) (o := (atKey xb x.1).map (·.2)) rl
        obtain ⟨p2, hp2, e4⟩ := Option.map_eq_some_iff.mp h2
        refine .inr ⟨p2, hp2, ?_⟩
        rw [e3] at r2
        obtain ⟨t2, e5⟩ := (show ∃ t, u2 = Value.int (g x.1) t from r2)
        rw [e2, e4, e5, hp1]
        show EqP _ _ _ _ _ _ (f x.1 == g x.1)
        exact (EqAt.int_int (f x.1) t (g x.1) t2).eqP
    · rw [← la, ← lb, (kt_mem ra).2, List.all_map]
      exact rfl
end
end DTQ
set_option maxRecDepth 100000
set_option maxHeartbeats 8000000
namespace N4
open PySem L2 Evl GP HR SC SetM SetH
abbrev s_Net_eq : Stmt := inClass (top 22) 8
theorem sc_Net_eq : FnScope ["self", "other"] ["self", "other"] (defScope s_Net_eq) := ⟨rfl, rfl, rfl, by decide +kernel, rfl, by decide +kernel, by decide +kernel⟩
theorem hu2 {k : Nat} {A : Around} (r : Room k A) : A.units + 2 < cLine := by have := r.un; omega
/-- the same sums for all pairs -/
def meq (ms : List Str) (m m' : WMap) : Bool := ms.all fun x => ms.all fun y => decide ((m x y).map (·.t) = (m' x y).map (·.t))
def fI (m : WMap) : List L2.Key → Int
  | [.inr x, .inr y] => ((m x y).map (·.t)).getD 0
  | _ => 0
theorem mem_val {kvs : List (List L2.Key × V)} (nd : (kvs.map (·.1)).Nodup) {p : List L2.Key × V} (h : p ∈ kvs) : valV kvs p.1 = some p.2 := by
  obtain ⟨i, hi, e⟩ := List.mem_iff_getElem.mp h
  exact (val_at nd (i := i) (k := p.1) (v := p.2) (by rw [List.getElem?_eq_getElem hi, e])).1
theorem val_mem {kvs : List (List L2.Key × V)} {k : List L2.Key} {v : V} (h : valV kvs k = some v) : ∃ p ∈ kvs, p.1 = k ∧ p.2 = v := by
  unfold valV at h
  obtain ⟨z, hz, ez⟩ := Option.map_eq_some_iff.mp h
  exact ⟨z, List.mem_of_find?_eq_some hz, by simpa using List.find?_some hz, ez⟩
theorem MnL.int {ms : List Str} {kvs : List (List L2.Key × V)} {m : WMap} (h : MnL ms kvs m) {k : List L2.Key} {v : V} (hv : valV kvs k = some v) : ∃ x ∈ ms, ∃ y ∈ ms, k = kk x y ∧ ∃ w, m x y = some w ∧ v = .int w.t := by
  obtain ⟨p, hp, rfl, rfl⟩ := val_mem hv
  obtain ⟨x, hx, y, hy, e⟩ := h.ins p hp
  rw [e, h.val x y] at hv
  obtain ⟨w, hw, ew⟩ := Option.map_eq_some_iff.mp hv
  exact ⟨x, hx, y, hy, e, w, hw, ew.symm⟩
theorem MnL.fi {ms : List Str} {kvs : List (List L2.Key × V)} {m : WMap} (h : MnL ms kvs m) : (∀ p ∈ kvs, p.2 = .int (fI m p.1)) ∧ ∀ k v, valV kvs k = some v → v = .int (fI m k) := by
  have g : ∀ k v, valV kvs k = some v → v = .int (fI m k) := fun k v hv => by
    obtain ⟨x, _, y, _, rfl, w, hw, rfl⟩ := h.int hv
    show _ = V.int (((m x y).map (·.t)).getD 0)
    rw [hw]
    rfl
  exact ⟨fun p hp => g p.1 p.2 (mem_val h.nd hp), g⟩
theorem mean_eq {ms : List Str} {ks ls : List (List L2.Key × V)} {m m' : WMap} (h : MnL ms ks m) (g : MnL ms ls m') : (ks.length == ls.length && ks.all fun p => (valV ls p.1).isSome && fI m p.1 == fI m' p.1) = meq ms m m' := by
  have fk : ∀ (m : WMap) (x y : Str), fI m (kk x y) = ((m x y).map (·.t)).getD 0 := fun m x y => rfl
  have keyOf : ∀ {kvs : List (List L2.Key × V)} {k : List L2.Key}, k ∈ kvs.map (·.1) → (kvs.map (·.1)).Nodup → ∃ v, valV kvs k = some v := fun {kvs k} hk nd => by
    obtain ⟨p, hp, rfl⟩ := List.mem_map.mp hk
    exact ⟨p.2, mem_val nd hp⟩
  have lk : ∀ (kvs : List (List L2.Key × V)), (kvs.map (·.1)).length = kvs.length := fun kvs => List.length_map _
  apply Bool.eq_iff_iff.mpr
  constructor
  · intro e
    obtain ⟨e1, e2⟩ := Bool.and_eq_true_iff.mp e
    have e1 : ks.length = ls.length := by simpa using e1
    have e2 := List.all_eq_true.mp e2
    have sub : ∀ k ∈ ks.map (·.1), k ∈ ls.map (·.1) := fun k hk => by
      obtain ⟨p, hp, rfl⟩ := List.mem_map.mp hk
      obtain ⟨s, _⟩ := Bool.and_eq_true_iff.mp (e2 p hp)
      obtain ⟨v, hv⟩ := Option.isSome_iff_exists.mp s
      obtain ⟨q, hq, h1, _⟩ := val_mem hv
      exact List.mem_map.mpr ⟨q, hq, h1⟩
    have sub2 : ∀ k ∈ ls.map (·.1), k ∈ ks.map (·.1) := fun k hk => by
      by_cases c : k ∈ ks.map (·.1)
      · exact c
      · have := sub_lenA (l := k :: ks.map (·.1)) (m := ls.map (·.1)) (List.nodup_cons.mpr ⟨c, h.nd⟩) fun z hz => (List.mem_cons.mp hz).elim (fun q => q ▸ hk) (sub z)
        rw [List.length_cons, lk, lk] at this
        omega
    refine List.all_eq_true.mpr fun x hx => List.all_eq_true.mpr fun y hy => decide_eq_true ?_
    cases hm : m x y with
    | some w =>
      have hv := h.val x y
      rw [hm] at hv
      obtain ⟨p, hp, hk, hpv⟩ := val_mem hv
      obtain ⟨s, f⟩ := Bool.and_eq_true_iff.mp (e2 p hp)
      rw [hk] at s f
      have f : fI m (kk x y) = fI m' (kk x y) := by simpa using f
      rw [fk, fk, hm] at f
      rw [g.val x y] at s
      cases hm' : m' x y with
      | none => rw [hm'] at s; cases s
      | some w' =>
        rw [hm'] at f
        exact congrArg some f
    | none =>
      cases hm' : m' x y with
      | none => rfl
      | some w' =>
        have hv := g.val x y
        rw [hm'] at hv
        obtain ⟨p, hp, hk, _⟩ := val_mem hv
        obtain ⟨v, hv2⟩ := keyOf (sub2 (kk x y) (List.mem_map.mpr ⟨p, hp, hk⟩)) h.nd
        rw [h.val x y, hm] at hv2
        cases hv2
  · intro e
    have e : ∀ x ∈ ms, ∀ y ∈ ms, (m x y).map (·.t) = (m' x y).map (·.t) := fun x hx y hy => of_decide_eq_true (List.all_eq_true.mp (List.all_eq_true.mp e x hx) y hy)
    have both : ∀ {m m' : WMap} {ks ls : List (List L2.Key × V)}, MnL ms ks m → MnL ms ls m' → (∀ x ∈ ms, ∀ y ∈ ms, (m x y).map (·.t) = (m' x y).map (·.t)) → ∀ k ∈ ks.map (·.1), (∃ v, valV ls k = some v) ∧ fI m k = fI m' k := fun {m m' ks ls} h g e k hk => by
      obtain ⟨v, hv⟩ := keyOf hk h.nd
      obtain ⟨x, hx, y, hy, rfl, w, hw, _⟩ := h.int hv
      have e3 := e x hx y hy
      refine ⟨?_, by rw [fk, fk, e3]⟩
      rw [g.val x y]
      rw [hw] at e3
      cases hm' : m' x y with
      | none => rw [hm'] at e3; cases e3
      | some w' => exact ⟨_, rfl⟩
    have inl : ∀ {kvs : List (List L2.Key × V)} {k : List L2.Key}, (∃ v, valV kvs k = some v) → k ∈ kvs.map (·.1) := fun {kvs k} ⟨v, hv⟩ => by
      obtain ⟨p, hp, h1, _⟩ := val_mem hv
      exact List.mem_map.mpr ⟨p, hp, h1⟩
    refine Bool.and_eq_true_iff.mpr ⟨?_, List.all_eq_true.mpr fun p hp => ?_⟩
    · have l1 := sub_lenA h.nd fun k hk => inl (both h g e k hk).1
      have l2 := sub_lenA g.nd fun k hk => inl (both g h (fun x hx y hy => (e x hx y hy).symm) k hk).1
      rw [lk, lk] at l1 l2
      simpa using (by omega : ks.length = ls.length)
    · obtain ⟨⟨v, hv⟩, e3⟩ := both h g e p.1 (List.mem_map.mpr ⟨p, hp, rfl⟩)
      rw [hv, e3]
      simp
/-- whether two nets are equal -/
def sameN (ms ns : List Str) (r r' : RW) : Bool := decide (ms = ns) && (match r.1, r'.1 with | none, none => meq ms r.2 r'.2 | some _, some _ => true | _, _ => false)
structure QE (K : PySem.W.Frag) (C fE : Addr) (dE : FuncData) : Prop where
  E1 : MF K C "__eq__" "Net.__eq__" s_Net_eq fE dE
  BE : Binds K dE ["self", "other"] []
  nf : PySem.W.notFirst K C (.ref C) = true
  ka : PySem.W.findIn K (.ref C) "__class__" = some (some (.builtin "object.__class__"))
  kn : PySem.W.specialIn K (.builtin "object.__class__") "__get__" = some (some (.builtin "getset_descriptor.__get__"))
  kt : PySem.W.takesIn K (.builtin "object.__class__") = some true
  km : PySem.W.mroIn K C (.type "object") = some true
  kk : PySem.W.kitOne K (.ref C) (.ref C) = some true
  no : ∀ T, T = "list" ∨ T = "tuple" ∨ T = "int" ∨ T = "str" → PySem.W.kitOne K (.type T) (.ref C) = some false ∧ PySem.W.notFirst K C (.type T) = true
def spEq (K : PySem.W.Frag) (C : Addr) : Sp := fun vs H Q _ => ∃ (q : Addr) (v : V) (bs : List Row) (ms : List Str), vs = [.ref q, v] ∧ NetAt K C H q bs ms ∧ NetP bs ms ∧
  ((∃ (r : Addr) (cs : List Row) (ns : List Str), v = .ref r ∧ NetAt K C H r cs ns ∧ NetP cs ns ∧ ∀ H', Ex H H' → Q (.bl (sameN ms ns (netW ms bs) (netW ns cs))) H') ∨
   (∃ d, Dp K H v d ∧ (tyN d = "list" ∨ tyN d = "tuple" ∨ tyN d = "int" ∨ tyN d = "str") ∧ ∀ H', Ex H H' → Q (.bl false) H'))
section
variable {P : Program} {w : World} {K : PySem.W.Frag} {mg : Str → Option Value} {base : Heap} {a : Ad} {d : Fd} {fL fN fU fI0 f0 D0 T0 fE : Addr} {dE : FuncData}
theorem names_sh {ms : List Str} (h : ∀ z ∈ ms, isNameS z = true) : PySem.SeqAt.shaped (.tuple (ms.map .str)) = true := (Sh.tuple (n := 0) fun x hx => by
  obtain ⟨z, hz, rfl⟩ := List.mem_map.mp hx
  exact sh_str (name_ok (h z hz))).sh (by decide)
theorem names_eqv2 : ∀ ks ls : List Str, PyData.eqvAll (ks.map .str) (ls.map .str) = decide (ks = ls)
  | [], [] => by simp [PyData.eqvAll]
  | [], _ :: _ => by simp [PyData.eqvAll]
  | _ :: _, [] => by simp [PyData.eqvAll]
  | k :: ks, l :: ls => by
    apply Bool.eq_iff_iff.mpr
    simp [PyData.eqvAll, PyData.eqv, names_eqv2 ks ls]
theorem ok_eq (T : TX K mg a) (M : CN K mg a.cT f0 D0 T0) (X : QE K a.cT fE dE) : FnOk P w K mg base CX0 1 fE dE ["self", "other"] (spEq K a.cT) := by
  refine X.E1.F.ok sc_Net_eq (fun vs H Q E h => ?_) (fun cdv A outer s H vs Q E hr h => ?_)
  · obtain ⟨q, v, bs, ms, rfl, _⟩ := h
    rfl
  · obtain ⟨q, v, bs, ms, rfl, NA, NP, cs⟩ := h
    refine ⟨_, (pss_one (ps_ret (pe_and (pe_callB call_isi (by rfl) T.b_isinstance (by decide +kernel) (pa_cons (pv 1) (pa_cons (pe_glob (v := .ref a.cT) rfl T.c_Net rfl) pa_nil))) (pe_and (pe_cmpR (op_eqD hr.units) (pe_fld (pv 0) rfl) (pe_fld (pv 1) rfl) (nomark _)) (pe_one (pe_cmpR (DTQ.op_eqDT (hu2 hr)) (pe_fld (pv 0) rfl) (pe_fld (pv 1) rfl) (nomark _))))))), ?_⟩
    rcases cs with ⟨r, cs, ns, rfl, NB, NQ, fin⟩ | ⟨d, hd, ty, fin⟩
    · obtain ⟨dx, bo, mo, rv, dd, mv, us, hq, hbo, RA, hmo, RG, WS, MN⟩ := id NA
      obtain ⟨dx2, bo2, mo2, rv2, dd2, mv2, us2, hq2, hbo2, RA2, hmo2, RG2, WS2, MN2⟩ := id NB
      refine ⟨_, rfl, .ref r, _, _, _, true, rfl, .own a.cT, .base (.ins hq2 M.cl X.ka X.kn X.kt X.km), X.kk, _, rfl, iteT' rfl ?_⟩
      refine ⟨_, rfl, q, a.cT, dx, _, _, rfl, hq, M.cl, M.n2, rfl, _, rfl, r, a.cT, dx2, _, _, rfl, hq2, M.cl, M.n2, rfl, .tuple (ms.map .str), .tuple (ns.map .str), .tup hmo (names_dp ms), .tup hmo2 (names_dp ns), names_sh NP.nm, names_sh NQ.nm, _, rfl, ?_⟩
      have g := fin H (Ex.refl _)
      unfold sameN at g
      rw [show PyData.eqv (.tuple (ms.map .str)) (.tuple (ns.map .str)) = decide (ms = ns) by simp only [PyData.eqv]; exact names_eqv2 ms ns]
      by_cases e : ms = ns
      · subst e
        rw [decide_eq_true rfl, Bool.true_and] at g
        rw [decide_eq_true rfl]
        refine iteT' rfl ⟨_, rfl, q, a.cT, dx, _, _, rfl, hq, M.cl, M.n5, rfl, _, rfl, r, a.cT, dx2, _, _, rfl, hq2, M.cl, M.n5, rfl, ?_⟩
        unfold MnAt at MN MN2
        cases h1 : (netW ms bs).1 with
        | some c1 =>
          rw [h1] at MN g
          obtain rfl : mv = .non := MN
          cases h2 : (netW ms cs).1 with
          | some c2 =>
            rw [h2] at MN2 g
            obtain rfl : mv2 = .non := MN2
            exact .inl ⟨rfl, rfl, g⟩
          | none =>
            rw [h2] at MN2 g
            obtain ⟨d2, kv2, rfl, hd2, _⟩ := (MN2 : ∃ d kvs, mv2 = .ref d ∧ H d = some (.dT kvs) ∧ MnL ms kvs (netW ms cs).2)
            exact .inr (.inl ⟨rfl, d2, kv2, rfl, hd2, g⟩)
        | none =>
          rw [h1] at MN g
          obtain ⟨d1, kv1, rfl, hd1, ML1⟩ := (MN : ∃ d kvs, mv = .ref d ∧ H d = some (.dT kvs) ∧ MnL ms kvs (netW ms bs).2)
          cases h2 : (netW ms cs).1 with
          | some c2 =>
            rw [h2] at MN2 g
            obtain rfl : mv2 = .non := MN2
            exact .inr (.inr (.inl ⟨d1, kv1, rfl, hd1, rfl, g⟩))
          | none =>
            rw [h2] at MN2 g
            obtain ⟨d2, kv2, rfl, hd2, ML2⟩ := (MN2 : ∃ d kvs, mv2 = .ref d ∧ H d = some (.dT kvs) ∧ MnL ms kvs (netW ms cs).2)
            refine .inr (.inr (.inr ⟨d1, d2, kv1, kv2, fI (netW ms bs).2, fI (netW ms cs).2, rfl, rfl, hd1, hd2, ML1.fi.1, ML2.fi.2, ?_⟩))
            rw [mean_eq ML1 ML2]
            exact g
      · rw [decide_eq_false e, Bool.false_and] at g
        rw [decide_eq_false e]
        exact iteF' rfl g
    · refine ⟨_, rfl, v, _, _, _, false, rfl, .own a.cT, dp_ty hd, (X.no _ ty).1, _, rfl, iteF' rfl ?_⟩
      exact fin H (Ex.refl _)
end
end N4
set_option maxRecDepth 100000
set_option maxHeartbeats 4000000
namespace KW
open PySem PySem.Spec PyProof.Rows L2
/-- o.m(e, ..) in the suite of a try: what the method lets out is caught there -/
def tMethT (C : Addr) (m : Str) (sp : Sp) (E : L2.St → XK) (ta : TE) (t : TA) : TE := fun σ H Q => ta σ H fun x H1 => ∃ a dx fs, x = .ref a ∧ H1 a = some (.ins C dx fs) ∧ fs.lookup m = none ∧
  t σ H1 fun vs H2 => sp (x :: vs) H2 Q (E σ)
section
variable {X : Cx} {CX : CXT} {k : Nat} {f C : Addr} {fd : FuncData} {ps : List Str} {m : Str} {sp : Sp} {E : L2.St → XK} {o e : Expr} {es : List Expr} {ta : TE} {t : TA} {apos pos : Pos}
theorem pe_methT {pl : Sem Bool} (he : PE X o ta) (c : Cls X.K C) (hm : Meth X.K C m f) (F : FnOk X.prog X.w X.K X.mg X.base CX k f fd ps sp) (hr : Room k X.A) (hb : Binds X.K fd ps []) (hx : ∀ σ, PassesAt CX X σ (E σ)) (ha : PA X (e :: es) t)
    (hst : starEach (e :: es) X.env = (false, eval e X.env) :: starEach es X.env := by rfl) (hpl : (backTo pos (starEach es X.env)).any (·.1) = false := by rfl)
    (ht : eval (.Call (.Attribute o m apos) (e :: es) [] pos) X.env = (do
      let ov ← eval o X.env
      standAt apos.atName
      let (f, first) ← holding [ov] (getMethod ov m pl)
      callWith pos f first (backTo pos (starEach (e :: es) X.env)) (backToKw pos (keywordEach [] X.env))) := by rfl) :
    PE X (.Call (.Attribute o m apos) (e :: es) [] pos) (tMethT C m sp E ta t) := by
  refine ⟨fun pins s σ H Q I h => ?_⟩
  refine PySem.W.methodCall_KW (pl := pl) (thn (he.run pins s σ H _ I h) fun u s1 ⟨x, H1, I1, rx, a, dx, fs, ex, ea, l, q⟩ => ?_) ht
  subst ex
  obtain rfl : u = Value.ref a := rx
  refine getmeth_ok I1 ea c hm l ?_
  refine PySem.W.callWith_K (first := [.ref a]) (h₀ := X.base) I.ok.mod.kin hm.kp (thn (ha.run pos pins s1 σ H1 _ I1 q) fun us s2 ⟨vs, H2, I2, r, q2⟩ => ⟨I2.kIn, ?_⟩) hst hpl
  exact run_fnS (us := .ref a :: us) (vs := .ref a :: vs) F hr hb (hx σ) I2 (.cons rfl r) q2
end
end KW
set_option maxRecDepth 100000
set_option maxHeartbeats 4000000
namespace KW
open PySem PySem.Spec PyProof.Rows L2
section
variable {X : Cx} {CX : CXT} {k : Nat} {f C : Addr} {fd : FuncData} {ps : List Str} {m : Str} {sp : Sp} {E : L2.St → XK} {o : Expr} {ta : TE} {apos pos : Pos}
/-- o.m() in the suite of a try -/
theorem pe_methT0 {pl : Sem Bool} (he : PE X o ta) (c : Cls X.K C) (hm : Meth X.K C m f) (F : FnOk X.prog X.w X.K X.mg X.base CX k f fd ps sp) (hr : Room k X.A) (hb : Binds X.K fd ps []) (hx : ∀ σ, PassesAt CX X σ (E σ))
    (ht : eval (.Call (.Attribute o m apos) [] [] pos) X.env = (do
      let ov ← eval o X.env
      standAt apos.atName
      let (f, first) ← holding [ov] (getMethod ov m pl)
      callWith pos f first (backTo pos (starEach [] X.env)) (backToKw pos (keywordEach [] X.env))) := by rfl) :
    PE X (.Call (.Attribute o m apos) [] [] pos) (tMethT C m sp E ta tNil) := by
  refine ⟨fun pins s σ H Q I h => ?_⟩
  refine PySem.W.methodCall_KW (pl := pl) (thn (he.run pins s σ H _ I h) fun u s1 ⟨x, H1, I1, rx, a, dx, fs, ex, ea, l, q⟩ => ?_) ht
  subst ex
  obtain rfl : u = Value.ref a := rx
  refine getmeth_ok I1 ea c hm l ?_
  exact PySem.W.callWith_K0 (first := [.ref a]) I1.kIn hm.kp (run_fnS (us := [.ref a]) (vs := [.ref a]) F hr hb (hx σ) I1 (.cons rfl .nil) q)
end
end KW
set_option maxRecDepth 100000
set_option maxHeartbeats 4000000
/-! in the suite of a try: C(..), C(.., m=e) of a class with stars and a keyword, v in o by an own method; b is True -/
namespace KW
open PySem PySem.Spec PyProof.Rows L2 StX
section
variable {X : Cx} {CX : CXT} {k : Nat} {f C : Addr} {sp : Sp} {E : L2.St → XK} {x pk : Str} {dv : V} {e e2 a b : Expr} {es : List Expr} {te te2 ta tb : TE} {t : TA} {p pos kp : Pos}
theorem run_mkMS {pins : List (Addr × Obj)} {σ : L2.St} {H : Hp} {s : Shared} {Q : VK} {us : List Value} {vs : List V} {um : Option Value} {y : V} (M : Mk X.K C f) (F : FnM X.prog X.w X.K X.mg X.base CX k f pk dv sp) (hr : Room (k + 1) X.A) (hx : PassesAt CX X σ (E σ)) (I : Inv X pins σ H s) (r : Vals vs us)
    (hm : UmIs y dv um) (h : tMkM C sp (E σ) vs y Q H) :
    wpAny (model X.prog X.w) X.A (call (.ref C) us (um.toList.map fun m => (pk, m))) (EP X pins σ Q) X.xe s := by
  obtain ⟨hz, h⟩ := h
  have hq := h (s.heap.objs.size + 1) s.heap.objs.size (I.hok.fresh (Nat.le_succ _)) (I.hok.fresh (Nat.le_refl _)) (Nat.ne_of_lt (Nat.lt_succ_self _))
  have I2 := Inv.made (C := C) I
  refine wpAny_call (make_map (f := f) I.kIn M.makes M.init (beq_iff_eq.mp M.fn) (codeAny_mono (F _ X.stack _ _ (Value.ref (s.heap.objs.size + 1)) us um (V.ref (s.heap.objs.size + 1)) y vs _ (E σ) (hr.make C us (um.toList.map fun m => (pk, m))) (I2.env0.make C us (um.toList.map fun m => (pk, m))) rfl r hz hm hq) fun r s' hq' => ?_))
  cases r with
  | error e => exact hx pins _ _ e s' I2 hq'
  | ok fl =>
    cases fl with
    | ret u =>
      obtain ⟨v, H', I3, rv, ev, q3⟩ := I2.after hq'
      subst ev
      exact ⟨rv, ⟨V.ref (s.heap.objs.size + 1), H', I3, rfl, q3⟩⟩
    | next => exact False.elim hq'
    | brk => exact False.elim hq'
    | cont => exact False.elim hq'
/-- C(e, ..) in the suite of a try -/
theorem pe_mkMT (M : Mk X.K C f) (F : FnM X.prog X.w X.K X.mg X.base CX k f pk dv sp) (hr : Room (k + 1) X.A) (hg : Gl X x) (hm : X.mg x = some (.ref C)) (hx : ∀ σ, PassesAt CX X σ (E σ)) (ha : PA X (e :: es) t) (hdb : (x == ("__debug__" : Str)) = false := by decide)
    (he : starEach (e :: es) X.env = (false, eval e X.env) :: starEach es X.env := by rfl) (hpl : (backTo pos (starEach es X.env)).any (·.1) = false := by rfl) : PE X (.Call (.Name x p) (e :: es) [] pos) (fun σ H Q => t σ H fun vs H1 => tMkM C sp (E σ) vs dv Q H1) := by
  refine ⟨fun pins s σ H Q I h => ?_⟩
  refine wpAny_Call_Name_kw (ld_glob I hg hm ?_ hdb)
  refine PySem.W.callWith_K (h₀ := X.base) I.ok.mod.kin M.kp (thn (ha.run pos pins s σ H _ I h) fun us s1 ⟨vs, H1, I1, r, q⟩ => ⟨I1.kIn, ?_⟩) he hpl
  exact run_mkMS (um := none) M F hr (hx σ) I1 r rfl q
/-- C(e, .., m=e2) in the suite of a try -/
theorem pe_mkMKT (M : Mk X.K C f) (F : FnM X.prog X.w X.K X.mg X.base CX k f pk dv sp) (hr : Room (k + 1) X.A) (hg : Gl X x) (hm : X.mg x = some (.ref C)) (hx : ∀ σ, PassesAt CX X σ (E σ)) (ha : PA X (e :: es) t) (h2 : PE X e2 te2) (hdb : (x == ("__debug__" : Str)) = false := by decide)
    (hall : (backToKw pos (keywordEach [⟨some pk, e2, kp⟩] X.env)).all (·.1.isSome) = true := by rfl) (hks : (backToKw pos (keywordEach [⟨some pk, e2, kp⟩] X.env)).filterMap (·.1) = [pk] := by rfl)
    (he : starEach (e :: es) X.env = (false, eval e X.env) :: starEach es X.env := by rfl) (hpl : ((backTo pos (starEach (e :: es) X.env)).any (·.1) || (backToKw pos (keywordEach [⟨some pk, e2, kp⟩] X.env)).any (·.1.isNone)) = false := by rfl) :
    PE X (.Call (.Name x p) (e :: es) [⟨some pk, e2, kp⟩] pos) (fun σ H Q => t σ H fun vs H1 => te2 σ H1 fun y H2 => tMkM C sp (E σ) vs y Q H2) := by
  refine ⟨fun pins s σ H Q I h => ?_⟩
  refine wpAny_Call_Name_kw (ld_glob I hg hm ?_ hdb)
  refine PySem.W.callWith_KW (h₀ := X.base) I.ok.mod.kin M.kp hall (thn (ha.run pos pins s σ H _ I h) fun us s1 ⟨vs, H1, I1, r, q⟩ => ?_) hpl he
  refine kw_run I1 h2 q fun u y s2 H2 I2 ry q2 => ⟨I2.kIn, ?_⟩
  rw [hks]
  exact run_mkMS (um := some u) M F hr (hx σ) I2 r ry q2
/-- a call of such a def in a suite -/
theorem run_inS {B : Around} {pins : List (Addr × Obj)} {σ : L2.St} {H : Hp} {s : Shared} {Q : VK} {us : List Value} {vs : List V} (F : FnR X.prog X.w X.K X.mg X.base CX k f sp) (hr : Room k B) (hx : PassesAt CX X σ (E σ)) (I : Inv X pins σ H s) (env : Env0 X.prog X.w X.K X.mg X.base B X.stack s H) (r : Vals vs us) (h : sp vs H Q (E σ)) :
    wpAny (model X.prog X.w) B (call (.ref f) us) (EP X pins σ Q) X.xe s := wpAny_call (codeAny_mono (F B X.stack s H us vs Q (E σ) hr env r h) fun r s' hq => by
  cases r with
  | error e => exact hx pins H s e s' I hq
  | ok fl =>
    cases fl with
    | ret u =>
      obtain ⟨v, H', I3, rv, q⟩ := I.after hq
      exact ⟨v, H', I3, rv, q⟩
    | next => exact False.elim hq
    | brk => exact False.elim hq
    | cont => exact False.elim hq)
/-- v in o as a test in the suite of a try, by an own __contains__ that answers with a bool -/
theorem pt_inT (hs : PySem.W.findIn X.K (.ref C) "__contains__" = some (some (.ref f))) (hf : PySem.W.isFn X.K (.ref f) = true) (F : FnR X.prog X.w X.K X.mg X.base CX k f sp) (hr : Room k X.A) (hx : ∀ σ, PassesAt CX X σ (E σ)) (ha : PE X a ta) (hb : PE X b tb) (hm : behindInMarks .In b = false) :
    PT X (.Compare a [.In] [b] pos) (tTest fun σ => tOp (QS.rInO C sp (E σ) false) ta tb σ) := by
  refine ⟨fun pins s σ H Q I h => ?_⟩
  refine wpAny_isTrue_Compare1 (thn (ha.run pins s σ H _ I h) fun v s1 ⟨x, H1, I1, r1, q1⟩ => thn (hb.run pins s1 σ H1 _ I1 q1) fun u s2 ⟨y, H2, I2, r2, q2⟩ => ?_) hm
  obtain ⟨o, dx, fs, rfl, ho, q⟩ := q2
  obtain rfl : u = Value.ref o := r2
  obtain ⟨oa, da, Ia, _⟩ := insC_at (X := X) I2 (.inr ⟨dx, fs, ho⟩)
  obtain ⟨m0, F0⟩ := I2.fr
  refine PySem.W.in_K F0 I2.ok.mod.kin Ia hs hf (thn (run_inS (B := X.A) F hr (hx σ) I2 I2.env0 (vs := [.ref o, x]) (.cons rfl (.cons r1 .nil)) q) fun z s' h => ?_)
  obtain ⟨w, H', I', rv, b, rfl, k, e, q'⟩ := h
  obtain rfl : z = Value.bool b := rv
  refine wpAny_pure ?_
  simp only [Bool.false_eq_true, if_false, V.bl.injEq] at e
  subst e
  exact wpAny_truthy_bool ⟨H', I', q'⟩
theorem op_isB : OpR X (compareOp .Is) (fun x y H Q => ∃ b c, x = .bl b ∧ y = .bl c ∧ Q (.bl (b == c)) H) := by
  intro pins s σ H x y v u Q I rx ry h
  obtain ⟨b, c, rfl, rfl, q⟩ := h
  obtain rfl : v = Value.bool b := rx
  obtain rfl : u = Value.bool c := ry
  refine wpAny_is_plain (by rfl) (fin_bl I q ?_)
  cases b <;> cases c <;> rfl
theorem op_notB : OpR X (compareOp .IsNot) (fun x y H Q => ∃ b c, x = .bl b ∧ y = .bl c ∧ Q (.bl (!(b == c))) H) := by
  intro pins s σ H x y v u Q I rx ry h
  obtain ⟨b, c, rfl, rfl, q⟩ := h
  obtain rfl : v = Value.bool b := rx
  obtain rfl : u = Value.bool c := ry
  refine wpAny_isNot_plain (by rfl) (fin_bl I q ?_)
  cases b <;> cases c <;> rfl
end
end KW
set_option maxRecDepth 100000
set_option maxHeartbeats 4000000
/-! a == b by a's own __eq__, b any value whose type is told -/
namespace QS
open PySem PySem.Spec PyProof.Rows L2 StX
section
variable {X : Cx} {CX : CXT} {k : Nat} {f C : Addr} {sp : Sp} {E : XK}
def rEqO (K : PySem.W.Frag) (C : Addr) (sp : Sp) (E : XK) : R2 := fun x y H Q => ∃ a dx fs t, x = .ref a ∧ H a = some (.ins C dx fs) ∧ TyX K H y t ∧ PySem.W.notFirst K C t = true ∧ sp [x, y] H Q E
theorem op_eqO (hs : PySem.W.findIn X.K (.ref C) "__eq__" = some (some (.ref f))) (hf : PySem.W.isFn X.K (.ref f) = true) (F : FnR X.prog X.w X.K X.mg X.base CX k f sp) (hr : Room k X.A) (hx : Passes CX X E) : OpR X (compareOp .Eq) (rEqO X.K C sp E) := by
  intro pins s σ H x y v u Q I rx ry h
  obtain ⟨a, dx, fs, t, rfl, ha, ty, nf, q⟩ := h
  obtain rfl : v = Value.ref a := rx
  obtain ⟨oa, da, I1, _⟩ := insC_at (X := X) I (.inr ⟨dx, fs, ha⟩)
  obtain ⟨PP, Z, p, _⟩ := kit_of I ry ty
  obtain ⟨m0, F0⟩ := I.fr
  show wpAny (model X.prog X.w) X.A (richCompare .Eq (.ref a) u) (EP X pins σ Q) X.xe s
  exact PySem.W.cmp_K (op := .Eq) (tb := t) hr.units0 F0 I.ok.mod.kin I1 (Z.ty _ _ I.kIn p) nf hs hf (wpAny_call (codeAny_mono (run_fnR F hr hx I (vs := [.ref a, y]) (.cons rfl (.cons ry .nil)) q) fun r s' z => by
    cases r with
    | error e => exact z
    | ok fl => cases fl <;> first | exact back z | exact z))
end
end QS
set_option maxRecDepth 100000
set_option maxHeartbeats 8000000
namespace N4
open PySem L2 Evl GP HR SC SetM SetH
def oV : Option Int → V
  | none => .non
  | some v => .int v
def updT (t : Tb) (x y : Str) (o : Option Int) : Tb := fun u v => if u = x ∧ v = y then o else t u v
structure TbL (ks : List Str) (dom : Str → Str → Prop) (t : Tb) (kvs : List (List L2.Key × V)) : Prop where
  nd : (kvs.map (·.1)).Nodup
  ins : ∀ p ∈ kvs, ∃ x ∈ ks, ∃ y ∈ ks, p.1 = kk x y
  val : ∀ x ∈ ks, ∀ y ∈ ks, dom x y → valV kvs (kk x y) = some (oV (t x y))
theorem TbL.few {ks : List Str} {dom : Str → Str → Prop} {t : Tb} {kvs : List (List L2.Key × V)} (h : TbL ks dom t kvs) : kvs.length ≤ ks.length * ks.length := by
  rw [← List.length_map (f := (·.1)), ← flat_len ks ks]
  refine sub_lenA h.nd fun k hk => ?_
  obtain ⟨p, hp, rfl⟩ := List.mem_map.mp hk
  obtain ⟨x, hx, y, hy, e⟩ := h.ins p hp
  exact List.mem_flatMap.mpr ⟨x, hx, List.mem_map.mpr ⟨y, hy, e.symm⟩⟩
theorem TbL.put {ks : List Str} {dom dom' : Str → Str → Prop} {t t' : Tb} {kvs : List (List L2.Key × V)} (h : TbL ks dom t kvs) {x y : Str} {o : Option Int} (hx : x ∈ ks) (hy : y ∈ ks)
    (h1 : ∀ u ∈ ks, ∀ v ∈ ks, dom' u v → (u = x ∧ v = y) ∨ dom u v) (h2 : ∀ u ∈ ks, ∀ v ∈ ks, dom' u v → t' u v = updT t x y o u v) : TbL ks dom' t' (putK kvs (kk x y) (oV o)) := by
  refine ⟨?_, ?_, fun u hu v hv d => ?_⟩
  · by_cases c : kk x y ∈ kvs.map (·.1)
    · rw [putK_old _ c]
      exact h.nd
    · rw [putK_new _ c, List.map_append]
      exact List.nodup_append.mpr ⟨h.nd, by simp, fun a ha b hb e => c (by
        have := List.mem_singleton.mp (show b ∈ [kk x y] from hb)
        rw [← this, ← e]
        exact ha)⟩
  · intro p hp
    by_cases c : kk x y ∈ kvs.map (·.1)
    · have : p.1 ∈ (putK kvs (kk x y) (oV o)).map (·.1) := List.mem_map_of_mem hp
      rw [putK_old _ c] at this
      obtain ⟨p', hp', e⟩ := List.mem_map.mp this
      rw [← e]
      exact h.ins p' hp'
    · rw [putK_new _ c] at hp
      rcases List.mem_append.mp hp with hp | hp
      · exact h.ins p hp
      · rw [List.mem_singleton.mp hp]
        exact ⟨x, hx, y, hy, rfl⟩
  · rw [valT_put, h2 u hu v hv d]
    unfold updT
    by_cases c : u = x ∧ v = y
    · rw [if_pos c, if_pos (by rw [c.1, c.2])]
    · rw [if_neg c, if_neg fun e => c (kk_inj e)]
      exact h.val u hu v hv ((h1 u hu v hv d).resolve_left c)
/-- the table in full -/
def TabAt (D : Addr) (ks : List Str) (t : Tb) (H : Hp) : Prop := ∃ kvs, H D = some (.dT kvs) ∧ TbL ks (fun _ _ => True) t kvs
theorem TabAt.ex {D : Addr} {ks : List Str} {t : Tb} {H H' : Hp} (h : TabAt D ks t H) (e : Ex H H') : TabAt D ks t H' := let ⟨kvs, h1, h2⟩ := h; ⟨kvs, e _ _ h1, h2⟩
theorem TabAt.get {D b : Addr} {ks : List Str} {t : Tb} {H : Hp} (h : TabAt D ks t H) {x y : Str} (hx : x ∈ ks) (hy : y ∈ ks) (hb : H b = some (.tup [.str x, .str y])) : DGet H D (.ref b) (some (oV (t x y))) := by
  obtain ⟨kvs, h1, h2⟩ := h
  rw [← h2.val x hx y hy trivial]
  exact DGet.t h1 hb
theorem fold_take {α β : Type} (f : β → α → β) (l : List α) (b : β) {i : Nat} {a : α} (h : l[i]? = some a) : (l.take (i + 1)).foldl f b = f ((l.take i).foldl f b) a := by
  rw [List.take_add_one, h, List.foldl_append]
  rfl
def spTable (K : PySem.W.Frag) : Sp := fun vs H Q _ => ∃ (r l : Addr) (us : List V) (ds : List Row) (ks : List Str), vs = [.ref r, .ref l] ∧ SqL K H r us ∧ RowsAt H us ds ∧ ds.length ≤ 1000 ∧ (∀ b ∈ ds, b.1 ∈ ks ∧ b.2.1 ∈ ks) ∧ SqL K H l (ks.map V.str) ∧ ks.Nodup ∧ ks.length ≤ 20 ∧
  ∀ (D : Addr) H', H D = none → Ex H H' → TabAt D ks (tab ds ks) H' → Q (.ref D) H'
section
variable {P : Program} {w : World} {K : PySem.W.Frag} {mg : Str → Option Value} {base : Heap} {a : Ad} {d : Fd} {fL fN fU fI0 f0 D0 T0 fE : Addr} {dE : FuncData}
theorem ok_law_table (T : TX K mg a) (D : FDS K a d) : FnOk P w K mg base CX0 1 a.a_law_table d.a_law_table ["rows", "known"] (spTable K) := by
  refine D.F__law_table.ok sc_law_table (fun vs H Q E h => ?_) (fun cdv A outer s H vs Q E hr h => ?_)
  · obtain ⟨r, l, us, ds, ks, rfl, _⟩ := h
    rfl
  · obtain ⟨r, l, us, ds, ks, rfl, hr1, RA, l1000, mo, hl, nd, l20, fin⟩ := h
    refine ⟨_, (pss_cons (ps_set (i := 2) sc_law_table.nd rfl (Or.inl rfl) pe_dnewT)
        (pss_cons (ps_for PassesOwn.never rfl (pi_list (pv 1)) (pg_name (i := 3) sc_law_table.nd rfl (Or.inl rfl)) (pss_cons (ps_for PassesOwn.never rfl (pi_list (pv 1)) (pg_name (i := 4) sc_law_table.nd rfl (Or.inl rfl)) (pss_one (ps_dput (hu_of hr) (pv 2) (pe_tup (pa_cons (pv 3) (pa_cons (pv 4) pa_nil))) pe_non rfl)))
        (pss_one (ps_dput (hu_of hr) (pv 2) (pe_tup (pa_cons (pv 3) (pa_cons (pv 3) pa_nil))) pe_int rfl))))
        (pss_cons (ps_for PassesOwn.never rfl (pi_list (pv 0)) (pg_name (i := 5) sc_law_table.nd rfl (Or.inl rfl)) (pss_cons (ps_set (i := 6) sc_law_table.nd rfl (Or.inl rfl) (pe_dget (hu_of hr) (pv 2) (pe_tup (pa_cons (pe_ix ix_tup (pv 5) pe_int (fun _ _ => rfl)) (pa_cons (pe_ix ix_tup (pv 5) pe_int (fun _ _ => rfl)) pa_nil))) (fun _ _ => rfl)))
        (pss_one (ps_if (PW.pt (pw_or (pt_cmpR op_isN (pv 6) pe_non (nomark _)) (pw_or1 (pt_cmpR op_lt (pe_ix ix_tup (pv 5) pe_int (fun _ _ => rfl)) (pv 6) (nomark _))))) (pss_one (ps_dput (hu_of hr) (pv 2) (pe_tup (pa_cons (pe_ix ix_tup (pv 5) pe_int (fun _ _ => rfl)) (pa_cons (pe_ix ix_tup (pv 5) pe_int (fun _ _ => rfl)) pa_nil))) (pe_ix ix_tup (pv 5) pe_int (fun _ _ => rfl)) rfl)) pss_nil))))
        (pss_cons (ps_for PassesOwn.never rfl (pi_list (pv 1)) (pg_name (i := 7) sc_law_table.nd rfl (Or.inl rfl)) (pss_one (ps_for PassesOwn.never rfl (pi_list (pv 1)) (pg_name (i := 3) sc_law_table.nd rfl (Or.inl rfl)) (pss_one (ps_for PassesOwn.never rfl (pi_list (pv 1)) (pg_name (i := 4) sc_law_table.nd rfl (Or.inl rfl)) (pss_cons (ps_par3 (i := 8) (j := 9) (l := 6) rfl sc_law_table.nd rfl rfl rfl (by decide) (by decide) (by decide) rfl rfl rfl (pa_cons (pe_dget (hu_of hr) (pv 2) (pe_tup (pa_cons (pv 3) (pa_cons (pv 7) pa_nil))) (fun _ _ => rfl)) (pa_cons (pe_dget (hu_of hr) (pv 2) (pe_tup (pa_cons (pv 7) (pa_cons (pv 4) pa_nil))) (fun _ _ => rfl)) (pa_cons (pe_dget (hu_of hr) (pv 2) (pe_tup (pa_cons (pv 3) (pa_cons (pv 4) pa_nil))) (fun _ _ => rfl)) pa_nil))) (by rfl))
        (pss_one (ps_if (PW.pt (pw_and (pt_cmpR op_notN (pv 8) pe_non (nomark _)) (pw_and (pt_cmpR op_notN (pv 9) pe_non (nomark _)) (pw_and1 (PW.pt (pw_or (pt_cmpR op_isN (pv 6) pe_non (nomark _)) (pw_or1 (pt_cmpR op_lt (pe_op op_add (pv 8) (pv 9)) (pv 6) (nomark _))))))))) (pss_one (ps_dput (hu_of hr) (pv 2) (pe_tup (pa_cons (pv 3) (pa_cons (pv 4) pa_nil))) (pe_op op_add (pv 8) (pv 9)) rfl)) pss_nil))))))))
        (pss_one (ps_ret (pv 2))))))), ?_⟩
    have big : 100000 ≤ sizeLine := by decide
    have few2 : ks.length * ks.length ≤ 400 := Nat.mul_le_mul l20 l20
    have lu := RA.1
    refine fun D hD => ?_
    have x1 := Ex.new (o := .dT []) hD
    have hD1 : upd H D (.dT []) D = some (.dT []) := upd_same
    generalize upd H D (.dT []) = H1 at *
    -- empty
    refine ⟨_, rfl, l, rfl, ⟨_, ex_l x1 hl⟩, for_it (walk_list (xs := ks.map V.str)) (fun i σ' H' => (∃ o3 o4 : Option V, σ' = [some (.ref r), some (.ref l), some (.ref D), o3, o4, none, none, none, none, none]) ∧ Ex H H' ∧ ∃ kvs, H' D = some (.dT kvs) ∧ TbL ks (fun u _ => u ∈ ks.take i) t0 kvs) ⟨⟨none, none, rfl⟩, x1, [], hD1, List.nodup_nil, fun p h => absurd h List.not_mem_nil, fun x _ y _ h => absurd h (by simp)⟩ (fun i σ' H' _ h => ex_l h.2.1 hl) ?_ ?_⟩
    · rintro i v σ' H2' H2 hi ⟨⟨o3, o4, rfl⟩, e2, kvs, hD2, TL⟩ ⟨rfl, hv⟩
      rw [List.getElem?_map] at hv
      obtain ⟨s, hs, rfl⟩ := Option.map_eq_some_iff.mp hv
      have ins := List.mem_of_getElem? hs
      refine ⟨_, rfl, l, rfl, ⟨_, ex_l e2 hl⟩, for_it (walk_list (xs := ks.map V.str)) (fun j σ' H' => (∃ o4 : Option V, σ' = [some (.ref r), some (.ref l), some (.ref D), some (.str s), o4, none, none, none, none, none]) ∧ Ex H H' ∧ ∃ kvs, H' D = some (.dT kvs) ∧ TbL ks (fun u v => u ∈ ks.take i ∨ (u = s ∧ v ∈ ks.take j)) (fun u v => if u = s then none else t0 u v) kvs) ⟨⟨_, rfl⟩, e2, kvs, hD2, TL.nd, TL.ins, fun u hu v hv d => ?_⟩ (fun j σ' H' _ h => ex_l h.2.1 hl) ?_ ?_⟩
      · have d := d.resolve_right fun z => absurd z.2 (by simp)
        have ne : u ≠ s := fun z => take_new nd hs (z ▸ d)
        rw [if_neg ne]
        exact TL.val u hu v hv d
      · rintro j v σ' H3' H3 hj ⟨⟨o4', rfl⟩, e3, kvs3, hD3, TL3⟩ ⟨rfl, hv⟩
        rw [List.getElem?_map] at hv
        obtain ⟨e, he, rfl⟩ := Option.map_eq_some_iff.mp hv
        have ine := List.mem_of_getElem? he
        have fw := TL3.few
        refine ⟨_, rfl, _, rfl, _, rfl, (by show 2 ≤ sizeLine; decide), fun t ht => ⟨D, _, rfl, DPut.t (k := kk s e) (Ex.new ht _ _ hD3) upd_same (by omega), ?_⟩⟩
        have x4 := Ex.new (o := .tup [.str s, .str e]) ht
        refine ⟨⟨_, rfl⟩, Ex.mut (e3.trans x4) hD, _, upd_same, TL3.put (o := none) ins ine (fun u _ v _ d => ?_) (fun u _ v _ d => ?_)⟩
        · rcases d with d | ⟨d1, d2⟩
          · exact .inr (.inl d)
          · rw [List.take_add_one, he] at d2
            rcases List.mem_append.mp d2 with d2 | d2
            · exact .inr (.inr ⟨d1, d2⟩)
            · exact .inl ⟨d1, List.mem_singleton.mp d2⟩
        · unfold updT
          by_cases c : u = s ∧ v = e
          · rw [if_pos c, if_pos c.1]
          · rw [if_neg c]
      · rintro σ' H3 ⟨⟨o4', rfl⟩, e3, kvs3, hD3, TL3⟩
        rw [List.length_map, List.take_length] at TL3
        have fw := TL3.few
        refine ⟨_, rfl, _, rfl, _, rfl, (by show 2 ≤ sizeLine; decide), fun t ht => ⟨D, _, rfl, DPut.t (k := kk s s) (Ex.new ht _ _ hD3) upd_same (by omega), ?_⟩⟩
        have x4 := Ex.new (o := .tup [.str s, .str s]) ht
        refine ⟨⟨_, _, rfl⟩, Ex.mut (e3.trans x4) hD, _, upd_same, TL3.put (o := some 0) ins ins (fun u _ v hv d => ?_) (fun u _ v _ d => ?_)⟩
        · rw [List.take_add_one, hs] at d
          rcases List.mem_append.mp d with d | d
          · exact .inr (.inl d)
          · exact .inr (.inr ⟨List.mem_singleton.mp d, hv⟩)
        · show t0 u v = if u = s ∧ v = s then some 0 else (if u = s then none else t0 u v)
          unfold t0
          by_cases c : u = s
          · by_cases c2 : v = s
            · rw [if_pos (c.trans c2.symm), if_pos ⟨c, c2⟩]
            · rw [if_neg (fun z : u = v => c2 (z.symm.trans c)), if_neg (fun z : u = s ∧ v = s => c2 z.2), if_pos c]
          · rw [if_neg (fun z : u = s ∧ v = s => c z.1), if_neg c]
    rintro σ' H2 ⟨⟨o3, o4, rfl⟩, e2, kvs, hD2, TL⟩
    rw [List.length_map, List.take_length] at TL
    have TA2 : TabAt D ks t0 H2 := ⟨kvs, hD2, TL.nd, TL.ins, fun x hx y hy _ => TL.val x hx y hy hx⟩
    clear TL hD2
    -- a put within a full table
    have put : ∀ (H' : Hp) (t : Tb) (kvs : List (List L2.Key × V)) (x y : Str) (o : Option Int) (b : Addr), TbL ks (fun _ _ => True) t kvs → x ∈ ks → y ∈ ks → TabAt D ks (updT t x y o) (upd H' D (.dT (putK kvs (kk x y) (oV o)))) := fun H' t kvs x y o b h hx hy => ⟨_, upd_same, h.put hx hy (fun _ _ _ _ d => .inr d) (fun _ _ _ _ _ => rfl)⟩
    -- the rows
    refine ⟨_, rfl, r, rfl, ⟨_, ex_l e2 hr1⟩, for_it (walk_list (xs := us)) (fun i σ' H' => (∃ o3 o4 o5 o6 : Option V, σ' = [some (.ref r), some (.ref l), some (.ref D), o3, o4, o5, o6, none, none, none]) ∧ Ex H H' ∧ TabAt D ks ((ds.take i).foldl rowT t0) H') ⟨⟨_, _, none, none, rfl⟩, e2, TA2⟩ (fun i σ' H' _ h => ex_l h.2.1 hr1) ?_ ?_⟩
    · rintro i v σ' H3' H3 hi ⟨⟨o3, o4, o5, o6, rfl⟩, e3, TA⟩ ⟨rfl, hv⟩
      obtain ⟨b, p, hb, rfl, hp⟩ := (RA.ex e3).get hv
      have bm := mo b (List.mem_of_getElem? hb)
      have ft := fold_take rowT ds t0 hb
      rw [ft]
      generalize (ds.take i).foldl rowT t0 = t at *
      refine ⟨_, rfl, _, rfl, p, _, 1, _, rfl, rfl, SqT.of hp, at_lit (n := 1) rfl rfl, _, rfl, p, _, 2, _, rfl, rfl, SqT.of hp, at_lit (n := 2) rfl rfl, (by show 2 ≤ sizeLine; decide), fun k1 hk1 => ?_⟩
      have x4 := Ex.new (o := .tup [.str b.1, .str b.2.1]) hk1
      refine ⟨D, _, rfl, (TA.ex x4).get bm.1 bm.2 upd_same, ?_⟩
      generalize hH4 : upd H3 k1 (.tup [.str b.1, .str b.2.1]) = H4 at *
      have e4 := e3.trans x4
      have hp4 := x4 _ _ hp
      obtain ⟨kvs, hD4, TL⟩ := TA.ex x4
      have fw := TL.few
      have stay : rowT t b = t → (∃ p3 p4 p5 p6 : Option V, [some (V.ref r), some (.ref l), some (.ref D), o3, o4, some (.ref p), some (oV (t b.1 b.2.1)), none, none, none] = [some (V.ref r), some (.ref l), some (.ref D), p3, p4, p5, p6, none, none, none]) ∧ Ex H H4 ∧ TabAt D ks (rowT t b) H4 := fun h => ⟨⟨_, _, _, _, rfl⟩, e4, by rw [h]; exact ⟨kvs, hD4, TL⟩⟩
      have go : rowT t b = updT t b.1 b.2.1 (some b.2.2) → ∀ k2, H4 k2 = none → (∃ p3 p4 p5 p6 : Option V, [some (V.ref r), some (.ref l), some (.ref D), o3, o4, some (.ref p), some (oV (t b.1 b.2.1)), none, none, none] = [some (V.ref r), some (.ref l), some (.ref D), p3, p4, p5, p6, none, none, none]) ∧ Ex H (upd (upd H4 k2 (.tup [.str b.1, .str b.2.1])) D (.dT (putK kvs (kk b.1 b.2.1) (oV (some b.2.2))))) ∧ TabAt D ks (rowT t b) (upd (upd H4 k2 (.tup [.str b.1, .str b.2.1])) D (.dT (putK kvs (kk b.1 b.2.1) (oV (some b.2.2))))) := fun h k2 hk =>
        ⟨⟨_, _, _, _, rfl⟩, Ex.mut (e4.trans (Ex.new (o := .tup [.str b.1, .str b.2.1]) hk)) hD, by rw [h]; exact put _ t kvs b.1 b.2.1 (some b.2.2) k2 TL bm.1 bm.2⟩
      cases ho : t b.1 b.2.1 with
      | none =>
        rw [ho] at stay go
        refine ⟨_, rfl, rfl, _, rfl, ?_⟩
        refine iteT' rfl ?_
        refine iteT' rfl ?_
        refine ⟨_, rfl, p, _, 3, _, rfl, rfl, SqT.of hp4, at_lit (n := 3) rfl rfl, _, rfl, _, rfl, p, _, 1, _, rfl, rfl, SqT.of hp4, at_lit (n := 1) rfl rfl, _, rfl, p, _, 2, _, rfl, rfl, SqT.of hp4, at_lit (n := 2) rfl rfl, (by show 2 ≤ sizeLine; decide), fun k2 hk2 => ⟨D, _, rfl, DPut.t (k := kk b.1 b.2.1) (Ex.new hk2 _ _ hD4) upd_same (by omega), ?_⟩⟩
        exact go (by unfold rowT updT; rw [ho]) k2 hk2
      | some o =>
        rw [ho] at stay go
        refine ⟨_, rfl, rfl, _, rfl, ?_⟩
        refine iteF' rfl ?_
        refine ⟨_, rfl, p, _, 3, _, rfl, rfl, SqT.of hp4, at_lit (n := 3) rfl rfl, _, rfl, _, _, rfl, rfl, _, rfl, ?_⟩
        refine ite2 (fun g1 => ?_) (fun g1 => ?_)
        · have lt : b.2.2 < o := of_decide_eq_true g1
          refine ⟨_, rfl, p, _, 3, _, rfl, rfl, SqT.of hp4, at_lit (n := 3) rfl rfl, _, rfl, _, rfl, p, _, 1, _, rfl, rfl, SqT.of hp4, at_lit (n := 1) rfl rfl, _, rfl, p, _, 2, _, rfl, rfl, SqT.of hp4, at_lit (n := 2) rfl rfl, (by show 2 ≤ sizeLine; decide), fun k2 hk2 => ⟨D, _, rfl, DPut.t (k := kk b.1 b.2.1) (Ex.new hk2 _ _ hD4) upd_same (by omega), ?_⟩⟩
          exact go (by unfold rowT updT; rw [ho]; dsimp only; rw [if_pos lt]) k2 hk2
        · have nl : ¬ b.2.2 < o := fun z => g1 (decide_eq_true z)
          refine stay (funext fun u => funext fun v => ?_)
          unfold rowT
          by_cases c : u = b.1 ∧ v = b.2.1
          · rw [if_pos c, ho, c.1, c.2, ho]
            exact if_neg nl
          · rw [if_neg c]
    rintro σ' H3 ⟨⟨o3', o4', o5, o6, rfl⟩, e3, TA3⟩
    rw [lu, List.take_length] at TA3
    -- through each moment
    refine ⟨_, rfl, l, rfl, ⟨_, ex_l e3 hl⟩, for_it (walk_list (xs := ks.map V.str)) (fun i σ' H' => (∃ o3 o4 o5 o6 o7 o8 o9 : Option V, σ' = [some (.ref r), some (.ref l), some (.ref D), o3, o4, o5, o6, o7, o8, o9]) ∧ Ex H H' ∧ TabAt D ks (fz ks (rowsT ds) (ks.take i)) H') ⟨⟨_, _, _, _, none, none, none, rfl⟩, e3, TA3⟩ (fun i σ' H' _ h => ex_l h.2.1 hl) ?_ ?_⟩
    · rintro i v σ' H4' H4 hi ⟨⟨o3, o4, o5, o6, o7, o8, o9, rfl⟩, e4, TA4⟩ ⟨rfl, hv⟩
      rw [List.getElem?_map] at hv
      obtain ⟨z, hz, rfl⟩ := Option.map_eq_some_iff.mp hv
      have inz := List.mem_of_getElem? hz
      rw [show fz ks (rowsT ds) (ks.take (i + 1)) = fx ks (fz ks (rowsT ds) (ks.take i)) z ks from fold_take (fun t z => fx ks t z ks) ks (rowsT ds) hz]
      generalize fz ks (rowsT ds) (ks.take i) = tz at *
      refine ⟨_, rfl, l, rfl, ⟨_, ex_l e4 hl⟩, for_it (walk_list (xs := ks.map V.str)) (fun j σ' H' => (∃ o3 o4 o5 o6 o8 o9 : Option V, σ' = [some (.ref r), some (.ref l), some (.ref D), o3, o4, o5, o6, some (.str z), o8, o9]) ∧ Ex H H' ∧ TabAt D ks (fx ks tz z (ks.take j)) H') ⟨⟨_, _, _, _, _, _, rfl⟩, e4, TA4⟩ (fun j σ' H' _ h => ex_l h.2.1 hl) ?_ ?_⟩
      · rintro j v σ' H5' H5 hj ⟨⟨o3, o4, o5, o6, o8, o9, rfl⟩, e5, TA5⟩ ⟨rfl, hv⟩
        rw [List.getElem?_map] at hv
        obtain ⟨x, hx, rfl⟩ := Option.map_eq_some_iff.mp hv
        have inx := List.mem_of_getElem? hx
        rw [show fx ks tz z (ks.take (j + 1)) = fy (fx ks tz z (ks.take j)) z x ks from fold_take (fun t x => fy t z x ks) ks tz hx]
        generalize fx ks tz z (ks.take j) = tx at *
        refine ⟨_, rfl, l, rfl, ⟨_, ex_l e5 hl⟩, for_it (walk_list (xs := ks.map V.str)) (fun m σ' H' => (∃ o4 o5 o6 o8 o9 : Option V, σ' = [some (.ref r), some (.ref l), some (.ref D), some (.str x), o4, o5, o6, some (.str z), o8, o9]) ∧ Ex H H' ∧ TabAt D ks (fy tx z x (ks.take m)) H') ⟨⟨_, _, _, _, _, rfl⟩, e5, TA5⟩ (fun m σ' H' _ h => ex_l h.2.1 hl) ?_ ?_⟩
        · rintro m v σ' H6' H6 hm ⟨⟨o4, o5, o6, o8, o9, rfl⟩, e6, TA6⟩ ⟨rfl, hv⟩
          rw [List.getElem?_map] at hv
          obtain ⟨y, hy, rfl⟩ := Option.map_eq_some_iff.mp hv
          have iny := List.mem_of_getElem? hy
          rw [show fy tx z x (ks.take (m + 1)) = relax (fy tx z x (ks.take m)) z x y from fold_take (fun t y => relax t z x y) ks tx hy]
          generalize fy tx z x (ks.take m) = t at *
          refine ⟨_, rfl, _, rfl, _, rfl, (by show 2 ≤ sizeLine; decide), fun k1 hk1 => ?_⟩
          have x7 := Ex.new (o := .tup [V.str x, .str z]) hk1
          refine ⟨D, _, rfl, (TA6.ex x7).get inx inz upd_same, _, rfl, _, rfl, _, rfl, (by show 2 ≤ sizeLine; decide), fun k2 hk2 => ?_⟩
          have x8 := Ex.new (o := .tup [V.str z, .str y]) hk2
          refine ⟨D, _, rfl, (TA6.ex (x7.trans x8)).get inz iny upd_same, _, rfl, _, rfl, _, rfl, (by show 2 ≤ sizeLine; decide), fun k3 hk3 => ?_⟩
          have x9 := Ex.new (o := .tup [V.str x, .str y]) hk3
          refine ⟨D, _, rfl, (TA6.ex ((x7.trans x8).trans x9)).get inx iny upd_same, ?_⟩
          have x10 := (x7.trans x8).trans x9
          have TA10 := TA6.ex x10
          have e10 := e6.trans x10
          generalize upd (upd (upd H6 k1 (.tup [V.str x, .str z])) k2 (.tup [V.str z, .str y])) k3 (.tup [V.str x, .str y]) = H10 at *
          clear TA6 TA4 TA5
          refine ⟨_, _, _, rfl, ?_⟩
          obtain ⟨kvs, hD10, TL⟩ := TA10
          have fw := TL.few
          have stay : relax t z x y = t → (∃ p4 p5 p6 p8 p9 : Option V, [some (V.ref r), some (.ref l), some (.ref D), some (.str x), some (.str y), o5, some (oV (t x y)), some (.str z), some (oV (t x z)), some (oV (t z y))] = [some (V.ref r), some (.ref l), some (.ref D), some (.str x), p4, p5, p6, some (.str z), p8, p9]) ∧ Ex H H10 ∧ TabAt D ks (relax t z x y) H10 := fun h => ⟨⟨_, _, _, _, _, rfl⟩, e10, by rw [h]; exact ⟨kvs, hD10, TL⟩⟩
          have go : ∀ n : Int, relax t z x y = updT t x y (some n) → ∀ k4, H10 k4 = none → (∃ p4 p5 p6 p8 p9 : Option V, [some (V.ref r), some (.ref l), some (.ref D), some (.str x), some (.str y), o5, some (oV (t x y)), some (.str z), some (oV (t x z)), some (oV (t z y))] = [some (V.ref r), some (.ref l), some (.ref D), some (.str x), p4, p5, p6, some (.str z), p8, p9]) ∧ Ex H (upd (upd H10 k4 (.tup [.str x, .str y])) D (.dT (putK kvs (kk x y) (oV (some n))))) ∧ TabAt D ks (relax t z x y) (upd (upd H10 k4 (.tup [.str x, .str y])) D (.dT (putK kvs (kk x y) (oV (some n))))) := fun n h k4 hk =>
            ⟨⟨_, _, _, _, _, rfl⟩, Ex.mut (e10.trans (Ex.new (o := .tup [.str x, .str y]) hk)) hD, by rw [h]; exact put _ t kvs x y (some n) k4 TL inx iny⟩
          have same : (∀ o, (match t x z, t z y with | some a, some b => (match t x y with | none => some (a + b) | some o => if a + b < o then some (a + b) else some o) | _, _ => t x y) = o → o = t x y) → relax t z x y = t := fun h => funext fun u => funext fun v => by
            unfold relax
            by_cases c : u = x ∧ v = y
            · rw [if_pos c, c.1, c.2]
              exact h _ rfl
            · rw [if_neg c]
          cases h1 : t x z with
          | none =>
            rw [h1] at stay same
            exact ⟨_, rfl, rfl, _, rfl, iteF' rfl (iteF (stay (same fun o h => h.symm)))⟩
          | some av =>
            cases h2 : t z y with
            | none =>
              rw [h1, h2] at stay same
              refine ⟨_, rfl, rfl, _, rfl, iteT' rfl ⟨_, rfl, rfl, _, rfl, ?_⟩⟩
              exact iteF' rfl (iteF (stay (same fun o h => h.symm)))
            | some bv =>
              rw [h1, h2] at stay go same
              refine ⟨_, rfl, rfl, _, rfl, iteT' rfl ⟨_, rfl, rfl, _, rfl, iteT' rfl ?_⟩⟩
              have ex : ∀ {n : Int}, (match t x y with | none => some (av + bv) | some o => if av + bv < o then some (av + bv) else some o) = some n → relax t z x y = updT t x y (some n) := fun {n} h => funext fun u => funext fun v => by
                unfold relax updT
                by_cases c : u = x ∧ v = y
                · rw [if_pos c, if_pos c, h1, h2]
                  exact h
                · rw [if_neg c, if_neg c]
              cases h3 : t x y with
              | none =>
                rw [h3] at go ex
                refine ⟨_, rfl, rfl, _, rfl, ?_⟩
                refine iteT' rfl ?_
                refine iteT' rfl ?_
                refine ⟨_, rfl, _, rfl, _, _, rfl, rfl, _, rfl, _, rfl, _, rfl, (by show 2 ≤ sizeLine; decide), fun k4 hk4 => ⟨D, _, rfl, DPut.t (k := kk x y) (Ex.new hk4 _ _ hD10) upd_same (by omega), ?_⟩⟩
                exact go _ (ex rfl) k4 hk4
              | some o =>
                rw [h3] at go ex same stay
                refine ⟨_, rfl, rfl, _, rfl, ?_⟩
                refine iteF' rfl ?_
                refine ⟨_, rfl, _, rfl, _, _, rfl, rfl, _, rfl, _, _, rfl, rfl, _, rfl, ?_⟩
                refine ite2 (fun g1 => ?_) (fun g1 => ?_)
                · have lt : av + bv < o := of_decide_eq_true g1
                  refine ⟨_, rfl, _, rfl, _, _, rfl, rfl, _, rfl, _, rfl, _, rfl, (by show 2 ≤ sizeLine; decide), fun k4 hk4 => ⟨D, _, rfl, DPut.t (k := kk x y) (Ex.new hk4 _ _ hD10) upd_same (by omega), ?_⟩⟩
                  exact go _ (ex (if_pos lt)) k4 hk4
                · have nl : ¬ av + bv < o := fun z => g1 (decide_eq_true z)
                  refine stay (same fun o' h => ?_)
                  dsimp only at h
                  rw [if_neg nl] at h
                  exact h.symm
        · rintro σ' H6 ⟨⟨o4, o5, o6, o8, o9, rfl⟩, e6, TA6⟩
          rw [List.length_map, List.take_length] at TA6
          exact ⟨⟨_, _, _, _, _, _, rfl⟩, e6, TA6⟩
      · rintro σ' H5 ⟨⟨o3, o4, o5, o6, o8, o9, rfl⟩, e5, TA5⟩
        rw [List.length_map, List.take_length] at TA5
        exact ⟨⟨_, _, _, _, _, _, _, rfl⟩, e5, TA5⟩
    · rintro σ' H4 ⟨⟨o3, o4, o5, o6, o7, o8, o9, rfl⟩, e4, TA4⟩
      rw [List.length_map, List.take_length] at TA4
      exact ⟨_, rfl, fin D H4 hD e4 TA4⟩
end
end N4
set_option maxRecDepth 100000
set_option maxHeartbeats 8000000
namespace N4
open PySem L2 Evl GP HR SC SetM SetH
def dueB (ds : List Row) (ks : List Str) (es : List Row) (ls : List Str) : Bool := decide (ks = ls) && (if (brok ds ks || brok es ks) = true then brok ds ks && brok es ks else ks.all fun x => ks.all fun y => decide (tab ds ks x y = tab es ks x y))
theorem ms_flat {ks : List Str} {ds : List Row} (mo : MsOk ks (flatR ds)) : MsOk ks ds := fun b hb => mo b ((flatR_mem ds b).mpr hb)
theorem noneg_flat {ds : List Row} : NoNeg (flatR ds) ↔ NoNeg ds := ⟨fun N => N.sub fun b hb => (flatR_mem ds b).mpr hb, fun N => N.sub fun b hb => (flatR_mem ds b).mp hb⟩
theorem best_flat {ks : List Str} {ds : List Row} (mo : MsOk ks (flatR ds)) (N : NoNeg (flatR ds)) (x y : Str) : best (netW ks ds).2 x y = best (netW ks (flatR ds)).2 x y := best_same mo N (fun b hb => (flatR_mem ds b).mp hb) (fun b hb => (flatR_mem ds b).mpr hb) x y
theorem brok_net {ks : List Str} {ds : List Row} (mo : MsOk ks (flatR ds)) : brok ds ks = (netW ks (flatR ds)).1.isSome := by
  have bi := brok_iff (rows := ds) (ks := ks) fun b hb => ⟨(ms_flat mo b hb).1, (ms_flat mo b hb).2.1⟩
  cases hn : (netW ks (flatR ds)).1 with
  | none => exact bi.mpr (noneg_flat.mp (noneg_of mo hn))
  | some c =>
    cases hb : brok ds ks with
    | true => rfl
    | false =>
      have := ((net_ok mo).none (noneg_flat.mpr (bi.mp hb))).1
      rw [hn] at this
      cases this
theorem due_same {ks ls : List Str} {ds es : List Row} (mo : MsOk ks (flatR ds)) (mo2 : MsOk ls (flatR es)) : dueB ds ks es ls = sameN ks ls (netW ks (flatR ds)) (netW ls (flatR es)) := by
  unfold dueB sameN
  by_cases e : ks = ls
  · subst e
    rw [decide_eq_true rfl, Bool.true_and, Bool.true_and, brok_net mo, brok_net mo2]
    cases h1 : (netW ks (flatR ds)).1 with
    | some c1 =>
      cases h2 : (netW ks (flatR es)).1 with
      | some c2 => rfl
      | none => rfl
    | none =>
      cases h2 : (netW ks (flatR es)).1 with
      | some c2 => rfl
      | none =>
        have N1 := noneg_of mo h1
        have N2 := noneg_of mo2 h2
        have G1 := ((net_ok mo).none N1).2
        have G2 := ((net_ok mo2).none N2).2
        show (ks.all fun x => ks.all fun y => decide (tab ds ks x y = tab es ks x y)) = meq ks _ _
        have t1 : ∀ x ∈ ks, ∀ y ∈ ks, tab ds ks x y = (best (netW ks (flatR ds)).2 x y).map (·.t) := fun x hx y hy => by rw [tab_best (ms_flat mo) (noneg_flat.mp N1) hx hy, best_flat mo N1]
        have t2 : ∀ x ∈ ks, ∀ y ∈ ks, tab es ks x y = (best (netW ks (flatR es)).2 x y).map (·.t) := fun x hx y hy => by rw [tab_best (ms_flat mo2) (noneg_flat.mp N2) hx hy, best_flat mo2 N2]
        have pt : ∀ x ∈ ks, ∀ y ∈ ks, (tab ds ks x y = tab es ks x y) ↔ (((netW ks (flatR ds)).2 x y).map (·.t) = ((netW ks (flatR es)).2 x y).map (·.t)) := fun x hx y hy => by
          rw [t1 x hx y hy, t2 x hx y hy]
          by_cases e : x = y
          · subst e
            have n1 : (netW ks (flatR ds)).2 x x = none := by
              cases h : (netW ks (flatR ds)).2 x x with
              | none => rfl
              | some w => exact absurd rfl (G1.sound _ _ _ h).1
            have n2 : (netW ks (flatR es)).2 x x = none := by
              cases h : (netW ks (flatR es)).2 x x with
              | none => rfl
              | some w => exact absurd rfl (G2.sound _ _ _ h).1
            rw [n1, n2, best_self, best_self]
            exact ⟨fun _ => rfl, fun _ => rfl⟩
          · unfold best
            rw [if_neg e, if_neg e]
        unfold meq
        apply Bool.eq_iff_iff.mpr
        simp only [List.all_eq_true, decide_eq_true_eq]
        exact ⟨fun h x hx y hy => (pt x hx y hy).mp (h x hx y hy), fun h x hx y hy => (pt x hx y hy).mpr (h x hx y hy)⟩
  · rw [decide_eq_false e, Bool.false_and, Bool.false_and]
theorem same_comm (ms ns : List Str) (r r' : RW) : sameN ns ms r' r = sameN ms ns r r' := by
  unfold sameN
  by_cases e : ms = ns
  · subst e
    rw [decide_eq_true rfl, Bool.true_and, Bool.true_and]
    cases h1 : r.1 <;> cases h2 : r'.1 <;> dsimp only
    unfold meq
    apply Bool.eq_iff_iff.mpr
    simp only [List.all_eq_true, decide_eq_true_eq]
    exact ⟨fun h x hx y hy => (h x hx y hy).symm, fun h x hx y hy => (h x hx y hy).symm⟩
  · rw [decide_eq_false e, decide_eq_false fun z => e z.symm, Bool.false_and, Bool.false_and]
def spBroken (K : PySem.W.Frag) : Sp := fun vs H Q _ => ∃ (D l : Addr) (ds : List Row) (ks ls : List Str), vs = [.ref D, .ref l] ∧ TabAt D ks (tab ds ks) H ∧ SqL K H l (ks.map V.str) ∧ ks.length ≤ 20 ∧ ∀ H', Ex H H' → Q (.bl (brok ds ks)) H'
def spAlike (K : PySem.W.Frag) : Sp := fun vs H Q _ => ∃ (r l r2 l2 : Addr) (us us2 : List V) (ds es : List Row) (ks ls : List Str), vs = [.ref r, .ref l, .ref r2, .ref l2] ∧ SqL K H r us ∧ RowsAt H us ds ∧ ds.length ≤ 1000 ∧ (∀ b ∈ ds, b.1 ∈ ks ∧ b.2.1 ∈ ks) ∧ SqL K H l (ks.map V.str) ∧ ks.Nodup ∧ ks.length ≤ 20 ∧ (∀ z ∈ ks, isNameS z = true) ∧
  SqL K H r2 us2 ∧ RowsAt H us2 es ∧ es.length ≤ 1000 ∧ (∀ b ∈ es, b.1 ∈ ls ∧ b.2.1 ∈ ls) ∧ SqL K H l2 (ls.map V.str) ∧ (∀ z ∈ ls, isNameS z = true) ∧ ∀ H', Ex H H' → Q (.bl (dueB ds ks es ls)) H'
def spSame (K : PySem.W.Frag) (C : Addr) : Sp := fun vs H Q _ => ∃ (q r : Addr) (due : Bool) (bs cs : List Row) (ms ns : List Str), vs = [.ref q, .ref r, .bl due] ∧ NetAt K C H q bs ms ∧ NetP bs ms ∧ NetAt K C H r cs ns ∧ NetP cs ns ∧ due = sameN ms ns (netW ms bs) (netW ns cs) ∧ ∀ H', Ex H H' → Q (.bl true) H'
def spSettled (K : PySem.W.Frag) (C : Addr) : Sp := fun vs H Q _ => ∃ (q r l : Addr) (us : List V) (ds : List Row) (ks : List Str), vs = [.ref q, .ref r, .ref l] ∧ NetAt K C H q (flatR ds) ks ∧ NetP (flatR ds) ks ∧ SqL K H r us ∧ RowsAt H us ds ∧ (∀ b ∈ ds, RowOk b) ∧ ds.length ≤ 100 ∧ SqL K H l (ks.map V.str) ∧ ∀ H', Ex H H' → Q (.bl true) H'
theorem names_shL {ms : List Str} (h : ∀ z ∈ ms, isNameS z = true) : PySem.SeqAt.shaped (.list (ms.map .str)) = true := (Sh.list (n := 0) fun x hx => by
  obtain ⟨z, hz, rfl⟩ := List.mem_map.mp hx
  exact sh_str (name_ok (h z hz))).sh (by decide)
section
variable {P : Program} {w : World} {K : PySem.W.Frag} {mg : Str → Option Value} {base : Heap} {a : Ad} {d : Fd} {fL fN fU fI0 f0 D0 T0 fE : Addr} {dE : FuncData} {fK fT fH fA fn fB fO : Addr} {dK dT dH dA dn dB dO : FuncData}
theorem ok_law_broken (T : TX K mg a) (D : FDS K a d) : FnOk P w K mg base CX0 1 a.a_law_broken d.a_law_broken ["table", "known"] (spBroken K) := by
  refine D.F__law_broken.ok sc_law_broken (fun vs H Q E h => ?_) (fun cdv A outer s H vs Q E hr h => ?_)
  · obtain ⟨D, l, ds, ks, ls, rfl, _⟩ := h
    rfl
  · obtain ⟨D, l, ds, ks, ls, rfl, TA, hl, l20, fin⟩ := h
    refine ⟨_, (pss_one (ps_ret (pe_callB (cr_any rfl) (by rfl) T.b_any (by decide +kernel) (pa_cons (pe_lc (own := [("x", 2)]) (g := gName 2) (tt := tYes) rfl sc_law_broken.nd (pi_list (pv 1)) (blkOk_by (N := ["table", "known", "x"]) (sc := defScope s_law_broken) (by decide +kernel)) (fun _ _ _ _ _ => (pg_name (i := 2) sc_law_broken.nd rfl (Or.inl rfl))) (fun _ _ _ _ _ => pts_nil) (fun _ _ _ _ _ => (pe_cmpR op_lt (pe_dget (hu_of hr) (pv 0) (pe_tup (pa_cons (pv 2) (pa_cons (pv 2) pa_nil))) (fun _ _ => rfl)) pe_int (nomark _)))) pa_nil)))), ?_⟩
    have big : 100000 ≤ sizeLine := by decide
    have lk : (ks.map V.str).length = ks.length := List.length_map _
    refine ⟨_, rfl, l, rfl, ⟨_, hl⟩, fun F hF => lcMR (H1 := H) (xs := ks.map V.str) (ds := ks) (by rw [lk]) walk_list (R := fun _ v x => v = V.bl x) (fun t h => h) (fun x => decide (diag ds ks x < 0)) (by omega) (fun H' e => ex_l e hl) (fun _ => rfl) ?_ hF ?_⟩
    · intro i v x hv hx H' e' Q' q'
      rw [List.getElem?_map, hx] at hv
      cases hv
      have xm := List.mem_of_getElem? hx
      refine ⟨_, rfl, _, rfl, _, rfl, (by show 2 ≤ sizeLine; decide), fun k1 hk1 => ?_⟩
      have x1 := Ex.new (o := .tup [V.str x, .str x]) hk1
      refine ⟨D, .int (diag ds ks x), rfl, ?_, _, _, rfl, rfl, q' _ _ x1 rfl⟩
      have := (TA.ex (e'.trans x1)).get xm xm upd_same
      rw [diag_eq] at this
      exact this
    intro H6 acc e6 hF6 A6
    have A7 := lat_eq (f := V.bl) A6
    subst A7
    refine ⟨F, _, rfl, SqL.of hF6, ?_⟩
    rw [List.any_map]
    exact fin H6 e6
theorem ok_law_same (T : TX K mg a) (D : FDS K a d) (M : CN K mg a.cT f0 D0 T0) (X : QE K a.cT fE dE) : FnOk P w K mg base CX0 2 a.a_law_same d.a_law_same ["net", "other", "due"] (spSame K a.cT) := by
  have GE : FnR P w K mg base CX0 1 fE (spEq K a.cT) := FnOk.toR (ok_eq T M X) X.BE
  refine D.F__law_same.ok sc_law_same (fun vs H Q E h => ?_) (fun cdv A outer s H vs Q E hr h => ?_)
  · obtain ⟨q, r, due, bs, cs, ms, ns, rfl, _⟩ := h
    rfl
  · obtain ⟨q, r, due, bs, cs, ms, ns, rfl, NA, NP, NB, NQ, hdue, fin⟩ := h
    have hr1 : Room 1 _ := hr.mono (by decide)
    refine ⟨_, (pss_cons (ps_par (i := 3) (j := 4) (by rfl) sc_law_same.nd rfl rfl (by decide) rfl rfl (pa_cons (pe_cmpR (QS.op_eqO X.E1.mt.at_ X.E1.mt.fn GE hr1 pass0) (pv 0) (pv 1) (nomark _)) (pa_cons (pe_cmpR (QS.op_eqO X.E1.mt.at_ X.E1.mt.fn GE hr1 pass0) (pv 1) (pv 0) (nomark _)) pa_nil)) (by rfl))
        (pss_cons (ps_if (pt_val (pv 2)) (pss_one (ps_ret (pe_and (pe_cmpR KW.op_isB (pv 3) pe_bl (nomark _)) (pe_one (pe_cmpR KW.op_isB (pv 4) pe_bl (nomark _)))))) pss_nil)
        (pss_one (ps_ret (pe_and (pe_cmpR KW.op_isB (pv 3) pe_bl (nomark _)) (pe_one (pe_cmpR KW.op_isB (pv 4) pe_bl (nomark _)))))))), ?_⟩
    obtain ⟨dx, bo, mo, rv, dd, mv, us, hq, _⟩ := id NA
    obtain ⟨dx2, bo2, mo2, rv2, dd2, mv2, us2, hq2, _⟩ := id NB
    refine ⟨_, rfl, _, rfl, q, dx, _, _, rfl, hq, .base (.ins hq2 M.cl X.ka X.kn X.kt X.km), X.nf, q, .ref r, bs, ms, rfl, NA, NP, .inl ⟨r, cs, ns, rfl, NB, NQ, fun H1 e1 => ?_⟩⟩
    have hq1 := e1 _ _ hq
    have hq21 := e1 _ _ hq2
    refine ⟨_, rfl, _, rfl, r, dx2, _, _, rfl, hq21, .base (.ins hq1 M.cl X.ka X.kn X.kt X.km), X.nf, r, .ref q, cs, ns, rfl, NB.ex e1, NQ, .inl ⟨q, bs, ms, rfl, NA.ex e1, NP, fun H2 e2 => ?_⟩⟩
    rw [same_comm ms ns, ← hdue]
    refine ⟨_, _, rfl, ?_⟩
    have g := fin H2 (e1.trans e2)
    cases due with
    | true =>
      refine ⟨_, rfl, _, rfl, iteT' rfl ?_⟩
      exact ⟨_, rfl, _, _, rfl, rfl, _, rfl, iteT' rfl ⟨_, rfl, _, _, rfl, rfl, g⟩⟩
    | false =>
      refine ⟨_, rfl, _, rfl, iteF' rfl ?_⟩
      exact ⟨_, rfl, _, _, rfl, rfl, _, rfl, iteT' rfl ⟨_, rfl, _, _, rfl, rfl, g⟩⟩
theorem ok_law_settled (T : TX K mg a) (D : FDS K a d) (R : ER K mg P a fL fN fU fI0) (Z : EW K a) (M : CN K mg a.cT f0 D0 T0) (N : NM K a.cT fK fT fH fA fn dK dT dH dA dn) (L : NL K a.cT fB fO dB dO) : FnOk P w K mg base CX0 5 a.a_law_settled d.a_law_settled ["net", "rows", "known"] (spSettled K a.cT) := by
  have GB : FnR P w K mg base (L2N.CX P w) 3 fB (spLeast K a) := FnOk.toR (ok_least T D R Z M N L) L.BB
  have G__law_shaped : FnOk P w K mg base CX0 3 a.a_law_shaped d.a_law_shaped ["net", "rows", "known"] (spShaped K a.cT) := ok_law_shaped T D M N
  have G__law_table : FnOk P w K mg base CX0 1 a.a_law_table d.a_law_table ["rows", "known"] (spTable K) := ok_law_table T D
  have G__law_broken : FnOk P w K mg base CX0 1 a.a_law_broken d.a_law_broken ["table", "known"] (spBroken K) := ok_law_broken T D
  have G__law_negative : FnOk P w K mg base CX0 2 a.a_law_negative d.a_law_negative ["ring", "rows"] (spNeg K) := ok_law_negative T D
  have G__law_times : FnOk P w K mg base CX0 2 a.a_law_times d.a_law_times ["told", "known"] (spTimes K) := ok_law_times T D
  have G__law_fulfilled : FnOk P w K mg base CX0 1 a.a_law_fulfilled d.a_law_fulfilled ["rows", "times"] (spFull K) := ok_law_fulfilled T D
  refine D.F__law_settled.ok sc_law_settled (fun vs H Q E h => ?_) (fun cdv A outer s H vs Q E hr h => ?_)
  · obtain ⟨q, r, l, us, ds, ks, rfl, _⟩ := h
    rfl
  · obtain ⟨q, r, l, us, ds, ks, rfl, NA, NP, hr1, RA, okd, l100, hl, fin⟩ := h
    have hr3 : Room 3 _ := hr.mono (by decide)
    refine ⟨_, (pss_cons (ps_if (pt_not (pt_val (pe_call G__law_shaped (hr.mono (by decide)) rfl T.f__law_shaped T.k__law_shaped D.B__law_shaped .nil pass0 (pa_cons (pv 0) (pa_cons (pv 1) (pa_cons (pv 2) pa_nil)))))) (pss_one (ps_ret pe_bl)) pss_nil)
        (pss_cons (ps_if (pt_val (pe_call G__law_broken (hr.mono (by decide)) rfl T.f__law_broken T.k__law_broken D.B__law_broken .nil pass0 (pa_cons (pe_call G__law_table (hr.mono (by decide)) rfl T.f__law_table T.k__law_table D.B__law_table .nil pass0 (pa_cons (pv 1) (pa_cons (pv 2) pa_nil))) (pa_cons (pv 2) pa_nil)))) (pss_one (ps_ret (pe_call G__law_negative (hr.mono (by decide)) rfl T.f__law_negative T.k__law_negative D.B__law_negative .nil pass0 (pa_cons (pe_fld (pv 0) rfl) (pa_cons (pv 1) pa_nil))))) pss_nil)
        (pss_cons (ps_if (pt_cmpR op_notN (pe_fld (pv 0) rfl) pe_non (nomark _)) (pss_one (ps_ret pe_bl)) pss_nil)
        (pss_cons (ps_set (i := 3) sc_law_settled.nd rfl (Or.inl rfl) (pe_call G__law_times (hr.mono (by decide)) rfl T.f__law_times T.k__law_times D.B__law_times .nil pass0 (pa_cons (KW.pe_methR0 (pv 0) M.cl L.B1.mt GB hr3 passN) (pa_cons (pv 2) pa_nil))))
        (pss_one (ps_ret (pe_and (pe_cmpR op_notN (pv 3) pe_non (nomark _)) (pe_one (pe_call G__law_fulfilled (hr.mono (by decide)) rfl T.f__law_fulfilled T.k__law_fulfilled D.B__law_fulfilled .nil pass0 (pa_cons (pv 1) (pa_cons (pv 3) pa_nil))))))))))), ?_⟩
    have mo := ms_flat NP.mok
    have inb : ∀ b ∈ ds, b.1 ∈ ks ∧ b.2.1 ∈ ks := fun b hb => ⟨(mo b hb).1, (mo b hb).2.1⟩
    refine ⟨_, rfl, _, rfl, _, rfl, q, r, l, us, ds, ks, rfl, NA, NP, hr1, RA, okd, by omega, hl, fun H1 e1 => ⟨_, rfl, iteF' rfl ?_⟩⟩
    refine ⟨_, rfl, _, rfl, r, l, us, ds, ks, rfl, ex_l e1 hr1, RA.ex e1, by omega, inb, ex_l e1 hl, NP.nd, NP.l20, fun D2 H2 hD2 e2 TA => ?_⟩
    have e12 := e1.trans e2
    refine ⟨_, rfl, D2, l, ds, ks, ks, rfl, TA, ex_l e12 hl, NP.l20, fun H3 e3 => ⟨_, rfl, ?_⟩⟩
    have e13 := e12.trans e3
    have NA3 := NA.ex e13
    obtain ⟨dx, bo, mo1, rv, dd, mv, us0, hq, hbo, RA0, hmo, RG, WS, MN⟩ := id NA3
    rw [brok_net NP.mok]
    cases hn : (netW ks (flatR ds)).1 with
    | some ring =>
      obtain ⟨bs1, b1, bs2, qw, eF, NN1, hb1, lt1, rfl⟩ := ring_of NP.mok hn
      rw [hn] at RG
      obtain ⟨rq, rus, rfl, hrq, RR⟩ := (RG : ∃ q0 us, rv = V.ref q0 ∧ SqT K H3 q0 us ∧ RowsAt H3 us (b1 :: qw.c))
      have mo2 : MsOk ks bs1 := fun x hx => NP.mok x (by rw [eF]; exact List.mem_append_left _ hx)
      obtain ⟨n1, GD⟩ := (net_ok mo2).none NN1
      obtain ⟨wq, tq⟩ := GD.bsd hb1
      have b1m : b1 ∈ flatR ds := by rw [eF]; simp
      have okb1 := okd b1 ((flatR_mem ds b1).mp b1m)
      have qn : qw.c ≠ [] := fun h => by
        rw [h] at wq
        exact okb1.2.2 (show b1.2.1 = b1.1 from wq).symm
      have qpos := List.length_pos_iff.mpr qn
      have qlen := good_len GD NN1 mo2 hb1
      have l20 := NP.l20
      refine iteT' rfl ⟨_, rfl, q, a.cT, dx, _, _, rfl, hq, M.cl, M.n3, rfl, _, rfl, ?_⟩
      dsimp only [tNil]
      refine ⟨rq, r, rus, us, b1 :: qw.c, ds, flatR ds, b1.1, rfl, hrq, RR, ex_l e13 hr1, RA.ex e13, okd, ⟨b1m, rfl, wq.sub fun x hx => by rw [eF]; exact List.mem_append_left _ hx⟩, ?_, ?_, by omega, fun x hx => ?_, ?_, fun H4 e4 => fin H4 (e13.trans e4)⟩
      · rw [List.length_cons]; omega
      · rw [List.length_cons]; omega
      · refine (flatR_mem ds x).mp ?_
        rcases List.mem_cons.mp hx with rfl | hx
        · exact b1m
        · rw [eF]
          exact List.mem_append_left _ (wq.mem x hx)
      · show b1.2.2 + sumR qw.c < 0
        omega
    | none =>
      have NN := noneg_of NP.mok hn
      have n1 := (net_ok NP.mok).none NN
      rw [hn] at RG
      obtain rfl : rv = .non := RG
      refine iteF' rfl ⟨_, rfl, q, a.cT, dx, _, _, rfl, hq, M.cl, M.n3, rfl, rfl, _, rfl, iteF' rfl ?_⟩
      refine ⟨_, rfl, q, dx, _, rfl, hq, rfl, ?_⟩
      refine ⟨q, flatR ds, ks, rfl, NA3, NP.l20, chkE_no n1.1 (fun z h => absurd h List.not_mem_nil), fun _ v H4 e4 TM => ?_⟩
      have e14 := e13.trans e4
      refine ⟨_, rfl, v, l, _, ks, rfl, TM, ex_l e14 hl, NP.l20, fun y hy => tm_pos hy, fun d1 H5 hd1 e5 HT2 => ?_⟩
      have e15 := e14.trans e5
      refine ⟨_, rfl, rfl, true, rfl, iteT' rfl ?_⟩
      refine ⟨_, rfl, _, rfl, r, d1, us, ds, ks, _, rfl, ex_l e15 hr1, RA.ex e15, by omega, HT2, inb, fun H6 e6 => ?_⟩
      rw [show ds.all (okRow (tm (netW ks (flatR ds)).2 ks)) = true from List.all_eq_true.mpr fun b hb => decide_eq_true (tm_full n1.2 NN NP.mok ((flatR_mem ds b).mpr hb))]
      exact fin _ (e15.trans e6)
end
end N4
set_option maxRecDepth 100000
set_option maxHeartbeats 8000000
namespace N4
open PySem L2 Evl GP HR SC SetM SetH
def spShuf : Sp := fun vs H Q _ => ∃ (b r : Addr) (n : Nat) (us : List V) (ds : List Row), vs = [.ref b, .ref r] ∧ Bx b n H ∧ n + 40 ≤ 1000000 ∧ r ≠ b ∧ H r = some (.lst us) ∧ RowsAt H us ds ∧ ds.length ≤ 40 ∧
  ∀ (r' : Addr) (us' : List V) (ds' : List Row) H', H r' = none → H' r' = some (.lst us') → RowsAt H' us' ds' → ds'.length = ds.length → (∀ x, x ∈ ds' ↔ x ∈ ds) → Kp b H H' → Bx b (n + 40) H' → Q (.ref r') H'
theorem scal_oV (a b : Option Int) : L2.scal (oV a) (oV b) = true := by cases a <;> cases b <;> rfl
theorem oV_inj {a b : Option Int} : (oV a = oV b) ↔ a = b := by
  cases a <;> cases b <;> simp [oV]
theorem mem_erase_idx {α : Type} : ∀ (l : List α) (k : Nat) (y : α), l[k]? = some y → ∀ x, x ∈ l ↔ x = y ∨ x ∈ l.eraseIdx k
  | [], k, y, h, x => by simp at h
  | a :: l, 0, y, h, x => by
    have e : a = y := Option.some.inj h
    subst e
    simp
  | a :: l, k + 1, y, h, x => by
    have ih := mem_erase_idx l k y (by simpa using h) x
    simp only [List.eraseIdx_cons_succ, List.mem_cons, ih]
    constructor
    · rintro (h | h | h)
      · exact .inr (.inl h)
      · exact .inl h
      · exact .inr (.inr h)
    · rintro (h | h | h)
      · exact .inr (.inl h)
      · exact .inl h
      · exact .inr (.inr h)
theorem RowsAt.erase {H : Hp} : ∀ {us : List V} {ds : List Row} (k : Nat), RowsAt H us ds → RowsAt H (us.eraseIdx k) (ds.eraseIdx k)
  | [], [], _, _ => RowsAt.nil
  | [], _ :: _, _, A => by have := A.1; simp at this
  | _ :: _, [], _, A => by have := A.1; simp at this
  | u :: us, d :: ds, 0, A => ⟨Nat.succ.inj A.1, fun j v e h1 h2 => A.2 (j + 1) v e h1 h2⟩
  | u :: us, d :: ds, k + 1, A => by
    have B : RowsAt H us ds := ⟨Nat.succ.inj A.1, fun j v e h1 h2 => A.2 (j + 1) v e h1 h2⟩
    have C := RowsAt.erase k B
    refine ⟨?_, fun j v e h1 h2 => ?_⟩
    · simp only [List.eraseIdx_cons_succ, List.length_cons]
      rw [C.1]
    · cases j with
      | zero => exact A.2 0 v e h1 h2
      | succ j => exact C.2 j v e h1 h2
section
variable {P : Program} {w : World} {K : PySem.W.Frag} {mg : Str → Option Value} {base : Heap} {a : Ad} {d : Fd} {fL fN fU fI0 f0 D0 T0 fE : Addr} {dE : FuncData} {fK fT fH fA fn fB fO : Addr} {dK dT dH dA dn dB dO : FuncData}
theorem ok_law_alike (T : TX K mg a) (D : FDS K a d) : FnOk P w K mg base CX0 2 a.a_law_alike d.a_law_alike ["rows", "known", "others", "their"] (spAlike K) := by
  have G__law_table : FnOk P w K mg base CX0 1 a.a_law_table d.a_law_table ["rows", "known"] (spTable K) := ok_law_table T D
  have G__law_broken : FnOk P w K mg base CX0 1 a.a_law_broken d.a_law_broken ["table", "known"] (spBroken K) := ok_law_broken T D
  refine D.F__law_alike.ok sc_law_alike (fun vs H Q E h => ?_) (fun cdv A outer s H vs Q E hr h => ?_)
  · obtain ⟨r, l, r2, l2, us, us2, ds, es, ks, ls, rfl, _⟩ := h
    rfl
  · obtain ⟨r, l, r2, l2, us, us2, ds, es, ks, ls, rfl, hr1, RA, ld, mo, hl, nd, l20, nm, hr2, RB, le, mo2, hl2, nm2', fin⟩ := h
    refine ⟨_, (pss_cons (ps_if (pt_cmpR (op_neD hr.units) (pv 1) (pv 3) (nomark _)) (pss_one (ps_ret pe_bl)) pss_nil)
        (pss_cons (ps_asg (pe_tup (pa_cons (pe_call G__law_table (hr.mono (by decide)) rfl T.f__law_table T.k__law_table D.B__law_table .nil pass0 (pa_cons (pv 0) (pa_cons (pv 1) pa_nil))) (pa_cons (pe_call G__law_table (hr.mono (by decide)) rfl T.f__law_table T.k__law_table D.B__law_table .nil pass0 (pa_cons (pv 2) (pa_cons (pv 1) pa_nil))) pa_nil))) (pg_tup rfl (pgs_cons (pg_name (i := 4) sc_law_alike.nd rfl (Or.inr rfl)) (pgs_cons (pg_name (i := 5) sc_law_alike.nd rfl (Or.inr rfl)) pgs_nil))))
        (pss_cons (ps_if (PW.pt (pw_or (pt_val (pe_call G__law_broken (hr.mono (by decide)) rfl T.f__law_broken T.k__law_broken D.B__law_broken .nil pass0 (pa_cons (pv 4) (pa_cons (pv 1) pa_nil)))) (pw_or1 (pt_val (pe_call G__law_broken (hr.mono (by decide)) rfl T.f__law_broken T.k__law_broken D.B__law_broken .nil pass0 (pa_cons (pv 5) (pa_cons (pv 1) pa_nil))))))) (pss_one (ps_ret (pe_and (pe_call G__law_broken (hr.mono (by decide)) rfl T.f__law_broken T.k__law_broken D.B__law_broken .nil pass0 (pa_cons (pv 4) (pa_cons (pv 1) pa_nil))) (pe_one (pe_call G__law_broken (hr.mono (by decide)) rfl T.f__law_broken T.k__law_broken D.B__law_broken .nil pass0 (pa_cons (pv 5) (pa_cons (pv 1) pa_nil))))))) pss_nil)
        (pss_one (ps_lock (ps_ret (pe_callB (cr_all rfl) (by rfl) T.b_all (by decide +kernel) (pa_cons (pe_lc (own := [("key", 6)]) (g := gName 6) (tt := tYes) rfl sc_law_alike.nd (pi_keys (pv 4)) (blkOk_by (N := ["rows", "known", "others", "their", "first", "second", "key"]) (sc := defScope s_law_alike) (by decide +kernel)) (fun _ _ _ _ _ => (pg_name (i := 6) sc_law_alike.nd rfl (Or.inl rfl))) (fun _ _ _ _ _ => pts_nil) (fun _ _ _ _ _ => (pe_cmpR op_eq (pe_dget (hu_of hr) (pv 4) (pv 6) (fun _ _ => rfl)) (pe_dget (hu_of hr) (pv 5) (pv 6) (fun _ _ => rfl)) (nomark _)))) pa_nil)))))))), ?_⟩
    have big : 100000 ≤ sizeLine := by decide
    have few2 : ks.length * ks.length ≤ 400 := Nat.mul_le_mul l20 l20
    refine ⟨_, rfl, _, rfl, .list (ks.map .str), .list (ls.map .str), .lst hl (names_dp ks), .lst hl2 (names_dp ls), names_shL nm, names_shL nm2', _, rfl, ?_⟩
    rw [show PyData.eqv (.list (ks.map .str)) (.list (ls.map .str)) = decide (ks = ls) by simp only [PyData.eqv]; exact names_eqv2 ks ls]
    by_cases e : ks = ls
    · subst e
      rw [decide_eq_true rfl]
      refine iteF' rfl ?_
      refine ⟨_, rfl, _, rfl, r, l, us, ds, ks, rfl, hr1, RA, ld, mo, hl, nd, l20, fun D1 H1 hD1 e1 TA1 => ?_⟩
      refine ⟨_, rfl, _, rfl, r2, l, us2, es, ks, rfl, ex_l e1 hr2, RB.ex e1, le, mo2, ex_l e1 hl, nd, l20, fun D2 H2 hD2 e2 TA2 => ⟨(by show 2 ≤ sizeLine; omega), fun tp htp => ?_⟩⟩
      have x3 := Ex.new (o := .tup [V.ref D1, .ref D2]) htp
      have htp3 : upd H2 tp (.tup [V.ref D1, .ref D2]) tp = some (.tup [V.ref D1, .ref D2]) := upd_same
      generalize upd H2 tp (.tup [V.ref D1, .ref D2]) = H3 at *
      have e3 := (e1.trans e2).trans x3
      have TA13 := TA1.ex (e2.trans x3)
      have TA23 := TA2.ex x3
      refine ⟨tp, _, rfl, SqT.of htp3, rfl, _, _, rfl, _, _, rfl, rfl, ?_⟩
      have g := fun H' e' => fin H' e'
      unfold dueB at g
      rw [decide_eq_true rfl, Bool.true_and] at g
      refine nm_go ?_
      dsimp only
      refine seq_cut (fun σ' H' => σ' = [some (.ref r), some (.ref l), some (.ref r2), some (.ref l2), some (.ref D1), some (.ref D2), none] ∧ Ex H3 H' ∧ brok ds ks = false ∧ brok es ks = false) (fun N' hN => ?_) (fun σ' H' h' => ?_)
      · refine ⟨_, rfl, _, rfl, D1, l, ds, ks, ks, rfl, TA13, ex_l e3 hl, l20, fun H4 e4 => ⟨_, rfl, ?_⟩⟩
        cases hb1 : brok ds ks with
        | true =>
          rw [hb1] at g
          refine iteT' rfl ?_
          refine iteT' rfl ⟨_, rfl, _, rfl, D1, l, ds, ks, ks, rfl, TA13.ex e4, ex_l (e3.trans e4) hl, l20, fun H5 e5 => ⟨_, rfl, ?_⟩⟩
          rw [hb1]
          have e35 := e4.trans e5
          refine iteT' rfl ⟨_, rfl, _, rfl, D2, l, es, ks, ks, rfl, TA23.ex e35, ex_l (e3.trans e35) hl, l20, fun H6 e6 => ?_⟩
          have := g H6 (e3.trans (e35.trans e6))
          simpa using this
        | false =>
          rw [hb1] at g hN
          refine iteF' rfl ?_
          refine ⟨_, rfl, _, rfl, D2, l, es, ks, ks, rfl, TA23.ex e4, ex_l (e3.trans e4) hl, l20, fun H5 e5 => ⟨_, rfl, ?_⟩⟩
          have e35 := e4.trans e5
          cases hb2 : brok es ks with
          | true =>
            rw [hb2] at g
            refine iteT' rfl ⟨_, rfl, _, rfl, D1, l, ds, ks, ks, rfl, TA13.ex e35, ex_l (e3.trans e35) hl, l20, fun H6 e6 => ⟨_, rfl, ?_⟩⟩
            rw [hb1]
            refine iteF' rfl ?_
            have := g H6 (e3.trans (e35.trans e6))
            simpa using this
          | false =>
            rw [hb2] at hN
            exact iteF' rfl (hN _ _ ⟨rfl, e35, rfl, rfl⟩)
      · obtain ⟨rfl, e4, hb1, hb2⟩ := h'
        rw [hb1, hb2] at g
        obtain ⟨kvs, hD1', TL⟩ := TA13.ex e4
        have TA24 := TA23.ex e4
        have fw := TL.few
        have e04 := e3.trans e4
        have hD12 : D1 ≠ D2 := fun z => by
          obtain ⟨k, h, _⟩ := TA1
          rw [z, hD2] at h
          cases h
        let val : List L2.Key × V → Bool := fun p => match p.1 with
          | [.inr x, .inr y] => decide (tab ds ks x y = tab es ks x y)
          | _ => true
        refine ⟨D1, .dT kvs, hD1', True.intro, fun od => ?_⟩
        refine ⟨_, rfl, D1, od, rfl, .inr ⟨kvs, upd_same, fun F hF => lc_it (H1 := upd H' D1 (.frz od (.dT kvs))) walk_keysT (fun i H2 => Ex (upd H' D1 (.frz od (.dT kvs))) H2 ∧ H2 F = some (.lst ((kvs.take i).map fun p => V.bl (val p)))) ⟨Ex.new hF, upd_same⟩ (fun i H2 _ h => h.1 _ _ upd_same) ?_ ?_⟩⟩
        · rintro i v H5' H5 hi ⟨e5, hF5⟩ ⟨rfl, kq, u, q, hk, rfl, hq⟩
          obtain ⟨va, _⟩ := val_at TL.nd hk
          obtain ⟨x, hx, y, hy, ek⟩ := TL.ins _ (List.mem_of_getElem? hk)
          have ek : kq = kk x y := ek
          subst ek
          have v1 := TL.val x hx y hy trivial
          rw [va] at v1
          cases v1
          have g2 : DGet H5 D2 (.ref q) (some (oV (tab es ks x y))) := by
            refine TabAt.get (ks := ks) (t := tab es ks) ?_ hx hy hq
            obtain ⟨kv2, h1, h2⟩ := TA24
            exact ⟨kv2, e5 _ _ (by rw [upd_ne (Ne.symm hD12)]; exact h1), h2⟩
          unfold gName tYes
          dsimp only
          refine ⟨rfl, iteT' rfl ⟨_, rfl, _, rfl, D1, oV (tab ds ks x y), rfl, .inr ⟨kvs, kk x y, q, .inr ⟨od, e5 _ _ upd_same⟩, rfl, hq, va.symm⟩, _, rfl, _, rfl, D2, oV (tab es ks x y), rfl, g2, scal_oV _ _, _, hF5, by rw [List.length_map, List.length_take]; omega, Ex.mut e5 hF, ?_⟩⟩
          rw [upd_same, List.take_add_one, hk]
          simp only [Option.toList_some, List.map_append, List.map_cons, List.map_nil]
          congr 5
          show _ = decide (tab ds ks x y = tab es ks x y)
          exact decide_eq_decide.mpr oV_inj
        · rintro H5 ⟨e5, hF5⟩
          rw [List.take_length] at hF5
          refine ⟨F, kvs.map val, rfl, SqL.of (by rw [hF5, List.map_map]; rfl), ⟨e5 _ _ upd_same, ?_⟩⟩
          have xl := ex_lock hD1' e5
          have g2 := g _ (e04.trans xl)
          rw [if_neg (by simp)] at g2
          rw [show ((kvs.map val).all id) = (ks.all fun x => ks.all fun y => decide (tab ds ks x y = tab es ks x y)) from ?_]
          · exact g2
          · rw [List.all_map]
            apply Bool.eq_iff_iff.mpr
            simp only [List.all_eq_true]
            constructor
            · intro h x hx y hy
              obtain ⟨p, hp, hpk, _⟩ := val_mem (TL.val x hx y hy trivial)
              have := h p hp
              simp only [Function.comp, id, val, hpk, kk] at this
              exact this
            · intro h p hp
              obtain ⟨x, hx, y, hy, ek⟩ := TL.ins p hp
              simp only [Function.comp, id, val, ek, kk]
              exact h x hx y hy
    · rw [decide_eq_false e]
      have g := fin H (Ex.refl _)
      unfold dueB at g
      rw [decide_eq_false e, Bool.false_and] at g
      exact iteT' rfl g
theorem ok_law_shuffled (T : TX K mg a) (D : FDS K a d) : FnOk P w K mg base CX0 3 a.a_law_shuffled d.a_law_shuffled ["box", "rows"] spShuf := by
  have G__law_take : FnOk P w K mg base CX0 2 a.a_law_take d.a_law_take ["box", "size"] spTake := ok_law_take T D
  refine D.F__law_shuffled.ok sc_law_shuffled (fun vs H Q E h => ?_) (fun cdv A outer s H vs Q E hr h => ?_)
  · obtain ⟨b, r, n, us, ds, rfl, _⟩ := h
    rfl
  · obtain ⟨b, r, n, us, ds, rfl, X, hn, rb, hr1, RA, l40, fin⟩ := h
    refine ⟨_, (pss_cons (ps_par (i := 2) (j := 3) (by rfl) sc_law_shuffled.nd rfl rfl (by decide) rfl rfl (pa_cons (pe_callTy call_list_of (by rfl) T.b_list (by decide +kernel) (pa_cons (pv 1) pa_nil)) (pa_cons (pe_lst pa_nil) pa_nil)) (by rfl))
        (pss_cons (ps_for PassesOwn.never rfl (pi_range1 rfl T.b_range (pa_cons (pe_callB call_len_seq (by rfl) T.b_len (by decide +kernel) (pa_cons (pv 1) pa_nil)) pa_nil)) (pg_name (i := 4) sc_law_shuffled.nd rfl (Or.inl rfl)) (pss_one (ps_expr (pe_bm PySem.F.plainAttrs_list PySem.F.slot_list_append PySem.F.type_list_append mt_append (pv 3) (pa_cons (pe_bm PySem.F.plainAttrs_list PySem.F.slot_list_pop PySem.F.type_list_pop mt_popAt (pv 2) (pa_cons (pe_call G__law_take (hr.mono (by decide)) rfl T.f__law_take T.k__law_take D.B__law_take .nil pass0 (pa_cons (pv 0) (pa_cons (pe_callB call_len_seq (by rfl) T.b_len (by decide +kernel) (pa_cons (pv 2) pa_nil)) pa_nil))) pa_nil)) pa_nil)))))
        (pss_one (ps_ret (pv 3))))), ?_⟩
    have big : 100000 ≤ sizeLine := by decide
    have lu := RA.1
    refine ⟨_, rfl, r, _, rfl, .inl (SqL.of hr1), fun lf hlf => ?_⟩
    have x1 := Ex.new (o := .lst us) hlf
    have hlf1 : upd H lf (.lst us) lf = some (.lst us) := upd_same
    generalize upd H lf (.lst us) = H1 at *
    refine ⟨Nat.zero_le _, fun tt htt => ⟨_, _, rfl, ?_⟩⟩
    have x2 := Ex.new (o := .lst []) htt
    have htt2 : upd H1 tt (.lst []) tt = some (.lst []) := upd_same
    have ltt : lf ≠ tt := fun z => by rw [z, htt] at hlf1; cases hlf1
    have hlf2 := x2 _ _ hlf1
    have lfb := X.ne hlf
    have ttb := (X.ex x1).ne htt
    have tt0 : H tt = none := fresh_back x1 htt
    generalize upd H1 tt (.lst []) = H2 at *
    have e2 := x1.trans x2
    refine ⟨_, rfl, r, us, rfl, .inl (ex_l e2 (SqL.of hr1)), _, rfl, by omega, by omega, for_range (lo := 0) (n := ((us.length : Nat) : Int).toNat) (fun i σ' H' => (∃ o4 : Option V, σ' = [some (.ref b), some (.ref r), some (.ref lf), some (.ref tt), o4]) ∧ Kp b H H' ∧ Bx b (n + i) H' ∧ ∃ (ul ut : List V) (dl dt : List Row), H' lf = some (.lst ul) ∧ RowsAt H' ul dl ∧ H' tt = some (.lst ut) ∧ RowsAt H' ut dt ∧ dl.length + dt.length = ds.length ∧ dt.length = i ∧ ∀ x, x ∈ ds ↔ x ∈ dl ∨ x ∈ dt) ⟨⟨none, rfl⟩, Kp.ex e2, X.ex e2, us, [], ds, [], hlf2, RA.ex e2, htt2, RowsAt.nil, rfl, rfl, fun x => by simp⟩ ?_ ?_⟩
    · rintro i σ' H3 hi ⟨⟨o4, rfl⟩, k3, X3, ul, ut, dl, dt, hl3, RL, ht3, RT, sum, ldt, mem⟩
      have hi2 : i < ds.length := by simp at hi; omega
      have lul := RL.1
      have lut := RT.1
      refine ⟨_, rfl, .inl ⟨rfl, _, SqL.of ht3⟩, _, rfl, .inl ⟨rfl, _, SqL.of hl3⟩, _, rfl, _, rfl, lf, _, rfl, .inl (SqL.of hl3), b, _, _, rfl, X3, by omega, by omega, by omega, fun o H4 k4 X4 o0 o1 => ?_⟩
      obtain ⟨o, rfl⟩ := Int.eq_ofNat_of_zero_le o0
      have ol : o < dl.length := by omega
      obtain ⟨x, hx⟩ : ∃ x, dl[o]? = some x := ⟨dl[o], List.getElem?_eq_getElem ol⟩
      have hl4 := k4.at lfb hl3
      have ht4 := k4.at ttb ht3
      have RL4 := RL.keep (k4.tup X3)
      have RT4 := RT.keep (k4.tup X3)
      obtain ⟨px, hux, hpx⟩ := RL4.at hx
      have k14 := k3.trans k4
      refine ⟨lf, ul, (o : Int), o, .ref px, rfl, rfl, hl4, by omega, by omega, (by rw [seqIndex_of (by omega) (by omega)]; rfl), hux, ?_⟩
      have t5 := TK.lst (o := .lst (ul.eraseIdx o)) hl4
      have hl5 : upd H4 lf (.lst (ul.eraseIdx o)) lf = some (.lst (ul.eraseIdx o)) := upd_same
      have ht5 : upd H4 lf (.lst (ul.eraseIdx o)) tt = some (.lst ut) := by rw [upd_ne (Ne.symm ltt)]; exact ht4
      have k5 := k14.mut (o := .lst (ul.eraseIdx o)) hlf lfb
      have X5 := Bx.mut (o := .lst (ul.eraseIdx o)) X hlf k14 X4
      generalize upd H4 lf (.lst (ul.eraseIdx o)) = H5 at *
      have RL5 := (RL4.keep t5).erase o
      have RT5 := RT4.keep t5
      have hpx5 := t5 _ _ hpx
      refine ⟨tt, ut, _, rfl, rfl, ht5, by omega, ⟨_, rfl⟩, ?_⟩
      have t6 := TK.lst (o := .lst (ut ++ [V.ref px])) ht5
      refine ⟨k5.mut tt0 ttb, (Bx.mut X tt0 k5 X5).mono (by omega), ul.eraseIdx o, ut ++ [.ref px], dl.eraseIdx o, dt ++ [x], by rw [upd_ne ltt]; exact hl5, RL5.keep t6, upd_same, (RT5.keep t6).snoc ⟨px, rfl, t6 _ _ hpx5⟩, ?_, ?_, fun y => ?_⟩
      · rw [List.length_eraseIdx_of_lt ol, List.length_append, List.length_singleton]
        omega
      · rw [List.length_append, ldt]; rfl
      · rw [mem y, mem_erase_idx dl o x hx y, List.mem_append, List.mem_singleton]
        constructor
        · rintro ((h | h) | h)
          · exact .inr (.inr h)
          · exact .inl h
          · exact .inr (.inl h)
        · rintro (h | h | h)
          · exact .inl (.inr h)
          · exact .inr h
          · exact .inl (.inl h)
    · rintro σ' H3 ⟨⟨o4, rfl⟩, k3, X3, ul, ut, dl, dt, hl3, RL, ht3, RT, sum, ldt, mem⟩
      have en : ((us.length : Nat) : Int).toNat = ds.length := by omega
      rw [en] at ldt X3
      have dl0 : dl = [] := List.length_eq_zero_iff.mp (by omega)
      subst dl0
      exact ⟨_, rfl, fin tt ut dt H3 tt0 ht3 RT ldt (fun x => by rw [mem x]; simp) k3 (X3.mono (by omega))⟩
end
end N4
set_option maxRecDepth 100000
set_option maxHeartbeats 8000000
namespace N4
open PySem L2 Evl GP HR SC SetM SetH
theorem prs_eqv : ∀ l : List (Str × Int), PyData.eqvAll (l.map prD) (l.map prD) = true
  | [] => by simp [PyData.eqvAll]
  | p :: l => by simp [PyData.eqvAll, prD, PyData.eqv, prs_eqv l]
theorem tm_eqv (Tm : Str → Int) (ks : List Str) : PyData.eqv (.tuple ((tmP Tm ks).map prD)) (.tuple ((tmP Tm ks).map prD)) = true := by simp [PyData.eqv, prs_eqv]
theorem sh_tm {Tm : Str → Int} {ks : List Str} (h : ∀ z ∈ ks, isNameS z = true) : PySem.SeqAt.shaped (.tuple ((tmP Tm ks).map prD)) = true := (Sh.tuple (n := 1) fun x hx => by
  obtain ⟨p, hp, rfl⟩ := List.mem_map.mp hx
  obtain ⟨z, hz, rfl⟩ := List.mem_map.mp hp
  exact sh_pair (n := 0) (sh_str (name_ok (h z hz))) sh_int).sh (by decide)

theorem neD_same {K : PySem.W.Frag} {H : Hp} {x y : V} {e : PyData} {Q : VK} (sh : PySem.SeqAt.shaped e = true) (h1 : Dp K H x e) (h2 : Dp K H y e) (q : Q (.bl false) H) : rNeD K x y H Q := by
  refine ⟨e, e, h1, h2, sh, sh, ?_⟩
  rw [PySem.SeqAt.eqv_refl e (Bool.and_eq_true_iff.mp sh).1]
  exact q
def chD : Option Way → PyData
  | none => .none
  | some w => .tuple (w.c.map bD)
theorem ChnAt.dp {K : PySem.W.Frag} {H : Hp} {v : V} {o : Option Way} (h : ChnAt K H v o) : Dp K H v (chD o) := by
  cases o with
  | none =>
    obtain rfl : v = .non := h
    exact .non
  | some w =>
    obtain ⟨q, us, rfl, h1, h2⟩ := (h : ∃ q us, v = .ref q ∧ SqT K H q us ∧ RowsAt H us w.c)
    exact .tup h1 h2.dp
theorem ChnAt.ex {K : PySem.W.Frag} {H H' : Hp} {v : V} {o : Option Way} (h : ChnAt K H v o) (e : Ex H H') : ChnAt K H' v o := by
  cases o with
  | none => exact h
  | some w =>
    obtain ⟨q, us, h0, h1, h2⟩ := (h : ∃ q us, v = .ref q ∧ SqT K H q us ∧ RowsAt H us w.c)
    exact ⟨q, us, h0, ex_t e h1, h2.ex e⟩
theorem chD_sh {ks : List Str} {ds : List Row} (mo : MsOk ks ds) (N : NoNeg ds) (ok : ∀ b ∈ ds, RowOk b) (x y : Str) : PySem.SeqAt.shaped (chD (best (netW ks ds).2 x y)) = true := by
  cases h : best (netW ks ds).2 x y with
  | none => rfl
  | some w =>
    obtain ⟨wk, _⟩ := ((net_ok mo).none N).2.bsd h
    exact (Sh.tuple (n := 1) fun z hz => by
      obtain ⟨c, hc, rfl⟩ := List.mem_map.mp hz
      exact sh_row (ok c (wk.mem c hc))).sh (by decide)
theorem tm_same {m m' : WMap} {ks : List Str} (h : ∀ x y, best m x y = best m' x y) (y : Str) : tm m ks y = tm m' ks y := by
  unfold tm tmL
  congr 2
  funext z
  rw [h]
theorem tmP_same {m m' : WMap} {ks : List Str} (h : ∀ x y, best m x y = best m' x y) : tmP (tm m ks) ks = tmP (tm m' ks) ks := by
  unfold tmP
  congr 1
  funext y
  rw [tm_same h]
theorem grp_same {m m' : WMap} {ks : List Str} (h : ∀ x y, best m x y = best m' x y) (x : Str) : grp m ks x = grp m' ks x := by
  unfold grp
  congr 1
  funext z
  rw [h]
/-- nets of the same bounds: the ways are the same, and so is whether there is a ring -/
theorem nets_same {ks : List Str} {ds es : List Row} (mo : MsOk ks (flatR ds)) (mo2 : MsOk ks (flatR es)) (mem : ∀ x, x ∈ es ↔ x ∈ ds) : ((netW ks (flatR ds)).1 = none → (netW ks (flatR es)).1 = none ∧ ∀ x y, best (netW ks (flatR ds)).2 x y = best (netW ks (flatR es)).2 x y) ∧ ((netW ks (flatR es)).1 = none → (netW ks (flatR ds)).1 = none) := by
  have s1 : ∀ b ∈ flatR ds, b ∈ flatR es := fun b hb => (flatR_mem es b).mpr ((mem b).mpr ((flatR_mem ds b).mp hb))
  have s2 : ∀ b ∈ flatR es, b ∈ flatR ds := fun b hb => (flatR_mem ds b).mpr ((mem b).mp ((flatR_mem es b).mp hb))
  refine ⟨fun h => ?_, fun h => ((net_ok mo).none ((noneg_of mo2 h).sub s1)).1⟩
  have N := noneg_of mo h
  exact ⟨((net_ok mo2).none (N.sub s2)).1, fun x y => (best_same mo N s1 s2 x y).symm⟩
theorem same_mem {ks : List Str} {ds es : List Row} (mo : MsOk ks (flatR ds)) (mo2 : MsOk ks (flatR es)) (mem : ∀ x, x ∈ es ↔ x ∈ ds) : sameN ks ks (netW ks (flatR ds)) (netW ks (flatR es)) = true := by
  obtain ⟨h1, h2⟩ := nets_same mo mo2 mem
  unfold sameN
  rw [decide_eq_true rfl, Bool.true_and]
  cases e1 : (netW ks (flatR ds)).1 with
  | none =>
    obtain ⟨e2, bs⟩ := h1 e1
    rw [e2]
    have N := noneg_of mo e1
    have G1 := ((net_ok mo).none N).2
    have G2 := ((net_ok mo2).none (noneg_of mo2 e2)).2
    refine List.all_eq_true.mpr fun x hx => List.all_eq_true.mpr fun y hy => decide_eq_true ?_
    by_cases e : x = y
    · subst e
      have n1 : (netW ks (flatR ds)).2 x x = none := by
        cases h : (netW ks (flatR ds)).2 x x with
        | none => rfl
        | some w => exact absurd rfl (G1.sound _ _ _ h).1
      have n2 : (netW ks (flatR es)).2 x x = none := by
        cases h : (netW ks (flatR es)).2 x x with
        | none => rfl
        | some w => exact absurd rfl (G2.sound _ _ _ h).1
      rw [n1, n2]
    · have := bs x y
      unfold best at this
      rw [if_neg e, if_neg e] at this
      rw [this]
  | some c =>
    cases e2 : (netW ks (flatR es)).1 with
    | none =>
      rw [h2 e2] at e1
      cases e1
    | some c2 => rfl
def spOrder (K : PySem.W.Frag) (C : Addr) : Sp := fun vs H Q _ => ∃ (b q r2 l : Addr) (ev : V) (n : Nat) (us2 : List V) (ds es : List Row) (ks em pool : List Str), vs = [.ref b, .ref q, .ref r2, ev, .ref l] ∧ Bx b n H ∧ n + 20 ≤ 1000000 ∧ NetAt K C H q (flatR ds) ks ∧ NetP (flatR ds) ks ∧ H r2 = some (.lst us2) ∧ RowsAt H us2 es ∧ (∀ x ∈ es, RowOk x) ∧ es.length ≤ 28 ∧ (∀ x, x ∈ es ↔ x ∈ ds) ∧
  MoArg K H ev em ∧ (∀ z ∈ em, isNameS z = true) ∧ em.length ≤ 20 ∧ pool.length ≤ 20 ∧ (∀ z ∈ em, z ∈ pool) ∧ (∀ c ∈ es, ∀ z ∈ nm2 c, z ∈ pool) ∧ (∀ z, z ∈ ks ↔ z ∈ em ∨ ∃ c ∈ ds, z ∈ nm2 c) ∧ l ≠ b ∧ H l = some (.lst (ks.map V.str)) ∧ ∀ H', Kp b H H' → Bx b (n + 8) H' → Q (.bl true) H'
section
variable {P : Program} {w : World} {K : PySem.W.Frag} {mg : Str → Option Value} {base : Heap} {a : Ad} {d : Fd} {fL fN fU fI0 f0 D0 T0 fE fR : Addr} {dE dR : FuncData} {fK fT fH fA fn fB fO : Addr} {dK dT dH dA dn dB dO : FuncData}
theorem ok_law_order_right (T : TX K mg a) (D : FDS K a d) (R : ER K mg P a fL fN fU fI0) (Z : EW K a) (M : CN K mg a.cT f0 D0 T0) (N : NM K a.cT fK fT fH fA fn dK dT dH dA dn) (L : NL K a.cT fB fO dB dO) (C : NR K a.cT fR dR) (X : QE K a.cT fE dE) : FnOk P w K mg base CX0 13 a.a_law_order_right d.a_law_order_right ["box", "net", "turned", "extra", "known"] (spOrder K a.cT) := by
  have GT := ok_most (P := P) (w := w) (base := base) T D R Z M N
  have GH := ok_chain (P := P) (w := w) (base := base) T D R Z M N
  have GC := ok_carried (P := P) (w := w) (base := base) T D R Z M N C
  have GB : FnR P w K mg base (L2N.CX P w) 3 fB (spLeast K a) := FnOk.toR (ok_least T D R Z M N L) L.BB
  have G__law_take : FnOk P w K mg base CX0 2 a.a_law_take d.a_law_take ["box", "size"] spTake := ok_law_take T D
  have G__law_net : FnOk P w K mg base CX0 12 a.a_law_net d.a_law_net ["rows", "extra"] (spNet K a.cT) := ok_law_net T D R Z M N
  have G__law_settled : FnOk P w K mg base CX0 5 a.a_law_settled d.a_law_settled ["net", "rows", "known"] (spSettled K a.cT) := ok_law_settled T D R Z M N L
  have G__law_same : FnOk P w K mg base CX0 2 a.a_law_same d.a_law_same ["net", "other", "due"] (spSame K a.cT) := ok_law_same T D M X
  refine D.F__law_order_right.ok sc_law_order_right (fun vs H Q E h => ?_) (fun cdv A outer s H vs Q E hr h => ?_)
  · obtain ⟨b, q, r2, l, ev, n, us2, ds, es, ks, em, pool, rfl, _⟩ := h
    rfl
  · obtain ⟨b, q, r2, l, ev, n, us2, ds, es, ks, em, pool, rfl, X0, hn, NA, NP, hr2l, RB, oke, l28, mem, MA, nmE, lem, p20, subE, subB, kmem, lb, hl, fin⟩ := h
    have hr2 : Room 2 _ := hr.mono (by decide)
    have hr3 : Room 3 _ := hr.mono (by decide)
    refine ⟨_, (pss_cons (ps_set (i := 5) sc_law_order_right.nd rfl (Or.inl rfl) (pe_call G__law_net (hr.mono (by decide)) rfl T.f__law_net T.k__law_net D.B__law_net .nil pass0 (pa_cons (pv 2) (pa_cons (pv 3) pa_nil))))
        (pss_cons (ps_if (PW.pt (pw_or (pt_not (pt_val (pe_call G__law_settled (hr.mono (by decide)) rfl T.f__law_settled T.k__law_settled D.B__law_settled .nil pass0 (pa_cons (pv 5) (pa_cons (pv 2) (pa_cons (pv 4) pa_nil)))))) (pw_or1 (pt_not (pt_val (pe_call G__law_same (hr.mono (by decide)) rfl T.f__law_same T.k__law_same D.B__law_same .nil pass0 (pa_cons (pv 1) (pa_cons (pv 5) (pa_cons pe_bl pa_nil))))))))) (pss_one (ps_ret pe_bl)) pss_nil)
        (pss_cons (ps_if (pt_cmpR op_notN (pe_fld (pv 1) rfl) pe_non (nomark _)) (pss_one (ps_ret (pe_cmpR op_notN (pe_fld (pv 5) rfl) pe_non (nomark _)))) pss_nil)
        (pss_cons (ps_if (pt_cmpR (op_neD hr.units) (KW.pe_methR0 (pv 1) M.cl L.B1.mt GB hr3 passN) (KW.pe_methR0 (pv 5) M.cl L.B1.mt GB hr3 passN) (nomark _)) (pss_one (ps_ret pe_bl)) pss_nil)
        (pss_cons (ps_for PassesOwn.never rfl (pi_range1 rfl T.b_range (pa_cons (pe_callB (call_min2 rfl) (by rfl) T.b_min (by decide +kernel) (pa_cons pe_int (pa_cons (pe_op op_pow (pe_callB call_len_seq (by rfl) T.b_len (by decide +kernel) (pa_cons (pv 4) pa_nil)) pe_int) pa_nil))) pa_nil)) (pg_name (i := 6) sc_law_order_right.nd rfl (Or.inl rfl)) (pss_cons (ps_par (i := 7) (j := 8) (by rfl) sc_law_order_right.nd rfl rfl (by decide) rfl rfl (pa_cons (pe_ix (ix_listK (K := K)) (pv 4) (pe_call G__law_take (hr.mono (by decide)) rfl T.f__law_take T.k__law_take D.B__law_take .nil pass0 (pa_cons (pv 0) (pa_cons (pe_callB call_len_seq (by rfl) T.b_len (by decide +kernel) (pa_cons (pv 4) pa_nil)) pa_nil))) (fun _ _ => rfl)) (pa_cons (pe_ix (ix_listK (K := K)) (pv 4) (pe_call G__law_take (hr.mono (by decide)) rfl T.f__law_take T.k__law_take D.B__law_take .nil pass0 (pa_cons (pv 0) (pa_cons (pe_callB call_len_seq (by rfl) T.b_len (by decide +kernel) (pa_cons (pv 4) pa_nil)) pa_nil))) (fun _ _ => rfl)) pa_nil)) (by rfl))
        (pss_cons (ps_if (PW.pt (pw_or (pt_cmpR op_ne (pe_meth (pv 1) M.cl N.T1.mt GT hr2 N.BT .nil passN (pa_cons (pv 7) (pa_cons (pv 8) pa_nil))) (pe_meth (pv 5) M.cl N.T1.mt GT hr2 N.BT .nil passN (pa_cons (pv 7) (pa_cons (pv 8) pa_nil))) (nomark _)) (pw_or1 (pt_cmpR (op_neD hr.units) (pe_meth (pv 1) M.cl N.H1.mt GH hr2 N.BH .nil passN (pa_cons (pv 7) (pa_cons (pv 8) pa_nil))) (pe_meth (pv 5) M.cl N.H1.mt GH hr2 N.BH .nil passN (pa_cons (pv 7) (pa_cons (pv 8) pa_nil))) (nomark _))))) (pss_one (ps_ret pe_bl)) pss_nil)
        (pss_one (ps_if (pt_cmpR (op_neD hr.units) (pe_meth (pv 1) M.cl C.C1.mt GC hr2 C.BC .nil passN (pa_cons (pv 7) pa_nil)) (pe_meth (pv 5) M.cl C.C1.mt GC hr2 C.BC .nil passN (pa_cons (pv 7) pa_nil)) (nomark _)) (pss_one (ps_ret pe_bl)) pss_nil)))))
        (pss_one (ps_ret pe_bl))))))), ?_⟩
    have big : 100000 ≤ sizeLine := by decide
    have lk : (ks.map V.str).length = ks.length := List.length_map _
    have l20 := NP.l20
    refine ⟨_, rfl, _, rfl, r2, us2, es, ev, em, pool, rfl, SqL.of hr2l, RB, oke, l28, MA, nmE, lem, p20, subE, subB, fun q2 ms2 H1 e1 NB NQ mem2 => ?_⟩
    obtain rfl : ks = ms2 := names_same NP.nd NQ.nd NP.so NQ.so fun z => by
      rw [kmem z, mem2 z]
      exact or_congr Iff.rfl ⟨fun ⟨c, hc, h⟩ => ⟨c, (mem c).mpr hc, h⟩, fun ⟨c, hc, h⟩ => ⟨c, (mem c).mp hc, h⟩⟩
    obtain ⟨same, same2⟩ := nets_same NP.mok NQ.mok mem
    refine ⟨_, rfl, _, rfl, _, rfl, q2, r2, l, us2, es, ks, rfl, NB, NQ, SqL.of (e1 _ _ hr2l), RB.ex e1, oke, by omega, SqL.of (e1 _ _ hl), fun H2 e2 => ⟨_, rfl, iteF' rfl ?_⟩⟩
    have e12 := e1.trans e2
    refine ⟨_, rfl, _, rfl, q, q2, true, flatR ds, flatR es, ks, ks, rfl, NA.ex e12, NP, NB.ex e2, NQ, (same_mem NP.mok NQ.mok mem).symm, fun H3 e3 => ⟨_, rfl, iteF' rfl ?_⟩⟩
    have e13 := e12.trans e3
    have NA3 := NA.ex e13
    have NB3 := NB.ex (e2.trans e3)
    have X3 := X0.ex e13
    obtain ⟨dx, bo, mo, rv, dd, mv, us0, hq, hbo, RA0, hmo, RG, WS, MN⟩ := id NA3
    obtain ⟨dx2, bo2, mo2', rv2, dd2, mv2, us20, hq2, hbo2, RB0, hmo2, RG2, WS2, MN2⟩ := id NB3
    refine ⟨_, rfl, q, a.cT, dx, _, _, rfl, hq, M.cl, M.n3, rfl, ?_⟩
    cases hn1 : (netW ks (flatR ds)).1 with
    | some c1 =>
      rw [hn1] at RG
      obtain ⟨qa, ua, rfl, _⟩ := (RG : ∃ q0 us, rv = V.ref q0 ∧ SqT K H3 q0 us ∧ RowsAt H3 us c1)
      cases hn2 : (netW ks (flatR es)).1 with
      | none =>
        rw [same2 hn2] at hn1
        cases hn1
      | some c2 =>
        rw [hn2] at RG2
        obtain ⟨qb, ub, rfl, _⟩ := (RG2 : ∃ q0 us, rv2 = V.ref q0 ∧ SqT K H3 q0 us ∧ RowsAt H3 us c2)
        exact ⟨rfl, _, rfl, iteT' rfl ⟨_, rfl, q2, a.cT, dx2, _, _, rfl, hq2, M.cl, M.n3, rfl, rfl, fin H3 (Kp.ex e13) (X3.mono (by omega))⟩⟩
    | none =>
      obtain ⟨hn2, bs⟩ := same hn1
      rw [hn1] at RG
      rw [hn2] at RG2
      obtain rfl : rv = .non := RG
      obtain rfl : rv2 = .non := RG2
      have N1 := noneg_of NP.mok hn1
      refine ⟨rfl, _, rfl, iteF' rfl ?_⟩
      refine ⟨_, rfl, q, dx, _, rfl, hq, rfl, ?_⟩
      refine ⟨q, flatR ds, ks, rfl, NA3, l20, chkE_no hn1 (fun z h => absurd h List.not_mem_nil), fun _ v1 H4 e4 TM1 => ?_⟩
      refine ⟨_, rfl, q2, dx2, _, rfl, e4 _ _ hq2, rfl, ?_⟩
      refine ⟨q2, flatR es, ks, rfl, NB3.ex e4, l20, chkE_no hn2 (fun z h => absurd h List.not_mem_nil), fun _ v2 H5 e5 TM2 => ?_⟩
      have d2 := TM2.dp (K := K)
      rw [← tmP_same bs] at d2
      refine neD_same (sh_tm NP.nm) (TM1.ex e5).dp d2 ⟨_, rfl, iteF' rfl ?_⟩
      have e35 := e4.trans e5
      have k05 : Kp b H H5 := Kp.ex (e13.trans e35)
      have X5 := X3.ex e35
      have NA5 := NA3.ex e35
      have NB5 := NB3.ex e35
      have hl5 := k05.at lb hl
      refine ⟨_, rfl, l, _, rfl, .inl (SqL.of hl5), _, _, rfl, rfl, ⟨by decide, by decide, by omega⟩, _, _, rfl, ?_⟩
      obtain ⟨m, hm, m4⟩ : ∃ m : Nat, (if ((ks.map V.str).length : Int) ^ (2 : Int).toNat < 4 then ((ks.map V.str).length : Int) ^ (2 : Int).toNat else 4) = (m : Int) ∧ m ≤ 4 ∧ (0 < m → 0 < ks.length) := by
        have e : ((ks.map V.str).length : Int) ^ (2 : Int).toNat = ((ks.length * ks.length : Nat) : Int) := by
          rw [lk]
          show ((ks.length : Nat) : Int) ^ 2 = _
          rw [Int.pow_succ, Int.pow_succ, Int.pow_zero, Int.one_mul, Int.natCast_mul]
        rw [e]
        cases hk : ks.length with
        | zero => exact ⟨0, rfl, by omega, fun h => absurd h (by omega)⟩
        | succ k =>
          split
          · rename_i h
            exact ⟨(k + 1) * (k + 1), rfl, by omega, fun _ => by omega⟩
          · exact ⟨4, rfl, by omega, fun _ => by omega⟩
      rw [hm]
      refine ⟨_, rfl, by omega, by omega, for_range (lo := 0) (n := ((m : Nat) : Int).toNat) (fun i σ' H' => (∃ o6 o7 o8 : Option V, σ' = [some (.ref b), some (.ref q), some (.ref r2), some ev, some (.ref l), some (.ref q2), o6, o7, o8]) ∧ Kp b H5 H' ∧ Bx b (n + 2 * i) H') ⟨⟨none, none, none, rfl⟩, Kp.refl _ _, X5⟩ ?_ ?_⟩
      · rintro i σ' H6 hi ⟨⟨o6, o7, o8, rfl⟩, k6, X6⟩
        have him : i < m := by simpa using hi
        have kpos := m4.2 (by omega)
        have hl6 := k6.at lb hl5
        refine ⟨_, rfl, _, rfl, _, rfl, l, _, rfl, .inl (SqL.of hl6), b, _, _, rfl, X6, by omega, by omega, by omega, fun o H7 k7 X7 o0 o1 => ?_⟩
        obtain ⟨o, rfl⟩ := Int.eq_ofNat_of_zero_le o0
        rw [lk] at o1
        obtain ⟨x, hx⟩ : ∃ x, ks[o]? = some x := ⟨ks[o]'(by omega), List.getElem?_eq_getElem (by omega)⟩
        have hl7 := k7.at lb hl6
        refine ⟨l, _, _, .str x, rfl, rfl, SqL.of hl7, at_lit (n := o) rfl (by rw [List.getElem?_map, hx]; rfl), _, rfl, _, rfl, _, rfl, l, _, rfl, .inl (SqL.of hl7), b, _, _, rfl, X7, by omega, by omega, by omega, fun o' H8 k8 X8 o0' o1' => ?_⟩
        obtain ⟨o', rfl⟩ := Int.eq_ofNat_of_zero_le o0'
        rw [lk] at o1'
        obtain ⟨y, hy⟩ : ∃ y, ks[o']? = some y := ⟨ks[o']'(by omega), List.getElem?_eq_getElem (by omega)⟩
        have hl8 := k8.at lb hl7
        refine ⟨l, _, _, .str y, rfl, rfl, SqL.of hl8, at_lit (n := o') rfl (by rw [List.getElem?_map, hy]; rfl), ?_⟩
        refine ⟨_, _, rfl, ?_⟩
        have xk := List.mem_of_getElem? hx
        have yk := List.mem_of_getElem? hy
        have two : ∀ z ∈ [x, y], z ∈ ks := fun z hz => by
          simp only [List.mem_cons, List.not_mem_nil, or_false] at hz
          rcases hz with rfl | rfl
          · exact xk
          · exact yk
        have k58 := (k6.trans k7).trans k8
        have tl8 := k58.tl X5
        have NA8 := NA5.tl tl8
        have NB8 := NB5.tl tl8
        obtain ⟨dx, bo, mo, rv, dd, mv, us0, hq, _⟩ := id NA8
        obtain ⟨dx2, bo2, mo2', rv2, dd2, mv2, us20, hq2, _⟩ := id NB8
        refine ⟨_, rfl, q, dx, _, rfl, hq, rfl, _, rfl, _, rfl, ?_⟩
        dsimp only [tNil]
        refine ⟨q, x, y, flatR ds, ks, rfl, NA8, chkE_no hn1 two, fun _ v3 H9 e9 I1 => ?_⟩
        refine ⟨_, rfl, q2, dx2, _, rfl, e9 _ _ hq2, rfl, _, rfl, _, rfl, ?_⟩
        dsimp only [tNil]
        refine ⟨q2, x, y, flatR es, ks, rfl, NB8.ex e9, chkE_no hn2 two, fun _ v4 H10 e10 I2 => ?_⟩
        have e810 := e9.trans e10
        rw [← bs x y] at I2
        obtain rfl : v3 = v4 := by
          cases hb : best (netW ks (flatR ds)).2 x y with
          | none => rw [hb] at I1 I2; exact (I1 : v3 = .non).trans (I2 : v4 = .non).symm
          | some u => rw [hb] at I1 I2; exact (I1 : v3 = .int u.t).trans (I2 : v4 = .int u.t).symm
        have sc : L2.scal v3 v3 = true := by
          cases hb : best (netW ks (flatR ds)).2 x y with
          | none => rw [hb] at I1; obtain rfl : v3 = .non := I1; rfl
          | some u => rw [hb] at I1; obtain rfl : v3 = .int u.t := I1; rfl
        refine ⟨sc, _, rfl, iteF' (by simp) ?_⟩
        refine ⟨_, rfl, q, dx, _, rfl, e810 _ _ hq, rfl, _, rfl, _, rfl, ?_⟩
        dsimp only [tNil]
        refine ⟨q, x, y, flatR ds, ks, rfl, NA8.ex e810, chkE_no hn1 two, fun _ v5 H11 e11 C1 => ?_⟩
        have e811 := e810.trans e11
        refine ⟨_, rfl, q2, dx2, _, rfl, e811 _ _ hq2, rfl, _, rfl, _, rfl, ?_⟩
        dsimp only [tNil]
        refine ⟨q2, x, y, flatR es, ks, rfl, NB8.ex e811, chkE_no hn2 two, fun _ v6 H12 e12 C2 => ?_⟩
        have e812 := e811.trans e12
        rw [← bs x y] at C2
        have okf : ∀ c ∈ flatR ds, RowOk c := NP.ok
        refine neD_same (chD_sh NP.mok N1 okf x y) (C1.ex e12).dp C2.dp ⟨_, rfl, iteF' rfl ?_⟩
        refine ⟨_, rfl, q, dx, _, rfl, e812 _ _ hq, rfl, _, rfl, ?_⟩
        dsimp only [tNil]
        have one : ∀ z ∈ [x], z ∈ ks := fun z hz => by rw [List.mem_singleton.mp hz]; exact xk
        refine ⟨q, x, flatR ds, ks, rfl, NA8.ex e812, l20, chkE_no hn1 one, fun _ t1 H13 e13' ht1 => ?_⟩
        have e813 := e812.trans e13'
        refine ⟨_, rfl, q2, dx2, _, rfl, e813 _ _ hq2, rfl, _, rfl, ?_⟩
        dsimp only [tNil]
        refine ⟨q2, x, flatR es, ks, rfl, NB8.ex e813, l20, chkE_no hn2 one, fun _ t2 H14 e14 ht2 => ?_⟩
        rw [← grp_same bs x] at ht2
        have gn : ∀ z ∈ grp (netW ks (flatR ds)).2 ks x, isNameS z = true := fun z hz => NP.nm z ((List.mem_filter.mp hz).1)
        refine neD_same (names_sh gn) (.tup (SqT.of (e14 _ _ ht1)) (names_dp _)) (.tup (SqT.of ht2) (names_dp _)) ⟨_, rfl, iteF' rfl ?_⟩
        have e814 := e813.trans e14
        exact ⟨⟨_, _, _, rfl⟩, k58.trans (Kp.ex e814), (X8.ex e814).mono (by omega)⟩
      · rintro σ' H6 ⟨⟨o6, o7, o8, rfl⟩, k6, X6⟩
        exact fin H6 (k05.trans k6) (X6.mono (by have := m4.1; simp; omega))
end
end N4
set_option maxRecDepth 100000
set_option maxHeartbeats 8000000
namespace N4
open PySem L2 Evl GP HR SC SetM SetH
theorem flatR_appL (a : List Row) : ∀ b, flatR (flatR a ++ b) = flatR (a ++ b) := fun b => by
  refine snoc_ind (P := fun b => flatR (flatR a ++ b) = flatR (a ++ b)) ?_ (fun b x ih => ?_) b
  · rw [List.append_nil, List.append_nil, flatR_nodup _ (flatR_nd a)]
  · rw [← List.append_assoc, ← List.append_assoc, flatR_snoc, flatR_snoc, ih]
theorem flatR_appR (a : List Row) : ∀ b, flatR (a ++ flatR b) = flatR (a ++ b) := fun b => by
  refine snoc_ind (P := fun b => flatR (a ++ flatR b) = flatR (a ++ b)) rfl (fun b x ih => ?_) b
  rw [← List.append_assoc, flatR_snoc b x]
  by_cases h : x ∈ flatR b
  · rw [if_pos h, ih, flatR_snoc, if_pos ((flatR_mem _ x).mpr (List.mem_append_right _ ((flatR_mem b x).mp h)))]
  · rw [if_neg h, ← List.append_assoc, flatR_snoc, flatR_snoc, ih]
theorem flatR_both (a b : List Row) : flatR (flatR a ++ flatR b) = flatR (a ++ b) := by rw [flatR_appL, flatR_appR]
def rgD : Option (List Row) → PyData
  | none => .none
  | some c => .tuple (c.map bD)
theorem RingAt.dp {K : PySem.W.Frag} {H : Hp} {v : V} {o : Option (List Row)} (h : RingAt K H v o) : Dp K H v (rgD o) := by
  cases o with
  | none =>
    obtain rfl : v = .non := h
    exact .non
  | some c =>
    obtain ⟨q, us, rfl, h1, h2⟩ := (h : ∃ q us, v = .ref q ∧ SqT K H q us ∧ RowsAt H us c)
    exact .tup h1 h2.dp
theorem rgD_sh {ks : List Str} {fl : List Row} (mo : MsOk ks fl) (ok : ∀ b ∈ fl, RowOk b) : PySem.SeqAt.shaped (rgD (netW ks fl).1) = true := by
  cases hn : (netW ks fl).1 with
  | none => rfl
  | some c =>
    obtain ⟨bs1, b1, bs2, qw, eF, NN1, hb1, lt1, rfl⟩ := ring_of mo hn
    have mo1 : MsOk ks bs1 := fun x hx => mo x (by rw [eF]; exact List.mem_append_left _ hx)
    obtain ⟨wq, tq⟩ := ((net_ok mo1).none NN1).2.bsd hb1
    exact (Sh.tuple (n := 1) fun z hz => by
      obtain ⟨c, hc, rfl⟩ := List.mem_map.mp hz
      refine sh_row (ok c ?_)
      rw [eF]
      rcases List.mem_cons.mp hc with rfl | hc
      · simp
      · exact List.mem_append_left _ (wq.mem c hc)).sh (by decide)
def spJoined (K : PySem.W.Frag) (C : Addr) : Sp := fun vs H Q _ => ∃ (b q r et l : Addr) (n : Nat) (us : List V) (ds : List Row) (ks em pool : List Str), vs = [.ref b, .ref q, .ref r, .ref et, .ref l] ∧ Bx b n H ∧ n + 20 ≤ 1000000 ∧ NetAt K C H q (flatR ds) ks ∧ NetP (flatR ds) ks ∧ r ≠ b ∧ H r = some (.lst us) ∧ RowsAt H us ds ∧ (∀ x ∈ ds, RowOk x) ∧ ds.length ≤ 28 ∧
  SqT K H et (em.map V.str) ∧ (∀ z ∈ em, isNameS z = true) ∧ em.length ≤ 20 ∧ pool.length ≤ 20 ∧ (∀ z ∈ em, z ∈ pool) ∧ (∀ c ∈ ds, ∀ z ∈ nm2 c, z ∈ pool) ∧ (∀ z, z ∈ ks ↔ z ∈ em ∨ ∃ c ∈ ds, z ∈ nm2 c) ∧ l ≠ b ∧ H l = some (.lst (ks.map V.str)) ∧ ∀ H', Kp b H H' → Bx b (n + 1) H' → Q (.bl true) H'
section
variable {P : Program} {w : World} {K : PySem.W.Frag} {mg : Str → Option Value} {base : Heap} {a : Ad} {d : Fd} {fL fN fU fI0 f0 D0 T0 fE fR : Addr} {dE dR : FuncData} {fK fT fH fA fn fB fO : Addr} {dK dT dH dA dn dB dO : FuncData}
theorem ok_law_joined_right (T : TX K mg a) (D : FDS K a d) (R : ER K mg P a fL fN fU fI0) (Z : EW K a) (M : CN K mg a.cT f0 D0 T0) (N : NM K a.cT fK fT fH fA fn dK dT dH dA dn) (L : NL K a.cT fB fO dB dO) (X : QE K a.cT fE dE) : FnOk P w K mg base CX0 13 a.a_law_joined_right d.a_law_joined_right ["box", "net", "rows", "extra", "known"] (spJoined K a.cT) := by
  have GA : FnR P w K mg base (L2N.CX P w) 7 fA (spAnd K a) := FnOk.toR (ok_and T D R Z M N) N.BA
  have G__law_take : FnOk P w K mg base CX0 2 a.a_law_take d.a_law_take ["box", "size"] spTake := ok_law_take T D
  have G__law_net : FnOk P w K mg base CX0 12 a.a_law_net d.a_law_net ["rows", "extra"] (spNet K a.cT) := ok_law_net T D R Z M N
  have G__law_plain : FnOk P w K mg base CX0 11 a.a_law_plain d.a_law_plain ["rows"] (spPlain K a.cT 4) := ok_law_plain T D R Z M N 4
  have G__law_known : FnOk P w K mg base CX0 1 a.a_law_known d.a_law_known ["rows", "extra"] (spKnown K) := ok_law_known T D
  have G__law_shaped : FnOk P w K mg base CX0 3 a.a_law_shaped d.a_law_shaped ["net", "rows", "known"] (spShaped K a.cT) := ok_law_shaped T D M N
  have G__law_settled : FnOk P w K mg base CX0 5 a.a_law_settled d.a_law_settled ["net", "rows", "known"] (spSettled K a.cT) := ok_law_settled T D R Z M N L
  have G__law_same : FnOk P w K mg base CX0 2 a.a_law_same d.a_law_same ["net", "other", "due"] (spSame K a.cT) := ok_law_same T D M X
  refine D.F__law_joined_right.ok sc_law_joined_right (fun vs H Q E h => ?_) (fun cdv A outer s H vs Q E hr h => ?_)
  · obtain ⟨b, q, r, et, l, n, us, ds, ks, em, pool, rfl, _⟩ := h
    rfl
  · obtain ⟨b, q, r, et, l, n, us, ds, ks, em, pool, rfl, X0, hn, NA, NP, rb, hr1, RA, ok, l28, het, nmE, lem, p20, subE, subB, kmem, lb, hl, fin⟩ := h
    have hr9 : Room 7 _ := hr.mono (by decide)
    refine ⟨_, (pss_cons (ps_set (i := 5) sc_law_joined_right.nd rfl (Or.inl rfl) (pe_call G__law_take (hr.mono (by decide)) rfl T.f__law_take T.k__law_take D.B__law_take .nil pass0 (pa_cons (pv 0) (pa_cons (pe_op op_add (pe_callB call_len_seq (by rfl) T.b_len (by decide +kernel) (pa_cons (pv 2) pa_nil)) pe_int) pa_nil))))
        (pss_cons (ps_par (i := 6) (j := 7) (by rfl) sc_law_joined_right.nd rfl rfl (by decide) rfl rfl (pa_cons (pe_call G__law_net (hr.mono (by decide)) rfl T.f__law_net T.k__law_net D.B__law_net .nil pass0 (pa_cons (pe_slice sl_list (pv 2) po_none (po_some (pv 5))) (pa_cons (pv 3) pa_nil))) (pa_cons (pe_call G__law_plain (hr.mono (by decide)) rfl T.f__law_plain T.k__law_plain D.B__law_plain .nil pass0 (pa_cons (pe_slice sl_list (pv 2) (po_some (pv 5)) po_none) pa_nil)) pa_nil)) (by rfl))
        (pss_cons (ps_par (i := 8) (j := 9) (by rfl) sc_law_joined_right.nd rfl rfl (by decide) rfl rfl (pa_cons (pe_op (QS.op_own2 (op := .BitAnd) N.sf N.A1.mt.at_ N.A1.mt.fn GA hr9 passN) (pv 6) (pv 7)) (pa_cons (pe_op (QS.op_own2 (op := .BitAnd) N.sf N.A1.mt.at_ N.A1.mt.fn GA hr9 passN) (pv 7) (pv 6)) pa_nil)) (by rfl))
        (pss_cons (ps_if (PW.pt (pw_or (pt_not (pt_val (pe_call G__law_settled (hr.mono (by decide)) rfl T.f__law_settled T.k__law_settled D.B__law_settled .nil pass0 (pa_cons (pv 8) (pa_cons (pv 2) (pa_cons (pv 4) pa_nil)))))) (pw_or1 (pt_not (pt_val (pe_call G__law_settled (hr.mono (by decide)) rfl T.f__law_settled T.k__law_settled D.B__law_settled .nil pass0 (pa_cons (pv 9) (pa_cons (pe_op op_cat (pe_slice sl_list (pv 2) (po_some (pv 5)) po_none) (pe_slice sl_list (pv 2) po_none (po_some (pv 5)))) (pa_cons (pv 4) pa_nil))))))))) (pss_one (ps_ret pe_bl)) pss_nil)
        (pss_cons (ps_if (PW.pt (pw_or (pt_not (pt_val (pe_call G__law_same (hr.mono (by decide)) rfl T.f__law_same T.k__law_same D.B__law_same .nil pass0 (pa_cons (pv 8) (pa_cons (pv 1) (pa_cons pe_bl pa_nil)))))) (pw_or (pt_not (pt_val (pe_call G__law_same (hr.mono (by decide)) rfl T.f__law_same T.k__law_same D.B__law_same .nil pass0 (pa_cons (pv 9) (pa_cons (pv 1) (pa_cons pe_bl pa_nil)))))) (pw_or1 (pt_cmpR (op_neD hr.units) (pe_fld (pv 8) rfl) (pe_fld (pv 1) rfl) (nomark _)))))) (pss_one (ps_ret pe_bl)) pss_nil)
        (pss_cons (ps_if (pt_not (pt_val (pe_call G__law_shaped (hr.mono (by decide)) rfl T.f__law_shaped T.k__law_shaped D.B__law_shaped .nil pass0 (pa_cons (pv 6) (pa_cons (pe_slice sl_list (pv 2) po_none (po_some (pv 5))) (pa_cons (pe_call G__law_known (hr.mono (by decide)) rfl T.f__law_known T.k__law_known D.B__law_known .nil pass0 (pa_cons (pe_slice sl_list (pv 2) po_none (po_some (pv 5))) (pa_cons (pv 3) pa_nil))) pa_nil)))))) (pss_one (ps_ret pe_bl)) pss_nil)
        (pss_one (ps_ret (pe_call G__law_shaped (hr.mono (by decide)) rfl T.f__law_shaped T.k__law_shaped D.B__law_shaped .nil pass0 (pa_cons (pv 7) (pa_cons (pe_slice sl_list (pv 2) (po_some (pv 5)) po_none) (pa_cons (pe_call G__law_known (hr.mono (by decide)) rfl T.f__law_known T.k__law_known D.B__law_known .nil pass0 (pa_cons (pe_slice sl_list (pv 2) (po_some (pv 5)) po_none) (pa_cons (pe_tup pa_nil) pa_nil))) pa_nil)))))))))))), ?_⟩
    have big : 100000 ≤ sizeLine := by decide
    have lu := RA.1
    have l20 := NP.l20
    refine ⟨_, rfl, _, rfl, r, _, rfl, .inl (SqL.of hr1), _, _, rfl, rfl, b, _, _, rfl, X0, by omega, by omega, by omega, fun o H1 k1 X1 o0 o1 => ?_⟩
    obtain ⟨o, rfl⟩ := Int.eq_ofNat_of_zero_le o0
    have ol : o ≤ us.length := by omega
    have tl1 := k1.tl X0
    have NA1 := NA.tl tl1
    have hr1' := k1.at rb hr1
    have RA1 := RA.keep tl1.tk
    have het1 := tl1.sq het
    have hl1 := k1.at lb hl
    obtain ⟨d1, ed1⟩ : ∃ d1, d1 = ds.take o := ⟨_, rfl⟩
    obtain ⟨d2, ed2⟩ : ∃ d2, d2 = ds.drop o := ⟨_, rfl⟩
    have e12ds : d1 ++ d2 = ds := by rw [ed1, ed2]; exact List.take_append_drop o ds
    have m1 : ∀ x ∈ d1, x ∈ ds := fun x hx => by rw [ed1] at hx; exact List.mem_of_mem_take hx
    have m2 : ∀ x ∈ d2, x ∈ ds := fun x hx => by rw [ed2] at hx; exact List.mem_of_mem_drop hx
    have ld1 : d1.length ≤ ds.length := by rw [ed1, List.length_take]; omega
    have ld2 : d2.length ≤ ds.length := by rw [ed2, List.length_drop]; omega
    -- the slices
    have slT : ∀ (H' : Hp) (p : Addr), Ex H1 H' → H' p = none → Ex H' (upd H' p (.lst (cutV us none (some (o : Int))))) ∧ (upd H' p (.lst (cutV us none (some (o : Int))))) p = some (.lst (us.take o)) ∧ RowsAt (upd H' p (.lst (cutV us none (some (o : Int))))) (us.take o) d1 := fun H' p e hp => by
      have x := Ex.new (o := .lst (cutV us none (some (o : Int)))) hp
      exact ⟨x, by rw [upd_same, cutV_to ol], by rw [ed1]; exact (RA1.ex (e.trans x)).take o⟩
    have slD : ∀ (H' : Hp) (p : Addr), Ex H1 H' → H' p = none → Ex H' (upd H' p (.lst (cutV us (some (o : Int)) none))) ∧ (upd H' p (.lst (cutV us (some (o : Int)) none))) p = some (.lst (us.drop o)) ∧ RowsAt (upd H' p (.lst (cutV us (some (o : Int)) none))) (us.drop o) d2 := fun H' p e hp => by
      have x := Ex.new (o := .lst (cutV us (some (o : Int)) none)) hp
      exact ⟨x, by rw [upd_same, cutV_from ol], by rw [ed2]; exact (RA1.ex (e.trans x)).drop o⟩
    refine ⟨_, rfl, _, rfl, (o : Int), rfl, r, us, rfl, SqL.of hr1', fun p1 hp1 => ?_⟩
    obtain ⟨x2, hp12, R2⟩ := slT H1 p1 (Ex.refl _) hp1
    generalize upd H1 p1 (.lst (cutV us none (some (o : Int)))) = H2 at *
    refine ⟨_, rfl, p1, _, d1, _, em, pool, rfl, SqL.of hp12, R2, fun x hx => ok x (m1 x hx), by omega, ⟨et, rfl, .inr (ex_t x2 het1)⟩, nmE, lem, p20, subE, fun c hc => subB c (m1 c hc), fun q1 ms1 H3 e3 NA3 NP3 mem1 => ?_⟩
    have e13 := x2.trans e3
    refine ⟨_, rfl, _, rfl, (o : Int), rfl, r, us, rfl, SqL.of (e13 _ _ hr1'), fun p2 hp2 => ?_⟩
    obtain ⟨x4, hp24, R4⟩ := slD H3 p2 e13 hp2
    generalize upd H3 p2 (.lst (cutV us (some (o : Int)) none)) = H4 at *
    have e14 := e13.trans x4
    refine ⟨p2, _, d2, pool, rfl, SqL.of hp24, R4, fun x hx => ok x (m2 x hx), by omega, by decide, by decide, p20, fun c hc => subB c (m2 c hc), fun q2 ms2 H5 e5 NA5 NP5 mem2 => ?_⟩
    refine ⟨_, _, rfl, ?_⟩
    have e15 := e14.trans e5
    have NF := NA3.ex (x4.trans e5)
    have s1 : ∀ z ∈ ms1, z ∈ pool := fun z hz => by
      rcases (mem1 z).mp hz with h | ⟨c, hc, h⟩
      · exact subE z h
      · exact subB c (m1 c hc) z h
    have s2 : ∀ z ∈ ms2, z ∈ pool := fun z hz => by
      obtain ⟨c, hc, h⟩ := (mem2 z).mp hz
      exact subB c (m2 c hc) z h
    have lf1 := flatR_len d1
    have lf2 := flatR_len d2
    obtain ⟨dxa, boa, moa, rva, dda, mva, usa, hqa, _⟩ := id NF
    obtain ⟨dxb, bob, mob, rvb, ddb, mvb, usb, hqb, _⟩ := id NA5
    refine ⟨_, rfl, _, rfl, q1, q2, dxa, dxb, _, _, rfl, rfl, hqa, hqb, q1, q2, flatR d1, flatR d2, ms1, ms2, pool, rfl, NF, NP3, NA5, NP5, by omega, p20, s1, s2, fun x k1 H6 e6 NB NQ memB => ?_⟩
    rw [flatR_both, e12ds] at NB NQ
    refine ⟨_, rfl, _, rfl, q2, q1, dxb, dxa, _, _, rfl, rfl, e6 _ _ hqb, e6 _ _ hqa, q2, q1, flatR d2, flatR d1, ms2, ms1, pool, rfl, NA5.ex e6, NP5, NF.ex e6, NP3, by omega, p20, s2, s1, fun y k2 H7 e7 NT NU memT => ?_⟩
    rw [flatR_both] at NT NU
    refine ⟨_, _, rfl, ?_⟩
    have nmb : ∀ z, (z ∈ ms1 ∨ z ∈ ms2) ↔ z ∈ ks := fun z => by
      rw [mem1 z, mem2 z, kmem z]
      constructor
      · rintro ((h | ⟨c, hc, h⟩) | ⟨c, hc, h⟩)
        · exact .inl h
        · exact .inr ⟨c, m1 c hc, h⟩
        · exact .inr ⟨c, m2 c hc, h⟩
      · rintro (h | ⟨c, hc, h⟩)
        · exact .inl (.inl h)
        · rw [← e12ds] at hc
          rcases List.mem_append.mp hc with hc | hc
          · exact .inl (.inr ⟨c, hc, h⟩)
          · exact .inr ⟨c, hc, h⟩
    obtain rfl : ks = k1 := names_same NP.nd NQ.nd NP.so NQ.so fun z => ((memB z).trans (nmb z)).symm
    obtain rfl : ks = k2 := names_same NP.nd NU.nd NP.so NU.so fun z => ((memT z).trans (or_comm.trans (nmb z))).symm
    have e17 := e15.trans (e6.trans e7)
    have NB7 := NB.ex e7
    have lds : (d2 ++ d1).length = ds.length := by rw [← e12ds, List.length_append, List.length_append]; omega
    have memTD : ∀ x, x ∈ ds ↔ x ∈ d2 ++ d1 := fun x => by
      rw [← e12ds, List.mem_append, List.mem_append]
      exact or_comm
    -- settled
    refine ⟨_, rfl, _, rfl, _, rfl, x, r, l, us, ds, ks, rfl, NB7, NQ, SqL.of (e17 _ _ hr1'), RA1.ex e17, ok, by omega, SqL.of (e17 _ _ hl1), fun H8 e8 => ⟨_, rfl, iteF' rfl ?_⟩⟩
    have e18 := e17.trans e8
    refine ⟨_, rfl, _, rfl, _, rfl, (o : Int), rfl, r, us, rfl, SqL.of (e18 _ _ hr1'), fun p3 hp3 => ?_⟩
    obtain ⟨x9, hp39, R9⟩ := slD H8 p3 e18 hp3
    generalize upd H8 p3 (.lst (cutV us (some (o : Int)) none)) = H9 at *
    have e19 := e18.trans x9
    refine ⟨_, rfl, _, rfl, (o : Int), rfl, r, us, rfl, SqL.of (e19 _ _ hr1'), fun p4 hp4 => ?_⟩
    obtain ⟨x10, hp410, R10⟩ := slT H9 p4 e19 hp4
    generalize upd H9 p4 (.lst (cutV us none (some (o : Int)))) = H10 at *
    refine ⟨p3, p4, _, _, rfl, rfl, x10 _ _ hp39, hp410, (by rw [List.length_drop, List.length_take]; omega), fun p5 hp5 => ?_⟩
    have x11 := Ex.new (o := .lst (us.drop o ++ us.take o)) hp5
    have hp511 : upd H10 p5 (.lst (us.drop o ++ us.take o)) p5 = some (.lst (us.drop o ++ us.take o)) := upd_same
    generalize upd H10 p5 (.lst (us.drop o ++ us.take o)) = H11 at *
    have e111 := e19.trans (x10.trans x11)
    have R11 : RowsAt H11 (us.drop o ++ us.take o) (d2 ++ d1) := (R9.ex (x10.trans x11)).app (R10.ex x11)
    have e711 := ((e8.trans x9).trans x10).trans x11
    refine ⟨_, rfl, y, p5, l, _, d2 ++ d1, ks, rfl, NT.ex e711, NU, SqL.of hp511, R11, fun z hz => ok z ((memTD z).mpr hz), by omega, SqL.of (e111 _ _ hl1), fun H12 e12 => ⟨_, rfl, iteF' rfl ?_⟩⟩
    have e112 := e111.trans e12
    have NB12 := NB7.ex (e711.trans e12)
    have NT12 := NT.ex (e711.trans e12)
    have NA12 := NA1.ex e112
    -- the same
    refine ⟨_, rfl, _, rfl, x, q, true, flatR ds, flatR ds, ks, ks, rfl, NB12, NQ, NA12, NP, (same_mem NP.mok NP.mok fun _ => Iff.rfl).symm, fun H13 e13' => ⟨_, rfl, iteF' rfl ?_⟩⟩
    refine ⟨_, rfl, _, rfl, y, q, true, flatR (d2 ++ d1), flatR ds, ks, ks, rfl, NT12.ex e13', NU, NA12.ex e13', NP, (same_mem NU.mok NP.mok fun z => memTD z).symm, fun H14 e14' => ⟨_, rfl, iteF' rfl ?_⟩⟩
    have e1214 := e13'.trans e14'
    have e114 := e112.trans e1214
    obtain ⟨dx, bo, mo, rv, dd, mv, us0, hq, hbo, RA0, hmo, RG, WS, MN⟩ := id (NB12.ex e1214)
    obtain ⟨dx2, bo2, mo2', rv2, dd2, mv2, us20, hq2, hbo2, RB0, hmo2, RG2, WS2, MN2⟩ := id (NA12.ex e1214)
    refine ⟨_, rfl, x, a.cT, dx, _, _, rfl, hq, M.cl, M.n3, rfl, _, rfl, q, a.cT, dx2, _, _, rfl, hq2, M.cl, M.n3, rfl, ?_⟩
    refine neD_same (rgD_sh NP.mok NP.ok) RG.dp RG2.dp ⟨_, rfl, iteF' rfl ?_⟩
    -- the parts are as before
    refine ⟨_, rfl, _, rfl, _, rfl, (o : Int), rfl, r, us, rfl, SqL.of (e114 _ _ hr1'), fun p6 hp6 => ?_⟩
    obtain ⟨x15, hp615, R15⟩ := slT H14 p6 e114 hp6
    generalize upd H14 p6 (.lst (cutV us none (some (o : Int)))) = H15 at *
    have e115 := e114.trans x15
    refine ⟨_, rfl, _, rfl, (o : Int), rfl, r, us, rfl, SqL.of (e115 _ _ hr1'), fun p7 hp7 => ?_⟩
    obtain ⟨x16, hp716, R16⟩ := slT H15 p7 e115 hp7
    generalize upd H15 p7 (.lst (cutV us none (some (o : Int)))) = H16 at *
    have e116 := e115.trans x16
    refine ⟨_, rfl, p7, _, d1, _, em, pool, rfl, SqL.of hp716, R16, by omega, ⟨et, rfl, .inr (ex_t e116 het1)⟩, lem, p20, subE, fun c hc => subB c (m1 c hc), fun kl kn H17 e17' hkl knd kso kmem1 => ?_⟩
    obtain rfl : ms1 = kn := names_same NP3.nd knd NP3.so kso fun z => (mem1 z).trans (kmem1 z).symm
    have e317 : Ex H3 H17 := (((((x4.trans e5).trans e6).trans e7).trans (e711.trans e12)).trans e1214).trans ((x15.trans x16).trans e17')
    refine ⟨q1, p6, kl, _, d1, ms1, rfl, NA3.ex e317, NP3, SqL.of ((x16.trans e17') _ _ hp615), R15.ex (x16.trans e17'), fun z hz => ok z (m1 z hz), by omega, SqL.of hkl, fun H18 e18' => ⟨_, rfl, iteF' rfl ?_⟩⟩
    have e118 := e116.trans (e17'.trans e18')
    refine ⟨_, rfl, _, rfl, _, rfl, (o : Int), rfl, r, us, rfl, SqL.of (e118 _ _ hr1'), fun p8 hp8 => ?_⟩
    obtain ⟨x19, hp819, R19⟩ := slD H18 p8 e118 hp8
    generalize upd H18 p8 (.lst (cutV us (some (o : Int)) none)) = H19 at *
    have e119 := e118.trans x19
    refine ⟨_, rfl, _, rfl, (o : Int), rfl, r, us, rfl, SqL.of (e119 _ _ hr1'), fun p9 hp9 => ?_⟩
    obtain ⟨x20, hp920, R20⟩ := slD H19 p9 e119 hp9
    generalize upd H19 p9 (.lst (cutV us (some (o : Int)) none)) = H20 at *
    refine ⟨(by show 0 ≤ sizeLine; decide), fun p10 hp10 => ?_⟩
    have x21 := Ex.new (o := .tup []) hp10
    have hp1021 : upd H20 p10 (.tup []) p10 = some (.tup []) := upd_same
    generalize upd H20 p10 (.tup []) = H21 at *
    refine ⟨p9, _, d2, .ref p10, [], pool, rfl, SqL.of (x21 _ _ hp920), R20.ex x21, by omega, ⟨p10, rfl, .inr (SqT.of hp1021)⟩, by decide, p20, fun z h => absurd h List.not_mem_nil, fun c hc => subB c (m2 c hc), fun kl2 kn2 H22 e22 hkl2 knd2 kso2 kmem2 => ?_⟩
    obtain rfl : ms2 = kn2 := names_same NP5.nd knd2 NP5.so kso2 fun z => by
      rw [mem2 z, kmem2 z]
      exact ⟨fun h => .inr h, fun h => h.resolve_left List.not_mem_nil⟩
    have e1922 := (x20.trans x21).trans e22
    have e522 : Ex H5 H22 := ((((e6.trans e7).trans (e711.trans e12)).trans e1214).trans ((x15.trans x16).trans e17')).trans ((e18'.trans x19).trans e1922)
    refine ⟨q2, p8, kl2, _, d2, ms2, rfl, NA5.ex e522, NP5, SqL.of (e1922 _ _ hp819), R19.ex e1922, fun z hz => ok z (m2 z hz), by omega, SqL.of hkl2, fun H23 e23 => ?_⟩
    have e123 := (e119.trans e1922).trans e23
    exact fin H23 (k1.trans (Kp.ex e123)) (X1.ex e123)
end
end N4
set_option maxRecDepth 100000
set_option maxHeartbeats 8000000
namespace N4
open PySem L2 Evl GP HR SC SetM SetH
def spFurther : Sp := fun vs H Q _ => ∃ (b r l : Addr) (n : Nat) (us : List V) (ds : List Row) (ks : List Str), vs = [.ref b, .ref r, .ref l] ∧ Bx b n H ∧ n + 4 ≤ 1000000 ∧ r ≠ b ∧ H r = some (.lst us) ∧ RowsAt H us ds ∧ (∀ x ∈ ds, RowOk x) ∧ ds.length ≤ 100 ∧ (∀ c ∈ ds, ∀ z ∈ nm2 c, z ∈ ks) ∧ l ≠ b ∧ H l = some (.lst (ks.map V.str)) ∧ 2 ≤ ks.length ∧ ks.length ≤ 20 ∧ ks.Nodup ∧ (∀ z ∈ ks, isNameS z = true) ∧
  ∀ (p : Addr) (x : Row) H', H p = none → H' p = some (.tup (rowV x)) → RowOk x → (∀ z ∈ nm2 x, z ∈ ks) → Kp b H H' → Bx b (n + 4) H' → Q (.ref p) H'
def spOther : Sp := fun vs H Q _ => ∃ (b r l : Addr) (n : Nat) (us : List V) (ds : List Row) (ks : List Str), vs = [.ref b, .ref r, .ref l] ∧ Bx b n H ∧ n + 60 ≤ 1000000 ∧ r ≠ b ∧ H r = some (.lst us) ∧ RowsAt H us ds ∧ (∀ x ∈ ds, RowOk x) ∧ ds.length ≤ 40 ∧ (∀ c ∈ ds, ∀ z ∈ nm2 c, z ∈ ks) ∧ l ≠ b ∧ H l = some (.lst (ks.map V.str)) ∧ ks.length ≤ 20 ∧ ks.Nodup ∧ (∀ z ∈ ks, isNameS z = true) ∧
  ∀ (r' : Addr) (us' : List V) (ds' : List Row) H', H r' = none → H' r' = some (.lst us') → RowsAt H' us' ds' → (∀ x ∈ ds', RowOk x) → ds'.length ≤ ds.length + 1 → (∀ c ∈ ds', ∀ z ∈ nm2 c, z ∈ ks) → Kp b H H' → Bx b (n + 60) H' → Q (.ref r') H'
section
variable {P : Program} {w : World} {K : PySem.W.Frag} {mg : Str → Option Value} {base : Heap} {a : Ad} {d : Fd} {fL fN fU fI0 f0 D0 T0 fE fR : Addr} {dE dR : FuncData} {fK fT fH fA fn fB fO : Addr} {dK dT dH dA dn dB dO : FuncData}
theorem ok_law_further (T : TX K mg a) (D : FDS K a d) : FnOk P w K mg base CX0 3 a.a_law_further d.a_law_further ["box", "rows", "known"] spFurther := by
  have G__law_take : FnOk P w K mg base CX0 2 a.a_law_take d.a_law_take ["box", "size"] spTake := ok_law_take T D
  have G__law_table : FnOk P w K mg base CX0 1 a.a_law_table d.a_law_table ["rows", "known"] (spTable K) := ok_law_table T D
  have G__law_broken : FnOk P w K mg base CX0 1 a.a_law_broken d.a_law_broken ["table", "known"] (spBroken K) := ok_law_broken T D
  refine D.F__law_further.ok sc_law_further (fun vs H Q E h => ?_) (fun cdv A outer s H vs Q E hr h => ?_)
  · obtain ⟨b, r, l, n, us, ds, ks, rfl, _⟩ := h
    rfl
  · obtain ⟨b, r, l, n, us, ds, ks, rfl, X0, hn, rb, hr1, RA, ok, l100, sub, lb, hl, k2l, l20, nd, nmk, fin⟩ := h
    refine ⟨_, (pss_cons (ps_set (i := 3) sc_law_further.nd rfl (Or.inl rfl) (pe_call G__law_take (hr.mono (by decide)) rfl T.f__law_take T.k__law_take D.B__law_take .nil pass0 (pa_cons (pv 0) (pa_cons (pe_callB call_len_seq (by rfl) T.b_len (by decide +kernel) (pa_cons (pv 2) pa_nil)) pa_nil))))
        (pss_cons (ps_set (i := 4) sc_law_further.nd rfl (Or.inl rfl) (pe_op op_modN (pe_callTy call_int1 (by rfl) T.b_int (by decide +kernel) (pa_cons (pe_op op_add (pe_op op_add (pv 3) pe_int) (pe_call G__law_take (hr.mono (by decide)) rfl T.f__law_take T.k__law_take D.B__law_take .nil pass0 (pa_cons (pv 0) (pa_cons (pe_op op_sub (pe_callB call_len_seq (by rfl) T.b_len (by decide +kernel) (pa_cons (pv 2) pa_nil)) pe_int) pa_nil)))) pa_nil)) (pe_callB call_len_seq (by rfl) T.b_len (by decide +kernel) (pa_cons (pv 2) pa_nil))))
        (pss_cons (ps_par (i := 5) (j := 6) (by rfl) sc_law_further.nd rfl rfl (by decide) rfl rfl (pa_cons (pe_op op_sub (pe_call G__law_take (hr.mono (by decide)) rfl T.f__law_take T.k__law_take D.B__law_take .nil pass0 (pa_cons (pv 0) (pa_cons pe_int pa_nil))) pe_int) (pa_cons (pe_call G__law_take (hr.mono (by decide)) rfl T.f__law_take T.k__law_take D.B__law_take .nil pass0 (pa_cons (pv 0) (pa_cons pe_int pa_nil))) pa_nil)) (by rfl))
        (pss_cons (ps_set (i := 7) sc_law_further.nd rfl (Or.inl rfl) (pe_call G__law_table (hr.mono (by decide)) rfl T.f__law_table T.k__law_table D.B__law_table .nil pass0 (pa_cons (pv 1) (pa_cons (pv 2) pa_nil))))
        (pss_cons (ps_set (i := 8) sc_law_further.nd rfl (Or.inl rfl) (pe_dget (hu_of hr) (pv 7) (pe_tup (pa_cons (pe_ix (ix_listK (K := K)) (pv 2) (pv 3) (fun _ _ => rfl)) (pa_cons (pe_ix (ix_listK (K := K)) (pv 2) (pv 4) (fun _ _ => rfl)) pa_nil))) (fun _ _ => rfl)))
        (pss_cons (ps_if (PW.pt (pw_and (pt_cmpR op_lt (pv 6) pe_int (nomark _)) (pw_and (pt_cmpR op_notN (pv 8) pe_non (nomark _)) (pw_and1 (pt_not (pt_val (pe_call G__law_broken (hr.mono (by decide)) rfl T.f__law_broken T.k__law_broken D.B__law_broken .nil pass0 (pa_cons (pv 7) (pa_cons (pv 2) pa_nil))))))))) (pss_one (ps_set (i := 5) sc_law_further.nd rfl (Or.inl rfl) (pe_op op_sub (pe_op op_add (pv 8) (pv 6)) pe_int))) pss_nil)
        (pss_one (ps_ret (pe_tup (pa_cons pe_str (pa_cons (pe_ix (ix_listK (K := K)) (pv 2) (pv 3) (fun _ _ => rfl)) (pa_cons (pe_ix (ix_listK (K := K)) (pv 2) (pv 4) (fun _ _ => rfl)) (pa_cons (pv 5) pa_nil))))))))))))), ?_⟩
    have big : 100000 ≤ sizeLine := by decide
    have lk : (ks.map V.str).length = ks.length := List.length_map _
    refine ⟨_, rfl, _, rfl, l, _, rfl, .inl (SqL.of hl), b, _, _, rfl, X0, by omega, by omega, by omega, fun o H1 k1 X1 o0 o1 => ?_⟩
    obtain ⟨o, rfl⟩ := Int.eq_ofNat_of_zero_le o0
    rw [lk] at o1
    have ol : o < ks.length := by omega
    obtain ⟨z, hz⟩ : ∃ z, ks[o]? = some z := ⟨ks[o], List.getElem?_eq_getElem ol⟩
    have zm := List.mem_of_getElem? hz
    have hl1 := k1.at lb hl
    refine ⟨_, rfl, _, _, rfl, rfl, _, rfl, _, rfl, l, _, rfl, .inl (SqL.of hl1), _, _, rfl, rfl, b, _, _, rfl, X1, by omega, by omega, by omega, fun t H2 k2 X2 t0 t1 => ?_⟩
    have k02 := k1.trans k2
    have hl2 := k2.at lb hl1
    rw [lk] at t1
    obtain ⟨r0, r1, r2⟩ := next_place (m := ks.length) k2l ⟨o0, o1⟩ t0 t1
    refine ⟨_, _, rfl, rfl, .inl ⟨_, rfl, _, rfl, l, _, rfl, .inl (SqL.of hl2), _, _, rfl, rfl, by omega, ?_⟩⟩
    rw [lk]
    generalize ht2 : ((o : Int) + 1 + t).fmod ((ks.length : Nat) : Int) = o' at *
    obtain ⟨o', rfl⟩ := Int.eq_ofNat_of_zero_le r0
    have ol' : o' < ks.length := by omega
    obtain ⟨z', hz'⟩ : ∃ z, ks[o']? = some z := ⟨ks[o'], List.getElem?_eq_getElem ol'⟩
    have zm' := List.mem_of_getElem? hz'
    have ne : z ≠ z' := fun e => by
      rw [← e] at hz'
      have := (List.getElem?_inj ol nd).mp (hz.trans hz'.symm)
      omega
    refine nm_go ?_
    dsimp only
    rw [ht2]
    refine ⟨_, rfl, b, 9, _, rfl, X2, by omega, by decide, by decide, fun k H3 k3 X3 _ _ => ⟨_, _, rfl, rfl, _, rfl, b, 4, _, rfl, X3, by omega, by decide, by decide, fun nr H4 k4 X4 _ _ => ?_⟩⟩
    refine ⟨_, _, rfl, ?_⟩
    have k04 := (k02.trans k3).trans k4
    have tl4 := k04.tl X0
    have hl4 := k04.at lb hl
    have hr4 := k04.at rb hr1
    refine ⟨_, rfl, _, rfl, r, l, us, ds, ks, rfl, SqL.of hr4, RA.keep tl4.tk, by omega, fun c hc => ⟨sub c hc _ (by simp [nm2]), sub c hc _ (by simp [nm2])⟩, SqL.of hl4, nd, l20, fun D1 H5 hD1 e5 TA => ?_⟩
    have hl5 := e5 _ _ hl4
    refine ⟨_, rfl, _, rfl, _, rfl, l, _, (o : Int), .str z, rfl, rfl, SqL.of hl5, at_lit (n := o) rfl (by rw [List.getElem?_map, hz]; rfl), _, rfl, _, rfl, l, _, (o' : Int), .str z', rfl, rfl, SqL.of hl5, at_lit (n := o') rfl (by rw [List.getElem?_map, hz']; rfl), (by show 2 ≤ sizeLine; decide), fun t1 ht1 => ?_⟩
    have x6 := Ex.new (o := .tup [V.str z, .str z']) ht1
    refine ⟨D1, _, rfl, (TA.ex x6).get zm zm' upd_same, ?_⟩
    have TA6 := TA.ex x6
    have hl6 := x6 _ _ hl5
    have e46 := e5.trans x6
    generalize upd H5 t1 (.tup [.str z, .str z']) = H6 at *
    have k06 := k04.trans (Kp.ex (b := b) e46)
    have X6 := X4.ex e46
    refine nm_go ?_
    dsimp only
    refine seq_cut (fun σ' H' => ∃ k' : Int, σ' = [some (.ref b), some (.ref r), some (.ref l), some (.int (o : Int)), some (.int (o' : Int)), some (.int k'), some (.int nr), some (.ref D1), some (oV (tab ds ks z z'))] ∧ Ex H6 H') (fun N' hN => ?_) (fun σ' H7 h7 => ?_)
    · refine ⟨_, rfl, _, _, rfl, rfl, _, rfl, ?_⟩
      refine ite2 (fun g1 => ?_) (fun g1 => iteF (hN _ _ ⟨_, rfl, Ex.refl _⟩))
      cases ho : tab ds ks z z' with
      | none =>
        rw [ho] at hN
        exact ⟨_, rfl, rfl, _, rfl, iteF' rfl (iteF (hN _ _ ⟨_, rfl, Ex.refl _⟩))⟩
      | some v =>
        rw [ho] at hN
        refine ⟨_, rfl, rfl, _, rfl, iteT' rfl ⟨_, rfl, _, rfl, D1, l, ds, ks, ks, rfl, TA6, SqL.of hl6, l20, fun H7 e7 => ⟨_, rfl, ?_⟩⟩⟩
        cases hb : brok ds ks with
        | true => exact iteF' rfl (hN _ _ ⟨_, rfl, e7⟩)
        | false =>
          refine iteT' rfl ⟨_, rfl, _, rfl, _, _, rfl, rfl, _, _, rfl, rfl, ?_⟩
          exact hN _ _ ⟨_, rfl, e7⟩
    obtain ⟨k', rfl, e7⟩ := h7
    have hl7 := e7 _ _ hl6
    refine ⟨_, rfl, _, rfl, l, _, (o : Int), .str z, rfl, rfl, SqL.of hl7, at_lit (n := o) rfl (by rw [List.getElem?_map, hz]; rfl), _, rfl, _, rfl, l, _, (o' : Int), .str z', rfl, rfl, SqL.of hl7, at_lit (n := o') rfl (by rw [List.getElem?_map, hz']; rfl), _, rfl, (by show 4 ≤ sizeLine; omega), fun p hp => ?_⟩
    have k07 := k06.trans (Kp.ex (b := b) e7)
    have X7 := X6.ex e7
    have x8 := Ex.new (o := .tup [V.str "most", .str z, .str z', .int k']) hp
    refine fin p (z, z', k') _ (k07.fresh X7 hp) upd_same ⟨nmk z zm, nmk z' zm', ne⟩ (fun y hy => ?_) (k07.trans (Kp.ex x8)) (X7.ex x8)
    simp only [nm2, List.mem_cons, List.not_mem_nil, or_false] at hy
    rcases hy with rfl | rfl
    · exact zm
    · exact zm'
theorem ok_law_other (T : TX K mg a) (D : FDS K a d) : FnOk P w K mg base CX0 4 a.a_law_other d.a_law_other ["box", "rows", "known"] spOther := by
  have G__law_take : FnOk P w K mg base CX0 2 a.a_law_take d.a_law_take ["box", "size"] spTake := ok_law_take T D
  have G__law_further : FnOk P w K mg base CX0 3 a.a_law_further d.a_law_further ["box", "rows", "known"] spFurther := ok_law_further T D
  have G__law_shuffled : FnOk P w K mg base CX0 3 a.a_law_shuffled d.a_law_shuffled ["box", "rows"] spShuf := ok_law_shuffled T D
  have G__law_opposed : FnOk P w K mg base CX0 1 a.a_law_opposed d.a_law_opposed ["row"] (spOpp K) := ok_law_opposed T D
  refine D.F__law_other.ok sc_law_other (fun vs H Q E h => ?_) (fun cdv A outer s H vs Q E hr h => ?_)
  · obtain ⟨b, r, l, n, us, ds, ks, rfl, _⟩ := h
    rfl
  · obtain ⟨b, r, l, n, us, ds, ks, rfl, X0, hn, rb, hr1, RA, ok, l40, sub, lb, hl, l20, nd, nmk, fin⟩ := h
    refine ⟨_, (pss_cons (ps_set (i := 3) sc_law_other.nd rfl (Or.inl rfl) (pe_call G__law_take (hr.mono (by decide)) rfl T.f__law_take T.k__law_take D.B__law_take .nil pass0 (pa_cons (pv 0) (pa_cons pe_int pa_nil))))
        (pss_cons (ps_if (PW.pt (pw_and (pt_cmpR op_lt (pv 3) pe_int (nomark _)) (pw_and1 (pt_cmpR op_gt (pe_callB call_len_seq (by rfl) T.b_len (by decide +kernel) (pa_cons (pv 2) pa_nil)) pe_int (nomark _))))) (pss_one (ps_ret (pe_op op_cat (pv 1) (pe_lst (pa_cons (pe_call G__law_further (hr.mono (by decide)) rfl T.f__law_further T.k__law_further D.B__law_further .nil pass0 (pa_cons (pv 0) (pa_cons (pv 1) (pa_cons (pv 2) pa_nil)))) pa_nil))))) pss_nil)
        (pss_cons (ps_if (PW.pt (pw_or (pt_not (pt_truth (pv 1) (by intro _; rfl))) (pw_or1 (pt_cmpR op_eq (pv 3) pe_int (nomark _))))) (pss_one (ps_ret (pe_call G__law_shuffled (hr.mono (by decide)) rfl T.f__law_shuffled T.k__law_shuffled D.B__law_shuffled .nil pass0 (pa_cons (pv 0) (pa_cons (pv 1) pa_nil))))) pss_nil)
        (pss_cons (ps_set (i := 4) sc_law_other.nd rfl (Or.inl rfl) (pe_call G__law_take (hr.mono (by decide)) rfl T.f__law_take T.k__law_take D.B__law_take .nil pass0 (pa_cons (pv 0) (pa_cons (pe_callB call_len_seq (by rfl) T.b_len (by decide +kernel) (pa_cons (pv 1) pa_nil)) pa_nil))))
        (pss_cons (ps_if (pt_cmpR op_lt (pv 3) pe_int (nomark _)) (pss_one (ps_ret (pe_op op_cat (pe_slice sl_list (pv 1) po_none (po_some (pv 4))) (pe_slice sl_list (pv 1) (po_some (pe_op op_add (pv 4) pe_int)) po_none)))) pss_nil)
        (pss_cons (ps_if (pt_cmpR op_eq (pv 3) pe_int (nomark _)) (pss_one (ps_ret (pe_op op_cat (pv 1) (pe_lst (pa_cons (pe_call G__law_opposed (hr.mono (by decide)) rfl T.f__law_opposed T.k__law_opposed D.B__law_opposed .nil pass0 (pa_cons (pe_ix (ix_listK (K := K)) (pv 1) (pv 4) (fun _ _ => rfl)) pa_nil)) pa_nil))))) pss_nil)
        (pss_cons (ps_set (i := 5) sc_law_other.nd rfl (Or.inl rfl) (pe_ix (ix_listK (K := K)) (pv 1) (pv 4) (fun _ _ => rfl)))
        (pss_one (ps_ret (pe_op op_cat (pe_op op_cat (pe_slice sl_list (pv 1) po_none (po_some (pv 4))) (pe_lst (pa_cons (pe_tup (pa_cons pe_str (pa_cons (pe_ix ix_tup (pv 5) pe_int (fun _ _ => rfl)) (pa_cons (pe_ix ix_tup (pv 5) pe_int (fun _ _ => rfl)) (pa_cons (pe_op op_sub (pe_op op_add (pe_ix ix_tup (pv 5) pe_int (fun _ _ => rfl)) pe_int) (pe_op op_mul pe_int (pe_call G__law_take (hr.mono (by decide)) rfl T.f__law_take T.k__law_take D.B__law_take .nil pass0 (pa_cons (pv 0) (pa_cons pe_int pa_nil))))) pa_nil))))) pa_nil))) (pe_slice sl_list (pv 1) (po_some (pe_op op_add (pv 4) pe_int)) po_none))))))))))), ?_⟩
    have big : 100000 ≤ sizeLine := by decide
    have lu := RA.1
    have lk : (ks.map V.str).length = ks.length := List.length_map _
    refine ⟨_, rfl, b, 6, _, rfl, X0, by omega, by decide, by decide, fun kind H1 k1 X1 kd0 kd1 => ?_⟩
    have hr1' := k1.at rb hr1
    have hl1 := k1.at lb hl
    have R1 := RA.keep (k1.tup X0)
    -- a row more
    have more : ∀ (H' H3 : Hp) (p1 p2 px : Addr) (x : Row), Kp b H1 H' → Bx b (n + 50) H' → H' px = some (.tup (rowV x)) → RowOk x → (∀ z ∈ nm2 x, z ∈ ks) → H' p1 = none → H3 = upd H' p1 (.lst [V.ref px]) → H3 p2 = none → Q (.ref p2) (upd H3 p2 (.lst (us ++ [V.ref px]))) := fun H' H3 p1 p2 px x kk XX hx okx subx h1 e3 h2 => by
      have x1 := Ex.new (o := .lst [V.ref px]) h1
      rw [← e3] at x1
      have x2 := Ex.new (o := .lst (us ++ [V.ref px])) h2
      have x12 := x1.trans x2
      have k0 := k1.trans kk
      refine fin p2 _ (ds ++ [x]) _ (k0.fresh XX (fresh_back x1 h2)) upd_same (((RA.keep (k0.tup X0)).ex x12).app (RowsAt.one (x12 _ _ hx))) (fun y hy => (List.mem_append.mp hy).elim (ok y) fun h => by rw [List.mem_singleton.mp h]; exact okx) (by rw [List.length_append]; exact Nat.le_refl _) (fun c hc => (List.mem_append.mp hc).elim (sub c) fun h => by rw [List.mem_singleton.mp h]; exact subx) (k0.trans (Kp.ex x12)) ((XX.ex x12).mono (by omega))
    refine nm_go ?_
    dsimp only
    refine seq_cut (fun σ' H' => σ' = [some (.ref b), some (.ref r), some (.ref l), some (.int kind), none, none] ∧ H' = H1) (fun N' hN => ?_) (fun σ' H' h' => ?_)
    · refine ⟨_, rfl, _, _, rfl, rfl, _, rfl, ?_⟩
      refine ite2 (fun g1 => ?_) (fun g1 => iteF (hN _ _ ⟨rfl, rfl⟩))
      refine ⟨_, rfl, l, _, rfl, .inl (SqL.of hl1), _, _, rfl, rfl, _, rfl, ?_⟩
      refine ite2 (fun g2 => ?_) (fun g2 => hN _ _ ⟨rfl, rfl⟩)
      have k2l : 2 ≤ ks.length := by
        have := of_decide_eq_true g2
        rw [lk] at this
        omega
      refine ⟨_, rfl, _, rfl, _, rfl, _, rfl, b, r, l, _, us, ds, ks, rfl, X1, by omega, rb, hr1', R1, ok, by omega, sub, lb, hl1, k2l, l20, nd, nmk, fun p x H2 hp0 hp okx subx k2 X2 => ⟨(by show 1 ≤ sizeLine; omega), fun p1 hp1 => ?_⟩⟩
      refine ⟨r, p1, _, _, rfl, rfl, (Ex.new hp1) _ _ (k2.at rb hr1'), upd_same, (by rw [List.length_singleton]; omega), fun p2 hp2 => ?_⟩
      exact more H2 _ p1 p2 p x k2 (X2.mono (by omega)) hp okx subx hp1 rfl hp2
    obtain ⟨rfl, rfl⟩ := h'
    refine seq_cut (fun σ' H'' => σ' = [some (.ref b), some (.ref r), some (.ref l), some (.int kind), none, none] ∧ H'' = H' ∧ 1 ≤ ds.length) (fun N' hN => ?_) (fun σ' H'' h' => ?_)
    · have shuf : spShuf [.ref b, .ref r] H' Q E0 := ⟨b, r, _, us, ds, rfl, X1, by omega, rb, hr1', R1, l40, fun r' us' ds' H2 hr'0 hr' R' len mem k2 X2 => fin r' us' ds' H2 (k1.fresh X1 hr'0) hr' R' (fun x hx => ok x ((mem x).mp hx)) (by omega) (fun c hc => sub c ((mem c).mp hc)) (k1.trans k2) (X2.mono (by omega))⟩
      refine ⟨_, rfl, !us.isEmpty, .inl ⟨_, SqL.of hr1', by cases us <;> rfl⟩, ?_⟩
      cases hus : us with
      | nil =>
        refine iteT' rfl ?_
        exact ⟨_, rfl, _, rfl, shuf⟩
      | cons u0 us0 =>
        have dpos : 1 ≤ ds.length := by rw [← lu, hus]; simp
        refine iteF' rfl ⟨_, rfl, rfl, _, rfl, ?_⟩
        refine ite2 (fun g2 => ?_) (fun g2 => hN _ _ ⟨rfl, rfl, dpos⟩)
        exact ⟨_, rfl, _, rfl, shuf⟩
    obtain ⟨rfl, rfl, dpos⟩ := h'
    refine ⟨_, rfl, _, rfl, r, _, rfl, .inl (SqL.of hr1'), b, _, _, rfl, X1, by omega, by omega, by omega, fun o H2 k2 X2 o0 o1 => ?_⟩
    obtain ⟨o, rfl⟩ := Int.eq_ofNat_of_zero_le o0
    have ol : o < ds.length := by omega
    obtain ⟨x, hx⟩ : ∃ x, ds[o]? = some x := ⟨ds[o], List.getElem?_eq_getElem ol⟩
    have xm := List.mem_of_getElem? hx
    have k02 := k1.trans k2
    have hr2 := k2.at rb hr1'
    have R2 := R1.keep (k2.tup X1)
    obtain ⟨px, hux, hpx⟩ := R2.at hx
    have eo : (o : Int) + 1 = ((o + 1 : Nat) : Int) := by omega
    refine ⟨_, rfl, _, _, rfl, rfl, _, rfl, ?_⟩
    refine ite2 (fun g3 => ?_) (fun g3 => ?_)
    · refine ⟨_, rfl, _, rfl, (o : Int), rfl, r, us, rfl, SqL.of hr2, fun p1 hp1 => ?_⟩
      have x3 := Ex.new (o := .lst (cutV us none (some (o : Int)))) hp1
      have hp13 : upd H2 p1 (.lst (cutV us none (some (o : Int)))) p1 = some (.lst (us.take o)) := by rw [upd_same, cutV_to (by omega)]
      generalize upd H2 p1 (.lst (cutV us none (some (o : Int)))) = H3 at *
      refine ⟨_, rfl, _, rfl, _, _, rfl, rfl, _, rfl, r, us, rfl, SqL.of (x3 _ _ hr2), fun p2 hp2 => ?_⟩
      have x4 := Ex.new (o := .lst (cutV us (some ((o : Int) + 1)) none)) hp2
      have hp24 : upd H3 p2 (.lst (cutV us (some ((o : Int) + 1)) none)) p2 = some (.lst (us.drop (o + 1))) := by rw [upd_same, eo, cutV_from (by omega)]
      generalize upd H3 p2 (.lst (cutV us (some ((o : Int) + 1)) none)) = H4 at *
      refine ⟨p1, p2, _, _, rfl, rfl, x4 _ _ hp13, hp24, (by rw [List.length_take, List.length_drop]; omega), fun p3 hp3 => ?_⟩
      have x5 := Ex.new (o := .lst (us.take o ++ us.drop (o + 1))) hp3
      have e25 := x3.trans (x4.trans x5)
      refine fin p3 _ (ds.take o ++ ds.drop (o + 1)) _ (k02.fresh X2 (fresh_back (x3.trans x4) hp3)) upd_same (((R2.ex e25).take o).app ((R2.ex e25).drop (o + 1))) (fun y hy => ?_) (by rw [List.length_append, List.length_take, List.length_drop]; omega) (fun c hc => ?_) (k02.trans (Kp.ex e25)) ((X2.ex e25).mono (by omega))
      · exact (List.mem_append.mp hy).elim (fun h => ok y (List.mem_of_mem_take h)) fun h => ok y (List.mem_of_mem_drop h)
      · exact (List.mem_append.mp hc).elim (fun h => sub c (List.mem_of_mem_take h)) fun h => sub c (List.mem_of_mem_drop h)
    · refine ⟨_, rfl, rfl, _, rfl, ?_⟩
      refine ite2 (fun g4 => ?_) (fun g4 => ?_)
      · refine ⟨_, rfl, _, rfl, _, rfl, r, us, (o : Int), .ref px, rfl, rfl, SqL.of hr2, at_lit (n := o) rfl hux, ?_⟩
        dsimp only [tNil]
        refine ⟨px, x, rfl, hpx, fun po H3 e3 hpo => ⟨(by show 1 ≤ sizeLine; omega), fun p1 hp1 => ?_⟩⟩
        refine ⟨r, p1, _, _, rfl, rfl, (Ex.new hp1) _ _ (e3 _ _ hr2), upd_same, (by rw [List.length_singleton]; omega), fun p2 hp2 => ?_⟩
        refine more H3 _ p1 p2 po (opp x) (k2.trans (Kp.ex e3)) ((X2.ex e3).mono (by omega)) hpo (opp_ok (ok x xm)) (fun z hz => ?_) hp1 rfl hp2
        simp only [opp, nm2, List.mem_cons, List.not_mem_nil, or_false] at hz
        rcases hz with rfl | rfl
        · exact sub x xm _ (by simp [nm2])
        · exact sub x xm _ (by simp [nm2])
      · refine ⟨_, rfl, _, rfl, r, us, (o : Int), .ref px, rfl, rfl, SqL.of hr2, at_lit (n := o) rfl hux, ?_⟩
        refine ⟨_, rfl, _, rfl, (o : Int), rfl, r, us, rfl, SqL.of hr2, fun p1 hp1 => ?_⟩
        have x3 := Ex.new (o := .lst (cutV us none (some (o : Int)))) hp1
        have hp13 : upd H2 p1 (.lst (cutV us none (some (o : Int)))) p1 = some (.lst (us.take o)) := by rw [upd_same, cutV_to (by omega)]
        have p1b := X2.ne hp1
        generalize upd H2 p1 (.lst (cutV us none (some (o : Int)))) = H3 at *
        have hpx3 := x3 _ _ hpx
        refine ⟨_, rfl, px, _, 1, _, rfl, rfl, SqT.of hpx3, at_lit (n := 1) rfl rfl, _, rfl, px, _, 2, _, rfl, rfl, SqT.of hpx3, at_lit (n := 2) rfl rfl, _, rfl, px, _, 3, _, rfl, rfl, SqT.of hpx3, at_lit (n := 3) rfl rfl, _, _, rfl, rfl, _, rfl, b, 2, _, rfl, X2.ex x3, by omega, by decide, by decide, fun t H4 k4 X4 t0 t1 => ⟨_, _, rfl, rfl, .inl (by constructor <;> decide), _, _, rfl, rfl, (by show 4 ≤ sizeLine; omega), fun pt hpt => ?_⟩⟩
        have x5 := Ex.new (o := .tup [V.str "most", .str x.1, .str x.2.1, .int (x.2.2 + 1 - 2 * t)]) hpt
        have hpt5 : upd H4 pt (.tup [V.str "most", .str x.1, .str x.2.1, .int (x.2.2 + 1 - 2 * t)]) pt = some (.tup (rowV (x.1, x.2.1, x.2.2 + 1 - 2 * t))) := upd_same
        have hp14 := k4.at p1b hp13
        have hp15 := x5 _ _ hp14
        generalize upd H4 pt (.tup [V.str "most", .str x.1, .str x.2.1, .int (x.2.2 + 1 - 2 * t)]) = H5 at *
        refine ⟨(by show 1 ≤ sizeLine; omega), fun p2 hp2 => ?_⟩
        have x6 := Ex.new (o := .lst [V.ref pt]) hp2
        have hp26 : upd H5 p2 (.lst [V.ref pt]) p2 = some (.lst [V.ref pt]) := upd_same
        generalize upd H5 p2 (.lst [V.ref pt]) = H6 at *
        refine ⟨p1, p2, _, _, rfl, rfl, x6 _ _ hp15, hp26, (by rw [List.length_take, List.length_singleton]; omega), fun p3 hp3 => ?_⟩
        have x7 := Ex.new (o := .lst (us.take o ++ [V.ref pt])) hp3
        have hp37 : upd H6 p3 (.lst (us.take o ++ [V.ref pt])) p3 = some (.lst (us.take o ++ [V.ref pt])) := upd_same
        generalize upd H6 p3 (.lst (us.take o ++ [V.ref pt])) = H7 at *
        have k27 := ((Kp.ex (b := b) x3).trans k4).trans (Kp.ex (x5.trans (x6.trans x7)))
        have hr7 := k27.at rb hr2
        refine ⟨_, rfl, _, rfl, _, _, rfl, rfl, _, rfl, r, us, rfl, SqL.of hr7, fun p4 hp4 => ?_⟩
        have x8 := Ex.new (o := .lst (cutV us (some ((o : Int) + 1)) none)) hp4
        have hp48 : upd H7 p4 (.lst (cutV us (some ((o : Int) + 1)) none)) p4 = some (.lst (us.drop (o + 1))) := by rw [upd_same, eo, cutV_from (by omega)]
        generalize upd H7 p4 (.lst (cutV us (some ((o : Int) + 1)) none)) = H8 at *
        refine ⟨p3, p4, _, _, rfl, rfl, x8 _ _ hp37, hp48, (by rw [List.length_append, List.length_take, List.length_drop, List.length_singleton]; omega), fun p5 hp5 => ?_⟩
        have x9 := Ex.new (o := .lst (us.take o ++ [V.ref pt] ++ us.drop (o + 1))) hp5
        have k29 := k27.trans (Kp.ex (x8.trans x9))
        have X9 : Bx b (n + 60) _ := (((X4.ex (x5.trans (x6.trans x7))).ex (x8.trans x9))).mono (by omega)
        have R9 := R2.keep (k29.tup X2)
        obtain ⟨ok1, ok2, ok3⟩ := ok x xm
        have x59 := (x6.trans x7).trans (x8.trans x9)
        refine fin p5 _ ((ds.take o ++ [(x.1, x.2.1, x.2.2 + 1 - 2 * t)]) ++ ds.drop (o + 1)) _ ((k02.trans (k27.trans (Kp.ex x8))).fresh ((X4.ex (x5.trans (x6.trans x7))).ex x8) hp5) upd_same (((R9.take o).app (RowsAt.one (x59 _ _ hpt5))).app (R9.drop (o + 1))) (fun y hy => ?_) (by simp only [List.length_append, List.length_take, List.length_drop, List.length_singleton]; omega) (fun c hc => ?_) (k02.trans k29) X9
        · simp only [List.mem_append, List.mem_singleton] at hy
          rcases hy with (h | rfl) | h
          · exact ok y (List.mem_of_mem_take h)
          · exact ⟨ok1, ok2, ok3⟩
          · exact ok y (List.mem_of_mem_drop h)
        · simp only [List.mem_append, List.mem_singleton] at hc
          rcases hc with (h | rfl) | h
          · exact sub c (List.mem_of_mem_take h)
          · exact sub x xm
          · exact sub c (List.mem_of_mem_drop h)
end
end N4
set_option maxRecDepth 100000
set_option maxHeartbeats 8000000
namespace N4
open PySem L2 Evl GP HR SC SetM SetH
def spOthers (K : PySem.W.Frag) (C : Addr) : Sp := fun vs H Q _ => ∃ (b q r l : Addr) (gone : Str) (n : Nat) (us : List V) (ds : List Row) (ks : List Str), vs = [.ref b, .ref q, .ref r, .ref l, .str gone] ∧ Bx b n H ∧ n + 200 ≤ 1000000 ∧ NetAt K C H q (flatR ds) ks ∧ NetP (flatR ds) ks ∧ r ≠ b ∧ H r = some (.lst us) ∧ RowsAt H us ds ∧ (∀ x ∈ ds, RowOk x) ∧ ds.length ≤ 27 ∧ (∀ c ∈ ds, ∀ z ∈ nm2 c, z ∈ ks) ∧ l ≠ b ∧ H l = some (.lst (ks.map V.str)) ∧ ks.length ≤ 18 ∧ gone ∉ ks ∧ isNameS gone = true ∧ ∀ H', Kp b H H' → Bx b (n + 200) H' → Q (.bl true) H'
section
variable {P : Program} {w : World} {K : PySem.W.Frag} {mg : Str → Option Value} {base : Heap} {a : Ad} {d : Fd} {fL fN fU fI0 f0 D0 T0 fE fR : Addr} {dE dR : FuncData} {fK fT fH fA fn fB fO : Addr} {dK dT dH dA dn dB dO : FuncData}
theorem ok_law_others_right (T : TX K mg a) (D : FDS K a d) (R : ER K mg P a fL fN fU fI0) (Z : EW K a) (M : CN K mg a.cT f0 D0 T0) (N : NM K a.cT fK fT fH fA fn dK dT dH dA dn) (L : NL K a.cT fB fO dB dO) (X : QE K a.cT fE dE) : FnOk P w K mg base CX0 13 a.a_law_others_right d.a_law_others_right ["box", "net", "rows", "known", "gone"] (spOthers K a.cT) := by
  have G__law_take : FnOk P w K mg base CX0 2 a.a_law_take d.a_law_take ["box", "size"] spTake := ok_law_take T D
  have G__law_net : FnOk P w K mg base CX0 12 a.a_law_net d.a_law_net ["rows", "extra"] (spNet K a.cT) := ok_law_net T D R Z M N
  have G__law_other : FnOk P w K mg base CX0 4 a.a_law_other d.a_law_other ["box", "rows", "known"] spOther := ok_law_other T D
  have G__law_alike : FnOk P w K mg base CX0 2 a.a_law_alike d.a_law_alike ["rows", "known", "others", "their"] (spAlike K) := ok_law_alike T D
  have G__law_settled : FnOk P w K mg base CX0 5 a.a_law_settled d.a_law_settled ["net", "rows", "known"] (spSettled K a.cT) := ok_law_settled T D R Z M N L
  have G__law_same : FnOk P w K mg base CX0 2 a.a_law_same d.a_law_same ["net", "other", "due"] (spSame K a.cT) := ok_law_same T D M X
  refine D.F__law_others_right.ok sc_law_others_right (fun vs H Q E h => ?_) (fun cdv A outer s H vs Q E hr h => ?_)
  · obtain ⟨b, q, r, l, gone, n, us, ds, ks, rfl, _⟩ := h
    rfl
  · obtain ⟨b, q, r, l, gone, n, us, ds, ks, rfl, X0, hn, NA, NP, rb, hr1, RA, ok, l27, sub, lb, hl, l18, ngone, nmg, fin⟩ := h
    refine ⟨_, (pss_cons (ps_for PassesOwn.never rfl (pi_range1 rfl T.b_range (pa_cons pe_int pa_nil)) (pg_name (i := 5) sc_law_others_right.nd rfl (Or.inl rfl)) (pss_cons (ps_set (i := 6) sc_law_others_right.nd rfl (Or.inl rfl) (pe_call G__law_other (hr.mono (by decide)) rfl T.f__law_other T.k__law_other D.B__law_other .nil pass0 (pa_cons (pv 0) (pa_cons (pv 2) (pa_cons (pv 3) pa_nil)))))
        (pss_cons (ps_set (i := 7) sc_law_others_right.nd rfl (Or.inl rfl) (pe_callTy call_list_of (by rfl) T.b_list (by decide +kernel) (pa_cons (pv 3) pa_nil)))
        (pss_cons (ps_if (pt_cmpR op_eq (pe_call G__law_take (hr.mono (by decide)) rfl T.f__law_take T.k__law_take D.B__law_take .nil pass0 (pa_cons (pv 0) (pa_cons pe_int pa_nil))) pe_int (nomark _)) (pss_one (ps_set (i := 7) sc_law_others_right.nd rfl (Or.inl rfl) (pe_callB cr_sortedS (by rfl) T.b_sorted (by decide +kernel) (pa_cons (pe_op op_cat (pv 3) (pe_lst (pa_cons (pv 4) pa_nil))) pa_nil)))) pss_nil)
        (pss_cons (ps_set (i := 8) sc_law_others_right.nd rfl (Or.inl rfl) (pe_call G__law_net (hr.mono (by decide)) rfl T.f__law_net T.k__law_net D.B__law_net .nil pass0 (pa_cons (pv 6) (pa_cons (pe_callTy call_tuple_of (by rfl) T.b_tuple (by decide +kernel) (pa_cons (pe_back (pv 7) (pe_un un_neg pe_int)) pa_nil)) pa_nil))))
        (pss_cons (ps_set (i := 9) sc_law_others_right.nd rfl (Or.inl rfl) (pe_call G__law_alike (hr.mono (by decide)) rfl T.f__law_alike T.k__law_alike D.B__law_alike .nil pass0 (pa_cons (pv 2) (pa_cons (pv 3) (pa_cons (pv 6) (pa_cons (pv 7) pa_nil))))))
        (pss_cons (ps_if (pt_not (pt_val (pe_call G__law_settled (hr.mono (by decide)) rfl T.f__law_settled T.k__law_settled D.B__law_settled .nil pass0 (pa_cons (pv 8) (pa_cons (pv 6) (pa_cons (pv 7) pa_nil)))))) (pss_one (ps_ret pe_bl)) pss_nil)
        (pss_one (ps_if (PW.pt (pw_or (pt_not (pt_val (pe_call G__law_same (hr.mono (by decide)) rfl T.f__law_same T.k__law_same D.B__law_same .nil pass0 (pa_cons (pv 1) (pa_cons (pv 8) (pa_cons (pv 9) pa_nil)))))) (pw_or1 (pt_not (pt_val (pe_call G__law_same (hr.mono (by decide)) rfl T.f__law_same T.k__law_same D.B__law_same .nil pass0 (pa_cons (pv 8) (pa_cons (pv 8) (pa_cons pe_bl pa_nil))))))))) (pss_one (ps_ret pe_bl)) pss_nil)))))))))
        (pss_one (ps_ret pe_bl))), ?_⟩
    have big : 100000 ≤ sizeLine := by decide
    have lk : (ks.map V.str).length = ks.length := List.length_map _
    refine ⟨_, rfl, by decide, by decide, for_range (lo := 0) (n := 3) (fun i σ' H' => (∃ o5 o6 o7 o8 o9 : Option V, σ' = [some (.ref b), some (.ref q), some (.ref r), some (.ref l), some (.str gone), o5, o6, o7, o8, o9]) ∧ Kp b H H' ∧ Bx b (n + 61 * i) H') ⟨⟨none, none, none, none, none, rfl⟩, Kp.refl _ _, X0⟩ ?_ ?_⟩
    · rintro i σ' H1 hi ⟨⟨o5, o6, o7, o8, o9, rfl⟩, k1, X1⟩
      refine ⟨_, rfl, _, rfl, _, rfl, b, r, l, _, us, ds, ks, rfl, X1, by omega, rb, k1.at rb hr1, RA.keep (k1.tup X0), ok, by omega, sub, lb, k1.at lb hl, by omega, NP.nd, NP.nm, fun r2 us2 es H2 hr20 hr2 RB oke le sube k2 X2 => ?_⟩
      have r2b := X1.ne hr20
      have hl2 := (k1.trans k2).at lb hl
      refine ⟨_, rfl, l, _, rfl, .inl (SqL.of hl2), fun t1 ht1 => ?_⟩
      have x3 := Ex.new (o := .lst (ks.map V.str)) ht1
      have ht13 : upd H2 t1 (.lst (ks.map V.str)) t1 = some (.lst (ks.map V.str)) := upd_same
      have t1b := X2.ne ht1
      generalize upd H2 t1 (.lst (ks.map V.str)) = H3 at *
      have X3 := X2.ex x3
      have hl3 := x3 _ _ hl2
      refine nm_go ?_
      dsimp only
      refine seq_cut (fun σ' H' => ∃ (t : Addr) (ls : List Str), σ' = [some (.ref b), some (.ref q), some (.ref r), some (.ref l), some (.str gone), some (.int (0 + (i : Int))), some (.ref r2), some (.ref t), o8, o9] ∧ Kp b H3 H' ∧ Bx b (n + 61 * i + 61) H' ∧ t ≠ b ∧ H' t = some (.lst (ls.map V.str)) ∧ ls.Nodup ∧ PyProof.Rows.sortedS ls = true ∧ (∀ z ∈ ls, isNameS z = true) ∧ ls.length ≤ 20 ∧ ∀ z ∈ ks, z ∈ ls) (fun N' hN => ?_) (fun σ' H5 h5 => ?_)
      · refine ⟨_, rfl, b, 6, _, rfl, X3, by omega, by decide, by decide, fun tk H4 k4 X4 _ _ => ⟨rfl, _, rfl, ?_⟩⟩
        refine ite2 (fun g1 => ?_) (fun g1 => ?_)
        · have hl4 := k4.at lb hl3
          refine ⟨_, rfl, _, rfl, (by show 1 ≤ sizeLine; omega), fun p1 hp1 => ?_⟩
          have x5 := Ex.new (o := .lst [V.str gone]) hp1
          have hp15 : upd H4 p1 (.lst [V.str gone]) p1 = some (.lst [V.str gone]) := upd_same
          generalize upd H4 p1 (.lst [V.str gone]) = H5 at *
          refine ⟨l, p1, _, _, rfl, rfl, x5 _ _ hl4, hp15, (by rw [lk, List.length_singleton]; omega), fun p2 hp2 => ?_⟩
          have x6 := Ex.new (o := .lst (ks.map V.str ++ [V.str gone])) hp2
          have hp26 : upd H5 p2 (.lst (ks.map V.str ++ [V.str gone])) p2 = some (.lst ((ks ++ [gone]).map V.str)) := by rw [upd_same, List.map_append]; rfl
          generalize upd H5 p2 (.lst (ks.map V.str ++ [V.str gone])) = H6 at *
          refine ⟨p2, ks ++ [gone], rfl, SqL.of hp26, (by rw [List.length_append, List.length_singleton]; omega), fun ys p pm so hp => ?_⟩
          have x7 := Ex.new (o := .lst (ys.map V.str)) hp
          have e47 := x5.trans (x6.trans x7)
          have memy : ∀ z, z ∈ ys ↔ z ∈ ks ∨ z = gone := fun z => by rw [pm.mem_iff, List.mem_append, List.mem_singleton]
          refine hN _ _ ⟨p, ys, rfl, k4.trans (Kp.ex e47), (X4.ex e47).mono (by omega), (X4.ex (x5.trans x6)).ne hp, upd_same, pm.nodup_iff.mpr (List.nodup_append.mpr ⟨NP.nd, by simp, fun y hy z hz e => ngone (by rw [← List.mem_singleton.mp hz, ← e]; exact hy)⟩), so, fun z hz => ?_, by rw [pm.length_eq, List.length_append, List.length_singleton]; omega, fun z hz => (memy z).mpr (.inl hz)⟩
          rcases (memy z).mp hz with h | h
          · exact NP.nm z h
          · rw [h]
            exact nmg
        · refine hN _ _ ⟨t1, ks, rfl, k4, X4.mono (by omega), t1b, k4.at t1b ht13, NP.nd, NP.so, NP.nm, NP.l20, fun z hz => hz⟩
      · obtain ⟨t, ls, rfl, k5, X5, tb, ht, ndl, sol, nml, ll20, subl⟩ := h5
        have k15 := (k2.trans (Kp.ex (b := b) x3)).trans k5
        have k05 := k1.trans k15
        have tl5 := k05.tl X0
        have k25 := (Kp.ex (b := b) x3).trans k5
        have hr25 := k25.at r2b hr2
        have RB5 := RB.keep (k25.tup X2)
        have NA5 := NA.tl tl5
        have hr5 := k05.at rb hr1
        have RA5 := RA.keep tl5.tk
        have hl5 := k05.at lb hl
        have esl : ∀ c ∈ es, ∀ z ∈ nm2 c, z ∈ ls := fun c hc z hz => subl z (sube c hc z hz)
        refine ⟨_, rfl, _, rfl, 1, rfl, rfl, t, ls.map V.str, rfl, SqL.of ht, fun p3 hp3 => ?_⟩
        have x6 := Ex.new (o := .lst (ls.map V.str).reverse) hp3
        refine ⟨p3, _, rfl, .inl ⟨SqL.of upd_same, fun p4 hp4 => ?_⟩⟩
        have x7 := Ex.new (o := .tup (ls.map V.str).reverse) hp4
        have hp47 : upd (upd H5 p3 (.lst (ls.map V.str).reverse)) p4 (.tup (ls.map V.str).reverse) p4 = some (.tup (ls.reverse.map V.str)) := by rw [upd_same, List.map_reverse]
        have e57 := x6.trans x7
        generalize upd (upd H5 p3 (.lst (ls.map V.str).reverse)) p4 (.tup (ls.map V.str).reverse) = H7 at *
        dsimp only [tNil]
        refine ⟨r2, us2, es, .ref p4, ls.reverse, ls, rfl, SqL.of (e57 _ _ hr25), RB5.ex e57, oke, by omega, ⟨p4, rfl, .inr (SqT.of hp47)⟩, fun z hz => nml z (List.mem_reverse.mp hz), by rw [List.length_reverse]; omega, ll20, fun z hz => List.mem_reverse.mp hz, esl, fun q2 ms2 H8 e8 NB NQ mem2 => ?_⟩
        obtain rfl : ls = ms2 := names_same ndl NQ.nd sol NQ.so fun z => by
          rw [mem2 z, List.mem_reverse]
          exact ⟨.inl, fun h => h.elim id fun ⟨c, hc, hz⟩ => esl c hc z hz⟩
        have e58 := e57.trans e8
        have NA8 := NA5.ex e58
        refine ⟨_, rfl, _, rfl, _, rfl, _, rfl, r, l, r2, t, us, us2, ds, es, ks, ls, rfl, SqL.of (e58 _ _ hr5), RA5.ex e58, by omega, fun c hc => ⟨sub c hc _ (by simp [nm2]), sub c hc _ (by simp [nm2])⟩, SqL.of (e58 _ _ hl5), NP.nd, by omega, NP.nm, SqL.of (e58 _ _ hr25), RB5.ex e58, by omega, fun c hc => ⟨esl c hc _ (by simp [nm2]), esl c hc _ (by simp [nm2])⟩, SqL.of (e58 _ _ ht), nml, fun H9 e9 => ?_⟩
        have e59 := e58.trans e9
        refine ⟨_, rfl, _, rfl, _, rfl, q2, r2, t, us2, es, ls, rfl, NB.ex e9, NQ, SqL.of (e59 _ _ hr25), RB5.ex e59, oke, by omega, SqL.of (e59 _ _ ht), fun H10 e10 => ⟨_, rfl, iteF' rfl ?_⟩⟩
        have NB10 := NB.ex (e9.trans e10)
        refine ⟨_, rfl, _, rfl, _, rfl, q, q2, dueB ds ks es ls, flatR ds, flatR es, ks, ls, rfl, NA8.ex (e9.trans e10), NP, NB10, NQ, due_same NP.mok NQ.mok, fun H11 e11 => ⟨_, rfl, iteF' rfl ?_⟩⟩
        refine ⟨_, rfl, _, rfl, q2, q2, true, flatR es, flatR es, ls, ls, rfl, NB10.ex e11, NQ, NB10.ex e11, NQ, (same_mem NQ.mok NQ.mok fun _ => Iff.rfl).symm, fun H12 e12 => ⟨_, rfl, iteF' rfl ?_⟩⟩
        have e512 := e59.trans ((e10.trans e11).trans e12)
        exact ⟨⟨_, _, _, _, _, rfl⟩, k05.trans (Kp.ex e512), (X5.ex e512).mono (by omega)⟩
    · rintro σ' H1 ⟨⟨o5, o6, o7, o8, o9, rfl⟩, k1, X1⟩
      exact fin H1 k1 (X1.mono (by simp))
end
end N4
set_option maxRecDepth 100000
set_option maxHeartbeats 8000000
namespace N4
open PySem L2 Evl GP HR SC SetM SetH
theorem not_take {xs : List Str} (nd : xs.Nodup) {i j : Nat} {z : Str} (h : xs[i]? = some z) (l : j ≤ i) : z ∉ xs.take j := fun hz => by
  rw [← List.take_append_drop j xs] at nd
  refine (List.nodup_append.mp nd).2.2 z hz z ?_ rfl
  refine List.mem_of_getElem? (i := i - j) ?_
  rw [List.getElem?_drop, show j + (i - j) = i by omega]
  exact h
def spLaw (K : PySem.W.Frag) : Sp := fun vs H Q _ => ∃ (a : Addr) (ns : List Int), vs = [.ref a] ∧ SqL K H a (ns.map V.int) ∧ ∀ H', Q (.bl true) H'
section
variable {P : Program} {w : World} {K : PySem.W.Frag} {mg : Str → Option Value} {base : Heap} {a : Ad} {d : Fd} {fL fN fU fI0 f0 D0 T0 fE fR : Addr} {dE dR : FuncData} {fK fT fH fA fn fB fO : Addr} {dK dT dH dA dn dB dO : FuncData}
theorem ok_law (T : TX K mg a) (D : FDS K a d) (R : ER K mg P a fL fN fU fI0) (Z : EW K a) (M : CN K mg a.cT f0 D0 T0) (N : NM K a.cT fK fT fH fA fn dK dT dH dA dn) (L : NL K a.cT fB fO dB dO) (C : NR K a.cT fR dR) (X : QE K a.cT fE dE) : FnOk P w K mg base CX0 14 a.a_law d.a_law ["script"] (spLaw K) := by
  have GE : FnR P w K mg base CX0 1 fE (spEq K a.cT) := FnOk.toR (ok_eq T M X) X.BE
  have G__law_box : FnOk P w K mg base CX0 1 a.a_law_box d.a_law_box ["script"] (spBox K) := ok_law_box T D
  have G__law_sizes : FnOk P w K mg base CX0 3 a.a_law_sizes d.a_law_sizes ["box"] spSizes := ok_law_sizes T D
  have G__law_names : FnOk P w K mg base CX0 4 a.a_law_names d.a_law_names ["box", "count"] spNames := ok_law_names T D
  have G__law_heights : FnOk P w K mg base CX0 4 a.a_law_heights d.a_law_heights ["box", "names"] spHeights := ok_law_heights T D
  have G__law_rows : FnOk P w K mg base CX0 6 a.a_law_rows d.a_law_rows ["box", "names", "heights", "size"] spRows := ok_law_rows T D
  have G__law_extra : FnOk P w K mg base CX0 3 a.a_law_extra d.a_law_extra ["box", "names", "lone"] (spExtra K) := ok_law_extra T D
  have G__law_net : FnOk P w K mg base CX0 12 a.a_law_net d.a_law_net ["rows", "extra"] (spNet K a.cT) := ok_law_net T D R Z M N
  have G__law_known : FnOk P w K mg base CX0 1 a.a_law_known d.a_law_known ["rows", "extra"] (spKnown K) := ok_law_known T D
  have G__law_take : FnOk P w K mg base CX0 2 a.a_law_take d.a_law_take ["box", "size"] spTake := ok_law_take T D
  have G__law_spoilt : FnOk P w K mg base CX0 3 a.a_law_spoilt d.a_law_spoilt ["box", "rows"] spSpoilt := ok_law_spoilt T D
  have G__law_settled : FnOk P w K mg base CX0 5 a.a_law_settled d.a_law_settled ["net", "rows", "known"] (spSettled K a.cT) := ok_law_settled T D R Z M N L
  have G__law_joined_right : FnOk P w K mg base CX0 13 a.a_law_joined_right d.a_law_joined_right ["box", "net", "rows", "extra", "known"] (spJoined K a.cT) := ok_law_joined_right T D R Z M N L X
  have G__law_shuffled : FnOk P w K mg base CX0 3 a.a_law_shuffled d.a_law_shuffled ["box", "rows"] spShuf := ok_law_shuffled T D
  have G__law_order_right : FnOk P w K mg base CX0 13 a.a_law_order_right d.a_law_order_right ["box", "net", "turned", "extra", "known"] (spOrder K a.cT) := ok_law_order_right T D R Z M N L C X
  have G__law_others_right : FnOk P w K mg base CX0 13 a.a_law_others_right d.a_law_others_right ["box", "net", "rows", "known", "gone"] (spOthers K a.cT) := ok_law_others_right T D R Z M N L X
  refine D.F_law.ok sc_law (fun vs H Q E h => ?_) (fun cdv A outer s H vs Q E hr h => ?_)
  · obtain ⟨a, ns, rfl, _⟩ := h
    rfl
  · obtain ⟨a0, ns0, rfl, ha, fin⟩ := h
    have hr1 : Room 1 _ := hr.mono (by decide)
    refine ⟨_, (pss_cons (ps_set (i := 1) sc_law.nd rfl (Or.inl rfl) (pe_call G__law_box (hr.mono (by decide)) rfl T.f__law_box T.k__law_box D.B__law_box .nil pass0 (pa_cons (pv 0) pa_nil)))
        (pss_cons (ps_asg (pe_call G__law_sizes (hr.mono (by decide)) rfl T.f__law_sizes T.k__law_sizes D.B__law_sizes .nil pass0 (pa_cons (pv 1) pa_nil)) (pg_tup rfl (pgs_cons (pg_name (i := 2) sc_law.nd rfl (Or.inl rfl)) (pgs_cons (pg_name (i := 3) sc_law.nd rfl (Or.inl rfl)) pgs_nil))))
        (pss_cons (ps_set (i := 4) sc_law.nd rfl (Or.inl rfl) (pe_call G__law_names (hr.mono (by decide)) rfl T.f__law_names T.k__law_names D.B__law_names .nil pass0 (pa_cons (pv 1) (pa_cons (pe_op op_add (pv 2) pe_int) pa_nil))))
        (pss_cons (ps_set (i := 5) sc_law.nd rfl (Or.inl rfl) (pe_call G__law_heights (hr.mono (by decide)) rfl T.f__law_heights T.k__law_heights D.B__law_heights .nil pass0 (pa_cons (pv 1) (pa_cons (pv 4) pa_nil))))
        (pss_cons (ps_set (i := 6) sc_law.nd rfl (Or.inl rfl) (pe_call G__law_rows (hr.mono (by decide)) rfl T.f__law_rows T.k__law_rows D.B__law_rows .nil pass0 (pa_cons (pv 1) (pa_cons (pe_slice sl_list (pv 4) po_none (po_some (pv 2))) (pa_cons (pv 5) (pa_cons (pv 3) pa_nil))))))
        (pss_cons (ps_if (PW.pt (pw_and (pt_truth (pv 6) (by intro _; rfl)) (pw_and1 (pt_cmpR op_eq (pe_call G__law_take (hr.mono (by decide)) rfl T.f__law_take T.k__law_take D.B__law_take .nil pass0 (pa_cons (pv 1) (pa_cons pe_int pa_nil))) pe_int (nomark _))))) (pss_one (ps_set (i := 6) sc_law.nd rfl (Or.inl rfl) (pe_call G__law_spoilt (hr.mono (by decide)) rfl T.f__law_spoilt T.k__law_spoilt D.B__law_spoilt .nil pass0 (pa_cons (pv 1) (pa_cons (pv 6) pa_nil))))) pss_nil)
        (pss_cons (ps_set (i := 7) sc_law.nd rfl (Or.inl rfl) (pe_call G__law_extra (hr.mono (by decide)) rfl T.f__law_extra T.k__law_extra D.B__law_extra .nil pass0 (pa_cons (pv 1) (pa_cons (pe_slice sl_list (pv 4) po_none (po_some (pv 2))) (pa_cons (pe_ix (ix_listK (K := K)) (pv 4) (pv 2) (fun _ _ => rfl)) pa_nil)))))
        (pss_cons (ps_set (i := 8) sc_law.nd rfl (Or.inl rfl) (pe_call G__law_known (hr.mono (by decide)) rfl T.f__law_known T.k__law_known D.B__law_known .nil pass0 (pa_cons (pv 6) (pa_cons (pv 7) pa_nil))))
        (pss_cons (ps_set (i := 9) sc_law.nd rfl (Or.inl rfl) (pe_call G__law_net (hr.mono (by decide)) rfl T.f__law_net T.k__law_net D.B__law_net .nil pass0 (pa_cons (pv 6) (pa_cons (pv 7) pa_nil))))
        (pss_cons (ps_if (PW.pt (pw_or (pt_not (pt_val (pe_call G__law_settled (hr.mono (by decide)) rfl T.f__law_settled T.k__law_settled D.B__law_settled .nil pass0 (pa_cons (pv 9) (pa_cons (pv 6) (pa_cons (pv 8) pa_nil)))))) (pw_or1 (pt_not (pt_val (pe_call G__law_joined_right (hr.mono (by decide)) rfl T.f__law_joined_right T.k__law_joined_right D.B__law_joined_right .nil pass0 (pa_cons (pv 1) (pa_cons (pv 9) (pa_cons (pv 6) (pa_cons (pv 7) (pa_cons (pv 8) pa_nil))))))))))) (pss_one (ps_ret pe_bl)) pss_nil)
        (pss_cons (ps_if (pt_not (pt_val (pe_call G__law_order_right (hr.mono (by decide)) rfl T.f__law_order_right T.k__law_order_right D.B__law_order_right .nil pass0 (pa_cons (pv 1) (pa_cons (pv 9) (pa_cons (pe_call G__law_shuffled (hr.mono (by decide)) rfl T.f__law_shuffled T.k__law_shuffled D.B__law_shuffled .nil pass0 (pa_cons (pv 1) (pa_cons (pv 6) pa_nil))) (pa_cons (pv 7) (pa_cons (pv 8) pa_nil)))))))) (pss_one (ps_ret pe_bl)) pss_nil)
        (pss_cons (ps_if (pt_not (pt_val (pe_call G__law_others_right (hr.mono (by decide)) rfl T.f__law_others_right T.k__law_others_right D.B__law_others_right .nil pass0 (pa_cons (pv 1) (pa_cons (pv 9) (pa_cons (pv 6) (pa_cons (pv 8) (pa_cons (pe_ix (ix_listK (K := K)) (pv 4) (pe_op op_add (pv 2) pe_int) (fun _ _ => rfl)) pa_nil)))))))) (pss_one (ps_ret pe_bl)) pss_nil)
        (pss_cons (ps_for PassesOwn.never rfl (pi_list (pe_lst (pa_cons (pe_callTy call_list_of (by rfl) T.b_list (by decide +kernel) (pa_cons (pv 6) pa_nil)) (pa_cons (pe_callTy call_tuple_of (by rfl) T.b_tuple (by decide +kernel) (pa_cons (pv 6) pa_nil)) (pa_cons (pe_tup pa_nil) (pa_cons pe_int (pa_cons pe_str (pa_cons (pv 8) pa_nil)))))))) (pg_name (i := 10) sc_law.nd rfl (Or.inl rfl)) (pss_one (ps_if (pt_cmpR KW.op_notB (pe_cmpR (QS.op_eqO X.E1.mt.at_ X.E1.mt.fn GE hr1 pass0) (pv 9) (pv 10) (nomark _)) pe_bl (nomark _)) (pss_one (ps_ret pe_bl)) pss_nil)))
        (pss_one (ps_ret (pe_call G__law_settled (hr.mono (by decide)) rfl T.f__law_settled T.k__law_settled D.B__law_settled .nil pass0 (pa_cons (pv 9) (pa_cons (pv 6) (pa_cons (pv 8) pa_nil))))))))))))))))))), ?_⟩
    have big : 100000 ≤ sizeLine := by decide
    refine ⟨_, rfl, a0, ns0, rfl, ha, fun b H1 e1 nb X1 => ?_⟩
    refine ⟨_, rfl, b, 4, rfl, X1, by omega, fun t c s H2 hs2 hc6 hs12 ht k2 X2 => ?_⟩
    refine ⟨t, _, rfl, SqT.of ht, rfl, _, _, rfl, _, _, rfl, rfl, ?_⟩
    refine ⟨_, rfl, _, rfl, _, _, rfl, rfl, b, 7, c + 2, rfl, X2, by omega, by omega, fun nl xs H3 hnl0 nlb N3 lx k3 X3 => ?_⟩
    refine ⟨_, rfl, _, rfl, b, nl, 7 + 20 * (c + 2), xs, rfl, X3, by omega, nlb, N3, by omega, fun hd f H4 hhd T4 k4 X4 => ?_⟩
    have hdb := X3.ne hhd
    have N4 := N3.kp k4 nlb
    have lx2 : (xs.map V.str).length = c + 2 := by rw [List.length_map, lx]
    have ec : cutV (xs.map V.str) none (some (c : Int)) = (xs.take c).map V.str := by rw [cutV_to (by omega), List.map_take]
    have lt : (xs.take c).length = c := by rw [List.length_take, lx]; omega
    refine ⟨_, rfl, _, rfl, _, rfl, _, rfl, nl, _, rfl, SqL.of N4.at_, fun p1 hp1 => ?_⟩
    have x5 := Ex.new (o := .lst (cutV (xs.map V.str) none (some (c : Int)))) hp1
    have k45 : Kp b H4 _ := Kp.ex x5
    have X5 := X4.ex x5
    have N5 : Nms p1 (xs.take c) (upd H4 p1 (.lst (cutV (xs.map V.str) none (some (c : Int))))) := ⟨by rw [upd_same, ec], fun z hz => N3.nm z (List.mem_of_mem_take hz), N3.nd.sublist (List.take_sublist _ _)⟩
    refine ⟨_, rfl, _, rfl, b, p1, hd, 7 + 20 * (c + 2) + 100, s, xs.take c, xs, f, rfl, X5, by omega, X4.ne hp1, N5, hs2.imp id fun h => by omega, by omega, by omega, hdb, T4.kp k45 hdb, fun x hx => List.mem_of_mem_take hx, fun r0 us0 ds0 H6 hr0 hr6 R6 rin0 ld0 k6 X6 => ?_⟩
    have rb0 := X5.ne hr0
    have k46 := k45.trans k6
    have N6 := N4.kp k46 nlb
    generalize hnn : 7 + 20 * (c + 2) + 100 + 12 * s = n6 at *
    have n6b : n6 ≤ 1000 := by omega
    clear hnn
    -- the rows
    refine nm_go ?_
    dsimp only
    refine seq_cut (fun σ' H' => ∃ (r : Addr) (us : List V) (ds : List Row), σ' = [some (.ref a0), some (.ref b), some (.int c), some (.int s), some (.ref nl), some (.ref hd), some (.ref r), none, none, none, none] ∧ Kp b H4 H' ∧ Bx b (n6 + 3) H' ∧ r ≠ b ∧ H' r = some (.lst us) ∧ RowsAt H' us ds ∧ ds.length ≤ 13 ∧ (∀ x ∈ ds, x.1 ∈ xs.take c ∧ x.2.1 ∈ xs.take c ∧ x.1 ≠ x.2.1)) (fun N' hN => ?_) (fun σ' H8 h8 => ?_)
    · have lu0 := R6.1
      refine ⟨_, rfl, !us0.isEmpty, .inl ⟨_, SqL.of hr6, by cases us0 <;> rfl⟩, ?_⟩
      have stay : ∀ H7, Kp b H6 H7 → Bx b (n6 + 3) H7 → N' [some (.ref a0), some (.ref b), some (.int c), some (.int s), some (.ref nl), some (.ref hd), some (.ref r0), none, none, none, none] H7 := fun H7 k7 X7 => hN _ _ ⟨r0, us0, ds0, rfl, k46.trans k7, X7, rb0, k7.at rb0 hr6, R6.keep (k7.tup X6), by omega, fun x hx => ⟨(rin0 x hx).1, (rin0 x hx).2.1, (rin0 x hx).2.2.1⟩⟩
      refine ite2 (fun g1 => ?_) (fun g1 => iteF (stay H6 (Kp.refl _ _) (X6.mono (by omega))))
      have pos : 1 ≤ ds0.length := by
        rw [← lu0]
        cases us0 with
        | nil => cases g1
        | cons _ _ => simp
      refine ⟨_, rfl, b, 4, _, rfl, X6, by omega, by decide, by decide, fun tk H7 k7 X7 _ _ => ⟨rfl, _, rfl, ?_⟩⟩
      refine ite2 (fun g2 => ?_) (fun g2 => stay H7 k7 (X7.mono (by omega)))
      refine ⟨_, rfl, _, rfl, b, r0, _, us0, ds0, rfl, X7, by omega, rb0, k7.at rb0 hr6, R6.keep (k7.tup X6), pos, by omega, fun r us ds x H8 hr80 hr8 R8 l8 xm om mem8 k8 X8 => ?_⟩
      refine hN _ _ ⟨r, us, ds, rfl, (k46.trans k7).trans k8, X8, X7.ne hr80, hr8, R8, by omega, fun y hy => ?_⟩
      rcases (mem8 y).mp hy with h | rfl
      · exact ⟨(rin0 y h).1, (rin0 y h).2.1, (rin0 y h).2.2.1⟩
      · have := rin0 x xm
        exact ⟨this.2.1, this.1, fun z => this.2.2.1 z.symm⟩
    obtain ⟨r, us, ds, rfl, k48, X8, rb, hr8, R8, l13, rin⟩ := h8
    have N8 := N4.kp k48 nlb
    -- the moments given
    refine ⟨_, rfl, _, rfl, _, rfl, _, rfl, nl, _, rfl, SqL.of N8.at_, fun p2 hp2 => ?_⟩
    have x9 := Ex.new (o := .lst (cutV (xs.map V.str) none (some (c : Int)))) hp2
    have X9 := X8.ex x9
    have N9 : Nms p2 (xs.take c) (upd H8 p2 (.lst (cutV (xs.map V.str) none (some (c : Int))))) := ⟨by rw [upd_same, ec], N5.nm, N5.nd⟩
    have hr9 := x9 _ _ hr8
    have R9 := R8.ex x9
    have N9' := N8.kp (Kp.ex (b := b) x9) nlb
    have p2b := X8.ne hp2
    generalize upd H8 p2 (.lst (cutV (xs.map V.str) none (some (c : Int)))) = H9 at *
    obtain ⟨z, hz⟩ : ∃ z, xs[c]? = some z := ⟨xs[c]'(by omega), List.getElem?_eq_getElem (by omega)⟩
    have zx : z ∈ xs := List.mem_of_getElem? hz
    refine ⟨_, rfl, _, rfl, nl, _, (c : Int), .str z, rfl, rfl, SqL.of N9'.at_, at_lit (n := c) rfl (by rw [List.getElem?_map, hz]; rfl), b, p2, n6 + 3, xs.take c, z, rfl, X9, by omega, p2b, N9, by omega, fun et es H10 het esub e11 k10 X10 => ?_⟩
    have hr10 := k10.at rb hr9
    have R10 := R9.keep (k10.tup X9)
    have esx : ∀ e ∈ es, e ∈ xs := fun e he => (esub e he).elim (fun q => by rw [q]; exact zx) fun q => List.mem_of_mem_take q
    have dsx : ∀ b ∈ ds, ∀ y ∈ nm2 b, y ∈ xs := fun x hx y hy => by
      have := rin x hx
      simp only [nm2, List.mem_cons, List.not_mem_nil, or_false] at hy
      rcases hy with rfl | rfl
      · exact List.mem_of_mem_take this.1
      · exact List.mem_of_mem_take this.2.1
    have ok : ∀ x ∈ ds, RowOk x := fun x hx => ⟨N3.nm _ (dsx x hx _ (by simp [nm2])), N3.nm _ (dsx x hx _ (by simp [nm2])), (rin x hx).2.2⟩
    have lf := flatR_len ds
    -- known
    refine ⟨_, rfl, _, rfl, r, us, ds, _, es, xs, rfl, SqL.of hr10, R10, by omega, ⟨et, rfl, .inr (SqT.of het)⟩, by omega, by omega, esx, dsx, fun kl ks H12 e12 hkl knd kso kmem => ?_⟩
    have nmE : ∀ y ∈ es, isNameS y = true := fun y hy => N3.nm y (esx y hy)
    refine ⟨_, rfl, _, rfl, r, us, ds, _, es, xs, rfl, SqL.of (e12 _ _ hr10), R10.ex e12, ok, by omega, ⟨et, rfl, .inr (SqT.of (e12 _ _ het))⟩, nmE, by omega, by omega, esx, dsx, fun q ms H13 e13 NA NP mmem => ?_⟩
    obtain rfl : ms = ks := names_same NP.nd knd NP.so kso fun y => (mmem y).trans (kmem y).symm
    have e1013 := e12.trans e13
    have X13 := X10.ex e1013
    have hr13 := e1013 _ _ hr10
    have R13 := R10.ex e1013
    have hkl13 := e13 _ _ hkl
    have het13 := e1013 _ _ het
    have N13 : Nms nl xs H13 := (N9'.kp k10 nlb).kp (Kp.ex (b := b) e1013) nlb
    clear N9' N8 N6 N5 N9 R6 R9 R10 T4 hr6 hr8 hr9 hr10 X1 X2 X3 X4 X5 X6 X8 X9 X10 hkl het k2 k3 k4 k45 k46 k6 k48 k10 e1 e12 x9 x5 e13 e1013 N4 ht hp1 hp2 hhd hdb hr0 rb0 rin0 hnl0 ec
    have klb : kl ≠ b := fun z => by
      obtain ⟨c1, ns1, i1, r1, m1, t1, Y⟩ := id X13
      rw [z] at hkl13
      have := Option.some.inj (hkl13.symm.trans Y.box)
      injection this with this
      cases hm : ms with
      | nil => rw [hm] at this; cases this
      | cons y l => rw [hm] at this; cases this
    obtain ⟨z1, hz1⟩ : ∃ z, xs[c + 1]? = some z := ⟨xs[c + 1]'(by omega), List.getElem?_eq_getElem (by omega)⟩
    have z1x := List.mem_of_getElem? hz1
    have kin : ∀ y ∈ ms, y ∈ xs.take (c + 1) := fun y hy => by
      rw [List.take_add_one, hz]
      rcases (kmem y).mp hy with h | ⟨x, hx, h⟩
      · rcases esub y h with rfl | h
        · exact List.mem_append_right _ (List.mem_singleton.mpr rfl)
        · exact List.mem_append_left _ h
      · have := rin x hx
        simp only [nm2, List.mem_cons, List.not_mem_nil, or_false] at h
        rcases h with rfl | rfl
        · exact List.mem_append_left _ this.1
        · exact List.mem_append_left _ this.2.1
    have z1k : z1 ∉ ms := fun h => not_take N3.nd hz1 (Nat.le_refl _) (kin z1 h)
    have lms : ms.length ≤ 8 := by
      have := sub_len NP.nd kin
      rw [List.length_take] at this
      omega
    have xl : xs.length ≤ 20 := by omega
    have subk : ∀ c ∈ ds, ∀ z ∈ nm2 c, z ∈ ms := fun c hc z hz => (kmem z).mpr (.inr ⟨c, hc, hz⟩)
    refine ⟨_, rfl, _, rfl, _, rfl, q, r, kl, us, ds, ms, rfl, NA, NP, SqL.of hr13, R13, ok, by omega, SqL.of hkl13, fun H14 e14 => ⟨_, rfl, iteF' rfl ?_⟩⟩
    have X14 := X13.ex e14
    refine ⟨_, rfl, _, rfl, _, rfl, _, rfl, _, rfl, b, q, r, et, kl, _, us, ds, ms, es, xs, rfl, X14, by omega, NA.ex e14, NP, rb, e14 _ _ hr13, R13.ex e14, ok, by omega, SqT.of (e14 _ _ het13), nmE, by omega, xl, esx, dsx, kmem, klb, e14 _ _ hkl13, fun H15 k15 X15 => ⟨_, rfl, iteF' rfl ?_⟩⟩
    have k1315 := (Kp.ex (b := b) e14).trans k15
    have tl15 := k1315.tl X13
    refine ⟨_, rfl, _, rfl, _, rfl, _, rfl, b, r, _, us, ds, rfl, X15, by omega, rb, k1315.at rb hr13, R13.keep tl15.tk, by omega, fun r2 us2 es2 H16 hr20 hr2 R2 l2 mem2 k16 X16 => ?_⟩
    have k1316 := k1315.trans k16
    have tl16 := k1316.tl X13
    refine ⟨_, rfl, _, rfl, ?_⟩
    dsimp only [tNil]
    refine ⟨b, q, r2, kl, _, _, us2, ds, es2, ms, es, xs, rfl, X16, by omega, NA.tl tl16, NP, hr2, R2, fun x hx => ok x ((mem2 x).mp hx), by omega, mem2, ⟨et, rfl, .inr (SqT.of (tl16.tk _ _ het13))⟩, nmE, by omega, xl, esx, fun c hc => dsx c ((mem2 c).mp hc), kmem, klb, k1316.at klb hkl13, fun H17 k17 X17 => ⟨_, rfl, iteF' rfl ?_⟩⟩
    have k1317 := k1316.trans k17
    have tl17 := k1317.tl X13
    have N17 := N13.kp k1317 nlb
    refine ⟨_, rfl, _, rfl, _, rfl, _, rfl, _, rfl, _, rfl, _, _, rfl, rfl, nl, _, _, .str z1, rfl, rfl, SqL.of N17.at_, at_lit (n := c + 1) (by omega) (by rw [List.getElem?_map, hz1]; rfl), ?_⟩
    dsimp only [tNil]
    refine ⟨b, q, r, kl, z1, _, us, ds, ms, rfl, X17, by omega, NA.tl tl17, NP, rb, k1317.at rb hr13, R13.keep tl17.tk, ok, by omega, subk, klb, k1317.at klb hkl13, by omega, z1k, N3.nm _ z1x, fun H18 k18 X18 => ⟨_, rfl, iteF' rfl ?_⟩⟩
    have k1318 := k1317.trans k18
    have tl18 := k1318.tl X13
    have NA18 := NA.tl tl18
    have hr18 := k1318.at rb hr13
    have R18 := R13.keep tl18.tk
    have hkl18 := k1318.at klb hkl13
    have lu := R18.1
    -- what is no net
    refine ⟨_, rfl, r, _, rfl, .inl (SqL.of hr18), fun p3 hp3 => ?_⟩
    have x19 := Ex.new (o := .lst us) hp3
    have h319 : upd H18 p3 (.lst us) p3 = some (.lst us) := upd_same
    generalize upd H18 p3 (.lst us) = H19 at *
    refine ⟨_, rfl, r, _, rfl, .inl ⟨SqL.of (x19 _ _ hr18), fun p4 hp4 => ?_⟩⟩
    have x20 := Ex.new (o := .tup us) hp4
    have h420 : upd H19 p4 (.tup us) p4 = some (.tup us) := upd_same
    generalize upd H19 p4 (.tup us) = H20 at *
    refine ⟨(by show 0 ≤ sizeLine; decide), fun p5 hp5 => ?_⟩
    have x21 := Ex.new (o := .tup []) hp5
    have h521 : upd H20 p5 (.tup []) p5 = some (.tup []) := upd_same
    generalize upd H20 p5 (.tup []) = H21 at *
    refine ⟨_, rfl, (by show 6 ≤ sizeLine; decide), fun p6 hp6 => ?_⟩
    have x22 := Ex.new (o := .lst [V.ref p3, .ref p4, .ref p5, .int 0, .str "net", .ref kl]) hp6
    have h622 : upd H21 p6 (.lst [V.ref p3, .ref p4, .ref p5, .int 0, .str "net", .ref kl]) p6 = some (.lst [V.ref p3, .ref p4, .ref p5, .int 0, .str "net", .ref kl]) := upd_same
    generalize upd H21 p6 (.lst [V.ref p3, .ref p4, .ref p5, .int 0, .str "net", .ref kl]) = H22 at *
    have e1822 := x19.trans (x20.trans (x21.trans x22))
    have DA : DpAll K H22 [V.ref p3, .ref p4, .ref p5, .int 0, .str "net", .ref kl] [.list (ds.map bD), .tuple (ds.map bD), .tuple [], .int 0, .str "net", .list (ms.map .str)] :=
      .cons (.lst (SqL.of ((x20.trans (x21.trans x22)) _ _ h319)) (R18.ex e1822).dp) (.cons (.tup (SqT.of ((x21.trans x22) _ _ h420)) (R18.ex e1822).dp) (.cons (.tup (SqT.of (x22 _ _ h521)) .nil) (.cons (.int 0) (.cons (.str _) (.cons (.lst (SqL.of (e1822 _ _ hkl18)) (names_dp ms)) .nil)))))
    have NA22 := NA18.ex e1822
    refine ⟨p6, rfl, ⟨_, SqL.of h622⟩, for_it (walk_list (xs := [V.ref p3, .ref p4, .ref p5, .int 0, .str "net", .ref kl])) (fun i σ' H' => (∃ o10 : Option V, σ' = [some (.ref a0), some (.ref b), some (.int c), some (.int s), some (.ref nl), some (.ref hd), some (.ref r), some (.ref et), some (.ref kl), some (.ref q), o10]) ∧ Ex H22 H') ⟨⟨none, rfl⟩, Ex.refl _⟩ (fun i σ' H' _ h => SqL.of (h.2 _ _ h622)) ?_ ?_⟩
    · rintro i v σ' Hx H23 hi ⟨⟨o10, rfl⟩, e23⟩ ⟨rfl, hv⟩
      obtain ⟨dv, hdv, Dv⟩ := DpAll.get (DpAll.ex e23 DA) hv
      have ty : tyN dv = "list" ∨ tyN dv = "tuple" ∨ tyN dv = "int" ∨ tyN dv = "str" := by
        have := List.mem_of_getElem? hdv
        simp only [List.mem_cons, List.not_mem_nil, or_false] at this
        rcases this with rfl | rfl | rfl | rfl | rfl | rfl
        · exact .inl rfl
        · exact .inr (.inl rfl)
        · exact .inr (.inl rfl)
        · exact .inr (.inr (.inl rfl))
        · exact .inr (.inr (.inr rfl))
        · exact .inl rfl
      have NA23 := NA22.ex e23
      obtain ⟨dx, bo, mo, rv, dd, mv, us0, hq, _⟩ := id NA23
      refine ⟨_, rfl, _, rfl, q, dx, _, _, rfl, hq, dp_ty Dv, (X.no _ ty).2, q, v, flatR ds, ms, rfl, NA23, NP, .inr ⟨dv, Dv, ty, fun H24 e24 => ⟨_, _, rfl, rfl, _, rfl, iteF' rfl ?_⟩⟩⟩
      exact ⟨⟨_, rfl⟩, e23.trans e24⟩
    rintro σ' H23 ⟨⟨o10, rfl⟩, e23⟩
    have e1823 := e1822.trans e23
    refine ⟨_, rfl, _, rfl, _, rfl, ?_⟩
    dsimp only [tNil]
    exact ⟨q, r, kl, us, ds, ms, rfl, NA22.ex e23, NP, SqL.of (e1823 _ _ hr18), R18.ex e1823, ok, by omega, SqL.of (e1823 _ _ hkl18), fun H24 e24 => fin H24⟩
end
end N4
set_option maxRecDepth 100000
set_option maxHeartbeats 8000000
namespace N4
open PySem L2 Evl GP HR SC SetM SetH
theorem sub_tyC {K : PySem.W.Frag} {C : Addr} {T : String} (h : T = "list" ∨ T = "tuple" ∨ T = "int" ∨ T = "str") : PySem.W.subIn K (.type T) (.ref C) = some false := by
  rcases h with rfl | rfl | rfl | rfl <;> rfl
theorem not_first {K : PySem.W.Frag} {C : Addr} {T : String} (h : T = "list" ∨ T = "tuple" ∨ T = "int" ∨ T = "str") : PySem.W.notFirst K C (.type T) = true := by
  unfold PySem.W.notFirst
  rw [sub_tyC h]
  rcases h with rfl | rfl | rfl | rfl <;> rfl
theorem kit_tyC {K : PySem.W.Frag} {C : Addr} {T : String} (hd : PySem.W.hasDictIn K C = true) (ht : PySem.W.typeIn K (.ref C) = some (.type "type")) (h : T = "list" ∨ T = "tuple" ∨ T = "int" ∨ T = "str") : PySem.W.kitOne K (.type T) (.ref C) = some false := by
  obtain ⟨cd, hc, _⟩ := PySem.W.any_some hd
  have e2 : ((PySem.W.clsIn K C).isSome && PySem.W.typeIn K (.ref C) == some (.type "type")) = true := by rw [hc, ht] <;> rfl
  unfold PySem.W.kitOne
  rw [if_neg (fun z => nomatch (eq_of_beq z : Value.type T = Value.ref C))]
  show (if ((PySem.W.clsIn K C).isSome && PySem.W.typeIn K (.ref C) == some (.type "type")) = true then PySem.W.subIn K (.type T) (.ref C) else none) = some false
  rw [if_pos e2]
  exact sub_tyC h
end N4
set_option maxRecDepth 100000
set_option maxHeartbeats 4000000
namespace N4
open PySem L2 Evl GP HR
theorem kit_me {K : PySem.W.Frag} {C : Addr} : PySem.W.kitOne K (.ref C) (.ref C) = some true := by
  unfold PySem.W.kitOne
  rw [if_pos (beq_self_eq_true _)]
theorem kit_ref {K : PySem.W.Frag} {C D : Addr} {v : Bool} (h1 : PySem.W.subIn K (.ref C) (.ref C) = some true) (h2 : PySem.W.subIn K (.ref C) (.ref D) = some v) (hd : PySem.W.hasDictIn K D = true) (ht : PySem.W.typeIn K (.ref D) = some (.type "type")) : PySem.W.kitOne K (.ref C) (.ref D) = some v := by
  by_cases ne : C = D
  · subst ne
    obtain rfl : true = v := Option.some.inj (h1.symm.trans h2)
    exact kit_me
  · obtain ⟨cd, hc, _⟩ := PySem.W.any_some hd
    have e2 : ((PySem.W.clsIn K D).isSome && PySem.W.typeIn K (.ref D) == some (.type "type")) = true := by rw [hc, ht] <;> rfl
    unfold PySem.W.kitOne
    rw [if_neg (fun z => ne (Value.ref.inj (eq_of_beq z)))]
    show (if ((PySem.W.clsIn K D).isSome && PySem.W.typeIn K (.ref D) == some (.type "type")) = true then PySem.W.subIn K (.ref C) (.ref D) else none) = some v
    rw [if_pos e2]
    exact h2
theorem kit_type {K : PySem.W.Frag} {C : Addr} {T : String} {v : Bool} (hm : PySem.W.kitMeta T = true) (h2 : PySem.W.subIn K (.ref C) (.type T) = some v) : PySem.W.kitOne K (.ref C) (.type T) = some v := by
  unfold PySem.W.kitOne
  rw [if_neg (fun z => nomatch (eq_of_beq z : Value.ref C = Value.type T))]
  show (if PySem.W.kitMeta T = true then PySem.W.subIn K (.ref C) (.type T) else none) = some v
  rw [if_pos hm]
  exact h2
theorem all_mk {l : PySem.W.OpenLaw} {w : World} {K : PySem.W.Frag} {h : Heap} {mg : Str → Option Value} {fa cR cL cN cU cI cT fXL fXN fXU fXI f1 f2 f3 f4 f5 f6 f7 f8 f9 f10 f11 f12 f13 f14 f15 f16 f17 f18 f19 f20 f21 f22 f23 f24 f25 f26 f27 f28 f29 f30 f31 f32 f33 f34 f35 f36 f37 f38 f39 f40 f41 f42 f43 f44 f45 f46 cEW cE0 qD0 qT0 qfI qfK qfT qfH qfA qfN qfB qfO qfR qfE : Addr} (X : K.In h) (G : h.Ns mainGlobals mg) (hfa : mg "law" = some (.ref fa))
    {od1 an1 od2 an2 od3 an3 od4 an4 od5 an5 od6 an6 od7 an7 od8 an8 od9 an9 od10 an10 od11 an11 od12 an12 od13 an13 od14 an14 od15 an15 od16 an16 od17 an17 od18 an18 od19 an19 od20 an20 od21 an21 od22 an22 od23 an23 od24 an24 od25 an25 od26 an26 od27 an27 od28 an28 od29 an29 od30 an30 od31 an31 od32 an32 od33 an33 od34 an34 od35 an35 od36 an36 od37 an37 od38 an38 od39 an39 od40 an40 od41 an41 od42 an42 od43 an43 od44 an44 od45 an45 od46 an46 od0L an0L od0N an0N od0U an0U od0I an0I : Option Addr} {sl1 sl2 sl3 sl4 sl5 sl6 sl7 sl8 sl9 sl10 sl11 sl12 sl13 sl14 sl15 sl16 sl17 sl18 sl19 sl20 sl21 sl22 sl23 sl24 sl25 sl26 sl27 sl28 sl29 sl30 sl31 sl32 sl33 sl34 sl35 sl36 sl37 sl38 sl39 sl40 sl41 sl42 sl43 sl44 sl45 sl46 sl0L sl0N sl0U sl0I : Array (Option Value)} {oc1 kV1 dc1 pm1 cd1 ct1 oc2 kV2 dc2 pm2 cd2 ct2 oc3 kV3 dc3 pm3 cd3 ct3 oc4 kV4 dc4 pm4 cd4 ct4 oc5 kV5 dc5 pm5 cd5 ct5 oc6 kV6 dc6 pm6 cd6 ct6 oc7 kV7 dc7 pm7 cd7 ct7 oc8 kV8 dc8 pm8 cd8 ct8 oc9 kV9 dc9 pm9 cd9 ct9 oc10 kV10 dc10 pm10 cd10 ct10 oc11 kV11 dc11 pm11 cd11 ct11 oc12 kV12 dc12 pm12 cd12 ct12 oc13 kV13 dc13 pm13 cd13 ct13 oc14 kV14 dc14 pm14 cd14 ct14 oc15 kV15 dc15 pm15 cd15 ct15 oc16 kV16 dc16 pm16 cd16 ct16 oc17 kV17 dc17 pm17 cd17 ct17 oc18 kV18 dc18 pm18 cd18 ct18 oc19 kV19 dc19 pm19 cd19 ct19 oc20 kV20 dc20 pm20 cd20 ct20 oc21 kV21 dc21 pm21 cd21 ct21 oc22 kV22 dc22 pm22 cd22 ct22 oc23 kV23 dc23 pm23 cd23 ct23 oc24 kV24 dc24 pm24 cd24 ct24 oc25 kV25 dc25 pm25 cd25 ct25 oc26 kV26 dc26 pm26 cd26 ct26 oc27 kV27 dc27 pm27 cd27 ct27 oc28 kV28 dc28 pm28 cd28 ct28 oc29 kV29 dc29 pm29 cd29 ct29 oc30 kV30 dc30 pm30 cd30 ct30 oc31 kV31 dc31 pm31 cd31 ct31 oc32 kV32 dc32 pm32 cd32 ct32 oc33 kV33 dc33 pm33 cd33 ct33 oc34 kV34 dc34 pm34 cd34 ct34 oc35 kV35 dc35 pm35 cd35 ct35 oc36 kV36 dc36 pm36 cd36 ct36 oc37 kV37 dc37 pm37 cd37 ct37 oc38 kV38 dc38 pm38 cd38 ct38 oc39 kV39 dc39 pm39 cd39 ct39 oc40 kV40 dc40 pm40 cd40 ct40 oc41 kV41 dc41 pm41 cd41 ct41 oc42 kV42 dc42 pm42 cd42 ct42 oc43 kV43 dc43 pm43 cd43 ct43 oc44 kV44 dc44 pm44 cd44 ct44 oc45 kV45 dc45 pm45 cd45 ct45 oc46 kV46 dc46 pm46 cd46 ct46 oc0L dc0L pm0L ct0L oc0N dc0N pm0N ct0N oc0U dc0U pm0U ct0U oc0I dc0I pm0I ct0I : Value}
    {nm_L q_L : Str} {NN_L : Addr} {bs_L bm_L : List Value} {sn_L : List Str} {sub_L : List Value} {ab_L : Bool} {col_L : Option Bool} {dd_L : Option Addr} {m0_L m1_L m2_L m3_L m5_L : Option Value} {cda_L cc_L : Addr}
    {cl0_L ccl_L : Value} {cld_L cdd_L : Option Addr} {csl_L ccs_L : Array (Option Value)} {rvs_L : Array Value} {file_L : Str} {tf_L : Tok}
    {nm_N q_N : Str} {NN_N : Addr} {bs_N bm_N : List Value} {sn_N : List Str} {sub_N : List Value} {ab_N : Bool} {col_N : Option Bool} {dd_N : Option Addr} {m0_N m1_N m2_N m3_N m5_N : Option Value} {cda_N cc_N : Addr}
    {cl0_N ccl_N : Value} {cld_N cdd_N : Option Addr} {csl_N ccs_N : Array (Option Value)} {rvs_N : Array Value} {file_N : Str} {tf_N : Tok}
    {nm_U q_U : Str} {NN_U : Addr} {bs_U bm_U : List Value} {sn_U : List Str} {sub_U : List Value} {ab_U : Bool} {col_U : Option Bool} {dd_U : Option Addr} {m0_U m1_U m2_U m3_U m5_U : Option Value} {cda_U cc_U : Addr}
    {cl0_U ccl_U : Value} {cld_U cdd_U : Option Addr} {csl_U ccs_U : Array (Option Value)} {rvs_U : Array Value} {file_U : Str} {tf_U : Tok}
    {nm_I q_I : Str} {NN_I : Addr} {bs_I bm_I : List Value} {sn_I : List Str} {sub_I : List Value} {ab_I : Bool} {col_I : Option Bool} {dd_I : Option Addr} {m0_I m1_I m2_I m3_I m5_I : Option Value} {cda_I cc_I : Addr}
    {cl0_I ccl_I : Value} {cld_I cdd_I : Option Addr} {csl_I ccs_I : Array (Option Value)} {rvs_I : Array Value} {file_I : Str} {tf_I : Tok}
    {tk0 tk1 tk2 : Tok}
    {qodI qanI qodK qanK qodT qanT qodH qanH qodA qanA qodN qanN qodB qanB qodO qanO qodR qanR qodE qanE : Option Addr} {qslI qslK qslT qslH qslA qslN qslB qslO qslR qslE : Array (Option Value)} {qocI qdcI qpmI qcdI qctI qocK qkVK qdcK qpmK qcdK qctK qocT qkVT qdcT qpmT qcdT qctT qocH qkVH qdcH qpmH qcdH qctH qocA qkVA qdcA qpmA qcdA qctA qocN qkVN qdcN qpmN qcdN qctN qocB qkVB qdcB qpmB qcdB qctB qocO qkVO qdcO qpmO qcdO qctO qocR qkVR qdcR qpmR qcdR qctR qocE qkVE qdcE qpmE qcdE qctE : Value}
    {tkEa tkEb : Tok} {odEW odE0 odT0 : Option Addr} {itEW itE0 itT0 : Array Value} {nEW nE0 nT0 : Nat} {slEW slE0 slT0 : Array (Option Value)}
    (a1 : PySem.W.nsIn K mainGlobals "is_name" = some (some (.ref f1)))
    (l1 : K.lookup f1 = some ⟨oc1, od1, .func (PySem.W.fnOf "is_name" "is_name" (defArgs s_is_name) (defBody s_is_name) (defScope s_is_name) .none kV1 dc1 pm1 an1 cd1 ct1), sl1⟩)
    (c1 : PySem.W.codeIn K cd1 "is_name" = true)
    (k1 : PySem.W.keepIn K (.ref f1) = true)
    (a2 : PySem.W.nsIn K mainGlobals "is_integer" = some (some (.ref f2)))
    (l2 : K.lookup f2 = some ⟨oc2, od2, .func (PySem.W.fnOf "is_integer" "is_integer" (defArgs s_is_integer) (defBody s_is_integer) (defScope s_is_integer) .none kV2 dc2 pm2 an2 cd2 ct2), sl2⟩)
    (c2 : PySem.W.codeIn K cd2 "is_integer" = true)
    (k2 : PySem.W.keepIn K (.ref f2) = true)
    (a3 : PySem.W.nsIn K mainGlobals "is_bound" = some (some (.ref f3)))
    (l3 : K.lookup f3 = some ⟨oc3, od3, .func (PySem.W.fnOf "is_bound" "is_bound" (defArgs s_is_bound) (defBody s_is_bound) (defScope s_is_bound) .none kV3 dc3 pm3 an3 cd3 ct3), sl3⟩)
    (c3 : PySem.W.codeIn K cd3 "is_bound" = true)
    (k3 : PySem.W.keepIn K (.ref f3) = true)
    (a4 : PySem.W.nsIn K mainGlobals "moments_of" = some (some (.ref f4)))
    (l4 : K.lookup f4 = some ⟨oc4, od4, .func (PySem.W.fnOf "moments_of" "moments_of" (defArgs s_moments_of) (defBody s_moments_of) (defScope s_moments_of) .none kV4 dc4 pm4 an4 cd4 ct4), sl4⟩)
    (c4 : PySem.W.codeIn K cd4 "moments_of" = true)
    (k4 : PySem.W.keepIn K (.ref f4) = true)
    (a5 : PySem.W.nsIn K mainGlobals "best_way" = some (some (.ref f5)))
    (l5 : K.lookup f5 = some ⟨oc5, od5, .func (PySem.W.fnOf "best_way" "best_way" (defArgs s_best_way) (defBody s_best_way) (defScope s_best_way) .none kV5 dc5 pm5 an5 cd5 ct5), sl5⟩)
    (c5 : PySem.W.codeIn K cd5 "best_way" = true)
    (k5 : PySem.W.keepIn K (.ref f5) = true)
    (a6 : PySem.W.nsIn K mainGlobals "ways_with" = some (some (.ref f6)))
    (l6 : K.lookup f6 = some ⟨oc6, od6, .func (PySem.W.fnOf "ways_with" "ways_with" (defArgs s_ways_with) (defBody s_ways_with) (defScope s_ways_with) .none kV6 dc6 pm6 an6 cd6 ct6), sl6⟩)
    (c6 : PySem.W.codeIn K cd6 "ways_with" = true)
    (k6 : PySem.W.keepIn K (.ref f6) = true)
    (a7 : PySem.W.nsIn K mainGlobals "no_ring" = some (some (.ref f7)))
    (l7 : K.lookup f7 = some ⟨oc7, od7, .func (PySem.W.fnOf "no_ring" "no_ring" (defArgs s_no_ring) (defBody s_no_ring) (defScope s_no_ring) .none kV7 dc7 pm7 an7 cd7 ct7), sl7⟩)
    (c7 : PySem.W.codeIn K cd7 "no_ring" = true)
    (k7 : PySem.W.keepIn K (.ref f7) = true)
    (a8 : PySem.W.nsIn K mainGlobals "ring_and_ways_with" = some (some (.ref f8)))
    (l8 : K.lookup f8 = some ⟨oc8, od8, .func (PySem.W.fnOf "ring_and_ways_with" "ring_and_ways_with" (defArgs s_ring_and_ways_with) (defBody s_ring_and_ways_with) (defScope s_ring_and_ways_with) .none kV8 dc8 pm8 an8 cd8 ct8), sl8⟩)
    (c8 : PySem.W.codeIn K cd8 "ring_and_ways_with" = true)
    (k8 : PySem.W.keepIn K (.ref f8) = true)
    (a9 : PySem.W.nsIn K mainGlobals "ring_and_ways" = some (some (.ref f9)))
    (l9 : K.lookup f9 = some ⟨oc9, od9, .func (PySem.W.fnOf "ring_and_ways" "ring_and_ways" (defArgs s_ring_and_ways) (defBody s_ring_and_ways) (defScope s_ring_and_ways) .none kV9 dc9 pm9 an9 cd9 ct9), sl9⟩)
    (c9 : PySem.W.codeIn K cd9 "ring_and_ways" = true)
    (k9 : PySem.W.keepIn K (.ref f9) = true)
    (a10 : PySem.W.nsIn K mainGlobals "check_bound" = some (some (.ref f10)))
    (l10 : K.lookup f10 = some ⟨oc10, od10, .func (PySem.W.fnOf "check_bound" "check_bound" (defArgs s_check_bound) (defBody s_check_bound) (defScope s_check_bound) .none kV10 dc10 pm10 an10 cd10 ct10), sl10⟩)
    (c10 : PySem.W.codeIn K cd10 "check_bound" = true)
    (k10 : PySem.W.keepIn K (.ref f10) = true)
    (a11 : PySem.W.nsIn K mainGlobals "meaning_of" = some (some (.ref f11)))
    (l11 : K.lookup f11 = some ⟨oc11, od11, .func (PySem.W.fnOf "meaning_of" "meaning_of" (defArgs s_meaning_of) (defBody s_meaning_of) (defScope s_meaning_of) .none kV11 dc11 pm11 an11 cd11 ct11), sl11⟩)
    (c11 : PySem.W.codeIn K cd11 "meaning_of" = true)
    (k11 : PySem.W.keepIn K (.ref f11) = true)
    (a12 : PySem.W.nsIn K mainGlobals "_law_integer" = some (some (.ref f12)))
    (l12 : K.lookup f12 = some ⟨oc12, od12, .func (PySem.W.fnOf "_law_integer" "_law_integer" (defArgs s_law_integer) (defBody s_law_integer) (defScope s_law_integer) .none kV12 dc12 pm12 an12 cd12 ct12), sl12⟩)
    (c12 : PySem.W.codeIn K cd12 "_law_integer" = true)
    (k12 : PySem.W.keepIn K (.ref f12) = true)
    (a13 : PySem.W.nsIn K mainGlobals "_law_box" = some (some (.ref f13)))
    (l13 : K.lookup f13 = some ⟨oc13, od13, .func (PySem.W.fnOf "_law_box" "_law_box" (defArgs s_law_box) (defBody s_law_box) (defScope s_law_box) .none kV13 dc13 pm13 an13 cd13 ct13), sl13⟩)
    (c13 : PySem.W.codeIn K cd13 "_law_box" = true)
    (k13 : PySem.W.keepIn K (.ref f13) = true)
    (a14 : PySem.W.nsIn K mainGlobals "_law_mixed" = some (some (.ref f14)))
    (l14 : K.lookup f14 = some ⟨oc14, od14, .func (PySem.W.fnOf "_law_mixed" "_law_mixed" (defArgs s_law_mixed) (defBody s_law_mixed) (defScope s_law_mixed) .none kV14 dc14 pm14 an14 cd14 ct14), sl14⟩)
    (c14 : PySem.W.codeIn K cd14 "_law_mixed" = true)
    (k14 : PySem.W.keepIn K (.ref f14) = true)
    (a15 : PySem.W.nsIn K mainGlobals "_law_take" = some (some (.ref f15)))
    (l15 : K.lookup f15 = some ⟨oc15, od15, .func (PySem.W.fnOf "_law_take" "_law_take" (defArgs s_law_take) (defBody s_law_take) (defScope s_law_take) .none kV15 dc15 pm15 an15 cd15 ct15), sl15⟩)
    (c15 : PySem.W.codeIn K cd15 "_law_take" = true)
    (k15 : PySem.W.keepIn K (.ref f15) = true)
    (a16 : PySem.W.nsIn K mainGlobals "_law_name" = some (some (.ref f16)))
    (l16 : K.lookup f16 = some ⟨oc16, od16, .func (PySem.W.fnOf "_law_name" "_law_name" (defArgs s_law_name) (defBody s_law_name) (defScope s_law_name) .none kV16 dc16 pm16 an16 cd16 ct16), sl16⟩)
    (c16 : PySem.W.codeIn K cd16 "_law_name" = true)
    (k16 : PySem.W.keepIn K (.ref f16) = true)
    (a17 : PySem.W.nsIn K mainGlobals "_law_names" = some (some (.ref f17)))
    (l17 : K.lookup f17 = some ⟨oc17, od17, .func (PySem.W.fnOf "_law_names" "_law_names" (defArgs s_law_names) (defBody s_law_names) (defScope s_law_names) .none kV17 dc17 pm17 an17 cd17 ct17), sl17⟩)
    (c17 : PySem.W.codeIn K cd17 "_law_names" = true)
    (k17 : PySem.W.keepIn K (.ref f17) = true)
    (a18 : PySem.W.nsIn K mainGlobals "_law_far" = some (some (.ref f18)))
    (l18 : K.lookup f18 = some ⟨oc18, od18, .func (PySem.W.fnOf "_law_far" "_law_far" (defArgs s_law_far) (defBody s_law_far) (defScope s_law_far) .none kV18 dc18 pm18 an18 cd18 ct18), sl18⟩)
    (c18 : PySem.W.codeIn K cd18 "_law_far" = true)
    (k18 : PySem.W.keepIn K (.ref f18) = true)
    (a19 : PySem.W.nsIn K mainGlobals "_law_heights" = some (some (.ref f19)))
    (l19 : K.lookup f19 = some ⟨oc19, od19, .func (PySem.W.fnOf "_law_heights" "_law_heights" (defArgs s_law_heights) (defBody s_law_heights) (defScope s_law_heights) .none kV19 dc19 pm19 an19 cd19 ct19), sl19⟩)
    (c19 : PySem.W.codeIn K cd19 "_law_heights" = true)
    (k19 : PySem.W.keepIn K (.ref f19) = true)
    (a20 : PySem.W.nsIn K mainGlobals "_law_slack" = some (some (.ref f20)))
    (l20 : K.lookup f20 = some ⟨oc20, od20, .func (PySem.W.fnOf "_law_slack" "_law_slack" (defArgs s_law_slack) (defBody s_law_slack) (defScope s_law_slack) .none kV20 dc20 pm20 an20 cd20 ct20), sl20⟩)
    (c20 : PySem.W.codeIn K cd20 "_law_slack" = true)
    (k20 : PySem.W.keepIn K (.ref f20) = true)
    (a21 : PySem.W.nsIn K mainGlobals "_law_sizes" = some (some (.ref f21)))
    (l21 : K.lookup f21 = some ⟨oc21, od21, .func (PySem.W.fnOf "_law_sizes" "_law_sizes" (defArgs s_law_sizes) (defBody s_law_sizes) (defScope s_law_sizes) .none kV21 dc21 pm21 an21 cd21 ct21), sl21⟩)
    (c21 : PySem.W.codeIn K cd21 "_law_sizes" = true)
    (k21 : PySem.W.keepIn K (.ref f21) = true)
    (a22 : PySem.W.nsIn K mainGlobals "_law_row" = some (some (.ref f22)))
    (l22 : K.lookup f22 = some ⟨oc22, od22, .func (PySem.W.fnOf "_law_row" "_law_row" (defArgs s_law_row) (defBody s_law_row) (defScope s_law_row) .none kV22 dc22 pm22 an22 cd22 ct22), sl22⟩)
    (c22 : PySem.W.codeIn K cd22 "_law_row" = true)
    (k22 : PySem.W.keepIn K (.ref f22) = true)
    (a23 : PySem.W.nsIn K mainGlobals "_law_rows" = some (some (.ref f23)))
    (l23 : K.lookup f23 = some ⟨oc23, od23, .func (PySem.W.fnOf "_law_rows" "_law_rows" (defArgs s_law_rows) (defBody s_law_rows) (defScope s_law_rows) .none kV23 dc23 pm23 an23 cd23 ct23), sl23⟩)
    (c23 : PySem.W.codeIn K cd23 "_law_rows" = true)
    (k23 : PySem.W.keepIn K (.ref f23) = true)
    (a24 : PySem.W.nsIn K mainGlobals "_law_extra" = some (some (.ref f24)))
    (l24 : K.lookup f24 = some ⟨oc24, od24, .func (PySem.W.fnOf "_law_extra" "_law_extra" (defArgs s_law_extra) (defBody s_law_extra) (defScope s_law_extra) .none kV24 dc24 pm24 an24 cd24 ct24), sl24⟩)
    (c24 : PySem.W.codeIn K cd24 "_law_extra" = true)
    (k24 : PySem.W.keepIn K (.ref f24) = true)
    (a25 : PySem.W.nsIn K mainGlobals "_law_known" = some (some (.ref f25)))
    (l25 : K.lookup f25 = some ⟨oc25, od25, .func (PySem.W.fnOf "_law_known" "_law_known" (defArgs s_law_known) (defBody s_law_known) (defScope s_law_known) .none kV25 dc25 pm25 an25 cd25 ct25), sl25⟩)
    (c25 : PySem.W.codeIn K cd25 "_law_known" = true)
    (k25 : PySem.W.keepIn K (.ref f25) = true)
    (a26 : PySem.W.nsIn K mainGlobals "_law_flat" = some (some (.ref f26)))
    (l26 : K.lookup f26 = some ⟨oc26, od26, .func (PySem.W.fnOf "_law_flat" "_law_flat" (defArgs s_law_flat) (defBody s_law_flat) (defScope s_law_flat) .none kV26 dc26 pm26 an26 cd26 ct26), sl26⟩)
    (c26 : PySem.W.codeIn K cd26 "_law_flat" = true)
    (k26 : PySem.W.keepIn K (.ref f26) = true)
    (a27 : PySem.W.nsIn K mainGlobals "_law_plain" = some (some (.ref f27)))
    (l27 : K.lookup f27 = some ⟨oc27, od27, .func (PySem.W.fnOf "_law_plain" "_law_plain" (defArgs s_law_plain) (defBody s_law_plain) (defScope s_law_plain) .none kV27 dc27 pm27 an27 cd27 ct27), sl27⟩)
    (c27 : PySem.W.codeIn K cd27 "_law_plain" = true)
    (k27 : PySem.W.keepIn K (.ref f27) = true)
    (a28 : PySem.W.nsIn K mainGlobals "_law_net" = some (some (.ref f28)))
    (l28 : K.lookup f28 = some ⟨oc28, od28, .func (PySem.W.fnOf "_law_net" "_law_net" (defArgs s_law_net) (defBody s_law_net) (defScope s_law_net) .none kV28 dc28 pm28 an28 cd28 ct28), sl28⟩)
    (c28 : PySem.W.codeIn K cd28 "_law_net" = true)
    (k28 : PySem.W.keepIn K (.ref f28) = true)
    (a29 : PySem.W.nsIn K mainGlobals "_law_shaped" = some (some (.ref f29)))
    (l29 : K.lookup f29 = some ⟨oc29, od29, .func (PySem.W.fnOf "_law_shaped" "_law_shaped" (defArgs s_law_shaped) (defBody s_law_shaped) (defScope s_law_shaped) .none kV29 dc29 pm29 an29 cd29 ct29), sl29⟩)
    (c29 : PySem.W.codeIn K cd29 "_law_shaped" = true)
    (k29 : PySem.W.keepIn K (.ref f29) = true)
    (a30 : PySem.W.nsIn K mainGlobals "_law_fulfilled" = some (some (.ref f30)))
    (l30 : K.lookup f30 = some ⟨oc30, od30, .func (PySem.W.fnOf "_law_fulfilled" "_law_fulfilled" (defArgs s_law_fulfilled) (defBody s_law_fulfilled) (defScope s_law_fulfilled) .none kV30 dc30 pm30 an30 cd30 ct30), sl30⟩)
    (c30 : PySem.W.codeIn K cd30 "_law_fulfilled" = true)
    (k30 : PySem.W.keepIn K (.ref f30) = true)
    (a31 : PySem.W.nsIn K mainGlobals "_law_times" = some (some (.ref f31)))
    (l31 : K.lookup f31 = some ⟨oc31, od31, .func (PySem.W.fnOf "_law_times" "_law_times" (defArgs s_law_times) (defBody s_law_times) (defScope s_law_times) .none kV31 dc31 pm31 an31 cd31 ct31), sl31⟩)
    (c31 : PySem.W.codeIn K cd31 "_law_times" = true)
    (k31 : PySem.W.keepIn K (.ref f31) = true)
    (a32 : PySem.W.nsIn K mainGlobals "_law_opposed" = some (some (.ref f32)))
    (l32 : K.lookup f32 = some ⟨oc32, od32, .func (PySem.W.fnOf "_law_opposed" "_law_opposed" (defArgs s_law_opposed) (defBody s_law_opposed) (defScope s_law_opposed) .none kV32 dc32 pm32 an32 cd32 ct32), sl32⟩)
    (c32 : PySem.W.codeIn K cd32 "_law_opposed" = true)
    (k32 : PySem.W.keepIn K (.ref f32) = true)
    (a33 : PySem.W.nsIn K mainGlobals "_law_spoilt" = some (some (.ref f33)))
    (l33 : K.lookup f33 = some ⟨oc33, od33, .func (PySem.W.fnOf "_law_spoilt" "_law_spoilt" (defArgs s_law_spoilt) (defBody s_law_spoilt) (defScope s_law_spoilt) .none kV33 dc33 pm33 an33 cd33 ct33), sl33⟩)
    (c33 : PySem.W.codeIn K cd33 "_law_spoilt" = true)
    (k33 : PySem.W.keepIn K (.ref f33) = true)
    (a34 : PySem.W.nsIn K mainGlobals "_law_table" = some (some (.ref f34)))
    (l34 : K.lookup f34 = some ⟨oc34, od34, .func (PySem.W.fnOf "_law_table" "_law_table" (defArgs s_law_table) (defBody s_law_table) (defScope s_law_table) .none kV34 dc34 pm34 an34 cd34 ct34), sl34⟩)
    (c34 : PySem.W.codeIn K cd34 "_law_table" = true)
    (k34 : PySem.W.keepIn K (.ref f34) = true)
    (a35 : PySem.W.nsIn K mainGlobals "_law_broken" = some (some (.ref f35)))
    (l35 : K.lookup f35 = some ⟨oc35, od35, .func (PySem.W.fnOf "_law_broken" "_law_broken" (defArgs s_law_broken) (defBody s_law_broken) (defScope s_law_broken) .none kV35 dc35 pm35 an35 cd35 ct35), sl35⟩)
    (c35 : PySem.W.codeIn K cd35 "_law_broken" = true)
    (k35 : PySem.W.keepIn K (.ref f35) = true)
    (a36 : PySem.W.nsIn K mainGlobals "_law_alike" = some (some (.ref f36)))
    (l36 : K.lookup f36 = some ⟨oc36, od36, .func (PySem.W.fnOf "_law_alike" "_law_alike" (defArgs s_law_alike) (defBody s_law_alike) (defScope s_law_alike) .none kV36 dc36 pm36 an36 cd36 ct36), sl36⟩)
    (c36 : PySem.W.codeIn K cd36 "_law_alike" = true)
    (k36 : PySem.W.keepIn K (.ref f36) = true)
    (a37 : PySem.W.nsIn K mainGlobals "_law_negative" = some (some (.ref f37)))
    (l37 : K.lookup f37 = some ⟨oc37, od37, .func (PySem.W.fnOf "_law_negative" "_law_negative" (defArgs s_law_negative) (defBody s_law_negative) (defScope s_law_negative) .none kV37 dc37 pm37 an37 cd37 ct37), sl37⟩)
    (c37 : PySem.W.codeIn K cd37 "_law_negative" = true)
    (k37 : PySem.W.keepIn K (.ref f37) = true)
    (a38 : PySem.W.nsIn K mainGlobals "_law_settled" = some (some (.ref f38)))
    (l38 : K.lookup f38 = some ⟨oc38, od38, .func (PySem.W.fnOf "_law_settled" "_law_settled" (defArgs s_law_settled) (defBody s_law_settled) (defScope s_law_settled) .none kV38 dc38 pm38 an38 cd38 ct38), sl38⟩)
    (c38 : PySem.W.codeIn K cd38 "_law_settled" = true)
    (k38 : PySem.W.keepIn K (.ref f38) = true)
    (a39 : PySem.W.nsIn K mainGlobals "_law_shuffled" = some (some (.ref f39)))
    (l39 : K.lookup f39 = some ⟨oc39, od39, .func (PySem.W.fnOf "_law_shuffled" "_law_shuffled" (defArgs s_law_shuffled) (defBody s_law_shuffled) (defScope s_law_shuffled) .none kV39 dc39 pm39 an39 cd39 ct39), sl39⟩)
    (c39 : PySem.W.codeIn K cd39 "_law_shuffled" = true)
    (k39 : PySem.W.keepIn K (.ref f39) = true)
    (a40 : PySem.W.nsIn K mainGlobals "_law_same" = some (some (.ref f40)))
    (l40 : K.lookup f40 = some ⟨oc40, od40, .func (PySem.W.fnOf "_law_same" "_law_same" (defArgs s_law_same) (defBody s_law_same) (defScope s_law_same) .none kV40 dc40 pm40 an40 cd40 ct40), sl40⟩)
    (c40 : PySem.W.codeIn K cd40 "_law_same" = true)
    (k40 : PySem.W.keepIn K (.ref f40) = true)
    (a41 : PySem.W.nsIn K mainGlobals "_law_order_right" = some (some (.ref f41)))
    (l41 : K.lookup f41 = some ⟨oc41, od41, .func (PySem.W.fnOf "_law_order_right" "_law_order_right" (defArgs s_law_order_right) (defBody s_law_order_right) (defScope s_law_order_right) .none kV41 dc41 pm41 an41 cd41 ct41), sl41⟩)
    (c41 : PySem.W.codeIn K cd41 "_law_order_right" = true)
    (k41 : PySem.W.keepIn K (.ref f41) = true)
    (a42 : PySem.W.nsIn K mainGlobals "_law_joined_right" = some (some (.ref f42)))
    (l42 : K.lookup f42 = some ⟨oc42, od42, .func (PySem.W.fnOf "_law_joined_right" "_law_joined_right" (defArgs s_law_joined_right) (defBody s_law_joined_right) (defScope s_law_joined_right) .none kV42 dc42 pm42 an42 cd42 ct42), sl42⟩)
    (c42 : PySem.W.codeIn K cd42 "_law_joined_right" = true)
    (k42 : PySem.W.keepIn K (.ref f42) = true)
    (a43 : PySem.W.nsIn K mainGlobals "_law_further" = some (some (.ref f43)))
    (l43 : K.lookup f43 = some ⟨oc43, od43, .func (PySem.W.fnOf "_law_further" "_law_further" (defArgs s_law_further) (defBody s_law_further) (defScope s_law_further) .none kV43 dc43 pm43 an43 cd43 ct43), sl43⟩)
    (c43 : PySem.W.codeIn K cd43 "_law_further" = true)
    (k43 : PySem.W.keepIn K (.ref f43) = true)
    (a44 : PySem.W.nsIn K mainGlobals "_law_other" = some (some (.ref f44)))
    (l44 : K.lookup f44 = some ⟨oc44, od44, .func (PySem.W.fnOf "_law_other" "_law_other" (defArgs s_law_other) (defBody s_law_other) (defScope s_law_other) .none kV44 dc44 pm44 an44 cd44 ct44), sl44⟩)
    (c44 : PySem.W.codeIn K cd44 "_law_other" = true)
    (k44 : PySem.W.keepIn K (.ref f44) = true)
    (a45 : PySem.W.nsIn K mainGlobals "_law_others_right" = some (some (.ref f45)))
    (l45 : K.lookup f45 = some ⟨oc45, od45, .func (PySem.W.fnOf "_law_others_right" "_law_others_right" (defArgs s_law_others_right) (defBody s_law_others_right) (defScope s_law_others_right) .none kV45 dc45 pm45 an45 cd45 ct45), sl45⟩)
    (c45 : PySem.W.codeIn K cd45 "_law_others_right" = true)
    (k45 : PySem.W.keepIn K (.ref f45) = true)
    (a46 : PySem.W.nsIn K mainGlobals "law" = some (some (.ref f46)))
    (l46 : K.lookup f46 = some ⟨oc46, od46, .func (PySem.W.fnOf "law" "law" (defArgs s_law) (defBody s_law) (defScope s_law) .none kV46 dc46 pm46 an46 cd46 ct46), sl46⟩)
    (c46 : PySem.W.codeIn K cd46 "law" = true)
    (k46 : PySem.W.keepIn K (.ref f46) = true)
    (z_isinstance : PySem.W.nsIn K mainGlobals "isinstance" = some none)
    (z_str : PySem.W.nsIn K mainGlobals "str" = some none)
    (z_int : PySem.W.nsIn K mainGlobals "int" = some none)
    (z_bool : PySem.W.nsIn K mainGlobals "bool" = some none)
    (z_tuple : PySem.W.nsIn K mainGlobals "tuple" = some none)
    (z_list : PySem.W.nsIn K mainGlobals "list" = some none)
    (z_len : PySem.W.nsIn K mainGlobals "len" = some none)
    (z_range : PySem.W.nsIn K mainGlobals "range" = some none)
    (z_sorted : PySem.W.nsIn K mainGlobals "sorted" = some none)
    (z_abs : PySem.W.nsIn K mainGlobals "abs" = some none)
    (z_min : PySem.W.nsIn K mainGlobals "min" = some none)
    (z_max : PySem.W.nsIn K mainGlobals "max" = some none)
    (z_all : PySem.W.nsIn K mainGlobals "all" = some none)
    (z_any : PySem.W.nsIn K mainGlobals "any" = some none)
    (z_set : PySem.W.nsIn K mainGlobals "set" = some none)
    (z_sum : PySem.W.nsIn K mainGlobals "sum" = some none)
    (z_zip : PySem.W.nsIn K mainGlobals "zip" = some none)
    (z_enumerate : PySem.W.nsIn K mainGlobals "enumerate" = some none)
    (z_dict : PySem.W.nsIn K mainGlobals "dict" = some none)
    (z_ValueError : PySem.W.nsIn K mainGlobals "ValueError" = some none)
    (z_super : PySem.W.nsIn K mainGlobals "super" = some none)
    (aK0 : PySem.W.nsIn K mainGlobals "LETTERS" = some (some (.str letters tk0)))
    (aK1 : PySem.W.nsIn K mainGlobals "SIGNS" = some (some (.str signs tk1)))
    (aK2 : PySem.W.nsIn K mainGlobals "LONGEST_NAME" = some (some (.int 8 tk2)))
    (aR : PySem.W.nsIn K mainGlobals "RingclauseError" = some (some (.ref cR)))
    (hR : PySem.W.hasDictIn K cR = true)
    (yR : PySem.W.typeIn K (.ref cR) = some (.type "type"))
    (aL : PySem.W.nsIn K mainGlobals "InvalidLiteral" = some (some (.ref cL)))
    (hL : PySem.W.hasDictIn K cL = true)
    (yL : PySem.W.typeIn K (.ref cL) = some (.type "type"))
    (aN : PySem.W.nsIn K mainGlobals "InvalidName" = some (some (.ref cN)))
    (hN : PySem.W.hasDictIn K cN = true)
    (yN : PySem.W.typeIn K (.ref cN) = some (.type "type"))
    (aU : PySem.W.nsIn K mainGlobals "UnknownMoment" = some (some (.ref cU)))
    (hU : PySem.W.hasDictIn K cU = true)
    (yU : PySem.W.typeIn K (.ref cU) = some (.type "type"))
    (aI : PySem.W.nsIn K mainGlobals "Inconsistent" = some (some (.ref cI)))
    (hI : PySem.W.hasDictIn K cI = true)
    (yI : PySem.W.typeIn K (.ref cI) = some (.type "type"))
    (aT : PySem.W.nsIn K mainGlobals "Net" = some (some (.ref cT)))
    (hT : PySem.W.hasDictIn K cT = true)
    (yT : PySem.W.typeIn K (.ref cT) = some (.type "type"))
    (oq : PySem.W.nsIn K cStatics "thirdparty.any" = some none)
    (hTop : (l.prog.main.scope.names.lookup ("super" : Str)).isSome = false)
    (kn : PySem.W.specialIn K (.builtin "object.__class__") "__get__" = some (some (.builtin "getset_descriptor.__get__")))
    (kt : PySem.W.takesIn K (.builtin "object.__class__") = some true)
    (xI_L : K.lookup cL = some (excClassObj nm_L q_L cL NN_L bs_L bm_L true sn_L sub_L ab_L col_L dd_L m0_L m1_L m2_L m3_L m5_L "ValueError.__new__"))
    (rv_L : PySem.HandSPX.refsVE bm_L = true)
    (sa_L : PySem.W.findIn K (.ref cL) "__setattr__" = some (some (.builtin "object.__setattr__")))
    (ga_L : PySem.W.findIn K (.ref cL) "__getattribute__" = some (some (.builtin "BaseException.__getattribute__")))
    (gg_L : PySem.W.findIn K (.ref cL) "__getattr__" = some none)
    (nF_L : PySem.W.findIn K (.ref cL) "value" = some none)
    (iX_L : PySem.W.findIn K (.ref cL) "__init__" = some (some (.ref fXL)))
    (tF_L : PySem.W.typeIn K (.ref fXL) = some (.type "function"))
    (kI_L : PySem.W.keepIn K (.ref cL) = true)
    (eI_L : PySem.W.subIn K (.ref cL) (.type "BaseException") = some true)
    (vI_L : PySem.W.subIn K (.ref cL) (.type "ValueError") = some true)
    (mI_L : PySem.W.mroIn K cL (.ref cL) = some true)
    (su_L : PySem.W.ks_superIn K cL cL "__init__" = some (some (.builtin "ValueError.__init__")))
    (lX_L : K.lookup fXL = some ⟨oc0L, od0L, .func (PySem.Sup.sFn "value" "not a literal" "InvalidLiteral.__init__" ⟨11, 17, 11, 21⟩ ⟨11, 23, 11, 28⟩ ⟨12, 8, 12, 13⟩ ⟨12, 8, 12, 15⟩ ⟨12, 8, 12, 24⟩ ⟨12, 25, 12, 40⟩ ⟨12, 8, 12, 41⟩ ⟨12, 8, 12, 41⟩ ⟨13, 8, 13, 12⟩ ⟨13, 8, 13, 18⟩ ⟨13, 21, 13, 26⟩ ⟨13, 8, 13, 26⟩ dc0L pm0L an0L cda_L cc_L ct0L), sl0L⟩)
    (cX_L : PySem.W.codeIn K (.ref cda_L) "InvalidLiteral.__init__" = true)
    (lC_L : K.lookup cc_L = some ⟨cl0_L, cld_L, .cell (some (.ref cL)), csl_L⟩)
    (lD_L : K.lookup cda_L = some ⟨ccl_L, cdd_L, .fields rvs_L, ccs_L⟩)
    (rf_L : rvs_L[2]? = some (.str file_L tf_L))
    (fi_L : ((l.prog.main.file : Str) == file_L) = true)
    (ka_L : PySem.W.findIn K (.ref cL) "__class__" = some (some (.builtin "object.__class__")))
    (km_L : PySem.W.mroIn K cL (.type "object") = some true)
    (sR_L : PySem.W.subIn K (.ref cL) (.ref cR) = some true)
    (sL_L : PySem.W.subIn K (.ref cL) (.ref cL) = some true)
    (sN_L : PySem.W.subIn K (.ref cL) (.ref cN) = some false)
    (sU_L : PySem.W.subIn K (.ref cL) (.ref cU) = some false)
    (sI_L : PySem.W.subIn K (.ref cL) (.ref cI) = some false)
    (sT_L : PySem.W.subIn K (.ref cL) (.ref cT) = some false)
    (xI_N : K.lookup cN = some (excClassObj nm_N q_N cN NN_N bs_N bm_N true sn_N sub_N ab_N col_N dd_N m0_N m1_N m2_N m3_N m5_N "ValueError.__new__"))
    (rv_N : PySem.HandSPX.refsVE bm_N = true)
    (sa_N : PySem.W.findIn K (.ref cN) "__setattr__" = some (some (.builtin "object.__setattr__")))
    (ga_N : PySem.W.findIn K (.ref cN) "__getattribute__" = some (some (.builtin "BaseException.__getattribute__")))
    (gg_N : PySem.W.findIn K (.ref cN) "__getattr__" = some none)
    (nF_N : PySem.W.findIn K (.ref cN) "name" = some none)
    (iX_N : PySem.W.findIn K (.ref cN) "__init__" = some (some (.ref fXN)))
    (tF_N : PySem.W.typeIn K (.ref fXN) = some (.type "function"))
    (kI_N : PySem.W.keepIn K (.ref cN) = true)
    (eI_N : PySem.W.subIn K (.ref cN) (.type "BaseException") = some true)
    (vI_N : PySem.W.subIn K (.ref cN) (.type "ValueError") = some true)
    (mI_N : PySem.W.mroIn K cN (.ref cN) = some true)
    (su_N : PySem.W.ks_superIn K cN cN "__init__" = some (some (.builtin "ValueError.__init__")))
    (lX_N : K.lookup fXN = some ⟨oc0N, od0N, .func (PySem.Sup.sFn "name" "not a name" "InvalidName.__init__" ⟨6, 17, 6, 21⟩ ⟨6, 23, 6, 27⟩ ⟨7, 8, 7, 13⟩ ⟨7, 8, 7, 15⟩ ⟨7, 8, 7, 24⟩ ⟨7, 25, 7, 37⟩ ⟨7, 8, 7, 38⟩ ⟨7, 8, 7, 38⟩ ⟨8, 8, 8, 12⟩ ⟨8, 8, 8, 17⟩ ⟨8, 20, 8, 24⟩ ⟨8, 8, 8, 24⟩ dc0N pm0N an0N cda_N cc_N ct0N), sl0N⟩)
    (cX_N : PySem.W.codeIn K (.ref cda_N) "InvalidName.__init__" = true)
    (lC_N : K.lookup cc_N = some ⟨cl0_N, cld_N, .cell (some (.ref cN)), csl_N⟩)
    (lD_N : K.lookup cda_N = some ⟨ccl_N, cdd_N, .fields rvs_N, ccs_N⟩)
    (rf_N : rvs_N[2]? = some (.str file_N tf_N))
    (fi_N : ((l.prog.main.file : Str) == file_N) = true)
    (ka_N : PySem.W.findIn K (.ref cN) "__class__" = some (some (.builtin "object.__class__")))
    (km_N : PySem.W.mroIn K cN (.type "object") = some true)
    (sR_N : PySem.W.subIn K (.ref cN) (.ref cR) = some true)
    (sL_N : PySem.W.subIn K (.ref cN) (.ref cL) = some false)
    (sN_N : PySem.W.subIn K (.ref cN) (.ref cN) = some true)
    (sU_N : PySem.W.subIn K (.ref cN) (.ref cU) = some false)
    (sI_N : PySem.W.subIn K (.ref cN) (.ref cI) = some false)
    (sT_N : PySem.W.subIn K (.ref cN) (.ref cT) = some false)
    (xI_U : K.lookup cU = some (excClassObj nm_U q_U cU NN_U bs_U bm_U true sn_U sub_U ab_U col_U dd_U m0_U m1_U m2_U m3_U m5_U "ValueError.__new__"))
    (rv_U : PySem.HandSPX.refsVE bm_U = true)
    (sa_U : PySem.W.findIn K (.ref cU) "__setattr__" = some (some (.builtin "object.__setattr__")))
    (ga_U : PySem.W.findIn K (.ref cU) "__getattribute__" = some (some (.builtin "BaseException.__getattribute__")))
    (gg_U : PySem.W.findIn K (.ref cU) "__getattr__" = some none)
    (nF_U : PySem.W.findIn K (.ref cU) "name" = some none)
    (iX_U : PySem.W.findIn K (.ref cU) "__init__" = some (some (.ref fXU)))
    (tF_U : PySem.W.typeIn K (.ref fXU) = some (.type "function"))
    (kI_U : PySem.W.keepIn K (.ref cU) = true)
    (eI_U : PySem.W.subIn K (.ref cU) (.type "BaseException") = some true)
    (vI_U : PySem.W.subIn K (.ref cU) (.type "ValueError") = some true)
    (mI_U : PySem.W.mroIn K cU (.ref cU) = some true)
    (su_U : PySem.W.ks_superIn K cU cU "__init__" = some (some (.builtin "ValueError.__init__")))
    (lX_U : K.lookup fXU = some ⟨oc0U, od0U, .func (PySem.Sup.sFn "name" "not a listed moment" "UnknownMoment.__init__" ⟨16, 17, 16, 21⟩ ⟨16, 23, 16, 27⟩ ⟨17, 8, 17, 13⟩ ⟨17, 8, 17, 15⟩ ⟨17, 8, 17, 24⟩ ⟨17, 25, 17, 46⟩ ⟨17, 8, 17, 47⟩ ⟨17, 8, 17, 47⟩ ⟨18, 8, 18, 12⟩ ⟨18, 8, 18, 17⟩ ⟨18, 20, 18, 24⟩ ⟨18, 8, 18, 24⟩ dc0U pm0U an0U cda_U cc_U ct0U), sl0U⟩)
    (cX_U : PySem.W.codeIn K (.ref cda_U) "UnknownMoment.__init__" = true)
    (lC_U : K.lookup cc_U = some ⟨cl0_U, cld_U, .cell (some (.ref cU)), csl_U⟩)
    (lD_U : K.lookup cda_U = some ⟨ccl_U, cdd_U, .fields rvs_U, ccs_U⟩)
    (rf_U : rvs_U[2]? = some (.str file_U tf_U))
    (fi_U : ((l.prog.main.file : Str) == file_U) = true)
    (ka_U : PySem.W.findIn K (.ref cU) "__class__" = some (some (.builtin "object.__class__")))
    (km_U : PySem.W.mroIn K cU (.type "object") = some true)
    (sR_U : PySem.W.subIn K (.ref cU) (.ref cR) = some true)
    (sL_U : PySem.W.subIn K (.ref cU) (.ref cL) = some false)
    (sN_U : PySem.W.subIn K (.ref cU) (.ref cN) = some false)
    (sU_U : PySem.W.subIn K (.ref cU) (.ref cU) = some true)
    (sI_U : PySem.W.subIn K (.ref cU) (.ref cI) = some false)
    (sT_U : PySem.W.subIn K (.ref cU) (.ref cT) = some false)
    (xI_I : K.lookup cI = some (excClassObj nm_I q_I cI NN_I bs_I bm_I true sn_I sub_I ab_I col_I dd_I m0_I m1_I m2_I m3_I m5_I "ValueError.__new__"))
    (rv_I : PySem.HandSPX.refsVE bm_I = true)
    (sa_I : PySem.W.findIn K (.ref cI) "__setattr__" = some (some (.builtin "object.__setattr__")))
    (ga_I : PySem.W.findIn K (.ref cI) "__getattribute__" = some (some (.builtin "BaseException.__getattribute__")))
    (gg_I : PySem.W.findIn K (.ref cI) "__getattr__" = some none)
    (nF_I : PySem.W.findIn K (.ref cI) "ring" = some none)
    (iX_I : PySem.W.findIn K (.ref cI) "__init__" = some (some (.ref fXI)))
    (tF_I : PySem.W.typeIn K (.ref fXI) = some (.type "function"))
    (kI_I : PySem.W.keepIn K (.ref cI) = true)
    (eI_I : PySem.W.subIn K (.ref cI) (.type "BaseException") = some true)
    (vI_I : PySem.W.subIn K (.ref cI) (.type "ValueError") = some true)
    (mI_I : PySem.W.mroIn K cI (.ref cI) = some true)
    (su_I : PySem.W.ks_superIn K cI cI "__init__" = some (some (.builtin "ValueError.__init__")))
    (lX_I : K.lookup fXI = some ⟨oc0I, od0I, .func (PySem.Sup.sFn "ring" "the net has a negative ring" "Inconsistent.__init__" ⟨21, 17, 21, 21⟩ ⟨21, 23, 21, 27⟩ ⟨22, 8, 22, 13⟩ ⟨22, 8, 22, 15⟩ ⟨22, 8, 22, 24⟩ ⟨22, 25, 22, 54⟩ ⟨22, 8, 22, 55⟩ ⟨22, 8, 22, 55⟩ ⟨23, 8, 23, 12⟩ ⟨23, 8, 23, 17⟩ ⟨23, 20, 23, 24⟩ ⟨23, 8, 23, 24⟩ dc0I pm0I an0I cda_I cc_I ct0I), sl0I⟩)
    (cX_I : PySem.W.codeIn K (.ref cda_I) "Inconsistent.__init__" = true)
    (lC_I : K.lookup cc_I = some ⟨cl0_I, cld_I, .cell (some (.ref cI)), csl_I⟩)
    (lD_I : K.lookup cda_I = some ⟨ccl_I, cdd_I, .fields rvs_I, ccs_I⟩)
    (rf_I : rvs_I[2]? = some (.str file_I tf_I))
    (fi_I : ((l.prog.main.file : Str) == file_I) = true)
    (ka_I : PySem.W.findIn K (.ref cI) "__class__" = some (some (.builtin "object.__class__")))
    (km_I : PySem.W.mroIn K cI (.type "object") = some true)
    (sR_I : PySem.W.subIn K (.ref cI) (.ref cR) = some true)
    (sL_I : PySem.W.subIn K (.ref cI) (.ref cL) = some false)
    (sN_I : PySem.W.subIn K (.ref cI) (.ref cN) = some false)
    (sU_I : PySem.W.subIn K (.ref cI) (.ref cU) = some false)
    (sI_I : PySem.W.subIn K (.ref cI) (.ref cI) = some true)
    (sT_I : PySem.W.subIn K (.ref cI) (.ref cT) = some false)
    (q_pg : PySem.W.plainGet K cT Str.empty = true)
    (q_po : PySem.W.plainOver K cT = true)
    (q_sa : PySem.W.findIn K (.ref cT) "__setattr__" = some (some (.builtin "object.__setattr__")))
    (q_n1 : PySem.W.findIn K (.ref cT) "bounds" = some none)
    (q_n2 : PySem.W.findIn K (.ref cT) "moments" = some none)
    (q_n3 : PySem.W.findIn K (.ref cT) "ring" = some none)
    (q_n4 : PySem.W.findIn K (.ref cT) "_ways" = some none)
    (q_n5 : PySem.W.findIn K (.ref cT) "_meaning" = some none)
    (q_mk : PySem.W.makesIn K cT = true)
    (q_kp : PySem.W.keepIn K (.ref cT) = true)
    (q_sf : PySem.W.selfFirst K cT = true)
    (q_nf : PySem.W.notFirst K cT (.ref cT) = true)
    (q_ka : PySem.W.findIn K (.ref cT) "__class__" = some (some (.builtin "object.__class__")))
    (q_km : PySem.W.mroIn K cT (.type "object") = some true)
    (q_fI : PySem.W.findIn K (.ref cT) "__init__" = some (some (.ref qfI)))
    (q_iI : PySem.W.isFn K (.ref qfI) = true)
    (q_lI : K.lookup qfI = some ⟨qocI, qodI, .func (PySem.W.fnOf "__init__" "Net.__init__" (defArgs s_Net_init) (defBody s_Net_init) (defScope s_Net_init) .none (.ref qD0) qdcI qpmI qanI qcdI qctI), qslI⟩)
    (q_cI : PySem.W.codeIn K qcdI "Net.__init__" = true)
    (q_kI : PySem.W.keepIn K (.ref qfI) = true)
    (q_fK : PySem.W.findIn K (.ref cT) "_check" = some (some (.ref qfK)))
    (q_iK : PySem.W.isFn K (.ref qfK) = true)
    (q_lK : K.lookup qfK = some ⟨qocK, qodK, .func (PySem.W.fnOf "_check" "Net._check" (defArgs s_Net_check) (defBody s_Net_check) (defScope s_Net_check) .none qkVK qdcK qpmK qanK qcdK qctK), qslK⟩)
    (q_cK : PySem.W.codeIn K qcdK "Net._check" = true)
    (q_kK : PySem.W.keepIn K (.ref qfK) = true)
    (q_fT : PySem.W.findIn K (.ref cT) "most" = some (some (.ref qfT)))
    (q_iT : PySem.W.isFn K (.ref qfT) = true)
    (q_lT : K.lookup qfT = some ⟨qocT, qodT, .func (PySem.W.fnOf "most" "Net.most" (defArgs s_Net_most) (defBody s_Net_most) (defScope s_Net_most) .none qkVT qdcT qpmT qanT qcdT qctT), qslT⟩)
    (q_cT : PySem.W.codeIn K qcdT "Net.most" = true)
    (q_kT : PySem.W.keepIn K (.ref qfT) = true)
    (q_fH : PySem.W.findIn K (.ref cT) "chain" = some (some (.ref qfH)))
    (q_iH : PySem.W.isFn K (.ref qfH) = true)
    (q_lH : K.lookup qfH = some ⟨qocH, qodH, .func (PySem.W.fnOf "chain" "Net.chain" (defArgs s_Net_chain) (defBody s_Net_chain) (defScope s_Net_chain) .none qkVH qdcH qpmH qanH qcdH qctH), qslH⟩)
    (q_cH : PySem.W.codeIn K qcdH "Net.chain" = true)
    (q_kH : PySem.W.keepIn K (.ref qfH) = true)
    (q_fA : PySem.W.findIn K (.ref cT) "__and__" = some (some (.ref qfA)))
    (q_iA : PySem.W.isFn K (.ref qfA) = true)
    (q_lA : K.lookup qfA = some ⟨qocA, qodA, .func (PySem.W.fnOf "__and__" "Net.__and__" (defArgs s_Net_and) (defBody s_Net_and) (defScope s_Net_and) .none qkVA qdcA qpmA qanA qcdA qctA), qslA⟩)
    (q_cA : PySem.W.codeIn K qcdA "Net.__and__" = true)
    (q_kA : PySem.W.keepIn K (.ref qfA) = true)
    (q_fN : PySem.W.findIn K (.ref cT) "__len__" = some (some (.ref qfN)))
    (q_iN : PySem.W.isFn K (.ref qfN) = true)
    (q_lN : K.lookup qfN = some ⟨qocN, qodN, .func (PySem.W.fnOf "__len__" "Net.__len__" (defArgs s_Net_len) (defBody s_Net_len) (defScope s_Net_len) .none qkVN qdcN qpmN qanN qcdN qctN), qslN⟩)
    (q_cN : PySem.W.codeIn K qcdN "Net.__len__" = true)
    (q_kN : PySem.W.keepIn K (.ref qfN) = true)
    (q_fB : PySem.W.findIn K (.ref cT) "least" = some (some (.ref qfB)))
    (q_iB : PySem.W.isFn K (.ref qfB) = true)
    (q_lB : K.lookup qfB = some ⟨qocB, qodB, .func (PySem.W.fnOf "least" "Net.least" (defArgs s_Net_least) (defBody s_Net_least) (defScope s_Net_least) .none qkVB qdcB qpmB qanB qcdB qctB), qslB⟩)
    (q_cB : PySem.W.codeIn K qcdB "Net.least" = true)
    (q_kB : PySem.W.keepIn K (.ref qfB) = true)
    (q_fO : PySem.W.findIn K (.ref cT) "_least_of" = some (some (.ref qfO)))
    (q_iO : PySem.W.isFn K (.ref qfO) = true)
    (q_lO : K.lookup qfO = some ⟨qocO, qodO, .func (PySem.W.fnOf "_least_of" "Net._least_of" (defArgs s_Net_least_of) (defBody s_Net_least_of) (defScope s_Net_least_of) .none qkVO qdcO qpmO qanO qcdO qctO), qslO⟩)
    (q_cO : PySem.W.codeIn K qcdO "Net._least_of" = true)
    (q_kO : PySem.W.keepIn K (.ref qfO) = true)
    (q_fR : PySem.W.findIn K (.ref cT) "carried" = some (some (.ref qfR)))
    (q_iR : PySem.W.isFn K (.ref qfR) = true)
    (q_lR : K.lookup qfR = some ⟨qocR, qodR, .func (PySem.W.fnOf "carried" "Net.carried" (defArgs s_Net_carried) (defBody s_Net_carried) (defScope s_Net_carried) .none qkVR qdcR qpmR qanR qcdR qctR), qslR⟩)
    (q_cR : PySem.W.codeIn K qcdR "Net.carried" = true)
    (q_kR : PySem.W.keepIn K (.ref qfR) = true)
    (q_fE : PySem.W.findIn K (.ref cT) "__eq__" = some (some (.ref qfE)))
    (q_iE : PySem.W.isFn K (.ref qfE) = true)
    (q_lE : K.lookup qfE = some ⟨qocE, qodE, .func (PySem.W.fnOf "__eq__" "Net.__eq__" (defArgs s_Net_eq) (defBody s_Net_eq) (defScope s_Net_eq) .none qkVE qdcE qpmE qanE qcdE qctE), qslE⟩)
    (q_cE : PySem.W.codeIn K qcdE "Net.__eq__" = true)
    (q_kE : PySem.W.keepIn K (.ref qfE) = true)
    (q_kw : PySem.W.nsIn K qD0 "moments" = some (some (.ref qT0)))
    (q_T0 : K.lookup qT0 = some ⟨.type "tuple", odT0, .seq itT0 nT0, slT0⟩)
    (q_T1 : itT0.toList = [])
    (aEW : PySem.W.nsIn K mainGlobals "EMPTY_WAY" = some (some (.ref cEW)))
    (lEW : K.lookup cEW = some ⟨.type "tuple", odEW, .seq itEW nEW, slEW⟩)
    (vEW : itEW.toList = [.int 0 tkEa, .int 0 tkEb, .ref cE0])
    (lE0 : K.lookup cE0 = some ⟨.type "tuple", odE0, .seq itE0 nE0, slE0⟩)
    (vE0 : itE0.toList = [])
    (eRB : PySem.W.subIn K (.ref cR) (.type "BaseException") = some true) :
    ∃ fd : FuncData, (∀ (s : Shared) (v : Value), BindsTo s fd ⟨[v], []⟩ [("script", v)]) ∧ ∀ base : Heap, K.In base → base.Ns mainGlobals mg → FnG l.prog w K mg base 14 fa fd ["script"] (spLaw K) := by
  have e := hfa.symm.trans (PySem.W.mg_of X G a46)
  cases e
  have g1 := PySem.W.mg_of X G a1
  have F1 := fun_mk (st := s_is_name) l1 c1 k1
  have b1 := F1.binds (ps := ["value"]) fun _ _ _ _ _ _ us hl => match us, hl with | [_], _ => rfl
  have g2 := PySem.W.mg_of X G a2
  have F2 := fun_mk (st := s_is_integer) l2 c2 k2
  have b2 := F2.binds (ps := ["value"]) fun _ _ _ _ _ _ us hl => match us, hl with | [_], _ => rfl
  have g3 := PySem.W.mg_of X G a3
  have F3 := fun_mk (st := s_is_bound) l3 c3 k3
  have b3 := F3.binds (ps := ["value"]) fun _ _ _ _ _ _ us hl => match us, hl with | [_], _ => rfl
  have g4 := PySem.W.mg_of X G a4
  have F4 := fun_mk (st := s_moments_of) l4 c4 k4
  have b4 := F4.binds (ps := ["literals"]) fun _ _ _ _ _ _ us hl => match us, hl with | [_], _ => rfl
  have g5 := PySem.W.mg_of X G a5
  have F5 := fun_mk (st := s_best_way) l5 c5 k5
  have b5 := F5.binds (ps := ["ways", "start", "end"]) fun _ _ _ _ _ _ us hl => match us, hl with | [_, _, _], _ => rfl
  have g6 := PySem.W.mg_of X G a6
  have F6 := fun_mk (st := s_ways_with) l6 c6 k6
  have b6 := F6.binds (ps := ["ways", "moments", "bound"]) fun _ _ _ _ _ _ us hl => match us, hl with | [_, _, _], _ => rfl
  have g7 := PySem.W.mg_of X G a7
  have F7 := fun_mk (st := s_no_ring) l7 c7 k7
  have b7 := F7.binds (ps := []) fun _ _ _ _ _ _ us hl => match us, hl with | [], _ => rfl
  have g8 := PySem.W.mg_of X G a8
  have F8 := fun_mk (st := s_ring_and_ways_with) l8 c8 k8
  have b8 := F8.binds (ps := ["known", "moments", "bound"]) fun _ _ _ _ _ _ us hl => match us, hl with | [_, _, _], _ => rfl
  have g9 := PySem.W.mg_of X G a9
  have F9 := fun_mk (st := s_ring_and_ways) l9 c9 k9
  have b9 := F9.binds (ps := ["bounds", "moments"]) fun _ _ _ _ _ _ us hl => match us, hl with | [_, _], _ => rfl
  have g10 := PySem.W.mg_of X G a10
  have F10 := fun_mk (st := s_check_bound) l10 c10 k10
  have b10 := F10.binds (ps := ["value"]) fun _ _ _ _ _ _ us hl => match us, hl with | [_], _ => rfl
  have g11 := PySem.W.mg_of X G a11
  have F11 := fun_mk (st := s_meaning_of) l11 c11 k11
  have b11 := F11.binds (ps := ["ring", "ways"]) fun _ _ _ _ _ _ us hl => match us, hl with | [_, _], _ => rfl
  have g12 := PySem.W.mg_of X G a12
  have F12 := fun_mk (st := s_law_integer) l12 c12 k12
  have b12 := F12.binds (ps := ["told"]) fun _ _ _ _ _ _ us hl => match us, hl with | [_], _ => rfl
  have g13 := PySem.W.mg_of X G a13
  have F13 := fun_mk (st := s_law_box) l13 c13 k13
  have b13 := F13.binds (ps := ["script"]) fun _ _ _ _ _ _ us hl => match us, hl with | [_], _ => rfl
  have g14 := PySem.W.mg_of X G a14
  have F14 := fun_mk (st := s_law_mixed) l14 c14 k14
  have b14 := F14.binds (ps := ["seed", "turn"]) fun _ _ _ _ _ _ us hl => match us, hl with | [_, _], _ => rfl
  have g15 := PySem.W.mg_of X G a15
  have F15 := fun_mk (st := s_law_take) l15 c15 k15
  have b15 := F15.binds (ps := ["box", "size"]) fun _ _ _ _ _ _ us hl => match us, hl with | [_, _], _ => rfl
  have g16 := PySem.W.mg_of X G a16
  have F16 := fun_mk (st := s_law_name) l16 c16 k16
  have b16 := F16.binds (ps := ["box", "names"]) fun _ _ _ _ _ _ us hl => match us, hl with | [_, _], _ => rfl
  have g17 := PySem.W.mg_of X G a17
  have F17 := fun_mk (st := s_law_names) l17 c17 k17
  have b17 := F17.binds (ps := ["box", "count"]) fun _ _ _ _ _ _ us hl => match us, hl with | [_, _], _ => rfl
  have g18 := PySem.W.mg_of X G a18
  have F18 := fun_mk (st := s_law_far) l18 c18 k18
  have b18 := F18.binds (ps := ["box"]) fun _ _ _ _ _ _ us hl => match us, hl with | [_], _ => rfl
  have g19 := PySem.W.mg_of X G a19
  have F19 := fun_mk (st := s_law_heights) l19 c19 k19
  have b19 := F19.binds (ps := ["box", "names"]) fun _ _ _ _ _ _ us hl => match us, hl with | [_, _], _ => rfl
  have g20 := PySem.W.mg_of X G a20
  have F20 := fun_mk (st := s_law_slack) l20 c20 k20
  have b20 := F20.binds (ps := ["box"]) fun _ _ _ _ _ _ us hl => match us, hl with | [_], _ => rfl
  have g21 := PySem.W.mg_of X G a21
  have F21 := fun_mk (st := s_law_sizes) l21 c21 k21
  have b21 := F21.binds (ps := ["box"]) fun _ _ _ _ _ _ us hl => match us, hl with | [_], _ => rfl
  have g22 := PySem.W.mg_of X G a22
  have F22 := fun_mk (st := s_law_row) l22 c22 k22
  have b22 := F22.binds (ps := ["box", "names", "heights"]) fun _ _ _ _ _ _ us hl => match us, hl with | [_, _, _], _ => rfl
  have g23 := PySem.W.mg_of X G a23
  have F23 := fun_mk (st := s_law_rows) l23 c23 k23
  have b23 := F23.binds (ps := ["box", "names", "heights", "size"]) fun _ _ _ _ _ _ us hl => match us, hl with | [_, _, _, _], _ => rfl
  have g24 := PySem.W.mg_of X G a24
  have F24 := fun_mk (st := s_law_extra) l24 c24 k24
  have b24 := F24.binds (ps := ["box", "names", "lone"]) fun _ _ _ _ _ _ us hl => match us, hl with | [_, _, _], _ => rfl
  have g25 := PySem.W.mg_of X G a25
  have F25 := fun_mk (st := s_law_known) l25 c25 k25
  have b25 := F25.binds (ps := ["rows", "extra"]) fun _ _ _ _ _ _ us hl => match us, hl with | [_, _], _ => rfl
  have g26 := PySem.W.mg_of X G a26
  have F26 := fun_mk (st := s_law_flat) l26 c26 k26
  have b26 := F26.binds (ps := ["rows"]) fun _ _ _ _ _ _ us hl => match us, hl with | [_], _ => rfl
  have g27 := PySem.W.mg_of X G a27
  have F27 := fun_mk (st := s_law_plain) l27 c27 k27
  have b27 := F27.binds (ps := ["rows"]) fun _ _ _ _ _ _ us hl => match us, hl with | [_], _ => rfl
  have g28 := PySem.W.mg_of X G a28
  have F28 := fun_mk (st := s_law_net) l28 c28 k28
  have b28 := F28.binds (ps := ["rows", "extra"]) fun _ _ _ _ _ _ us hl => match us, hl with | [_, _], _ => rfl
  have g29 := PySem.W.mg_of X G a29
  have F29 := fun_mk (st := s_law_shaped) l29 c29 k29
  have b29 := F29.binds (ps := ["net", "rows", "known"]) fun _ _ _ _ _ _ us hl => match us, hl with | [_, _, _], _ => rfl
  have g30 := PySem.W.mg_of X G a30
  have F30 := fun_mk (st := s_law_fulfilled) l30 c30 k30
  have b30 := F30.binds (ps := ["rows", "times"]) fun _ _ _ _ _ _ us hl => match us, hl with | [_, _], _ => rfl
  have g31 := PySem.W.mg_of X G a31
  have F31 := fun_mk (st := s_law_times) l31 c31 k31
  have b31 := F31.binds (ps := ["told", "known"]) fun _ _ _ _ _ _ us hl => match us, hl with | [_, _], _ => rfl
  have g32 := PySem.W.mg_of X G a32
  have F32 := fun_mk (st := s_law_opposed) l32 c32 k32
  have b32 := F32.binds (ps := ["row"]) fun _ _ _ _ _ _ us hl => match us, hl with | [_], _ => rfl
  have g33 := PySem.W.mg_of X G a33
  have F33 := fun_mk (st := s_law_spoilt) l33 c33 k33
  have b33 := F33.binds (ps := ["box", "rows"]) fun _ _ _ _ _ _ us hl => match us, hl with | [_, _], _ => rfl
  have g34 := PySem.W.mg_of X G a34
  have F34 := fun_mk (st := s_law_table) l34 c34 k34
  have b34 := F34.binds (ps := ["rows", "known"]) fun _ _ _ _ _ _ us hl => match us, hl with | [_, _], _ => rfl
  have g35 := PySem.W.mg_of X G a35
  have F35 := fun_mk (st := s_law_broken) l35 c35 k35
  have b35 := F35.binds (ps := ["table", "known"]) fun _ _ _ _ _ _ us hl => match us, hl with | [_, _], _ => rfl
  have g36 := PySem.W.mg_of X G a36
  have F36 := fun_mk (st := s_law_alike) l36 c36 k36
  have b36 := F36.binds (ps := ["rows", "known", "others", "their"]) fun _ _ _ _ _ _ us hl => match us, hl with | [_, _, _, _], _ => rfl
  have g37 := PySem.W.mg_of X G a37
  have F37 := fun_mk (st := s_law_negative) l37 c37 k37
  have b37 := F37.binds (ps := ["ring", "rows"]) fun _ _ _ _ _ _ us hl => match us, hl with | [_, _], _ => rfl
  have g38 := PySem.W.mg_of X G a38
  have F38 := fun_mk (st := s_law_settled) l38 c38 k38
  have b38 := F38.binds (ps := ["net", "rows", "known"]) fun _ _ _ _ _ _ us hl => match us, hl with | [_, _, _], _ => rfl
  have g39 := PySem.W.mg_of X G a39
  have F39 := fun_mk (st := s_law_shuffled) l39 c39 k39
  have b39 := F39.binds (ps := ["box", "rows"]) fun _ _ _ _ _ _ us hl => match us, hl with | [_, _], _ => rfl
  have g40 := PySem.W.mg_of X G a40
  have F40 := fun_mk (st := s_law_same) l40 c40 k40
  have b40 := F40.binds (ps := ["net", "other", "due"]) fun _ _ _ _ _ _ us hl => match us, hl with | [_, _, _], _ => rfl
  have g41 := PySem.W.mg_of X G a41
  have F41 := fun_mk (st := s_law_order_right) l41 c41 k41
  have b41 := F41.binds (ps := ["box", "net", "turned", "extra", "known"]) fun _ _ _ _ _ _ us hl => match us, hl with | [_, _, _, _, _], _ => rfl
  have g42 := PySem.W.mg_of X G a42
  have F42 := fun_mk (st := s_law_joined_right) l42 c42 k42
  have b42 := F42.binds (ps := ["box", "net", "rows", "extra", "known"]) fun _ _ _ _ _ _ us hl => match us, hl with | [_, _, _, _, _], _ => rfl
  have g43 := PySem.W.mg_of X G a43
  have F43 := fun_mk (st := s_law_further) l43 c43 k43
  have b43 := F43.binds (ps := ["box", "rows", "known"]) fun _ _ _ _ _ _ us hl => match us, hl with | [_, _, _], _ => rfl
  have g44 := PySem.W.mg_of X G a44
  have F44 := fun_mk (st := s_law_other) l44 c44 k44
  have b44 := F44.binds (ps := ["box", "rows", "known"]) fun _ _ _ _ _ _ us hl => match us, hl with | [_, _, _], _ => rfl
  have g45 := PySem.W.mg_of X G a45
  have F45 := fun_mk (st := s_law_others_right) l45 c45 k45
  have b45 := F45.binds (ps := ["box", "net", "rows", "known", "gone"]) fun _ _ _ _ _ _ us hl => match us, hl with | [_, _, _, _, _], _ => rfl
  have g46 := PySem.W.mg_of X G a46
  have F46 := fun_mk (st := s_law) l46 c46 k46
  have b46 := F46.binds (ps := ["script"]) fun _ _ _ _ _ _ us hl => match us, hl with | [_], _ => rfl
  have n_isinstance := PySem.W.mg_none_of X G z_isinstance
  have n_str := PySem.W.mg_none_of X G z_str
  have n_int := PySem.W.mg_none_of X G z_int
  have n_bool := PySem.W.mg_none_of X G z_bool
  have n_tuple := PySem.W.mg_none_of X G z_tuple
  have n_list := PySem.W.mg_none_of X G z_list
  have n_len := PySem.W.mg_none_of X G z_len
  have n_range := PySem.W.mg_none_of X G z_range
  have n_sorted := PySem.W.mg_none_of X G z_sorted
  have n_abs := PySem.W.mg_none_of X G z_abs
  have n_min := PySem.W.mg_none_of X G z_min
  have n_max := PySem.W.mg_none_of X G z_max
  have n_all := PySem.W.mg_none_of X G z_all
  have n_any := PySem.W.mg_none_of X G z_any
  have n_set := PySem.W.mg_none_of X G z_set
  have n_sum := PySem.W.mg_none_of X G z_sum
  have n_zip := PySem.W.mg_none_of X G z_zip
  have n_enumerate := PySem.W.mg_none_of X G z_enumerate
  have n_dict := PySem.W.mg_none_of X G z_dict
  have n_ValueError := PySem.W.mg_none_of X G z_ValueError
  have n_super := PySem.W.mg_none_of X G z_super
  have sup_L : PySem.Sup.SupTxt K mg l.prog "InvalidLiteral" "value" "not a literal" cL fXL :=
    { gC := PySem.W.mg_of X G aL, ok := { bd := fun _ _ _ _ _ _ _ _ _ _ _ _ _ _ _ _ _ _ _ _ _ _ => rfl, lf := rfl, lc := rfl, ls := rfl, nd := by decide, ns := by decide }, cls := ⟨nm_L, q_L, NN_L, bs_L, bm_L, sn_L, sub_L, ab_L, col_L, dd_L, m0_L, m1_L, m2_L, m3_L, m5_L, xI_L, rv_L⟩,
      sa := sa_L, ga := ga_L, gg := gg_L, noF := nF_L, iC := iX_L, tF := tF_L, kC := kI_L, exC := eI_L, veC := vI_L, tyC := yL, hdC := hL, mC := mI_L, opq := oq, sup := su_L, htop := hTop, mgS := n_super,
      fn := ⟨oc0L, od0L, _, dc0L, pm0L, an0L, cda_L, cc_L, ct0L, sl0L, _, _, _, _, _, _, _, _, _, _, _, _, lX_L, fun _ _ => ⟨_, rfl⟩, cX_L, ⟨cl0_L, cld_L, csl_L, lC_L⟩, ⟨ccl_L, cdd_L, rvs_L, ccs_L, file_L, tf_L, lD_L, rf_L, fi_L⟩⟩ }
  have sup_N : PySem.Sup.SupTxt K mg l.prog "InvalidName" "name" "not a name" cN fXN :=
    { gC := PySem.W.mg_of X G aN, ok := { bd := fun _ _ _ _ _ _ _ _ _ _ _ _ _ _ _ _ _ _ _ _ _ _ => rfl, lf := rfl, lc := rfl, ls := rfl, nd := by decide, ns := by decide }, cls := ⟨nm_N, q_N, NN_N, bs_N, bm_N, sn_N, sub_N, ab_N, col_N, dd_N, m0_N, m1_N, m2_N, m3_N, m5_N, xI_N, rv_N⟩,
      sa := sa_N, ga := ga_N, gg := gg_N, noF := nF_N, iC := iX_N, tF := tF_N, kC := kI_N, exC := eI_N, veC := vI_N, tyC := yN, hdC := hN, mC := mI_N, opq := oq, sup := su_N, htop := hTop, mgS := n_super,
      fn := ⟨oc0N, od0N, _, dc0N, pm0N, an0N, cda_N, cc_N, ct0N, sl0N, _, _, _, _, _, _, _, _, _, _, _, _, lX_N, fun _ _ => ⟨_, rfl⟩, cX_N, ⟨cl0_N, cld_N, csl_N, lC_N⟩, ⟨ccl_N, cdd_N, rvs_N, ccs_N, file_N, tf_N, lD_N, rf_N, fi_N⟩⟩ }
  have sup_U : PySem.Sup.SupTxt K mg l.prog "UnknownMoment" "name" "not a listed moment" cU fXU :=
    { gC := PySem.W.mg_of X G aU, ok := { bd := fun _ _ _ _ _ _ _ _ _ _ _ _ _ _ _ _ _ _ _ _ _ _ => rfl, lf := rfl, lc := rfl, ls := rfl, nd := by decide, ns := by decide }, cls := ⟨nm_U, q_U, NN_U, bs_U, bm_U, sn_U, sub_U, ab_U, col_U, dd_U, m0_U, m1_U, m2_U, m3_U, m5_U, xI_U, rv_U⟩,
      sa := sa_U, ga := ga_U, gg := gg_U, noF := nF_U, iC := iX_U, tF := tF_U, kC := kI_U, exC := eI_U, veC := vI_U, tyC := yU, hdC := hU, mC := mI_U, opq := oq, sup := su_U, htop := hTop, mgS := n_super,
      fn := ⟨oc0U, od0U, _, dc0U, pm0U, an0U, cda_U, cc_U, ct0U, sl0U, _, _, _, _, _, _, _, _, _, _, _, _, lX_U, fun _ _ => ⟨_, rfl⟩, cX_U, ⟨cl0_U, cld_U, csl_U, lC_U⟩, ⟨ccl_U, cdd_U, rvs_U, ccs_U, file_U, tf_U, lD_U, rf_U, fi_U⟩⟩ }
  have sup_I : PySem.Sup.SupTxt K mg l.prog "Inconsistent" "ring" "the net has a negative ring" cI fXI :=
    { gC := PySem.W.mg_of X G aI, ok := { bd := fun _ _ _ _ _ _ _ _ _ _ _ _ _ _ _ _ _ _ _ _ _ _ => rfl, lf := rfl, lc := rfl, ls := rfl, nd := by decide, ns := by decide }, cls := ⟨nm_I, q_I, NN_I, bs_I, bm_I, sn_I, sub_I, ab_I, col_I, dd_I, m0_I, m1_I, m2_I, m3_I, m5_I, xI_I, rv_I⟩,
      sa := sa_I, ga := ga_I, gg := gg_I, noF := nF_I, iC := iX_I, tF := tF_I, kC := kI_I, exC := eI_I, veC := vI_I, tyC := yI, hdC := hI, mC := mI_I, opq := oq, sup := su_I, htop := hTop, mgS := n_super,
      fn := ⟨oc0I, od0I, _, dc0I, pm0I, an0I, cda_I, cc_I, ct0I, sl0I, _, _, _, _, _, _, _, _, _, _, _, _, lX_I, fun _ _ => ⟨_, rfl⟩, cX_I, ⟨cl0_I, cld_I, csl_I, lC_I⟩, ⟨ccl_I, cdd_I, rvs_I, ccs_I, file_I, tf_I, lD_I, rf_I, fi_I⟩⟩ }
  let a : Ad := { a_is_name := f1, a_is_integer := f2, a_is_bound := f3, a_moments_of := f4, a_best_way := f5, a_ways_with := f6, a_no_ring := f7, a_ring_and_ways_with := f8, a_ring_and_ways := f9, a_check_bound := f10, a_meaning_of := f11, a_law_integer := f12, a_law_box := f13, a_law_mixed := f14, a_law_take := f15, a_law_name := f16, a_law_names := f17, a_law_far := f18, a_law_heights := f19, a_law_slack := f20, a_law_sizes := f21, a_law_row := f22, a_law_rows := f23, a_law_extra := f24, a_law_known := f25, a_law_flat := f26, a_law_plain := f27, a_law_net := f28, a_law_shaped := f29, a_law_fulfilled := f30, a_law_times := f31, a_law_opposed := f32, a_law_spoilt := f33, a_law_table := f34, a_law_broken := f35, a_law_alike := f36, a_law_negative := f37, a_law_settled := f38, a_law_shuffled := f39, a_law_same := f40, a_law_order_right := f41, a_law_joined_right := f42, a_law_further := f43, a_law_other := f44, a_law_others_right := f45, a_law := fa, tL := tk0, tS := tk1, tN := tk2, cR := cR, cL := cL, cN := cN, cU := cU, cI := cI, cT := cT, eW := cEW }
  let d : Fd := { a_is_name := PySem.W.fnOf "is_name" "is_name" (defArgs s_is_name) (defBody s_is_name) (defScope s_is_name) .none kV1 dc1 pm1 an1 cd1 ct1, a_is_integer := PySem.W.fnOf "is_integer" "is_integer" (defArgs s_is_integer) (defBody s_is_integer) (defScope s_is_integer) .none kV2 dc2 pm2 an2 cd2 ct2, a_is_bound := PySem.W.fnOf "is_bound" "is_bound" (defArgs s_is_bound) (defBody s_is_bound) (defScope s_is_bound) .none kV3 dc3 pm3 an3 cd3 ct3, a_moments_of := PySem.W.fnOf "moments_of" "moments_of" (defArgs s_moments_of) (defBody s_moments_of) (defScope s_moments_of) .none kV4 dc4 pm4 an4 cd4 ct4, a_best_way := PySem.W.fnOf "best_way" "best_way" (defArgs s_best_way) (defBody s_best_way) (defScope s_best_way) .none kV5 dc5 pm5 an5 cd5 ct5, a_ways_with := PySem.W.fnOf "ways_with" "ways_with" (defArgs s_ways_with) (defBody s_ways_with) (defScope s_ways_with) .none kV6 dc6 pm6 an6 cd6 ct6, a_no_ring := PySem.W.fnOf "no_ring" "no_ring" (defArgs s_no_ring) (defBody s_no_ring) (defScope s_no_ring) .none kV7 dc7 pm7 an7 cd7 ct7, a_ring_and_ways_with := PySem.W.fnOf "ring_and_ways_with" "ring_and_ways_with" (defArgs s_ring_and_ways_with) (defBody s_ring_and_ways_with) (defScope s_ring_and_ways_with) .none kV8 dc8 pm8 an8 cd8 ct8, a_ring_and_ways := PySem.W.fnOf "ring_and_ways" "ring_and_ways" (defArgs s_ring_and_ways) (defBody s_ring_and_ways) (defScope s_ring_and_ways) .none kV9 dc9 pm9 an9 cd9 ct9, a_check_bound := PySem.W.fnOf "check_bound" "check_bound" (defArgs s_check_bound) (defBody s_check_bound) (defScope s_check_bound) .none kV10 dc10 pm10 an10 cd10 ct10, a_meaning_of := PySem.W.fnOf "meaning_of" "meaning_of" (defArgs s_meaning_of) (defBody s_meaning_of) (defScope s_meaning_of) .none kV11 dc11 pm11 an11 cd11 ct11, a_law_integer := PySem.W.fnOf "_law_integer" "_law_integer" (defArgs s_law_integer) (defBody s_law_integer) (defScope s_law_integer) .none kV12 dc12 pm12 an12 cd12 ct12, a_law_box := PySem.W.fnOf "_law_box" "_law_box" (defArgs s_law_box) (defBody s_law_box) (defScope s_law_box) .none kV13 dc13 pm13 an13 cd13 ct13, a_law_mixed := PySem.W.fnOf "_law_mixed" "_law_mixed" (defArgs s_law_mixed) (defBody s_law_mixed) (defScope s_law_mixed) .none kV14 dc14 pm14 an14 cd14 ct14, a_law_take := PySem.W.fnOf "_law_take" "_law_take" (defArgs s_law_take) (defBody s_law_take) (defScope s_law_take) .none kV15 dc15 pm15 an15 cd15 ct15, a_law_name := PySem.W.fnOf "_law_name" "_law_name" (defArgs s_law_name) (defBody s_law_name) (defScope s_law_name) .none kV16 dc16 pm16 an16 cd16 ct16, a_law_names := PySem.W.fnOf "_law_names" "_law_names" (defArgs s_law_names) (defBody s_law_names) (defScope s_law_names) .none kV17 dc17 pm17 an17 cd17 ct17, a_law_far := PySem.W.fnOf "_law_far" "_law_far" (defArgs s_law_far) (defBody s_law_far) (defScope s_law_far) .none kV18 dc18 pm18 an18 cd18 ct18, a_law_heights := PySem.W.fnOf "_law_heights" "_law_heights" (defArgs s_law_heights) (defBody s_law_heights) (defScope s_law_heights) .none kV19 dc19 pm19 an19 cd19 ct19, a_law_slack := PySem.W.fnOf "_law_slack" "_law_slack" (defArgs s_law_slack) (defBody s_law_slack) (defScope s_law_slack) .none kV20 dc20 pm20 an20 cd20 ct20, a_law_sizes := PySem.W.fnOf "_law_sizes" "_law_sizes" (defArgs s_law_sizes) (defBody s_law_sizes) (defScope s_law_sizes) .none kV21 dc21 pm21 an21 cd21 ct21, a_law_row := PySem.W.fnOf "_law_row" "_law_row" (defArgs s_law_row) (defBody s_law_row) (defScope s_law_row) .none kV22 dc22 pm22 an22 cd22 ct22, a_law_rows := PySem.W.fnOf "_law_rows" "_law_rows" (defArgs s_law_rows) (defBody s_law_rows) (defScope s_law_rows) .none kV23 dc23 pm23 an23 cd23 ct23, a_law_extra := PySem.W.fnOf "_law_extra" "_law_extra" (defArgs s_law_extra) (defBody s_law_extra) (defScope s_law_extra) .none kV24 dc24 pm24 an24 cd24 ct24, a_law_known := PySem.W.fnOf "_law_known" "_law_known" (defArgs s_law_known) (defBody s_law_known) (defScope s_law_known) .none kV25 dc25 pm25 an25 cd25 ct25, a_law_flat := PySem.W.fnOf "_law_flat" "_law_flat" (defArgs s_law_flat) (defBody s_law_flat) (defScope s_law_flat) .none kV26 dc26 pm26 an26 cd26 ct26, a_law_plain := PySem.W.fnOf "_law_plain" "_law_plain" (defArgs s_law_plain) (defBody s_law_plain) (defScope s_law_plain) .none kV27 dc27 pm27 an27 cd27 ct27, a_law_net := PySem.W.fnOf "_law_net" "_law_net" (defArgs s_law_net) (defBody s_law_net) (defScope s_law_net) .none kV28 dc28 pm28 an28 cd28 ct28, a_law_shaped := PySem.W.fnOf "_law_shaped" "_law_shaped" (defArgs s_law_shaped) (defBody s_law_shaped) (defScope s_law_shaped) .none kV29 dc29 pm29 an29 cd29 ct29, a_law_fulfilled := PySem.W.fnOf "_law_fulfilled" "_law_fulfilled" (defArgs s_law_fulfilled) (defBody s_law_fulfilled) (defScope s_law_fulfilled) .none kV30 dc30 pm30 an30 cd30 ct30, a_law_times := PySem.W.fnOf "_law_times" "_law_times" (defArgs s_law_times) (defBody s_law_times) (defScope s_law_times) .none kV31 dc31 pm31 an31 cd31 ct31, a_law_opposed := PySem.W.fnOf "_law_opposed" "_law_opposed" (defArgs s_law_opposed) (defBody s_law_opposed) (defScope s_law_opposed) .none kV32 dc32 pm32 an32 cd32 ct32, a_law_spoilt := PySem.W.fnOf "_law_spoilt" "_law_spoilt" (defArgs s_law_spoilt) (defBody s_law_spoilt) (defScope s_law_spoilt) .none kV33 dc33 pm33 an33 cd33 ct33, a_law_table := PySem.W.fnOf "_law_table" "_law_table" (defArgs s_law_table) (defBody s_law_table) (defScope s_law_table) .none kV34 dc34 pm34 an34 cd34 ct34, a_law_broken := PySem.W.fnOf "_law_broken" "_law_broken" (defArgs s_law_broken) (defBody s_law_broken) (defScope s_law_broken) .none kV35 dc35 pm35 an35 cd35 ct35, a_law_alike := PySem.W.fnOf "_law_alike" "_law_alike" (defArgs s_law_alike) (defBody s_law_alike) (defScope s_law_alike) .none kV36 dc36 pm36 an36 cd36 ct36, a_law_negative := PySem.W.fnOf "_law_negative" "_law_negative" (defArgs s_law_negative) (defBody s_law_negative) (defScope s_law_negative) .none kV37 dc37 pm37 an37 cd37 ct37, a_law_settled := PySem.W.fnOf "_law_settled" "_law_settled" (defArgs s_law_settled) (defBody s_law_settled) (defScope s_law_settled) .none kV38 dc38 pm38 an38 cd38 ct38, a_law_shuffled := PySem.W.fnOf "_law_shuffled" "_law_shuffled" (defArgs s_law_shuffled) (defBody s_law_shuffled) (defScope s_law_shuffled) .none kV39 dc39 pm39 an39 cd39 ct39, a_law_same := PySem.W.fnOf "_law_same" "_law_same" (defArgs s_law_same) (defBody s_law_same) (defScope s_law_same) .none kV40 dc40 pm40 an40 cd40 ct40, a_law_order_right := PySem.W.fnOf "_law_order_right" "_law_order_right" (defArgs s_law_order_right) (defBody s_law_order_right) (defScope s_law_order_right) .none kV41 dc41 pm41 an41 cd41 ct41, a_law_joined_right := PySem.W.fnOf "_law_joined_right" "_law_joined_right" (defArgs s_law_joined_right) (defBody s_law_joined_right) (defScope s_law_joined_right) .none kV42 dc42 pm42 an42 cd42 ct42, a_law_further := PySem.W.fnOf "_law_further" "_law_further" (defArgs s_law_further) (defBody s_law_further) (defScope s_law_further) .none kV43 dc43 pm43 an43 cd43 ct43, a_law_other := PySem.W.fnOf "_law_other" "_law_other" (defArgs s_law_other) (defBody s_law_other) (defScope s_law_other) .none kV44 dc44 pm44 an44 cd44 ct44, a_law_others_right := PySem.W.fnOf "_law_others_right" "_law_others_right" (defArgs s_law_others_right) (defBody s_law_others_right) (defScope s_law_others_right) .none kV45 dc45 pm45 an45 cd45 ct45, a_law := PySem.W.fnOf "law" "law" (defArgs s_law) (defBody s_law) (defScope s_law) .none kV46 dc46 pm46 an46 cd46 ct46 }
  have T : TX K mg a := { b_isinstance := n_isinstance, b_str := n_str, b_int := n_int, b_bool := n_bool, b_tuple := n_tuple, b_list := n_list, b_len := n_len, b_range := n_range, b_sorted := n_sorted, b_abs := n_abs, b_min := n_min, b_max := n_max, b_all := n_all, b_any := n_any, b_set := n_set, b_sum := n_sum, b_zip := n_zip, b_enumerate := n_enumerate, b_dict := n_dict, b_ValueError := n_ValueError, g_LETTERS := PySem.W.mg_of X G aK0, g_SIGNS := PySem.W.mg_of X G aK1, g_LONGEST_NAME := PySem.W.mg_of X G aK2, f_is_name := g1, k_is_name := k1, f_is_integer := g2, k_is_integer := k2, f_is_bound := g3, k_is_bound := k3, f_moments_of := g4, k_moments_of := k4, f_best_way := g5, k_best_way := k5, f_ways_with := g6, k_ways_with := k6, f_no_ring := g7, k_no_ring := k7, f_ring_and_ways_with := g8, k_ring_and_ways_with := k8, f_ring_and_ways := g9, k_ring_and_ways := k9, f_check_bound := g10, k_check_bound := k10, f_meaning_of := g11, k_meaning_of := k11, f__law_integer := g12, k__law_integer := k12, f__law_box := g13, k__law_box := k13, f__law_mixed := g14, k__law_mixed := k14, f__law_take := g15, k__law_take := k15, f__law_name := g16, k__law_name := k16, f__law_names := g17, k__law_names := k17, f__law_far := g18, k__law_far := k18, f__law_heights := g19, k__law_heights := k19, f__law_slack := g20, k__law_slack := k20, f__law_sizes := g21, k__law_sizes := k21, f__law_row := g22, k__law_row := k22, f__law_rows := g23, k__law_rows := k23, f__law_extra := g24, k__law_extra := k24, f__law_known := g25, k__law_known := k25, f__law_flat := g26, k__law_flat := k26, f__law_plain := g27, k__law_plain := k27, f__law_net := g28, k__law_net := k28, f__law_shaped := g29, k__law_shaped := k29, f__law_fulfilled := g30, k__law_fulfilled := k30, f__law_times := g31, k__law_times := k31, f__law_opposed := g32, k__law_opposed := k32, f__law_spoilt := g33, k__law_spoilt := k33, f__law_table := g34, k__law_table := k34, f__law_broken := g35, k__law_broken := k35, f__law_alike := g36, k__law_alike := k36, f__law_negative := g37, k__law_negative := k37, f__law_settled := g38, k__law_settled := k38, f__law_shuffled := g39, k__law_shuffled := k39, f__law_same := g40, k__law_same := k40, f__law_order_right := g41, k__law_order_right := k41, f__law_joined_right := g42, k__law_joined_right := k42, f__law_further := g43, k__law_further := k43, f__law_other := g44, k__law_other := k44, f__law_others_right := g45, k__law_others_right := k45, f_law := g46, k_law := k46, c_RingclauseError := PySem.W.mg_of X G aR, c_InvalidLiteral := PySem.W.mg_of X G aL, c_InvalidName := PySem.W.mg_of X G aN, c_UnknownMoment := PySem.W.mg_of X G aU, c_Inconsistent := PySem.W.mg_of X G aI, c_Net := PySem.W.mg_of X G aT, g_EMPTY_WAY := PySem.W.mg_of X G aEW }
  have D : FDS K a d := { F_is_name := F1, B_is_name := b1, F_is_integer := F2, B_is_integer := b2, F_is_bound := F3, B_is_bound := b3, F_moments_of := F4, B_moments_of := b4, F_best_way := F5, B_best_way := b5, F_ways_with := F6, B_ways_with := b6, F_no_ring := F7, B_no_ring := b7, F_ring_and_ways_with := F8, B_ring_and_ways_with := b8, F_ring_and_ways := F9, B_ring_and_ways := b9, F_check_bound := F10, B_check_bound := b10, F_meaning_of := F11, B_meaning_of := b11, F__law_integer := F12, B__law_integer := b12, F__law_box := F13, B__law_box := b13, F__law_mixed := F14, B__law_mixed := b14, F__law_take := F15, B__law_take := b15, F__law_name := F16, B__law_name := b16, F__law_names := F17, B__law_names := b17, F__law_far := F18, B__law_far := b18, F__law_heights := F19, B__law_heights := b19, F__law_slack := F20, B__law_slack := b20, F__law_sizes := F21, B__law_sizes := b21, F__law_row := F22, B__law_row := b22, F__law_rows := F23, B__law_rows := b23, F__law_extra := F24, B__law_extra := b24, F__law_known := F25, B__law_known := b25, F__law_flat := F26, B__law_flat := b26, F__law_plain := F27, B__law_plain := b27, F__law_net := F28, B__law_net := b28, F__law_shaped := F29, B__law_shaped := b29, F__law_fulfilled := F30, B__law_fulfilled := b30, F__law_times := F31, B__law_times := b31, F__law_opposed := F32, B__law_opposed := b32, F__law_spoilt := F33, B__law_spoilt := b33, F__law_table := F34, B__law_table := b34, F__law_broken := F35, B__law_broken := b35, F__law_alike := F36, B__law_alike := b36, F__law_negative := F37, B__law_negative := b37, F__law_settled := F38, B__law_settled := b38, F__law_shuffled := F39, B__law_shuffled := b39, F__law_same := F40, B__law_same := b40, F__law_order_right := F41, B__law_order_right := b41, F__law_joined_right := F42, B__law_joined_right := b42, F__law_further := F43, B__law_further := b43, F__law_other := F44, B__law_other := b44, F__law_others_right := F45, B__law_others_right := b45, F_law := F46, B_law := b46 }
  have QFK := fun_mk (st := s_Net_check) q_lK q_cK q_kK
  have QFT := fun_mk (st := s_Net_most) q_lT q_cT q_kT
  have QFH := fun_mk (st := s_Net_chain) q_lH q_cH q_kH
  have QFA := fun_mk (st := s_Net_and) q_lA q_cA q_kA
  have QFN := fun_mk (st := s_Net_len) q_lN q_cN q_kN
  have QFB := fun_mk (st := s_Net_least) q_lB q_cB q_kB
  have QFO := fun_mk (st := s_Net_least_of) q_lO q_cO q_kO
  have QFR := fun_mk (st := s_Net_carried) q_lR q_cR q_kR
  have QFE := fun_mk (st := s_Net_eq) q_lE q_cE q_kE
  have QBT := QFT.binds (ps := ["self", "x", "y"]) fun _ _ _ _ _ _ us hl => match us, hl with | [_, _, _], _ => rfl
  have QBH := QFH.binds (ps := ["self", "x", "y"]) fun _ _ _ _ _ _ us hl => match us, hl with | [_, _, _], _ => rfl
  have QBA := QFA.binds (ps := ["self", "other"]) fun _ _ _ _ _ _ us hl => match us, hl with | [_, _], _ => rfl
  have QBN := QFN.binds (ps := ["self"]) fun _ _ _ _ _ _ us hl => match us, hl with | [_], _ => rfl
  have QBB := QFB.binds (ps := ["self"]) fun _ _ _ _ _ _ us hl => match us, hl with | [_], _ => rfl
  have QBO := QFO.binds (ps := ["self", "name"]) fun _ _ _ _ _ _ us hl => match us, hl with | [_, _], _ => rfl
  have QBR := QFR.binds (ps := ["self", "x"]) fun _ _ _ _ _ _ us hl => match us, hl with | [_, _], _ => rfl
  have QBE := QFE.binds (ps := ["self", "other"]) fun _ _ _ _ _ _ us hl => match us, hl with | [_, _], _ => rfl
  have R : ER K mg l.prog a fXL fXN fXU fXI := { eL := sup_L, eN := sup_N, eU := sup_U, eI := sup_I }
  have emp : ∀ {p : Addr} {od : Option Addr} {it : Array Value} {n : Nat} {sl : Array (Option Value)} (H : Hp), K.lookup p = some ⟨.type "tuple", od, .seq it n, sl⟩ → it.toList = [] → SqT K H p [] := fun {p od it n sl} H h1 h2 => .inr ⟨_, it, n, h1, rfl, rfl, by rw [← Array.length_toList, h2]; decide, by rw [h2]; exact .nil⟩
  have Z : EW K a := fun H => ⟨cEW, cE0, [], rfl, .inr ⟨_, itEW, nEW, lEW, rfl, rfl, by rw [← Array.length_toList, vEW]; exact (by decide : 3 ≤ sizeLine), by rw [vEW]; exact .cons ⟨_, rfl⟩ (.cons ⟨_, rfl⟩ (.cons rfl .nil))⟩, emp H lE0 vE0, RowsAt.nil⟩
  have M : CN K mg cT qfI qD0 qT0 := { cl := ⟨q_pg, hT, q_po, q_sa⟩, n1 := q_n1, n2 := q_n2, n3 := q_n3, n4 := q_n4, n5 := q_n5, gC := PySem.W.mg_of X G aT, mkr := ⟨q_mk, q_fI, q_iI, q_kp⟩, FI := ⟨_, _, _, _, _, _, _, _, q_lI, q_cI⟩, kw := q_kw, emp := fun H => emp H q_T0 q_T1 }
  have N : NM K cT qfK qfT qfH qfA qfN _ _ _ _ _ := { K1 := ⟨⟨q_fK, q_iK, q_kK⟩, QFK⟩, T1 := ⟨⟨q_fT, q_iT, q_kT⟩, QFT⟩, BT := QBT, H1 := ⟨⟨q_fH, q_iH, q_kH⟩, QFH⟩, BH := QBH, A1 := ⟨⟨q_fA, q_iA, q_kA⟩, QFA⟩, BA := QBA, N1 := ⟨⟨q_fN, q_iN, q_kN⟩, QFN⟩, BN := QBN, sf := q_sf }
  have L : NL K cT qfB qfO _ _ := { B1 := ⟨⟨q_fB, q_iB, q_kB⟩, QFB⟩, BB := QBB, O1 := ⟨⟨q_fO, q_iO, q_kO⟩, QFO⟩, BO := QBO }
  have C : NR K cT qfR _ := { C1 := ⟨⟨q_fR, q_iR, q_kR⟩, QFR⟩, BC := QBR }
  have X2 : QE K cT qfE _ := { E1 := ⟨⟨q_fE, q_iE, q_kE⟩, QFE⟩, BE := QBE, nf := q_nf, ka := q_ka, kn := kn, kt := kt, km := q_km, kk := kit_me, no := fun T h => ⟨kit_tyC hT yT h, not_first h⟩ }
  exact ⟨d.a_law, fun s v => .of_eq rfl, fun base _ _ => FnG.of (ok_law (P := l.prog) (w := w) (base := base) T D R Z M N L C X2)⟩
theorem walk {l : PySem.W.OpenLaw} {q : Program} {loose : List Str} {XP : (Str → Option Value) → Heap → Prop} {YP : World → Heap → Prop} {d : DefRec} {K : Params → PySem.W.Frag} (hn : l.most = some 63) (hdf : d.params.defaults = [])
    (hY : ∀ (w : World) (h : Heap), YP w h → (K w.params).In h)
    (H : ∀ (w : World) (mg : Str → Option Value) (fa : Addr) (h : Heap), (K w.params).In h → h.Ns mainGlobals mg → mg d.name = some (.ref fa) →
      ∃ fd : FuncData, (∀ (s : Shared) (u : Value), BindsTo s fd ⟨[u], []⟩ [("script", u)]) ∧ ∀ base : Heap, (K w.params).In base → base.Ns mainGlobals mg → FnG l.prog w (K w.params) mg base 14 fa fd ["script"] (spLaw (K w.params))) :
    PySem.W.WalkO q loose XP YP l.row.toRowW d [] (fun f vs => PySem.call f vs) :=
  walk_ofG (n := 63) (k := 14) (x := "script") (sp := fun w => spLaw (K w.params)) hn (by decide) hdf ⟨rfl, by decide, by decide⟩ hY H (fun _ _ a ns hl _ hS => ⟨a, ns, rfl, hS, fun _ => rfl⟩)
end N4
set_option maxRecDepth 100000
open PySem PySem.W PyProof.Rows in
set_option maxRecDepth 100000 in
set_option maxHeartbeats 0 in
theorem PySem.Challenge.cw_ringclause_k14_whole_nets_agree_holds : PySem.Challenge.rw_ringclause_k14_whole_nets_agree.Holds := by
  w_on; o_law; k_head; (case hw => w_witness2)
  k_fill
  refine N4.walk (l := PySem.Challenge.rw_ringclause_k14_whole_nets_agree) rfl rfl (fun w h Y => PySem.W.kIn_of Y) ?F
  case F =>
    intro w mg fa h KX G hmg
    refine' N4.all_mk KX G hmg ?a1 ?l1 ?c1 ?k1 ?a2 ?l2 ?c2 ?k2 ?a3 ?l3 ?c3 ?k3 ?a4 ?l4 ?c4 ?k4 ?a5 ?l5 ?c5 ?k5 ?a6 ?l6 ?c6 ?k6 ?a7 ?l7 ?c7 ?k7 ?a8 ?l8 ?c8 ?k8 ?a9 ?l9 ?c9 ?k9 ?a10 ?l10 ?c10 ?k10 ?a11 ?l11 ?c11 ?k11 ?a12 ?l12 ?c12 ?k12 ?a13 ?l13 ?c13 ?k13 ?a14 ?l14 ?c14 ?k14 ?a15 ?l15 ?c15 ?k15 ?a16 ?l16 ?c16 ?k16 ?a17 ?l17 ?c17 ?k17 ?a18 ?l18 ?c18 ?k18 ?a19 ?l19 ?c19 ?k19 ?a20 ?l20 ?c20 ?k20 ?a21 ?l21 ?c21 ?k21 ?a22 ?l22 ?c22 ?k22 ?a23 ?l23 ?c23 ?k23 ?a24 ?l24 ?c24 ?k24 ?a25 ?l25 ?c25 ?k25 ?a26 ?l26 ?c26 ?k26 ?a27 ?l27 ?c27 ?k27 ?a28 ?l28 ?c28 ?k28 ?a29 ?l29 ?c29 ?k29 ?a30 ?l30 ?c30 ?k30 ?a31 ?l31 ?c31 ?k31 ?a32 ?l32 ?c32 ?k32 ?a33 ?l33 ?c33 ?k33 ?a34 ?l34 ?c34 ?k34 ?a35 ?l35 ?c35 ?k35 ?a36 ?l36 ?c36 ?k36 ?a37 ?l37 ?c37 ?k37 ?a38 ?l38 ?c38 ?k38 ?a39 ?l39 ?c39 ?k39 ?a40 ?l40 ?c40 ?k40 ?a41 ?l41 ?c41 ?k41 ?a42 ?l42 ?c42 ?k42 ?a43 ?l43 ?c43 ?k43 ?a44 ?l44 ?c44 ?k44 ?a45 ?l45 ?c45 ?k45 ?a46 ?l46 ?c46 ?k46 ?z_isinstance ?z_str ?z_int ?z_bool ?z_tuple ?z_list ?z_len ?z_range ?z_sorted ?z_abs ?z_min ?z_max ?z_all ?z_any ?z_set ?z_sum ?z_zip ?z_enumerate ?z_dict ?z_ValueError ?z_super ?aK0 ?aK1 ?aK2 ?aR ?hR ?yR ?aL ?hL ?yL ?aN ?hN ?yN ?aU ?hU ?yU ?aI ?hI ?yI ?aT ?hT ?yT ?oq ?hTop ?kn ?kt ?xI_L ?rv_L ?sa_L ?ga_L ?gg_L ?nF_L ?iX_L ?tF_L ?kI_L ?eI_L ?vI_L ?mI_L ?su_L ?lX_L ?cX_L ?lC_L ?lD_L ?rf_L ?fi_L ?ka_L ?km_L ?sR_L ?sL_L ?sN_L ?sU_L ?sI_L ?sT_L ?xI_N ?rv_N ?sa_N ?ga_N ?gg_N ?nF_N ?iX_N ?tF_N ?kI_N ?eI_N ?vI_N ?mI_N ?su_N ?lX_N ?cX_N ?lC_N ?lD_N ?rf_N ?fi_N ?ka_N ?km_N ?sR_N ?sL_N ?sN_N ?sU_N ?sI_N ?sT_N ?xI_U ?rv_U ?sa_U ?ga_U ?gg_U ?nF_U ?iX_U ?tF_U ?kI_U ?eI_U ?vI_U ?mI_U ?su_U ?lX_U ?cX_U ?lC_U ?lD_U ?rf_U ?fi_U ?ka_U ?km_U ?sR_U ?sL_U ?sN_U ?sU_U ?sI_U ?sT_U ?xI_I ?rv_I ?sa_I ?ga_I ?gg_I ?nF_I ?iX_I ?tF_I ?kI_I ?eI_I ?vI_I ?mI_I ?su_I ?lX_I ?cX_I ?lC_I ?lD_I ?rf_I ?fi_I ?ka_I ?km_I ?sR_I ?sL_I ?sN_I ?sU_I ?sI_I ?sT_I ?q_pg ?q_po ?q_sa ?q_n1 ?q_n2 ?q_n3 ?q_n4 ?q_n5 ?q_mk ?q_kp ?q_sf ?q_nf ?q_ka ?q_km ?q_fI ?q_iI ?q_lI ?q_cI ?q_kI ?q_fK ?q_iK ?q_lK ?q_cK ?q_kK ?q_fT ?q_iT ?q_lT ?q_cT ?q_kT ?q_fH ?q_iH ?q_lH ?q_cH ?q_kH ?q_fA ?q_iA ?q_lA ?q_cA ?q_kA ?q_fN ?q_iN ?q_lN ?q_cN ?q_kN ?q_fB ?q_iB ?q_lB ?q_cB ?q_kB ?q_fO ?q_iO ?q_lO ?q_cO ?q_kO ?q_fR ?q_iR ?q_lR ?q_cR ?q_kR ?q_fE ?q_iE ?q_lE ?q_cE ?q_kE ?q_kw ?q_T0 ?q_T1 ?aEW ?lEW ?vEW ?lE0 ?vE0 ?eRB
    (case a1 => k_is)
    (case l1 => k_is)
    (case c1 => k_is)
    (case k1 => k_is)
    (case a2 => k_is)
    (case l2 => k_is)
    (case c2 => k_is)
    (case k2 => k_is)
    (case a3 => k_is)
    (case l3 => k_is)
    (case c3 => k_is)
    (case k3 => k_is)
    (case a4 => k_is)
    (case l4 => k_is)
    (case c4 => k_is)
    (case k4 => k_is)
    (case a5 => k_is)
    (case l5 => k_is)
    (case c5 => k_is)
    (case k5 => k_is)
    (case a6 => k_is)
    (case l6 => k_is)
    (case c6 => k_is)
    (case k6 => k_is)
    (case a7 => k_is)
    (case l7 => k_is)
    (case c7 => k_is)
    (case k7 => k_is)
    (case a8 => k_is)
    (case l8 => k_is)
    (case c8 => k_is)
    (case k8 => k_is)
    (case a9 => k_is)
    (case l9 => k_is)
    (case c9 => k_is)
    (case k9 => k_is)
    (case a10 => k_is)
    (case l10 => k_is)
    (case c10 => k_is)
    (case k10 => k_is)
    (case a11 => k_is)
    (case l11 => k_is)
    (case c11 => k_is)
    (case k11 => k_is)
    (case a12 => k_is)
    (case l12 => k_is)
    (case c12 => k_is)
    (case k12 => k_is)
    (case a13 => k_is)
    (case l13 => k_is)
    (case c13 => k_is)
    (case k13 => k_is)
    (case a14 => k_is)
    (case l14 => k_is)
    (case c14 => k_is)
    (case k14 => k_is)
    (case a15 => k_is)
    (case l15 => k_is)
    (case c15 => k_is)
    (case k15 => k_is)
    (case a16 => k_is)
    (case l16 => k_is)
    (case c16 => k_is)
    (case k16 => k_is)
    (case a17 => k_is)
    (case l17 => k_is)
    (case c17 => k_is)
    (case k17 => k_is)
    (case a18 => k_is)
    (case l18 => k_is)
    (case c18 => k_is)
    (case k18 => k_is)
    (case a19 => k_is)
    (case l19 => k_is)
    (case c19 => k_is)
    (case k19 => k_is)
    (case a20 => k_is)
    (case l20 => k_is)
    (case c20 => k_is)
    (case k20 => k_is)
    (case a21 => k_is)
    (case l21 => k_is)
    (case c21 => k_is)
    (case k21 => k_is)
    (case a22 => k_is)
    (case l22 => k_is)
    (case c22 => k_is)
    (case k22 => k_is)
    (case a23 => k_is)
    (case l23 => k_is)
    (case c23 => k_is)
    (case k23 => k_is)
    (case a24 => k_is)
    (case l24 => k_is)
    (case c24 => k_is)
    (case k24 => k_is)
    (case a25 => k_is)
    (case l25 => k_is)
    (case c25 => k_is)
    (case k25 => k_is)
    (case a26 => k_is)
    (case l26 => k_is)
    (case c26 => k_is)
    (case k26 => k_is)
    (case a27 => k_is)
    (case l27 => k_is)
    (case c27 => k_is)
    (case k27 => k_is)
    (case a28 => k_is)
    (case l28 => k_is)
    (case c28 => k_is)
    (case k28 => k_is)
    (case a29 => k_is)
    (case l29 => k_is)
    (case c29 => k_is)
    (case k29 => k_is)
    (case a30 => k_is)
    (case l30 => k_is)
    (case c30 => k_is)
    (case k30 => k_is)
    (case a31 => k_is)
    (case l31 => k_is)
    (case c31 => k_is)
    (case k31 => k_is)
    (case a32 => k_is)
    (case l32 => k_is)
    (case c32 => k_is)
    (case k32 => k_is)
    (case a33 => k_is)
    (case l33 => k_is)
    (case c33 => k_is)
    (case k33 => k_is)
    (case a34 => k_is)
    (case l34 => k_is)
    (case c34 => k_is)
    (case k34 => k_is)
    (case a35 => k_is)
    (case l35 => k_is)
    (case c35 => k_is)
    (case k35 => k_is)
    (case a36 => k_is)
    (case l36 => k_is)
    (case c36 => k_is)
    (case k36 => k_is)
    (case a37 => k_is)
    (case l37 => k_is)
    (case c37 => k_is)
    (case k37 => k_is)
    (case a38 => k_is)
    (case l38 => k_is)
    (case c38 => k_is)
    (case k38 => k_is)
    (case a39 => k_is)
    (case l39 => k_is)
    (case c39 => k_is)
    (case k39 => k_is)
    (case a40 => k_is)
    (case l40 => k_is)
    (case c40 => k_is)
    (case k40 => k_is)
    (case a41 => k_is)
    (case l41 => k_is)
    (case c41 => k_is)
    (case k41 => k_is)
    (case a42 => k_is)
    (case l42 => k_is)
    (case c42 => k_is)
    (case k42 => k_is)
    (case a43 => k_is)
    (case l43 => k_is)
    (case c43 => k_is)
    (case k43 => k_is)
    (case a44 => k_is)
    (case l44 => k_is)
    (case c44 => k_is)
    (case k44 => k_is)
    (case a45 => k_is)
    (case l45 => k_is)
    (case c45 => k_is)
    (case k45 => k_is)
    (case a46 => k_is)
    (case l46 => k_is)
    (case c46 => k_is)
    (case k46 => k_is)
    (case z_isinstance => k_is)
    (case z_str => k_is)
    (case z_int => k_is)
    (case z_bool => k_is)
    (case z_tuple => k_is)
    (case z_list => k_is)
    (case z_len => k_is)
    (case z_range => k_is)
    (case z_sorted => k_is)
    (case z_abs => k_is)
    (case z_min => k_is)
    (case z_max => k_is)
    (case z_all => k_is)
    (case z_any => k_is)
    (case z_set => k_is)
    (case z_sum => k_is)
    (case z_zip => k_is)
    (case z_enumerate => k_is)
    (case z_dict => k_is)
    (case z_ValueError => k_is)
    (case z_super => k_is)
    (case aK0 => k_is)
    (case aK1 => k_is)
    (case aK2 => k_is)
    (case aR => k_is)
    (case hR => k_is)
    (case yR => k_is)
    (case aL => k_is)
    (case hL => k_is)
    (case yL => k_is)
    (case aN => k_is)
    (case hN => k_is)
    (case yN => k_is)
    (case aU => k_is)
    (case hU => k_is)
    (case yU => k_is)
    (case aI => k_is)
    (case hI => k_is)
    (case yI => k_is)
    (case aT => k_is)
    (case hT => k_is)
    (case yT => k_is)
    (case oq => k_is)
    (case hTop => rfl)
    (case kn => k_is)
    (case kt => k_is)
    (case xI_L => k_is)
    (case rv_L => rfl)
    (case sa_L => k_is)
    (case ga_L => k_is)
    (case gg_L => k_is)
    (case nF_L => k_is)
    (case iX_L => k_is)
    (case tF_L => k_is)
    (case kI_L => k_is)
    (case eI_L => k_is)
    (case vI_L => k_is)
    (case mI_L => k_is)
    (case su_L => ks_is)
    (case lX_L => k_is)
    (case cX_L => k_is)
    (case lC_L => k_is)
    (case lD_L => k_is)
    (case rf_L => rfl)
    (case fi_L => rfl)
    (case ka_L => k_is)
    (case km_L => k_is)
    (case sR_L => k_is)
    (case sL_L => k_is)
    (case sN_L => k_is)
    (case sU_L => k_is)
    (case sI_L => k_is)
    (case sT_L => k_is)
    (case xI_N => k_is)
    (case rv_N => rfl)
    (case sa_N => k_is)
    (case ga_N => k_is)
    (case gg_N => k_is)
    (case nF_N => k_is)
    (case iX_N => k_is)
    (case tF_N => k_is)
    (case kI_N => k_is)
    (case eI_N => k_is)
    (case vI_N => k_is)
    (case mI_N => k_is)
    (case su_N => ks_is)
    (case lX_N => k_is)
    (case cX_N => k_is)
    (case lC_N => k_is)
    (case lD_N => k_is)
    (case rf_N => rfl)
    (case fi_N => rfl)
    (case ka_N => k_is)
    (case km_N => k_is)
    (case sR_N => k_is)
    (case sL_N => k_is)
    (case sN_N => k_is)
    (case sU_N => k_is)
    (case sI_N => k_is)
    (case sT_N => k_is)
    (case xI_U => k_is)
    (case rv_U => rfl)
    (case sa_U => k_is)
    (case ga_U => k_is)
    (case gg_U => k_is)
    (case nF_U => k_is)
    (case iX_U => k_is)
    (case tF_U => k_is)
    (case kI_U => k_is)
    (case eI_U => k_is)
    (case vI_U => k_is)
    (case mI_U => k_is)
    (case su_U => ks_is)
    (case lX_U => k_is)
    (case cX_U => k_is)
    (case lC_U => k_is)
    (case lD_U => k_is)
    (case rf_U => rfl)
    (case fi_U => rfl)
    (case ka_U => k_is)
    (case km_U => k_is)
    (case sR_U => k_is)
    (case sL_U => k_is)
    (case sN_U => k_is)
    (case sU_U => k_is)
    (case sI_U => k_is)
    (case sT_U => k_is)
    (case xI_I => k_is)
    (case rv_I => rfl)
    (case sa_I => k_is)
    (case ga_I => k_is)
    (case gg_I => k_is)
    (case nF_I => k_is)
    (case iX_I => k_is)
    (case tF_I => k_is)
    (case kI_I => k_is)
    (case eI_I => k_is)
    (case vI_I => k_is)
    (case mI_I => k_is)
    (case su_I => ks_is)
    (case lX_I => k_is)
    (case cX_I => k_is)
    (case lC_I => k_is)
    (case lD_I => k_is)
    (case rf_I => rfl)
    (case fi_I => rfl)
    (case ka_I => k_is)
    (case km_I => k_is)
    (case sR_I => k_is)
    (case sL_I => k_is)
    (case sN_I => k_is)
    (case sU_I => k_is)
    (case sI_I => k_is)
    (case sT_I => k_is)
    (case q_pg => k_is)
    (case q_po => k_is)
    (case q_sa => k_is)
    (case q_n1 => k_is)
    (case q_n2 => k_is)
    (case q_n3 => k_is)
    (case q_n4 => k_is)
    (case q_n5 => k_is)
    (case q_mk => k_is)
    (case q_kp => k_is)
    (case q_sf => k_is)
    (case q_nf => k_is)
    (case q_ka => k_is)
    (case q_km => k_is)
    (case q_fI => k_is)
    (case q_iI => k_is)
    (case q_lI => k_is)
    (case q_cI => k_is)
    (case q_kI => k_is)
    (case q_fK => k_is)
    (case q_iK => k_is)
    (case q_lK => k_is)
    (case q_cK => k_is)
    (case q_kK => k_is)
    (case q_fT => k_is)
    (case q_iT => k_is)
    (case q_lT => k_is)
    (case q_cT => k_is)
    (case q_kT => k_is)
    (case q_fH => k_is)
    (case q_iH => k_is)
    (case q_lH => k_is)
    (case q_cH => k_is)
    (case q_kH => k_is)
    (case q_fA => k_is)
    (case q_iA => k_is)
    (case q_lA => k_is)
    (case q_cA => k_is)
    (case q_kA => k_is)
    (case q_fN => k_is)
    (case q_iN => k_is)
    (case q_lN => k_is)
    (case q_cN => k_is)
    (case q_kN => k_is)
    (case q_fB => k_is)
    (case q_iB => k_is)
    (case q_lB => k_is)
    (case q_cB => k_is)
    (case q_kB => k_is)
    (case q_fO => k_is)
    (case q_iO => k_is)
    (case q_lO => k_is)
    (case q_cO => k_is)
    (case q_kO => k_is)
    (case q_fR => k_is)
    (case q_iR => k_is)
    (case q_lR => k_is)
    (case q_cR => k_is)
    (case q_kR => k_is)
    (case q_fE => k_is)
    (case q_iE => k_is)
    (case q_lE => k_is)
    (case q_cE => k_is)
    (case q_kE => k_is)
    (case q_kw => k_is)
    (case q_T0 => k_is)
    (case q_T1 => rfl)
    (case aEW => k_is)
    (case lEW => k_is)
    (case vEW => rfl)
    (case lE0 => k_is)
    (case vE0 => rfl)
    (case eRB => k_is)
