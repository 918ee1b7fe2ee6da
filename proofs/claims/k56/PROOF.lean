import PyProof.Rows.All
import Wide.All
import OpenK.AllK
import Wide.FinOn
import KE.KExcSuper
import HandS.ForExc
import HandS.TryMany
import HandS.ExcCtx
import HandS.HotCalls
import HandS.ForMost
import HandS.ExcIs
import HandS.ExcField
import KE.KExcIs
import HandS.IsInst
import HandS.Comp
import HandS.SetTxt0
import HandS.Set
import HandS.SetFor
import HandS.Strs
import PyProof.Rows.SortStr
import PyProof.Rows.SortShellK
import HandS.DictTup
import HandS.Conv
import HandS.DictSubView
import KE.KDictCopyH
import KE.KDictWalk
import PyProof.TupleOfGen
import HandS.Ends
import PyProof.ReprRoads
import HandS.SortKw
import HandS.MakeKw
import KE.DataMinMax
import KE.DataCmp
import PyProof.SliceList
import PyProof.CallFns
import HandS.DictComp
import KE.DataMinKey
import KE.GoesMore
import KE.GoesEnum
import HandS.Walk
import HandS.SortInts
import HandS.TupAny
import HandS.TupMul
import HandS.Dict
import HandS.Evl
import HandS.FStrTup
import PyProof.ReprText
import HandS.TupSets
import HandS.SortRule
import KE.SortData
import HandS.List
import HandS.Wide
import HandS.Zip
import HandS.StrMore
import PyProof.Rows.StrCut
import PySem.Challenge.RW_ringclause_k56_fit_question_clauses
import KE.KeyNested
import HandS.Star
import HandS.WordsExc
import KE.KOpsOwn
import HandS.OwnEq
import HandS.ClsMeth
import HandS.Deep
import HandS.FStr
import HandS.RaiseMore
import HandS.Style
import KE.RegKSuper
set_option Elab.async false
set_option linter.all false
set_option maxRecDepth 100000
set_option maxHeartbeats 4000000
/-! An own exception over ValueError whose __init__ is: super().__init__('..'); self.f = f -/
namespace PySem
namespace Sup
open PySem.W PySem.Calls PyProof.Rows PySem.HandSPX

def sArgs (fld : Str) (p1 p2 : Pos) : Arguments :=
  { posonlyargs := [], args := [{ arg := "self", annotation := none, pos := p1 }, { arg := fld, annotation := none, pos := p2 }], vararg := none, kwonlyargs := [], kw_defaults := [], kwarg := none, defaults := [] }
def sBody (fld msg : Str) (a1 a2 a3 a4 a5 a6 b1 b2 b3 b4 : Pos) : List Stmt :=
  [.Expr (.Call (.Attribute (.Call (.Name "super" a1) [] [] a2) "__init__" a3) [.Constant (.str msg) 0 a4] [] a5) a6,
   .Assign [.Attribute (.Name "self" b1) fld b2] (.Name fld b3) b4]
def sScope (fld : Str) : Scope :=
  { kind := .function, names := [(PySem.Str.ofString "self", .local), (fld, .local), (PySem.Str.ofString "__class__", .free), (PySem.Str.ofString "super", .globalImplicit)], isGenerator := false, isCoroutine := false, more := [] }

abbrev sFn (fld msg qual : Str) (p1 p2 a1 a2 a3 a4 a5 a6 b1 b2 b3 b4 : Pos) (doc pm : Value) (an : Option Addr) (cda cc : Addr) (ct : Value) : FuncData :=
  fnX "__init__" qual (sArgs fld p1 p2) (sBody fld msg a1 a2 a3 a4 a5 a6 b1 b2 b3 b4) (sScope fld) [("__class__", cc)] .none .none doc pm an (.ref cda) ct
/-- the field's name is none of the other names; what follows from it, each by rfl -/
structure FldOk (fld : Str) : Prop where
  bd : ∀ (msg qual : Str) (p1 p2 a1 a2 a3 a4 a5 a6 b1 b2 b3 b4 : Pos) (doc pm : Value) (an : Option Addr) (cda cc : Addr) (ct u v : Value),
    bindArgs (sFn fld msg qual p1 p2 a1 a2 a3 a4 a5 a6 b1 b2 b3 b4 doc pm an cda cc ct) ⟨[u, v], []⟩ = pure [(("self" : Str), u), (fld, v)]
  lf : (sScope fld).names.lookup fld = some .local
  lc : (sScope fld).names.lookup ("__class__" : Str) = some .free
  ls : (sScope fld).names.lookup ("super" : Str) = some .globalImplicit
  nd : (fld == ("__debug__" : Str)) = false
  ns : ("self" : Str) ≠ fld

/-- super().__init__('..') is a method's call on one row of the text: by ⟨_, rfl⟩ where the places are written -/
def EvOk (fld msg qual : Str) (p1 p2 a1 a2 a3 a4 a5 a6 b1 b2 b3 b4 : Pos) (doc pm : Value) (an : Option Addr) (cda cc : Addr) (ct : Value) : Prop := ∀ (L a : Addr), ∃ pl : Sem Bool,
    eval (.Call (.Attribute (.Call (.Name "super" a1) [] [] a2) "__init__" a3) [.Constant (.str msg) 0 a4] [] a5) (callEnv (sFn fld msg qual p1 p2 a1 a2 a3 a4 a5 a6 b1 b2 b3 b4 doc pm an cda cc ct) L a) = (do
      let ov ← attributeBase (.Call (.Name "super" a1) [] [] a2) "__init__" (callEnv (sFn fld msg qual p1 p2 a1 a2 a3 a4 a5 a6 b1 b2 b3 b4 doc pm an cda cc ct) L a)
        (eval (.Call (.Name "super" a1) [] [] a2) (callEnv (sFn fld msg qual p1 p2 a1 a2 a3 a4 a5 a6 b1 b2 b3 b4 doc pm an cda cc ct) L a))
      standAt a3.atName
      let (f, first) ← holding [ov] (getMethod ov "__init__" pl)
      callWith a5 f first (backTo a5 (starEach [.Constant (.str msg) 0 a4] (callEnv (sFn fld msg qual p1 p2 a1 a2 a3 a4 a5 a6 b1 b2 b3 b4 doc pm an cda cc ct) L a))) [])
/-- what the written part says of such a class at C, its __init__ at fI, the cell at cc that holds C, the code record at cda -/
structure SupTxt (K : Frag) (mg : Str → Option Value) (prog : Program) (cn fld msg : Str) (C fI : Addr) : Prop where
  gC : mg cn = some (.ref C)
  ok : FldOk fld
  cls : ∃ nm q N bs bm sn sub ab col dd k0 k1 k2 k3 k5, K.lookup C = some (excClassObj nm q C N bs bm true sn sub ab col dd k0 k1 k2 k3 k5 "ValueError.__new__") ∧ refsVE bm = true
  sa : findIn K (.ref C) "__setattr__" = some (some (.builtin "object.__setattr__"))
  ga : findIn K (.ref C) "__getattribute__" = some (some (.builtin "BaseException.__getattribute__"))
  gg : findIn K (.ref C) "__getattr__" = some none
  noF : findIn K (.ref C) fld = some none
  iC : findIn K (.ref C) "__init__" = some (some (.ref fI))
  tF : typeIn K (.ref fI) = some (.type "function")
  kC : keepIn K (.ref C) = true
  exC : subIn K (.ref C) (.type "BaseException") = some true
  veC : subIn K (.ref C) (.type "ValueError") = some true
  tyC : typeIn K (.ref C) = some (.type "type")
  hdC : hasDictIn K C = true
  mC : mroIn K C (.ref C) = some true
  opq : nsIn K cStatics "thirdparty.any" = some none
  sup : ks_superIn K C C "__init__" = some (some (.builtin "ValueError.__init__"))
  htop : (prog.main.scope.names.lookup ("super" : Str)).isSome = false
  mgS : mg "super" = none
  fn : ∃ (oc : Value) (od : Option Addr) (qual : Str) (doc pm : Value) (an : Option Addr) (cda cc : Addr) (ct : Value) (osl : Array (Option Value)) (p1 p2 a1 a2 a3 a4 a5 a6 b1 b2 b3 b4 : Pos),
    K.lookup fI = some ⟨oc, od, .func (sFn fld msg qual p1 p2 a1 a2 a3 a4 a5 a6 b1 b2 b3 b4 doc pm an cda cc ct), osl⟩ ∧ EvOk fld msg qual p1 p2 a1 a2 a3 a4 a5 a6 b1 b2 b3 b4 doc pm an cda cc ct ∧
    codeIn K (.ref cda) qual = true ∧
    (∃ cl cld csl, K.lookup cc = some ⟨cl, cld, .cell (some (.ref C)), csl⟩) ∧
    (∃ ccl cdd vs ccs file tf, K.lookup cda = some ⟨ccl, cdd, .fields vs, ccs⟩ ∧ vs[2]? = some (.str file tf) ∧ ((prog.main.file : Str) == file) = true)

theorem line1 (v : Value) : [v].length ≤ sizeLine := by
  rw [sizeLine_eq]
  exact (by decide : 1 ≤ 16777216)

/-- what __init__ leaves of a fresh exception at x -/
structure SupEnd (h h' : Heap) (x C dx : Addr) (fld : Str) (v : Value) : Prop where
  keep : ∀ b o, b ≠ x → h.get? b = some o → h'.get? b = some o
  obj : ∃ t1 : Addr, h'.get? x = some { cls := .ref C, dict := some dx, data := .fields #[.ref t1, .none, .none, .none, .bool false, .none] }
  dbig : h.objs.size ≤ dx
  dne : dx ≠ x
  ns : h'.Ns1 dx (fun y => if y = fld then some v else none)

section
variable {prog : Program} {w : World} {A : Around} {E : Value → Shared → Prop} {R : Result → Shared → Prop} {s : Shared} {K : Frag} {mg mb : Str → Option Value} {cn fld msg : Str} {C fI : Addr}

/-- the bound ValueError.__init__ called with one argument -/
theorem base_init {u x t0 : Addr} {a : Value} {Q : Value → Shared → Prop} (T : SupTxt K mg prog cn fld msg C fI) (X : K.In s.heap)
    (hu : s.heap.get? u = some (kxs_mw "ValueError.__init__" x)) (hx : s.heap.get? x = some (excO C t0))
    (hq : ∀ h' t1, (∀ b o, b ≠ x → s.heap.get? b = some o → h'.get? b = some o) → h'.get? x = some (excO C t1) → Q .none { s with heap := h' }) :
    wpAny (model prog w) A (call (.ref u) [a]) Q E s := by
  obtain ⟨nm, q, N, bs, bm, sn, sub, ab, col, dd, k0, k1, k2, k3, k5, hC, hbm⟩ := T.cls
  obtain ⟨hh, g, d, tk, os⟩ := s
  have hC' := X _ _ hC
  refine wpAny_call (codeAny_of_tree ?_)
  show wpAny (model prog w) A.in1 (callAny (.ref u) ⟨[a], []⟩) _ _ _
  unfold callAny
  refine wpAny_bind (wpAny_load hu ?_)
  have m1 : (Value.type "method-wrapper" == Value.type "method") = false := by decide
  have m2 : (Value.type "method-wrapper" == Value.type "builtin_function_or_method") = false := by decide
  have m3 : (Value.type "method-wrapper" == Value.type "method-wrapper") = true := by decide
  simp only [kxs_mw, m1, m2, m3, Bool.or_true, Bool.false_or, if_true]
  refine KFB.if_so (by decide) ?_
  refine wpAny_bind (check_bound_init PySem.F.excBase_ValueError.toExcCallFacts hC' hx rfl ?_)
  refine wpAny_bind (wpAny_pure (wpAny_pure ?_))
  refine ⟨plainId_quiet PySem.F.excBase_ValueError.init.plain _, codeAny_builtin PySem.F.excBase_ValueError.initEntry ?_⟩
  exact exc_init_tree (cls := .ref C) (t0 := t0) (dv := none) (c2 := .none) (c3 := .none) (b4 := .bool false) hx (line1 a) fun h' k e _ => hq h' _ k e

theorem sup_init (T : SupTxt K mg prog cn fld msg C fI) {x t0 : Addr} {v : Value} (X : K.In s.heap) (hlim : s.heap.NoLimit) (hG : s.heap.Ns mainGlobals mg) (hB : s.heap.Ns builtinsNs mb) (hmb : mb "super" = some (.type "super"))
    (hx : s.heap.get? x = some (excO C t0)) (hnx : K.lookup x = none) (hroom : A.depth < recursionLimit)
    (hq : ∀ h' tk dx, SupEnd s.heap h' x C dx fld v → R (.ok (.ret .none)) { s with heap := h', toks := tk }) :
    codeAny (model prog w) A (.call (.ref fI) ⟨[.ref x, v], []⟩) R s := by
  obtain ⟨oc, od, qual, doc, pm, an, cda, cc, ct, osl, p1, p2, a1, a2, a3, a4, a5, a6, b1, b2, b3, b4, ho, hevO, hcd, ⟨cl, cld, csl, hcell⟩, ⟨ccl, cdd, vs, ccs, file, tf, hcda, hvs, hfile⟩⟩ := T.fn
  obtain ⟨nm, q, N, bs, bm, sn, sub, ab, col, dd, k0, k1, k2, k3, k5, hC, hbm⟩ := T.cls
  have O := T.ok
  refine ks_codeAny_call_defAt (fd := fnX "__init__" qual (sArgs fld p1 p2) (sBody fld msg a1 a2 a3 a4 a5 a6 b1 b2 b3 b4) (sScope fld) [("__class__", cc)] .none .none doc pm an (.ref cda) ct) (binds := [("self", .ref x), (fld, v)])
    hroom (X _ _ ho) rfl hlim (codeRec_of X hcd) rfl (BindsTo.of_eq (O.bd _ _ _ _ _ _ _ _ _ _ _ _ _ _ _ _ _ _ _ _ _ _)) (by
      intro y hy
      simp only [sScope, List.mem_cons, List.not_mem_nil, or_false] at hy
      rcases hy with rfl | rfl | rfl | rfl <;> (intro z; cases z)) (by
      intro y hy
      simp only [List.mem_cons, List.not_mem_nil, or_false] at hy
      rcases hy with rfl | rfl
      · rfl
      · exact O.lf) (fun h₁ hns k => ?_) rfl rfl rfl
  have X₁ : K.In h₁ := X.keeps k
  have hx₁ := k _ _ hx
  have hvf : ([(("self" : Str), Value.ref x), (fld, v)].reverse).lookup fld = some v := by
    show List.lookup fld [(fld, v), (("self" : Str), Value.ref x)] = some v
    simp [List.lookup]
  have hvs' : ([(("self" : Str), Value.ref x), (fld, v)].reverse).lookup ("self" : Str) = some (.ref x) := by
    show List.lookup ("self" : Str) [(fld, v), (("self" : Str), Value.ref x)] = some (.ref x)
    have e : (("self" : Str) == fld) = false := by simpa using O.ns
    simp [List.lookup, e]
  have hcls : clsIn K C = some { name := nm, bases := bs, mro := .ref C :: bm, ns := N, qualname := q, hasDict := true, slotNames := sn, subclasses := sub, abstract := ab, collection := col, hasDel := false } := by unfold clsIn; rw [hC] <;> rfl
  have hsc : (sScope fld).names.lookup ("self" : Str) = some .local := rfl
  show wpAt (model prog w) _ _ (execs (sBody fld msg a1 a2 a3 a4 a5 a6 b1 b2 b3 b4) _) _ _ _
  obtain ⟨pl, hev⟩ := hevO s.heap.objs.size fI
  refine ks_wpAt_execs_cons (ks_wpAt_Expr_any (ks_wpAt_MethodCall (pl := pl) (he := hev) (ks_wpAt_super_base O.ls O.lc (by decide) rfl (X₁ _ _ ho) rfl rfl rfl (X₁ _ _ hcda) rfl hvs hfile T.htop ?_)))
  refine ks_loadName_global rfl O.ls (loadGlobal_builtin (hG.keeps k) T.mgS (hB.keeps k) hmb ⟨rfl, ?_⟩)
  refine wpAny_loadName_free rfl O.lc rfl ⟨_, X₁ _ _ hcell, rfl⟩ ?_
  refine wpAny_loadName_local rfl hsc hns hvs' ?_
  refine ks_wpAny_isType_cls (X₁ _ _ hC) rfl ⟨rfl, ?_⟩
  refine ks_wpAny_call_super (X₁ _ _ hC) rfl hx₁ rfl (fun c e => by cases e) (looks_mroIn X₁ T.mC) (fun h₂ e₂ k₂ => ?_)
  have X₂ : K.In h₂ := X₁.keeps k₂
  have hx₂ := k₂ _ _ hx₁
  have I₂ : InstAt h₂ x (excO C t0) C none := ⟨hx₂, rfl, rfl, trivial⟩
  have xC : x ≠ C := ks_ne X₂ I₂ hcls
  have hsup : alongIn K "__init__" ((_root_.List.dropWhile (· != Value.ref C) (.ref C :: bm)).drop 1) = some (some (.builtin "ValueError.__init__")) := by
    have z := T.sup
    unfold ks_superIn at z
    rw [hcls] at z
    exact z
  refine kxs_getMethod kxs_ValueError e₂ (looks_opaque X₂ T.opq) (l₀ := .ref C :: bm) (fun A Q E s k q => wpAny_bind ((looks_clsIn X₂ hcls) A _ E s k (wpAny_pure q))) rfl X₂ hsup (I₂.type.andThen (looks_subIn X₂ T.veC)) xC (by decide) ?_
  refine kxs_callWith (i := "ValueError.__init__") (x := x) rfl (evalArgs_plain ?_)
  refine spliced_cons (Constant_str (k := 0) (pos := a4) (spliced_nil ?_))
  have hu₃ : (h₂.push (kxs_mw "ValueError.__init__" x)).get? h₂.objs.size = some (kxs_mw "ValueError.__init__" x) := Heap.get?_push_at rfl rfl
  have k₃ : ∀ b o, h₂.get? b = some o → (h₂.push (kxs_mw "ValueError.__init__" x)).get? b = some o := fun b o e => Heap.get?_push_of_some _ e
  refine ⟨hu₃, base_init T (X₂.keeps k₃) hu₃ (k₃ _ _ hx₂) (fun h₄ t4 k₄ hx₄ => ?_)⟩
  have kx : ∀ b o, b ≠ x → s.heap.get? b = some o → h₄.get? b = some o := fun b o hb e => k₄ b o hb (k₃ _ _ (k₂ _ _ (k _ _ e)))
  have X₄ : K.In h₄ := fun a o e => kx a o (fun z => by rw [z, hnx] at e; cases e) (X a o e)
  have nL : s.heap.objs.size ≠ x := Nat.ne_of_gt (Heap.lt_size hx)
  have hns₄ : h₄.Ns s.heap.objs.size (fun y => ([(("self" : Str), Value.ref x), (fld, v)].reverse).lookup y) := by
    obtain ⟨oL, es, ep, hL, r⟩ := hns
    exact ⟨oL, es, ep, k₄ _ _ nL (k₃ _ _ (k₂ _ _ hL)), r⟩
  show wpAt (model prog w) _ _ (execs [.Assign [.Attribute (.Name "self" b1) fld b2] (.Name fld b3) b4] _) _ _ _
  refine wpAt_of_wpAny (wpAny_execs_cons (plainObj_wpAny_Assign_Attribute ?_))
  refine wpAny_Name (wpAny_loadName_local rfl O.lf hns₄ hvf ?_) O.nd
  refine wpAny_Name (wpAny_loadName_local rfl hsc hns₄ hvs' ?_) (by decide)
  refine set_plain X₄ (ox := excO C t4) (od := none) ⟨hx₄, rfl, rfl, trivial⟩ T.sa ?_
  refine exc_osa X₄ hx₄ hcls (show refsVE (.ref C :: bm) = true from hbm) rfl T.noF (fun h₅ tk₅ dx k₅ dn dne hx₅ hn₅ => ?_)
  have le1 : s.heap.objs.size < h₄.objs.size := by
    obtain ⟨oL, es, ep, hL, r⟩ := hns₄
    exact Heap.lt_size hL
  refine wpAny_execs_nil (hq h₅ tk₅ dx ⟨fun b o hb e => k₅ b o hb (kx b o hb e), ⟨t4, hx₅⟩, Nat.le_of_lt (Nat.lt_of_lt_of_le le1 dn), dne, hn₅⟩)
end

/-- C(v): the exception at e, its own dict at d -/
structure SupMade (h h' : Heap) (e C d : Addr) (fld : Str) (v : Value) : Prop where
  keep : ∀ b o, h.get? b = some o → h'.get? b = some o
  new : h.objs.size ≤ e
  obj : ∃ oe vs, h'.get? e = some oe ∧ oe.cls = .ref C ∧ oe.dict = some d ∧ oe.data = .fields vs ∧ vs[1]? = some .none ∧ vs[2]? = some .none
  dbig : h.objs.size ≤ d
  dne : d ≠ e
  ns : h'.Ns1 d (fun y => if y = fld then some v else none)
section
variable {prog : Program} {w : World} {A : Around} {E : Value → Shared → Prop} {R : Result → Shared → Prop} {s : Shared} {K : Frag} {mg mb : Str → Option Value} {cn fld msg : Str} {C fI : Addr}
theorem sup_made (T : SupTxt K mg prog cn fld msg C fI) {v : Value} (X : K.In s.heap) (hlim : s.heap.NoLimit) (hG : s.heap.Ns mainGlobals mg) (hB : s.heap.Ns builtinsNs mb) (hmb : mb "super" = some (.type "super")) (hroom : A.depth + 1 < recursionLimit)
    (hq : ∀ h' tk e d, SupMade s.heap h' e C d fld v → R (.ok (.ret (.ref e))) { s with heap := h', toks := tk }) :
    codeAny (model prog w) A (.call (.ref C) ⟨[v], []⟩) R s := by
  obtain ⟨nm, q, N, bs, bm, sn, sub, ab, col, dd, k0, k1, k2, k3, k5, hC, hbm⟩ := T.cls
  obtain ⟨hp, g, dr, tk, os⟩ := s
  have k : ∀ b o, hp.get? b = some o → ((hp.push (kdv_tup [v])).push (excO C hp.objs.size)).get? b = some o := fun b o e => Heap.get?_push_of_some _ (Heap.get?_push_of_some _ e)
  have hget : ((hp.push (kdv_tup [v])).push (excO C hp.objs.size)).get? (hp.objs.size + 1) = some (excO C hp.objs.size) := by heap_get
  have hnx : K.lookup (hp.objs.size + 1) = none := by
    cases e : K.lookup (hp.objs.size + 1) with
    | none => rfl
    | some o =>
      have z : hp.get? (hp.objs.size + 1) = some o := X _ _ e
      have z2 : hp.objs.size + 1 < hp.objs.size := Heap.lt_size z
      omega
  refine call_own PySem.F.excBase_ValueError (fun Y => refsVE_contains Y bm hbm) (X _ _ hC) (looks_findIn X T.iC) (fun self => bind_fn X self T.tF) (line1 v) ?_
  refine sup_init (s := ⟨(hp.push (kdv_tup [v])).push (excO C hp.objs.size), g, dr, tk, os⟩) T (X.keeps k) (hlim.keeps k) (hG.keeps k) (hB.keeps k) hmb hget hnx hroom fun h' tk' dx M => ?_
  obtain ⟨kp, ⟨t1, hob⟩, hd, hne, hns⟩ := M
  have sz : ((hp.push (kdv_tup [v])).push (excO C hp.objs.size)).objs.size = hp.objs.size + 1 + 1 := by simp only [Heap.size_push]
  have hd' : hp.objs.size + 2 ≤ dx := by
    have z : ((hp.push (kdv_tup [v])).push (excO C hp.objs.size)).objs.size ≤ dx := hd
    omega
  have old : ∀ b o, hp.get? b = some o → h'.get? b = some o := fun b o e => kp b o (Nat.ne_of_lt (Nat.lt_succ_of_lt (Heap.lt_size e))) (k b o e)
  exact ⟨rfl, hq h' tk' (hp.objs.size + 1) dx ⟨old, Nat.le_succ _, ⟨_, _, hob, rfl, rfl, rfl, rfl, rfl⟩, (by show hp.objs.size ≤ dx; omega), hne, hns⟩⟩
end
theorem fld_value : FldOk "value" := ⟨fun _ _ _ _ _ _ _ _ _ _ _ _ _ _ _ _ _ _ _ _ _ _ => rfl, rfl, rfl, rfl, by decide, by decide +kernel⟩
theorem ev_test (doc pm : Value) (an : Option Addr) (cda cc : Addr) (ct : Value) : EvOk "bounds" "abc" "q" ⟨6, 17, 6, 21⟩ ⟨6, 23, 6, 28⟩ ⟨7, 8, 7, 13⟩ ⟨7, 8, 7, 15⟩ ⟨7, 8, 7, 24⟩ ⟨7, 25, 7, 40⟩ ⟨7, 8, 7, 41⟩ ⟨7, 8, 7, 41⟩ ⟨8, 8, 8, 12⟩ ⟨8, 8, 8, 18⟩ ⟨8, 21, 8, 26⟩ ⟨8, 8, 8, 26⟩ doc pm an cda cc ct := fun _ _ => ⟨_, rfl⟩
end Sup
end PySem
namespace L2
open PySem PySem.Spec PyProof.Rows
theorem relO_one {fld : Str} {v : V} {v' : Value} (r : RelV v v') (f : Str) : RelO (List.lookup f [(fld, v)]) (if f = fld then some v' else none) := by
  by_cases hw : f = fld
  · have q : List.lookup f [(fld, v)] = some v := by simp [List.lookup, hw]
    rw [q, if_pos hw]
    exact r
  · have qw : (f == fld) = false := by simpa using hw
    have q2 : List.lookup f [(fld, v)] = none := by simp [List.lookup, qw]
    rw [q2, if_neg hw]
    trivial
section
variable {X : Cx} {C fI : Addr} {cn fld msg : Str}
/-- X(e), an own error whose __init__ is super().__init__('..'); self.f = f -/
def tMkSup (C : Addr) (fld : Str) (ta : TA) : St → Hp → XK → Prop := fun σ H Q => ta σ H fun vs H1 => ∃ v, vs = [v] ∧ ∀ d, H1 d = none → Q (.ref C) (some d) (upd H1 d (.xd [(fld, v)]))
theorem pmk_sup {a : Expr} {ta : TA} {p pos : Pos} {k : Nat} (T : PySem.Sup.SupTxt X.K X.mg X.prog cn fld msg C fI) (hr : Room k X.A) (ha : PA X [a] ta) (hg : Gl X cn := by rfl) (nd : (cn == ("__debug__" : Str)) = false := by decide)
    (he : starEach (a :: []) X.env = (false, eval a X.env) :: starEach [] X.env := by rfl) (hpl : (backTo pos (starEach [] X.env)).any (·.1) = false := by rfl) :
    PMk X (.Call (.Name cn p) [a] [] pos) (tMkSup C fld ta) := by
  intro pins s σ H Q I h
  refine wpAny_Call_Name_kw (ld_glob I hg T.gC ?_ nd)
  refine PySem.W.callWith_K (h₀ := X.base) I.ok.mod.kin T.kC (thn (ha.run pos pins s σ H _ I h) fun us s1 hh => ?_) he hpl
  obtain ⟨vs, H1, I1, r1, v, ev, q1⟩ := hh
  subst ev
  refine ⟨I1.kIn, ?_⟩
  cases r1 with
  | cons rv rn =>
    rename_i v' us'
    cases rn
    show wpAny _ _ (call (.ref C) [v']) _ _ _
    have hlim := I1.nolimit
    obtain ⟨mb, hb1, hb2⟩ := I1.mod.blt
    have hmb : mb "super" = some (.type "super") := (hb2 "super" (by decide)).trans (by decide +kernel)
    have hGl : s1.heap.Ns mainGlobals X.mg := I1.mod.glob.keeps I1.bk
    have hBl : s1.heap.Ns builtinsNs mb := hb1.keeps I1.bk
    obtain ⟨hp, g, dr, tk, os⟩ := s1
    refine wpAny_call (PySem.Sup.sup_made T I1.kIn hlim hGl hBl hmb (by have := hr.dp; omega) fun h' tk' e d M => ?_)
    show MkP X pins σ Q (.ref e) ⟨h', g, dr, tk', os⟩
    obtain ⟨kp, nw, ⟨oe, fv, hoe, hc, hd, hdat, h1, _⟩, dbig, dne, hns⟩ := M
    obtain ⟨G', g1, g2⟩ := restrict h' fun b => decide (b ≠ e)
    have gk : ∀ b, b ≠ e → G'.get? b = h'.get? b := fun b hb => g1 b (decide_eq_true hb)
    have ge : G'.get? e = none := g2 e (by simp)
    have old : ∀ b o, hp.get? b = some o → G'.get? b = some o := fun b o q => (gk b (Nat.ne_of_lt (Nat.lt_of_lt_of_le (Heap.lt_size q) nw))).trans (kp b o q)
    have ob : ObjOk X.prog X.w (upd H1 d (.xd [(fld, v)])) G' d (.xd [(fld, v)]) :=
      ⟨_, hns.at (fun o q => (gk d dne).trans q), fun f => relO_one rv f⟩
    have J : Inv X pins σ (upd H1 d (.xd [(fld, v)])) ⟨G', g, dr, tk', os⟩ := I1.laid (t' := tk') old dbig ob
    refine ⟨e, oe, fv, ⟨G', g, dr, tk', os⟩, _, .ref C, some d, rfl, J, fun b o q => ?_, ge, hoe, ⟨hc, hd⟩, hdat, h1, ?_, rfl, I1.bare, raises_own T.exC T.tyC, q1 d (I1.hok.fresh dbig)⟩
    · by_cases hb : b = e
      · have q' : G'.get? b = some o := q
        rw [hb, ge] at q'; cases q'
      · exact (gk b hb).symm.trans q
    · rw [upd_ne (Ne.symm dne)]
      exact I1.hok.fresh nw
/-- raise X(e) -/
def tRaiseSup (C : Addr) (fld : Str) (W : WX) (ta : TA) : TS := fun _ σ H => tMkSup C fld ta σ H fun cls d H' => W cls d σ H'
theorem ps_raiseSup {a : Expr} {ta : TA} {W : WX} {p pos pos2 : Pos} {k : Nat} (hc : X.calm = true) (T : PySem.Sup.SupTxt X.K X.mg X.prog cn fld msg C fI) (hr : Room k X.A) (tk : Takes X W) (ha : PA X [a] ta) (hg : Gl X cn := by rfl) (nd : (cn == ("__debug__" : Str)) = false := by decide)
    (he : starEach (a :: []) X.env = (false, eval a X.env) :: starEach [] X.env := by rfl) (hpl : (backTo pos (starEach [] X.env)).any (·.1) = false := by rfl) :
    PS X (.Raise (some (.Call (.Name cn p) [a] [] pos)) none pos2) (tRaiseSup C fld W ta) := ps_raise hc tk (pmk_sup T hr ha hg nd he hpl)
end
end L2
set_option maxRecDepth 100000
set_option maxHeartbeats 4000000
/-! errors whose context is None: raising them, several except clauses with a name, and what is called and walked while one is handled -/
namespace NX
open PySem PySem.Spec PyProof.Rows L2
section
variable {P : Program} {w : World} {K : PySem.W.Frag} {mg : Str → Option Value} {base : Heap}
theorem okX {x qual : Str} {st : Stmt} {f : Addr} {fd : FuncData} {N ps : List Str} {k : Nat} {sp : Sp} (F : Fun K x qual st f fd) (S : FnScope N ps (defScope st)) (len : ∀ vs H Q E, sp vs H Q E → vs.length = ps.length)
    (body : ∀ (cdv : Value) (A : Around) (outer : List Env) (s : Shared) (H : Hp) (vs : List V) (Q : VK) (E : XK), Room k (A.deeper (envOfC qual (defScope st) s.heap.objs.size f cdv)) → sp vs H Q E →
      ∃ t, PSs (cxOf (L2N.CX P w) P w K mg base N qual (defScope st) f cdv A outer s H E) (defBody st) t ∧ t { nx := fun _ H' => Q .non H', rt := Q } (L2.start N vs) H) : FnOk P w K mg base (L2N.CX P w) (k + 1) f fd ps sp := by
  obtain ⟨_, _, _, _, _, _, cdv, _, _, rfl, lk, hcd⟩ := F.ex
  exact fn_of lk hcd S len fun A outer s H vs Q E hr => body cdv A outer s H vs Q E hr
theorem takes0 {X : Cx} : L2N.Takes X (fun _ _ _ _ => False) := fun _ _ x => by
  obtain ⟨_, _, _, _, _, _, _, _, _, _, _, _, _, _, _, _, w⟩ := x
  exact w.elim
end
section
variable {X : Cx} {C fI : Addr} {cn fld msg : Str}
theorem pmk_sup {a : Expr} {ta : TA} {p pos : Pos} {k : Nat} (T : PySem.Sup.SupTxt X.K X.mg X.prog cn fld msg C fI) (hr : Room k X.A) (ha : PA X [a] ta) (hg : Gl X cn := by rfl) (nd : (cn == ("__debug__" : Str)) = false := by decide)
    (he : starEach (a :: []) X.env = (false, eval a X.env) :: starEach [] X.env := by rfl) (hpl : (backTo pos (starEach [] X.env)).any (·.1) = false := by rfl) :
    L2N.PMk X (.Call (.Name cn p) [a] [] pos) (tMkSup C fld ta) := by
  intro pins s σ H Q I h
  refine wpAny_Call_Name_kw (ld_glob I hg T.gC ?_ nd)
  refine PySem.W.callWith_K (h₀ := X.base) I.ok.mod.kin T.kC (thn (ha.run pos pins s σ H _ I h) fun us s1 hh => ?_) he hpl
  obtain ⟨vs, H1, I1, r1, v, ev, q1⟩ := hh
  subst ev
  refine ⟨I1.kIn, ?_⟩
  cases r1 with
  | cons rv rn =>
    rename_i v' us'
    cases rn
    show wpAny _ _ (call (.ref C) [v']) _ _ _
    have hlim := I1.nolimit
    obtain ⟨mb, hb1, hb2⟩ := I1.mod.blt
    have hmb : mb "super" = some (.type "super") := (hb2 "super" (by decide)).trans (by decide +kernel)
    have hGl : s1.heap.Ns mainGlobals X.mg := I1.mod.glob.keeps I1.bk
    have hBl : s1.heap.Ns builtinsNs mb := hb1.keeps I1.bk
    obtain ⟨hp, g, dr, tk, os⟩ := s1
    refine wpAny_call (PySem.Sup.sup_made T I1.kIn hlim hGl hBl hmb (by have := hr.dp; omega) fun h' tk' e d M => ?_)
    show L2N.MkP X pins σ Q (.ref e) ⟨h', g, dr, tk', os⟩
    obtain ⟨kp, nw, ⟨oe, fv, hoe, hc, hd, hdat, h1, h2⟩, dbig, dne, hns⟩ := M
    obtain ⟨G', g1, g2⟩ := restrict h' fun b => decide (b ≠ e)
    have gk : ∀ b, b ≠ e → G'.get? b = h'.get? b := fun b hb => g1 b (decide_eq_true hb)
    have ge : G'.get? e = none := g2 e (by simp)
    have old : ∀ b o, hp.get? b = some o → G'.get? b = some o := fun b o q => (gk b (Nat.ne_of_lt (Nat.lt_of_lt_of_le (Heap.lt_size q) nw))).trans (kp b o q)
    have ob : ObjOk X.prog X.w (upd H1 d (.xd [(fld, v)])) G' d (.xd [(fld, v)]) :=
      ⟨_, hns.at (fun o q => (gk d dne).trans q), fun f => relO_one rv f⟩
    have J : Inv X pins σ (upd H1 d (.xd [(fld, v)])) ⟨G', g, dr, tk', os⟩ := I1.laid (t' := tk') old dbig ob
    refine ⟨e, oe, fv, ⟨G', g, dr, tk', os⟩, _, .ref C, some d, rfl, J, fun b o q => ?_, ge, hoe, ⟨hc, hd, fun vs ev => ?_⟩, hdat, h1, ?_, rfl, I1.bare, raises_own T.exC T.tyC, q1 d (I1.hok.fresh dbig)⟩
    · by_cases hb : b = e
      · have q' : G'.get? b = some o := q
        rw [hb, ge] at q'; cases q'
      · exact (gk b hb).symm.trans q
    · rw [hdat] at ev
      cases ev
      exact h2
    · rw [upd_ne (Ne.symm dne)]
      exact I1.hok.fresh nw
theorem ps_raiseSup {a : Expr} {ta : TA} {W : WX} {p pos pos2 : Pos} {k : Nat} (hc : X.calm = true) (T : PySem.Sup.SupTxt X.K X.mg X.prog cn fld msg C fI) (hr : Room k X.A) (tk : L2N.Takes X W) (ha : PA X [a] ta) (hg : Gl X cn := by rfl) (nd : (cn == ("__debug__" : Str)) = false := by decide)
    (he : starEach (a :: []) X.env = (false, eval a X.env) :: starEach [] X.env := by rfl) (hpl : (backTo pos (starEach [] X.env)).any (·.1) = false := by rfl) :
    PS X (.Raise (some (.Call (.Name cn p) [a] [] pos)) none pos2) (tRaiseSup C fld W ta) := L2N.ps_raise hc tk (pmk_sup T hr ha hg nd he hpl)
end
/-- while the error that a suite names is handled -/
theorem hot {X : Cx} {a : Addr} {oe : Obj} {cls : Value} {d : Option Addr} {pn : List (Addr × Obj)} (hz : L2N.Zn cls d oe) (hf : ∃ vs, oe.data = .fields vs) : L2H.HotC (X.suite a ((a, oe) :: pn)) :=
  let ⟨vs, hv⟩ := hf
  ⟨(a, oe), ⟨rfl, vs, hv, hz.2.2 vs hv⟩, List.mem_cons_self⟩
end NX
namespace NX
open PySem PySem.Spec PyProof.Rows L2
abbrev Cl := Value × Option Nat × (Addr → Value → Option Addr → TS)
/-- what follows the suite, once the name has gone -/
def endA (i : Option Nat) (D : Ends) : Ends := match i with
  | none => D
  | some i => { nx := fun σ' H' => D.nx (σ'.set i none) H', rt := D.rt, bk := fun σ' H' => D.bk (σ'.set i none) H', ct := fun σ' H' => D.ct (σ'.set i none) H' }
def stA (i : Option Nat) (a : Addr) (σ : L2.St) : L2.St := match i with
  | none => σ
  | some i => σ.set i (some (.ref a))
/-- what the clauses wish of an exception of the body -/
def wManyA (K : PySem.W.Frag) (Wout : WX) (D : Ends) : List Cl → WX
  | [] => Wout
  | (c, i, ts) :: r => fun cls d σ H => ∃ b, PySem.W.exmOne K cls c = some b ∧ (b = true → ∀ a, H a = none → ts a cls d (endA i D) (stA i a σ) H) ∧ (b = false → wManyA K Wout D r cls d σ H)
inductive HdsA (X : Cx) : List ExceptHandler → List Cl → Prop
  | nil : HdsA X [] []
  | only {x : Str} {c : Value} {ts : Addr → Value → Option Addr → TS} {b₀ : Stmt} {suite : List Stmt} {np pos' : Pos} {hds : List ExceptHandler} {l : List Cl} (hc : Names X x c)
      (hsu : ∀ (a : Addr) (oe : Obj) (cls : Value) (d : Option Addr) (pn : List (Addr × Obj)), L2N.Zn cls d oe → (∃ vs, oe.data = .fields vs) → PSs (X.suite a ((a, oe) :: pn)) (b₀ :: suite) (ts a cls d)) (r : HdsA X hds l) :
      HdsA X (.ExceptHandler (some (.Name x np)) none (b₀ :: suite) pos' :: hds) ((c, none, ts) :: l)
  | as {x n : Str} {i : Nat} {c : Value} {ts : Addr → Value → Option Addr → TS} {b₀ : Stmt} {suite : List Stmt} {np pos' : Pos} {hds : List ExceptHandler} {l : List Cl} (hN : X.N.Nodup) (hi : X.N[i]? = some n) (hln : X.env.kindOf n = some .local) (hc : Names X x c)
      (hsu : ∀ (a : Addr) (oe : Obj) (cls : Value) (d : Option Addr) (pn : List (Addr × Obj)), L2N.Zn cls d oe → (∃ vs, oe.data = .fields vs) → PSs (X.suite a ((a, oe) :: pn)) (b₀ :: suite) (ts a cls d)) (r : HdsA X hds l) :
      HdsA X (.ExceptHandler (some (.Name x np)) (some n) (b₀ :: suite) pos' :: hds) ((c, some i, ts) :: l)
section
variable {X : Cx} {body : List Stmt} {h₀ : ExceptHandler} {hds : List ExceptHandler} {l : List Cl} {pos : Pos} {tb : WX → TS} {Wout : WX}
theorem ps_try_manyA (hs : X.stack = X.env :: X.outer) (hf : X.env.frame = some X.env.locals) (tk : L2N.Takes X Wout)
    (hb : ∀ (W : WX) (pn : List (Addr × Obj)) (xe : Value → Shared → Prop), L2N.Takes (X.tr pn xe) W → PassesOwn (model X.prog X.w) X.A X.env xe → PSs (X.tr pn xe) body (tb W))
    (hh : HdsA X (h₀ :: hds) l) : PS X (.Try body (h₀ :: hds) [] [] pos) (fun D σ H => tb (wManyA X.K Wout D l) D σ H) := by
  refine ⟨fun pins s σ H D I h => ?_⟩
  have ok := I.ok
  have hfr : X.A.frames = some (X.env :: X.outer) := by rw [ok.frames, hs]
  refine wpAny_Try_except ?_
  refine wpAny_mono ((hb (wManyA X.K Wout D l) (X.pn ++ pins) (fun e s₁ => wpAny (model X.prog X.w) X.A (noteFrame e X.env) (fun _ s₂ => wpAny (model X.prog X.w) X.A (setFlight e none) (fun _ s₃ =>
    wpAny (model X.prog X.w) X.A (handleBy e X.env (h₀ :: hds)) (SP X pins D) X.xe s₃) X.xe s₂) X.xe s₁) (fun u s' xx => ?_) PassesOwn.looking).run [] s σ H D (I.toTry _) h) (fun f s1 hsp => ?_) (fun e s1 he => he)
  · -- the catch
    obtain ⟨a, B, sI, pins', σ', H', cls, d, rfl, J', nb, up, sky, na, os, ag, w⟩ := xx
    have J : Inv X pins σ' H' sI := J'.ofTry ok
    have sky' : Sky B (X.env :: X.outer) a (L2N.Zn cls d) X.env.locals s'.heap := by rw [← hs]; exact sky
    show wpAny (model X.prog X.w) X.A (noteFrame (.ref a) X.env) _ _ _
    refine L2N.Sky.land L2N.Zn.steady hfr hf sky' fun h3 fl3 up3 => ?_
    have J3 : Inv X pins σ' H' { s' with heap := h3 } := J.landed nb fl3.1 (up.trans up3) os ag
    obtain ⟨oe3, vs3, he3, hz3, hd3⟩ := fl3.there
    have notFr : ∀ {h : Heap} {o : Obj} {vs : Array Value}, h.FunFrames B (X.env :: X.outer) → h.get? a = some o → o.data = .fields vs → a ∉ frs (X.env :: X.outer) := fun {h o vs} ff e dd hm => by
      obtain ⟨_, o', e', hnf⟩ := ff.mem hm
      rw [e] at e'; cases e'
      exact hnf _ dd
    have nfr := notFr fl3.2.2.1 he3 hd3
    have nL : a ≠ X.env.locals := fun z => nfr (List.mem_filterMap.mpr ⟨X.env, List.mem_cons_self, by rw [hf, z]⟩)
    have nF : a ∉ X.fs := fun hm => by
      obtain ⟨e, he, q⟩ := List.mem_filterMap.mp hm
      exact nfr (List.mem_filterMap.mpr ⟨e, List.mem_cons_of_mem _ he, q⟩)
    have S3 := J3.suite he3 hd3 na nL nF
    have go : ∀ {hds' : List ExceptHandler} {l' : List Cl}, HdsA X hds' l' → wManyA X.K Wout D l' cls d σ' H' →
        wpAny (model X.prog X.w) X.A (handleBy (.ref a) X.env hds') (SP X pins D) X.xe { s' with heap := h3 } := by
      intro hds' l' hk
      induction hk with
      | nil =>
        intro w
        refine wpAny_handleBy_nil ?_
        obtain ⟨k1, k2, k3, oe, vs, T, oT, ts', he, hz, hd, h1, hr⟩ := id fl3
        unfold PySem.passOn
        refine wpAny_bind (wpAny_field he hd h1 ?_)
        rw [if_neg (show ¬ ((Value.ref T == Value.none) = true) from by simp)]
        have fin : wpAny (model X.prog X.w) X.A (setFlight (.ref a) X.env.frame) (fun _ s4 => wpAny (model X.prog X.w) X.A (throw (.ref a) : Sem Flow) (SP X pins D) X.xe s4) X.xe { s' with heap := h3 } := by
          rw [hf]
          refine HandSPX.setFlight_upZ fl3 fun h4 hh4 up4 => wpAny_throw (tk _ _ ?_)
          exact ⟨a, B, sI, pins, σ', H', cls, d, rfl, J, nb, (up.trans up3).trans up4, .inr (.inr (by rw [hs]; exact hh4)), na, os, ag, w⟩
        first
          | exact wpAny_bind (wpAny_pure (wpAny_bind fin))
          | exact wpAny_bind fin
      | @only x c ts b₀ suite np pos' hds2 l2 hc hsu r ih =>
        intro w
        obtain ⟨b, hb1, hyes, hno⟩ := w
        refine wpAny_handleBy_cons (codeAny_handlers_test ?_) (by intro q; cases q)
        have LT : PySem.W.Looks (model X.prog X.w) h3 (typeOf (.ref a)) cls := fun A Q E s k q => wpAny_typeOf_ref (k _ _ he3) (by rw [hz3.1]; exact q)
        have LM := PySem.W.exm_one (M := model X.prog X.w) (J3.kIn) LT hb1
        have test : ∀ {Q : Value → Shared → Prop} {E : Value → Shared → Prop}, Q c { s' with heap := h3 } → wpAny (model X.prog X.w) (X.A.mark (some (.ref a))) (eval (.Name x np) X.env) Q E { s' with heap := h3 } := fun {Q E} q => by
          obtain ⟨hg, hdbg, hm | ⟨hm, hv, hnn⟩⟩ := hc
          · exact ld_glob (X := X.suite a ((a, oe3) :: (X.pn ++ pins))) S3 hg hm q hdbg
          · exact ld_blt (X := X.suite a ((a, oe3) :: (X.pn ++ pins))) S3 hg hm hv q hnn hdbg
        refine test (LM.here ?_)
        cases b with
        | true =>
          refine codeAny_handlers_suite ?_
          refine HandSPX.lands_againZ fl3 fun h4 fl4 up4 => ?_
          have J4 : Inv X pins σ' H' { s' with heap := h4 } := J.landed nb fl4.1 ((up.trans up3).trans up4) os ag
          obtain ⟨oe4, vs4, he4, hz4, hd4⟩ := fl4.there
          have S4 := J4.suite he4 hd4 na nL nF
          refine wpAny_mono ((hsu a oe4 cls d (X.pn ++ pins) hz4 ⟨_, hd4⟩).run [] _ _ H' _ S4 (hyes rfl a na)) (fun f s6 hsp => ?_) (fun _ _ z => False.elim z)
          cases f with
          | next =>
            obtain ⟨σ6, H6, S6, q6⟩ := hsp
            exact ⟨_, _, S6.unsuite ok, q6⟩
          | brk =>
            obtain ⟨σ6, H6, S6, q6⟩ := hsp
            exact ⟨_, _, S6.unsuite ok, q6⟩
          | cont =>
            obtain ⟨σ6, H6, S6, q6⟩ := hsp
            exact ⟨_, _, S6.unsuite ok, q6⟩
          | ret u =>
            obtain ⟨v6, σ6, H6, S6, r6, q6⟩ := hsp
            exact ⟨_, _, _, S6.unsuite ok, r6, q6⟩
        | false =>
          show wpAny _ X.A (handleBy (.ref a) X.env hds2) _ _ _
          exact ih (hno rfl)
      | @as x n i c ts b₀ suite np pos' hds2 l2 hN hi hln hc hsu r ih =>
        intro w
        obtain ⟨b, hb1, hyes, hno⟩ := w
        have hloc : Loc X.env.scope n := .inl hln
        refine wpAny_handleBy_cons (codeAny_handlers_test ?_) (by intro q; cases q)
        have LT : PySem.W.Looks (model X.prog X.w) h3 (typeOf (.ref a)) cls := fun A Q E s k q => wpAny_typeOf_ref (k _ _ he3) (by rw [hz3.1]; exact q)
        have LM := PySem.W.exm_one (M := model X.prog X.w) (J3.kIn) LT hb1
        have test : ∀ {Q : Value → Shared → Prop} {E : Value → Shared → Prop}, Q c { s' with heap := h3 } → wpAny (model X.prog X.w) (X.A.mark (some (.ref a))) (eval (.Name x np) X.env) Q E { s' with heap := h3 } := fun {Q E} q => by
          obtain ⟨hg, hdbg, hm | ⟨hm, hv, hnn⟩⟩ := hc
          · exact ld_glob (X := X.suite a ((a, oe3) :: (X.pn ++ pins))) S3 hg hm q hdbg
          · exact ld_blt (X := X.suite a ((a, oe3) :: (X.pn ++ pins))) S3 hg hm hv q hnn hdbg
        refine test (LM.here ?_)
        cases b with
        | true =>
          refine codeAny_handlers_suite_as ?_
          refine HandSPX.lands_againZ fl3 fun h4 fl4 up4 => ?_
          have J4 : Inv X pins σ' H' { s' with heap := h4 } := J.landed nb fl4.1 ((up.trans up3).trans up4) os ag
          obtain ⟨oe4, vs4, he4, hz4, hd4⟩ := fl4.there
          have S4 := J4.suite he4 hd4 na nL nF
          refine store_ok (X := X.suite a ((a, oe4) :: (X.pn ++ pins))) (v := .ref a) S4 hN hi hloc rfl (fun s5 S5 => ?_) (.inr hln)
          refine wpAny_mono ((hsu a oe4 cls d (X.pn ++ pins) hz4 ⟨_, hd4⟩).run [] s5 _ H' _ S5 (hyes rfl a na)) (fun f s6 hsp => ?_) (fun _ _ z => False.elim z)
          have end_ : ∀ {σ6 : L2.St} {H6 : Hp} {Q : Shared → Prop}, Inv (X.suite a ((a, oe4) :: (X.pn ++ pins))) [] σ6 H6 s6 → (∀ s7, Inv X pins (σ6.set i none) H6 s7 → Q s7) →
              wpAny (model X.prog X.w) X.A (do bindName X.env n .none; unbindBehindTheSuite X.env n pos') (fun _ s7 => Q s7) X.xe s6 := fun {σ6 H6 Q} S6 hq => gone_ok (S6.unsuite ok) hN hi hln hq
          cases f with
          | next =>
            obtain ⟨σ6, H6, S6, q6⟩ := hsp
            exact end_ S6 fun s7 J7 => ⟨_, _, J7, q6⟩
          | brk =>
            obtain ⟨σ6, H6, S6, q6⟩ := hsp
            exact end_ S6 fun s7 J7 => ⟨_, _, J7, q6⟩
          | cont =>
            obtain ⟨σ6, H6, S6, q6⟩ := hsp
            exact end_ S6 fun s7 J7 => ⟨_, _, J7, q6⟩
          | ret u =>
            obtain ⟨v6, σ6, H6, S6, r6, q6⟩ := hsp
            exact end_ S6 fun s7 J7 => ⟨_, _, _, J7, r6, q6⟩
        | false =>
          show wpAny _ X.A (handleBy (.ref a) X.env hds2) _ _ _
          exact ih (hno rfl)
    exact go hh w
  · cases f with
    | next =>
      obtain ⟨σ', H', J', q⟩ := hsp
      exact wpAny_execs_nil ⟨σ', H', J'.ofTry ok, q⟩
    | brk =>
      obtain ⟨σ', H', J', q⟩ := hsp
      exact ⟨σ', H', J'.ofTry ok, q⟩
    | cont =>
      obtain ⟨σ', H', J', q⟩ := hsp
      exact ⟨σ', H', J'.ofTry ok, q⟩
    | ret u =>
      obtain ⟨v, σ', H', J', r, q⟩ := hsp
      exact ⟨v, σ', H', J'.ofTry ok, r, q⟩
end
end NX
set_option maxRecDepth 100000
set_option maxHeartbeats 4000000
/-! while an error is handled: defs that are handed it and raise nothing, list comprehensions over range -/
namespace NX
open PySem PySem.Spec PyProof.Rows L2 L2H
section
variable {P : Program} {w : World} {K : PySem.W.Frag} {mg : Str → Option Value} {base : Heap}
/-- what a def promises that is called while p's object is the error that is handled; p in the promise -/
structure FnP (P : Program) (w : World) (K : PySem.W.Frag) (mg : Str → Option Value) (base : Heap) (k : Nat) (f : Addr) (fd : FuncData) (ps : List Str) (sp : Addr × Obj → Sp) : Prop where
  len : ∀ p vs H Q E, sp p vs H Q E → vs.length = ps.length
  run : ∀ (A : Around) (outer : List Env) (s : Shared) (H : Hp) (args : Args) (us : List Value) (vs : List V) (Q : VK) (p : Addr × Obj), RoomH k A → Hot1 A p → PinOk outer H s p → Env0 P w K mg base A outer s H → BindsTo s fd args (ps.zip us) → Vals vs us →
    sp p vs H Q (fun _ _ _ => False) → codeAny (model P w) A (.call (.ref f) args) (CR CX0 outer P w H s Q fun _ _ _ => False) s
/-- such a def by its body -/
theorem okP {x qual : Str} {st : Stmt} {f : Addr} {fd : FuncData} {N ps : List Str} {k : Nat} {sp : Addr × Obj → Sp} (F : Fun K x qual st f fd) (S : FnScope N ps (defScope st)) (len : ∀ p vs H Q E, sp p vs H Q E → vs.length = ps.length)
    (body : ∀ (cdv : Value) (A : Around) (outer : List Env) (s : Shared) (H : Hp) (vs : List V) (Q : VK) (p : Addr × Obj), Hot1 (A.deeper (envOfC qual (defScope st) s.heap.objs.size f cdv)) p → RoomH k (A.deeper (envOfC qual (defScope st) s.heap.objs.size f cdv)) → sp p vs H Q (fun _ _ _ => False) →
      ∃ t, PSs (cxH CX0 P w K mg base N qual (defScope st) f cdv A outer s H (fun _ _ _ => False) p) (defBody st) t ∧ t { nx := fun _ H' => Q .non H', rt := Q } (L2.start N vs) H) : FnP P w K mg base (k + 1) f fd ps sp := by
  obtain ⟨oc, od, kV, doc, pm, an, cdv, ct, osl, rfl, lk, hcd⟩ := F.ex
  refine ⟨len, fun A outer s H args us vs Q p room hp pin e0 bind r h => ?_⟩
  have lenV := len _ _ _ _ _ h
  have inS : K.In s.heap := e0.mod.kin.keeps fun b o e => (e0.bs b o e).1
  have noLim : s.heap.NoLimit := e0.mod.nolimit.keeps fun b o e => (e0.bs b o e).1
  have kinds : ∀ y ∈ ps.zip us, (defScope st).names.lookup y.1 = some .local ∨ ((defScope st).names.lookup y.1 = some .cell ∧ ((cellsFrom (s.heap.objs.size + 1) (defScope st).names []).lookup y.1).isSome = true) := by
    rintro ⟨n, v⟩ hy
    cases S.par n (List.of_mem_zip hy).1 with
    | inl q => exact .inl q
    | inr q => exact .inr ⟨q, PySem.W.cellsFrom_some _ _ _ (.inl q)⟩
  refine codeAny_call_function room.depth (inS _ _ lk) rfl S.co S.gen rfl (PySem.W.codeRec_of inS hcd) (bind _ _ _ _ (wpAny_newFunctionEnv_cells S.kind kinds fun env he s1 y => ?_))
  subst he
  refine ⟨noLim.keeps y.toInCall.keep, codeAny_func ?_⟩
  obtain ⟨t, ht, hq⟩ := body cdv A outer s H vs Q p ⟨hp.1, hp.2⟩ (room.deeper _) h
  have I0 := inv_startH (CX := CX0) (E := fun _ _ _ => False) S pin e0 lenV r y
  refine wpAny_mono (ht.run [] s1 (L2.start N vs) H _ I0 hq) (fun fl s' hs => ?_) fun e s' hs => hs
  cases fl with
  | ret u => obtain ⟨v, σ', H', J, rv, q⟩ := hs; exact ⟨v, H', J.os, J.bare, J.base, J.hok, rv, q⟩
  | next => obtain ⟨σ', H', J, q⟩ := hs; exact ⟨V.non, H', J.os, J.bare, J.base, J.hok, rfl, q⟩
  | brk => obtain ⟨_, _, _, q⟩ := hs; exact q.elim
  | cont => obtain ⟨_, _, _, q⟩ := hs; exact q.elim
end
/-- the call, within the suite of the error at a; its object is not named -/
def tCallZ (sp : Addr × Obj → Sp) (a : Addr) (cls : Value) (d : Option Addr) (t : TA) : TE := fun σ H Q => t σ H fun vs H1 => ∀ oe : Obj, L2N.Zn cls d oe → (∃ fs, oe.data = .fields fs) → sp (a, oe) vs H1 Q fun _ _ _ => False
theorem pe_callZ {X : Cx} {k : Nat} {f : Addr} {fd : FuncData} {ps : List Str} {sp : Addr × Obj → Sp} {x : Str} {q pos : Pos} {e : Expr} {es : List Expr} {t : TA} {a : Addr} {oe : Obj} {cls : Value} {d : Option Addr} {pn : List (Addr × Obj)}
    (hz : L2N.Zn cls d oe) (hf : ∃ fs, oe.data = .fields fs) (F : FnP X.prog X.w X.K X.mg X.base k f fd ps sp) (hr : RoomH k X.A) (hg : Gl (X.suite a ((a, oe) :: pn)) x) (hm : X.mg x = some (.ref f)) (hk : PySem.W.keepIn X.K (.ref f) = true) (hb : Binds X.K fd ps [])
    (ha : PA (X.suite a ((a, oe) :: pn)) (e :: es) t) (hdb : (x == ("__debug__" : Str)) = false := by decide) (he : starEach (e :: es) X.env = (false, eval e X.env) :: starEach es X.env := by rfl) (hpl : (backTo pos (starEach es X.env)).any (·.1) = false := by rfl) :
    PE (X.suite a ((a, oe) :: pn)) (.Call (.Name x q) (e :: es) [] pos) (tCallZ sp a cls d t) := by
  refine ⟨fun pins s σ H Q I h => wpAny_Call_Name_kw (ld_glob I hg hm ?_ hdb)⟩
  refine PySem.W.callWith_K (h₀ := X.base) I.ok.mod.kin hk (thn (ha.run pos pins s σ H _ I h) fun us s1 ⟨vs, H1, I1, r, w0⟩ => ⟨I1.kIn, ?_⟩) he hpl
  have w1 := w0 oe hz hf
  have lenU : us.length = ps.length := by rw [← r.length]; exact F.len _ _ _ _ _ w1
  have bd := hb s1 us I1.kIn (by rw [List.append_nil]; exact lenU)
  rw [List.append_nil] at bd
  have P1 := I1.pin (a, oe) (List.mem_append_left _ List.mem_cons_self)
  have pin : PinOk X.stack H1 s1 (a, oe) := ⟨P1.1, P1.2.1, fun z => (List.mem_cons.mp (I1.stkSub a z)).elim P1.2.2.1 P1.2.2.2.1, P1.2.2.2.2⟩
  have hp : Hot1 (X.suite a ((a, oe) :: pn)).A (a, oe) := let ⟨fs, e⟩ := hf; ⟨rfl, fs, e, hz.2.2 fs e⟩
  refine wpAny_call (codeAny_mono (F.run (X.suite a ((a, oe) :: pn)).A X.stack s1 H1 ⟨us, []⟩ us vs Q (a, oe) ⟨hr.dp, hr.un⟩ hp pin I1.env0 bd r w1) fun r s' hq => ?_)
  cases r with
  | error e => exact hq.elim
  | ok fl =>
    cases fl with
    | ret u => exact I1.after hq
    | next => exact hq.elim
    | brk => exact hq.elim
    | cont => exact hq.elim
/-- isinstance(e, c), e the error that p is -/
def rIsP (K : PySem.W.Frag) (p : Addr × Obj) : List V → Hp → VK → Prop := fun xs H Q => ∃ (D dd : Addr) (fs : List (Str × V)) (c : V) (cv : Value) (b : Bool),
  Zc (.ref D) (some dd) p.2 ∧ (∃ vs, p.2.data = .fields vs) ∧ H dd = some (.xd fs) ∧ ExcC K D ∧ xs = [.ref p.1, c] ∧ ClsV c cv ∧ PySem.W.kitOne K (.ref D) cv = some b ∧ Q (.bl b) H
theorem call_isP {X : Cx} {p : Addr × Obj} (hp : p ∈ X.pn) : CallR X (.builtin "isinstance") (rIsP X.K p) := by
  intro pins s σ H xs us Q I r h
  obtain ⟨D, dd, fs, c, cv, b, hz, ⟨vs, hv⟩, hdd, C, rfl, hcv, e, q⟩ := h
  obtain ⟨u1, u2, rfl, r1, r2⟩ := vals2 r
  obtain rfl := hcv.eq r2
  cases (show u1 = Value.ref p.1 from r1)
  obtain ⟨got, _⟩ := I.pin p (List.mem_append_left _ hp)
  have hx : ObjOk X.prog X.w H s.heap dd (.xd fs) := I.hok dd _ hdd
  obtain ⟨mA, hns, _⟩ := hx
  obtain ⟨od, ho, _⟩ := lookIn_ns hns
  have J : PySem.W.InstAt s.heap p.1 p.2 D (some od) := ⟨got, hz.1, by unfold PySem.W.notCls; rw [hv] <;> rfl, by rw [hz.2]; exact ho⟩
  have isC : (PySem.W.clsIn X.K D).isSome = true := by
    obtain ⟨cd, hc, _⟩ := PySem.W.any_some C.hd
    rw [hc]
    rfl
  exact PySem.W.kia_one (PySem.W.kitx_exc isC C.hg C.hk C.hs C.ha C.hn C.ht C.hm) I.kIn J e (fun z => nomatch z) fun tk => ⟨.bl b, H, I.kept (t' := tk) fun _ _ z => z, rfl, q⟩

/-! ### a list comprehension while an error is handled -/
/-- a comprehension's block that bears the handled error -/
abbrev blkH (X : Cx) (p : Addr × Obj) (s : Shared) (H : Hp) (scope : Scope) (ce : Env) (fp : List Addr) : Cx := { X.blk s H scope ce fp with pn := [p] }
section
variable {X : Cx} {p : Addr × Obj}
theorem blkH_start {pins : List (Addr × Obj)} {σ : L2.St} {H : Hp} {s : Shared} {scope : Scope} {own : List (Str × Nat)} {fp : List Addr} (I : Inv X pins σ H s) (hp : p ∈ X.pn) (ok : BlkOk X.N X.env.scope scope own) (hN : X.N.Nodup) (hfp : ∀ b ∈ fp, FpOk X pins H b ∧ b < s.heap.objs.size) :
    Inv (blkH X p s H scope (compEnvC scope (cellsFrom (s.heap.objs.size + 1) scope.names (cloFrom X.env.cells scope.names [])) s.heap.objs.size X.env) fp) [] (wipe σ (own.map (·.2))) H { s with heap := pushCells (s.heap.push { cls := .type "dict", data := .dict #[] }) scope.names } := by
  have J := block_start I ok hN hfp
  have o := J.ok
  obtain ⟨g1, g2, g3, g4, g5⟩ := I.pin p (List.mem_append_left _ hp)
  refine ⟨⟨o.mod, o.kind, o.glob, o.blt, o.above, o.inj, o.has, o.cab, o.hd, o.frames, o.stk, o.exf, o.bs, o.bsz, o.noex, o.exfs, o.funs, o.frf⟩, J.os, J.bare, J.base, J.loc, J.cell, J.free, J.freeC, fun q hq => ?_, J.hok, J.len⟩
  obtain rfl : q = p := by simpa using hq
  refine ⟨pushCells_keeps _ _ _ _ (Heap.get?_push_of_some _ g1), g2, Nat.ne_of_lt (Heap.lt_size g1), fun z => ?_, g5⟩
  exact (List.mem_cons.mp (I.stkSub q.1 z)).elim g3 g4
theorem pe_lcH {elt tg iter : Expr} {ifs : List Expr} {scope : Scope} {own : List (Str × Nat)} {pos : Pos} {wi : TI} {g : TG} {tt : TT} {te : TE} (hp : p ∈ X.pn) (hot : Hot1 X.A p) (hN : X.N.Nodup) (hi : PIH X tg iter wi) (ok : BlkOk X.N X.env.scope scope own)
    (hg : ∀ (s : Shared) (H : Hp) (C : Addr) (cl : List (Str × Addr)) (fp : List Addr), PG (blkH X p s H scope (compEnvC scope cl C X.env) fp) tg g) (ht : ∀ (s : Shared) (H : Hp) (C : Addr) (cl : List (Str × Addr)) (fp : List Addr), PTs (blkH X p s H scope (compEnvC scope cl C X.env) fp) ifs tt)
    (he : ∀ (s : Shared) (H : Hp) (C : Addr) (cl : List (Str × Addr)) (fp : List Addr), PE (blkH X p s H scope (compEnvC scope cl C X.env) fp) elt te) (hs : ∀ x, foldedSetIterable iter X.env x = pure x := by intro _; rfl) :
    PE X (.ListComp elt [⟨tg, iter, ifs, 0⟩] scope pos) (tLc wi g tt te (own.map (·.2))) := by
  refine ⟨fun pins s σ H Q I h => ?_⟩
  rw [eval_ListComp]
  have hfree : ∀ y ∈ scope.names, y.2 = .free → ∃ c, X.env.cells.lookup y.1 = some c := fun y hy e => (ok.free y hy e).elim (fun k => I.ok.has _ (.inl k)) fun k => I.ok.has _ (.inr k)
  refine wpAny_comprehension_free (use := none) rfl hs (closure_ok hfree) ok.kind (fun y hy e => by rw [ok.uniq y hy, e])
    (thn (hi.run pins s σ H _ I h) fun xv s1 hx => thn hx fun itv s2 h2 => ?_)
  obtain ⟨it, fp, tn, J, H2, rfl, I2, T, st2, f2, q⟩ := h2
  refine wpAny_newObj_type (newEnv_comp ?_) (by show 0 ≤ sizeLine; decide)
  generalize hD : s2.heap.objs.size = D
  have hDn : H2 D = none := I2.hok.fresh (Nat.le_of_eq hD)
  obtain ⟨W, ⟨m0, w0⟩, turn⟩ := q D hDn
  generalize hs3 : ({ s2 with heap := s2.heap.push { cls := .type "list", data := .seq ([] : List Value).toArray } } : Shared) = s3
  have h3 : s3.heap = s2.heap.push { cls := .type "list", data := .seq ([] : List Value).toArray } := by rw [← hs3]
  have I3 : Inv X pins σ (upd H2 D (.lst [])) s3 := by
    rw [← hs3]
    exact I2.laid (t' := s2.toks) (fun b o e => Heap.get?_push_of_some _ e) (Nat.le_of_eq hD) ⟨Nat.zero_le _, [], 0, .nil, hD ▸ Heap.get?_push_size _ rfl⟩
  have f3 : ∀ b ∈ fp, FpOk X pins (upd H2 D (.lst [])) b ∧ b < s3.heap.objs.size := fun b hb => by
    obtain ⟨o, e, _⟩ := T.obj _ _ st2 b hb
    have hlt := Heap.lt_size e
    refine ⟨⟨?_, (f2 b hb).2⟩, by rw [h3, Heap.size_push]; exact Nat.lt_succ_of_lt hlt⟩
    rw [upd_ne (hD ▸ Nat.ne_of_lt hlt)]
    exact (f2 b hb).1
  have I4 := blkH_start (p := p) I3 hp ok hN f3
  have pg := hg s3 (upd H2 D (.lst [])) s3.heap.objs.size (cellsFrom (s3.heap.objs.size + 1) scope.names (cloFrom X.env.cells scope.names [])) fp
  have pt := ht s3 (upd H2 D (.lst [])) s3.heap.objs.size (cellsFrom (s3.heap.objs.size + 1) scope.names (cloFrom X.env.cells scope.names [])) fp
  have pe := he s3 (upd H2 D (.lst [])) s3.heap.objs.size (cellsFrom (s3.heap.objs.size + 1) scope.names (cloFrom X.env.cells scope.names [])) fp
  show codeAny _ _ (.compStart (.ListComp elt [⟨tg, iter, ifs, 0⟩] scope pos) 0 (.ref it) (.ref D) (compEnvC scope (cellsFrom (s3.heap.objs.size + 1) scope.names (cloFrom X.env.cells scope.names [])) s3.heap.objs.size X.env)) (compPost (model X.prog X.w) X.A X.xe none (EP X pins σ Q) (.ref D) s3.heap.objs.size) { s3 with heap := pushCells (s3.heap.push { cls := .type "dict", data := .dict #[] }) scope.names }
  generalize hce : compEnvC scope (cellsFrom (s3.heap.objs.size + 1) scope.names (cloFrom X.env.cells scope.names [])) s3.heap.objs.size X.env = ce at I4 pg pt pe ⊢
  have cL : ce.locals = s3.heap.objs.size := by subst hce; rfl
  have nfp : ∀ b ∈ fp, (upd H2 D (.lst [])) b = none := fun b hb => (f3 b hb).1.1
  generalize upd H2 D (.lst []) = H3 at *
  have keepP : ∀ b o, s2.heap.get? b = some o → (pushCells (s3.heap.push { cls := .type "dict", data := .dict #[] }) scope.names).get? b = some o := fun b o e => pushCells_keeps _ _ _ _ (Heap.get?_push_of_some _ (by rw [h3]; exact Heap.get?_push_of_some _ e))
  generalize hs4 : ({ s3 with heap := pushCells (s3.heap.push { cls := .type "dict", data := .dict #[] }) scope.names } : Shared) = s4 at I4 ⊢
  have st4 : tn 0 s4.heap := T.keep _ _ _ st2 fun b _ o e => by rw [← hs4]; exact keepP b o e
  have hotB : HotC (blkH X p s3 H3 scope ce fp) := ⟨p, hot, List.mem_singleton.mpr rfl⟩
  have far : ∀ b ∈ fp, p.1 ≠ b := fun b hb => (f3 b hb).1.2.2.2.2.2 p (List.mem_append_left _ hp)
  have stat : ∀ {σ' : L2.St} {H' : Hp} {s' : Shared}, Inv (blkH X p s3 H3 scope ce fp) [] σ' H' s' → (∀ b ∈ fp, H' b = none) → ∀ b ∈ fp, FpOk (blkH X p s3 H3 scope ce fp) [] H' b := fun {σ' H' s'} I' hn b hb =>
    ⟨hn b hb, (I'.ok.exf b hb).1, I'.ok.exfs b hb, .inl hb, fun x c e => (I'.ok.exf b hb).2 x c e, fun q hq => by
      obtain rfl : q = p := by simpa using hq
      exact far b hb⟩
  refine codeAny_compStart_list ?_ (T.self X.A 0 _ _ _ st4 ?_)
  all_goals
    refine compLoop_any (fun n s' => ∃ i H', Inv (blkH X p s3 H3 scope ce fp) [] (wipe σ (own.map (·.2))) H' s' ∧ tn i s'.heap ∧ (∀ b ∈ fp, H' b = none) ∧ W i n H') ?_ m0 ⟨0, H3, I4, st4, nfp, w0⟩
    rintro n s5 ⟨i, H5, I5, st5, n5, w5⟩
    rcases turn i n H5 w5 with ⟨stop, qq⟩ | ⟨go, Nx, hNx, step⟩
    · refine thnF (T.done (blkH X p s3 H3 scope ce fp) rfl rfl rfl hotB i [] s5 _ H5 (fun _ _ => False) I5 (stat I5 n5) st5 stop) fun r s6 ⟨hr, I6⟩ => ?_
      subst hr
      have I7 : Inv X pins σ H5 s6 := I3.call' (ch := fp) I6.os I6.base I6.hok I6.bare fun b hb => ⟨(f3 b hb).1.2.2.2.1, (f3 b hb).1.2.1, (f3 b hb).1.2.2.2.2.1, (f3 b hb).1.2.2.2.2.2⟩
      have nC : H5 s3.heap.objs.size = none := cL ▸ (show H5 ce.locals = none from I6.free)
      obtain ⟨m, hn, _⟩ := I6.loc
      have hn : s6.heap.Ns ce.locals m := hn
      rw [cL] at hn
      refine ⟨m, hn, fun h'' sb => ?_⟩
      obtain ⟨a0, a1, a2, a3, a4, a5⟩ := I3.fpOk (Nat.le_refl _) nC
      exact ⟨.ref D, H5, I7.turned (t' := s6.toks) (fun b o hb e => (sb.2 b hb).trans e) a0 a1 a3 a4 a5, rfl, qq⟩
    · refine thnF (T.item (blkH X p s3 H3 scope ce fp) rfl rfl rfl hotB i [] s5 _ H5 (fun _ _ => False) I5 (stat I5 n5) st5 go) fun r s6 ⟨u, hr, h6⟩ => ?_
      subst hr
      refine thnF h6 fun _ s7 ⟨x, H7, I7, r7, y7, st7, n7⟩ => ?_
      refine thnF (pg.run _ s7 _ H7 x u _ (I7.pinned (stat I7 n7) (T.obj _ _ st7)) r7 (step x H7 y7)) fun _ s8 ⟨σ8, H8, I8, hw8, q8⟩ => ?_
      refine thnF (pt.run _ s8 σ8 H8 _ I8 q8) fun b s9 ⟨H9, I9, q9⟩ => ?_
      have fin : ∀ {s' : Shared} {H' : Hp}, Inv (blkH X p s3 H3 scope ce fp) ([] ++ pinsAt fp s7.heap) σ8 H' s' → Nx H' → ∃ m, m < n ∧ ∃ i H', Inv (blkH X p s3 H3 scope ce fp) [] (wipe σ (own.map (·.2))) H' s' ∧ tn i s'.heap ∧ (∀ b ∈ fp, H' b = none) ∧ W i m H' := fun {s' H'} I' nx => by
        obtain ⟨m', hm, w'⟩ := hNx H' nx
        have still : ∀ b ∈ fp, ∀ o, s7.heap.get? b = some o → s'.heap.get? b = some o ∧ H' b = none := fun b hb o e =>
          let z := I'.pin (b, o) (List.mem_append_right _ (List.mem_append_right _ (mem_pinsAt hb e)))
          ⟨z.1, z.2.1⟩
        refine ⟨m', hm, i + 1, H', (I'.unpinned (pins := [])).weak (by rw [← hw8, wipe_length]) (fun j v e => ?_), T.keep _ _ _ st7 fun b hb o e => (still b hb o e).1, fun b hb => ?_, w'⟩
        · rw [← hw8] at e
          exact (wipe_some e).1
        · obtain ⟨o, e, _⟩ := T.obj _ _ st7 b hb
          exact (still b hb o e).2
      cases b with
      | false =>
        simp only [Bool.false_eq_true, if_false] at q9 ⊢
        exact fin I9 q9
      | true =>
        simp only [if_true] at q9 ⊢
        refine thnF (pe.run _ s9 σ8 H9 _ I9 q9) fun z s10 ⟨yv, H10, I10, r10, acc, hD10, hz10, nx⟩ => ?_
        exact app_ok (X := blkH X p s3 H3 scope ce fp) I10 hD10 hz10 r10 fun s11 I11 => fin I11 nx
end
end NX
set_option maxRecDepth 100000
set_option maxHeartbeats 3200000
/-! set(texts) and sorted of it -/
namespace TSet
open PySem PySem.Spec PyProof.Rows L2 Froz
def txtOf : Int × Value → Str | (_, .str x _) => x | _ => Str.empty
/-- the payload D of a set holds exactly the texts l, and can be walked -/
structure Txs (P : Program) (w : World) (D : SD) (l : List Str) : Prop where
  ok : TxOk P w D l
  pm : (D.1.toList.map txtOf).Perm l
  all : ∀ e ∈ D.1.toList, ∃ x t, e.2 = Value.str x t
  nd : l.Nodup
  ris : Ris D.2.2.place.toList
  led : w.params.followText "set-order" = true ∨ D.2.2.led = true
section
variable {P : Program} {w : World} {A : Around} {E : Value → Shared → Prop} {s : Shared}
theorem tail_perm (ep : Nat) (es : Array (Int × Value)) (t : SetTable) (b : Bool) : (tailTx ep es t b).1.toList.Perm es.toList := by
  unfold tailTx
  split
  · exact relayAll_perm _ _ _
  · exact List.Perm.refl _
theorem tail_ris (ep : Nat) (es : Array (Int × Value)) (t : SetTable) (b : Bool) (r : Ris t.place.toList) : Ris (tailTx ep es t b).2.2.place.toList := by
  unfold tailTx
  split
  · exact relayAll_ris _ _ _
  · exact r
theorem tail_led (ep : Nat) (es : Array (Int × Value)) (t : SetTable) (b : Bool) : (tailTx ep es t b).2.2.led = t.led := by
  unfold tailTx
  split
  · exact relayAll_led _ _ _
  · rfl
theorem Txs.add {D : SD} {l : List Str} {k : Str} (u : Tok) (F : Txs P w D l) (hk : k ∉ l) : Txs P w (addTx (hashStr w k) (.str k u) D) (k :: l) := by
  have hp : (addTx (hashStr w k) (.str k u) D).1.toList.Perm ((hashStr w k, Value.str k u) :: D.1.toList) := by
    refine (tail_perm _ _ _ _).trans ((layNew_perm _ _ _ _).trans ?_)
    rw [Array.toList_push]
    exact List.perm_append_singleton _ _
  refine ⟨add_ok u F.ok, ?_, fun e he => ?_, List.nodup_cons.mpr ⟨hk, F.nd⟩, tail_ris _ _ _ _ ?_, ?_⟩
  · exact (hp.map txtOf).trans (List.Perm.cons _ F.pm)
  · rcases List.mem_cons.mp (hp.mem_iff.mp he) with z | z
    · exact ⟨k, u, by rw [z]⟩
    · exact F.all e z
  · have r := layNew_ris D.2.2 D.1 (hashStr w k) (.str k u) F.ris
    split <;> exact r
  · refine F.led.imp id fun z => ?_
    refine (tail_led _ _ _ _).trans ?_
    have q := (layNew_led D.2.2 D.1 (hashStr w k) (.str k u)).trans z
    split <;> exact q
/-- a text that is there already -/
theorem add_old {a : Addr} {T : String} {D : SD} {l : List Str} {k : Str} {u : Tok} {Q : Bool → Shared → Prop} (at_ : s.heap.get? a = some (sObj T D)) (F : TxOk P w D l) (hk : k ∈ l) (few : l.length + 1 < scanBound) (h : Q false s) :
    wpAny (model P w) A (setAddHashed a (.str k u) (hashStr w k)) Q E s := by
  obtain ⟨es, ep, t⟩ := D
  have dt : (sObj T (es, ep, t)).data = .set es ep t := rfl
  have el : ElemsOf (strKind P w) es.toList := F.el
  have sz : es.size < scanBound := by have : es.size = l.length := F.sz; omega
  obtain ⟨j, hj⟩ : ∃ j, List.findIdx? (fun e => (strKind P w).is k e.2) es.toList = some j := by
    obtain ⟨e, he, q⟩ := (F.mem k).mp hk
    cases hr : List.findIdx? (fun e => (strKind P w).is k e.2) es.toList with
    | some j => exact ⟨j, rfl⟩
    | none =>
      have c := List.findIdx?_eq_none_iff.mp hr e he
      rw [q] at c
      cases c
  unfold setAddHashed
  unfold setAddHashedIn
  refine wpAny_holding (wpAny_bind (wpAny_setState_of at_ dt F.fit ?_))
  dsimp only
  rw [byScan_of rfl sz el]
  simp only [↓reduceIte]
  unfold setAddByScan
  refine wpAny_bind (wpAny_bind (wpAny_rule (wpAny_bind (wpAny_setScan_of (knd := strKind P w) (k := k) (is_str k u) at_ dt F.fit el ?_))))
  rw [hj]
  dsimp only
  exact wpAny_pure (wpAny_pure h)
theorem add_any {a : Addr} {D : SD} {l : List Str} {k : Str} {u : Tok} {Q : Bool → Shared → Prop} (at_ : s.heap.get? a = some (sObj "set" D)) (F : Txs P w D l) (few : l.length + 1 < scanBound)
    (h : ∀ b h' D' l', Heap.SameBut a s.heap h' → h'.get? a = some (sObj "set" D') → Txs P w D' l' → (∀ z, z ∈ l' ↔ z = k ∨ z ∈ l) → l'.length ≤ l.length + 1 → Q b { s with heap := h' }) :
    wpAny (model P w) A (setAddHashed a (.str k u) (hashStr w k)) Q E s := by
  by_cases hk : k ∈ l
  · exact add_old at_ F.ok hk few (h false s.heap D l (Heap.SameBut.refl a _) at_ F (fun z => ⟨.inr, fun q => q.elim (fun e => e ▸ hk) id⟩) (by omega))
  · refine add_x at_ F.ok hk few (h true _ _ _ ?_ (get_upd _ at_ rfl) (F.add u hk) (fun z => List.mem_cons) (Nat.le_refl _))
    exact ⟨Heap.size_after_update _ _ _, fun b hb => Heap.get?_update_ne _ _ _ _ hb⟩
end
section
variable {P : Program} {w : World} {A : Around} {E : Value → Shared → Prop} {s : Shared}
/-- the loop of set's making, for any way of adding: T i h says what the set is behind i items -/
theorem loop_any {I : Addr} {fp wr : List Addr} {G : Array GenState → Array GenState → Prop} {n : Nat} {Pv : Nat → Value → Prop} {St : Nat → Shared → Prop} {R : Result → Shared → Prop} (W : WalksS P w A.in1 I fp wr G n Pv St)
    {S : Addr} (out : S ∉ fp) (T : Nat → Heap → Prop) (fr : ∀ i h h', T i h → (∀ b o, b ∉ wr → h.get? b = some o → h'.get? b = some o) → T i h')
    (add : ∀ i v (s : Shared) (E : Value → Shared → Prop) (Q : Bool → Shared → Prop), i < n → Pv i v → T i s.heap → (∀ b h' tk, s.toks ≤ tk → Heap.SameBut S s.heap h' → T (i + 1) h' → Q b { s with heap := h', toks := tk }) → wpAny (model P w) A.in1 (setAdd S v) Q E s) :
    ∀ (k i : Nat) (s : Shared), n - i = k → i ≤ n → St i s → T i s.heap → (∀ s', Moved (S :: wr) G s s' → T n s'.heap → R (.ok (.ret .none)) s') → codeAny (model P w) A (.builtin "set.update.loop" ⟨[.ref S, .ref I], []⟩) R s := by
  intro k
  induction k with
  | zero =>
    intro i s ek ei st t r
    obtain rfl : i = n := by omega
    refine codeAny_builtin F.entry_set_update_loop ?_
    rw [Around.under_plainId F.plain_set_update_loop _]
    show wpAny (model P w) A.in1 (pyNext (.ref I) >>= _) _ _ s
    refine wpAny_bind (W.done s _ _ st fun s1 m => ?_)
    show wpAny (model P w) A.in1 (ret Value.none) _ _ s1
    exact wpAny_pure (r s1 ⟨fun b o nb => m.heap b o fun z => nb (List.mem_cons_of_mem _ z), m.gens, m.drawn, m.os, m.toks⟩ (fr i _ _ t m.heap))
  | succ k ih =>
    intro i s ek ei st t r
    have lt : i < n := by omega
    refine codeAny_builtin F.entry_set_update_loop ?_
    rw [Around.under_plainId F.plain_set_update_loop _]
    show wpAny (model P w) A.in1 (pyNext (.ref I) >>= _) _ _ s
    refine wpAny_bind (W.item i s _ _ lt st fun v s1 pv st1 m => ?_)
    show wpAny (model P w) A.in1 (holding [v] (setAdd S v) >>= _) _ _ s1
    refine wpAny_bind (wpAny_holding (add i v s1 _ _ lt pv (fr i _ _ t m.heap) fun b h' tk tk' same t' => ?_))
    refine wpAny_pure ⟨plainId_quiet F.plain_set_update_loop _, ih (i + 1) _ (by omega) lt (W.frame _ s1 _ _ st1 tk' fun c hc o e => ?_) t' fun s2 m2 t2 => r s2 ⟨fun c o nc e => ?_, W.gtrans _ _ _ m.gens m2.gens, m2.drawn.trans m.drawn, m2.os.trans m.os, ?_⟩ t2⟩
    · rw [same.2 c fun z : c = S => out (z ▸ hc)]
      exact e
    · refine m2.heap c o nc ?_
      show h'.get? c = some o
      rw [same.2 c fun z : c = S => nc (by rw [z]; exact List.mem_cons_self)]
      exact m.heap c o (fun z => nc (List.mem_cons_of_mem _ z)) e
    · exact Nat.le_trans m.toks (Nat.le_trans tk' m2.toks)
def freshSet (w : World) : Obj := { cls := .type "set", dict := none, data := .set #[] 0 (.fresh 0 0 (!w.params.followText "set-order")) }
def listIt (l : Addr) : Obj := { cls := .type "list_iterator", data := .fields #[.ref l, .int 0 0] }
/-- set(a list), for any way of adding -/
theorem made_any {l : Addr} {items : Array Value} {Q : Value → Shared → Prop} (hh : A.handled = none) (hl : s.heap.IsList l items) (T : Nat → Heap → Prop)
    (fr : ∀ i h h', T i h → (∀ b o, b ≠ s.heap.objs.size + 1 → h.get? b = some o → h'.get? b = some o) → T i h')
    (zero : ∀ h, h.get? s.heap.objs.size = some (freshSet w) → (∀ b o, s.heap.get? b = some o → h.get? b = some o) → T 0 h)
    (add : ∀ (B : Around) i v (s1 : Shared) (E : Value → Shared → Prop) (Q : Bool → Shared → Prop), B.units ≤ A.units + 3 → items[i]? = some v → T i s1.heap →
      (∀ b h' tk, s1.toks ≤ tk → Heap.SameBut s.heap.objs.size s1.heap h' → T (i + 1) h' → Q b { s1 with heap := h', toks := tk }) → wpAny (model P w) B (setAdd s.heap.objs.size v) Q E s1)
    (k : ∀ (h' : Heap) (tk : Nat), T items.size h' → (∀ b o, s.heap.get? b = some o → h'.get? b = some o) → Q (.ref s.heap.objs.size) { s with heap := h', toks := tk }) :
    wpAny (model P w) A (call (.type "set") [.ref l]) Q E s := by
  obtain ⟨_, _, hmro⟩ := PySem.F.called_set.mro
  have made_ := PySem.F.called_set.made
  have sub_ := PySem.F.called_set.sub
  refine wpAny_call (codeAny_of_tree ?_)
  show wpAny (model P w) _ (callAny (.type "set") _) _ _ _
  refine wpAny_pure ⟨Code.quiet_builtin _ (by decide +kernel), codeAny_builtin PySem.F.entry_type_call ?_⟩
  rw [Around.under_plain (weight_type_call_type "set" [.ref l] []) rfl]
  have notT := PySem.F.called_set.notType
  have canC := PySem.F.called_set.canCreate
  have typC := PySem.F.typeCall_set_1 (.ref l)
  repeat (any_goals (first | assumption | wp_step))
  let S := s.heap.objs.size
  let hp1 := s.heap.push (freshSet w)
  refine codeAny_mono (code_set_led1 (.ref l) (E := E) (Q₁ := fun obj s1 => obj = .ref S ∧ s1 = { s with heap := hp1 }) ⟨rfl, rfl⟩) fun r s1 hr => ?_
  rcases r with _ | e
  case error => exact hr
  cases e with
  | ret obj =>
    obtain ⟨rfl, rfl⟩ := hr
    have atS : hp1.get? S = some (freshSet w) := Heap.get?_push_size _ rfl
    have tyS : Shared.TypeIs { s with heap := hp1 } (.ref S) "set" := ⟨_, atS, rfl⟩
    have iLook := PySem.F.called_set.init.lookup
    have iBind := PySem.F.called_set.init.bind (.ref S)
    repeat (any_goals (first | assumption | wp_step))
    refine codeAny_mono (codeAny_call_builtin (R := wants (fun r s2 => r = .none ∧ ∃ h' tk, s2 = { s with heap := h', toks := tk } ∧ T items.size h' ∧ (∀ b o, s.heap.get? b = some o → h'.get? b = some o)) E)
      PySem.F.called_set.init.plain PySem.F.entry_set_init (check_set_init_1 tyS ?_)) fun r2 s2 hr2 => ?_
    · obtain ⟨ol, hol, cl, nl, dl⟩ := hl
      obtain ⟨ocl, odi, oda, osl⟩ := ol
      simp only at cl dl
      subst cl
      subst dl
      have ltl : l < S := Heap.lt_size hol
      have atl : hp1.get? l = some { cls := .type "list", dict := odi, data := .seq items nl, slots := osl } := Heap.get?_push_of_some _ hol
      have ls1 := PySem.F.sub_list_set
      have ls2 := PySem.F.sub_list_frozenset
      have nd1 : (Value.type "list" == Value.type "dict") = false := by decide
      have isl : hp1.IsList l items := ⟨_, atl, rfl, nl, rfl⟩
      have szI : hp1.objs.size = S + 1 := Heap.size_push ..
      unfold Builtin.«set.__init__» noKeywords Builtin.Frozenset.updateFrom
      generalize ePI : pyIter = PI
      wp_walk
      subst ePI
      refine wpAny_pyIter_list isl (wpAny_bind (wpAny_runValue ?_))
      have h3 : A.in1.in1.in1.handled = none := by simp [hh]
      have nI : l ≠ hp1.objs.size := by rw [szI]; exact Nat.ne_of_lt (Nat.lt_succ_of_lt ltl)
      have nS : S ∉ [hp1.objs.size, l] := by
        rw [szI]
        intro z
        rcases List.mem_cons.mp z with z | z
        · exact absurd z (Nat.ne_of_lt (Nat.lt_succ_self _))
        · exact absurd (List.mem_singleton.mp z) (Nat.ne_of_gt ltl)
      refine loop_any ((Walks.list h3 _ l nI items).toS) nS T (fun i h h' t e => fr i h h' t fun b o nb => e b o (by rw [szI]; simpa using nb)) (fun i v s1 E1 Q1 _ pv t q => add _ i v s1 E1 Q1 (Nat.le_refl _) pv t q)
        (items.size - 0) 0 _ (by omega) (Nat.zero_le _) ⟨⟨_, Heap.get?_push_size _ rfl, rfl, rfl⟩, isl.push _⟩ (zero _ (Heap.get?_push_of_some _ atS) fun b o e => Heap.get?_push_of_some _ (Heap.get?_push_of_some _ e)) ?_
      intro s' m t'
      obtain ⟨h', g', d', tk', os'⟩ := s'
      obtain rfl : g' = s.gens := m.gens
      obtain rfl : d' = s.drawn := m.drawn
      obtain rfl : os' = s.os := m.os
      show wpAny _ _ _ _ _ _
      refine wpAny_pure ?_
      show wpAny _ _ (ret Value.none) _ _ _
      refine wpAny_pure ⟨rfl, h', tk', rfl, t', fun b o e => ?_⟩
      have ltb : b < S := Heap.lt_size e
      refine m.heap b o (fun z => ?_) (Heap.get?_push_of_some _ (Heap.get?_push_of_some _ e))
      rcases List.mem_cons.mp z with z | z
      · exact absurd z (Nat.ne_of_lt ltb)
      · have z2 := List.mem_singleton.mp z
        rw [szI] at z2
        exact absurd z2 (Nat.ne_of_lt (Nat.lt_succ_of_lt ltb))
    · rcases r2 with _ | e2
      case error => exact hr2
      cases e2 with
      | ret r =>
        obtain ⟨rfl, h', tk, rfl, t', keep⟩ := hr2
        repeat (any_goals (first | assumption | wp_step))
        exact k _ _ t' keep
      | _ => exact hr2.elim
  | _ => exact hr.elim
end
section
variable {P : Program} {w : World} {A : Around} {E : Value → Shared → Prop} {s : Shared}
theorem Txs.fresh : Txs P w (#[], 0, .fresh 0 0 (!w.params.followText "set-order")) [] where
  ok := TxOk.nil rfl
  pm := List.Perm.refl _
  all := fun e he => by simp at he
  nd := List.nodup_nil
  ris := List.Pairwise.nil
  led := by
    show _ ∨ (!w.params.followText "set-order") = true
    cases w.params.followText "set-order"
    · exact .inr rfl
    · exact .inl rfl
theorem strs_get : ∀ {vs : List Value} {xs : List Str}, StrsAre vs xs → ∀ {i : Nat} {v : Value}, vs[i]? = some v → ∃ z t, xs[i]? = some z ∧ v = .str z t
  | _, _, .nil, _, _, h => by simp at h
  | _, _, .cons y t r, 0, v, h => ⟨y, t, rfl, (Option.some.inj h).symm⟩
  | _, _, .cons y t r, i + 1, v, h => strs_get r (by simpa using h)
/-- set(a list of texts) -/
theorem set_txt {l : Addr} {items : Array Value} {xs : List Str} {Q : Value → Shared → Prop} (hh : A.handled = none) (hl : s.heap.IsList l items) (hi : StrsAre items.toList xs) (few : xs.length + 1 < scanBound)
    (k : ∀ (h' : Heap) (tk : Nat) D l', h'.get? s.heap.objs.size = some (sObj "set" D) → Txs P w D l' → (∀ z, z ∈ l' ↔ z ∈ xs) → l'.length ≤ xs.length → (∀ b o, s.heap.get? b = some o → h'.get? b = some o) → Q (.ref s.heap.objs.size) { s with heap := h', toks := tk }) :
    wpAny (model P w) A (call (.type "set") [.ref l]) Q E s := by
  have len : items.size = xs.length := by
    have : ∀ {vs : List Value} {ys : List Str}, StrsAre vs ys → vs.length = ys.length := by
      intro vs ys h
      induction h with
      | nil => rfl
      | cons y t r ih => simp [ih]
    rw [← this hi, Array.length_toList]
  refine made_any hh hl (fun i h => ∃ D l', h.get? s.heap.objs.size = some (sObj "set" D) ∧ Txs P w D l' ∧ (∀ z, z ∈ l' ↔ z ∈ xs.take i) ∧ l'.length ≤ i) ?_ ?_ ?_ ?_
  · rintro i h h' ⟨D, l', a, f, m, n⟩ e
    exact ⟨D, l', e _ _ (Nat.ne_of_lt (Nat.lt_succ_self _)) a, f, m, n⟩
  · intro h a _
    exact ⟨(#[], 0, .fresh 0 0 (!w.params.followText "set-order")), [], a, Txs.fresh, fun z => by simp, Nat.le_refl _⟩
  · rintro B i v s1 E1 Q1 _ hv ⟨D, l', a, f, m, n⟩ q
    obtain ⟨z, t, hz, rfl⟩ := strs_get hi (i := i) (v := v) (by rw [Array.getElem?_toList]; exact hv)
    have li : i < xs.length := (List.getElem?_eq_some_iff.mp hz).1
    unfold setAdd
    refine wpAny_holding (wpAny_bind ((strKind P w).pyHash (k := z) (is_str z t) ?_))
    refine add_any (s := { s1 with toks := s1.toks + 1 }) a f (by omega) fun b h' D' l2 same a2 f2 m2 n2 => q b h' (s1.toks + 1) (Nat.le_succ _) same ⟨D', l2, a2, f2, fun y => ?_, by omega⟩
    rw [m2 y, m y, List.take_add_one, hz]
    simp only [Option.toList_some, List.mem_append, List.mem_singleton]
    exact Or.comm
  · rintro h' tk ⟨D, l', a, f, m, n⟩ keep
    exact k h' tk D l' a f (fun z => by rw [m z, List.take_of_length_le (by omega)]) (by omega) keep
/-- sorted(a set of texts) -/
theorem sorted_txt {a : Addr} {D : SD} {l : List Str} {Q : Value → Shared → Prop} (at_ : s.heap.get? a = some (sObj "set" D)) (F : Txs P w D l) (hh : A.handled = none) (few : l.length < 64)
    (k : ∀ s' p (out : Array Value) (c : Nat) (ys : List Str), (∀ b o, s.heap.get? b = some o → s'.heap.get? b = some o) → s'.gens = s.gens → s'.os = s.os → s.heap.objs.size ≤ p →
      s'.heap.get? p = some (seqObj "list" out c) → StrsAre out.toList ys → ys.Perm l → sortedS ys = true → Q (.ref p) s') : wpAny (model P w) A (call (.builtin "sorted") [.ref a]) Q E s := by
  obtain ⟨es, ep, t⟩ := D
  have sz : es.size = l.length := F.ok.sz
  have sc : es.size < scanBound := by unfold scanBound; omega
  refine Calls.call_function_entry kind_sorted plain_sorted entry_sorted (args_sorted1 _) ?_
  unfold Builtin.«sorted»
  refine wpAny_bind (m := checkCount "sorted" 1 1 _) (wpAny_pure (wpAny_bind ?_))
  refine collect_set (A := A.in1) hh ⟨_, at_, rfl, rfl⟩ F.ok.fit sc F.ris F.led fun s1 vs k1 z1 g1 o1 pm => ?_
  have lv : vs.length = l.length := by rw [pm.length_eq, List.length_map, Array.length_toList, sz]
  have sv : ∀ us : List Value, (∀ u ∈ us, ∃ x t, u = Value.str x t) → StrsAre us (us.map fun u => txtOf (0, u)) := by
    intro us
    induction us with
    | nil => exact fun _ => .nil
    | cons u us ih =>
      intro h
      obtain ⟨x, t, rfl⟩ := h u List.mem_cons_self
      exact .cons x t (ih fun v hv => h v (List.mem_cons_of_mem _ hv))
  have hS := sv vs fun u hu => by
    obtain ⟨e, he, rfl⟩ := List.mem_map.mp (pm.mem_iff.mp hu)
    exact F.all e he
  have pl : (vs.map fun u => txtOf (0, u)).Perm l := by
    refine (pm.map _).trans ?_
    rw [List.map_map]
    refine List.Perm.trans (List.Perm.of_eq ?_) F.pm
    exact List.map_congr_left fun e _ => by obtain ⟨h, v⟩ := e; cases v <;> rfl
  refine wpAny_bind (wpAny_newList ?_ (by rw [lv, sizeLine_eq]; omega))
  have oL : (s1.heap.push (seqObj "list" vs.toArray 0)).get? s1.heap.objs.size = some (seqObj "list" vs.toArray 0) := Heap.get?_push_size _ rfl
  refine wpAny_bind (wpAny_holding (wpAny_call_entry slot_list_sort ⟨_, oL, rfl⟩ entry_list_sort
    (list_sort_treeK strKind_oneLt oL hS.keysOf (fun v1 v2 rest e => keyKind_strs (by rw [← e]; exact hS)) (by rw [lv]; exact few) fun st h1 h2 => ⟨_, rfl, ?_⟩) (args_list_sort _)))
  obtain ⟨ys, a1, a2, a3⟩ := sorted_out_str hS h1 h2
  obtain ⟨c, hc⟩ := sortedHeap_at (vs := vs) (out := (arrOf st).map (·.2)) oL
  refine wpAny_pure ⟨_, rfl, k _ s1.heap.objs.size _ c ys (fun b u e => ?_) g1 o1 z1 hc a1 (a2.trans pl) a3⟩
  have q := k1 b u e
  have lt := Heap.lt_size q
  refine (sortedHeap_old (Nat.ne_of_lt lt) (by rw [size_push']; exact Nat.lt_succ_of_lt lt)).trans ?_
  exact Heap.get?_push_of_some _ q
end
/-! ### as calls -/
/-- at a a set of just the texts l -/
def SetX (P : Program) (w : World) (a : Addr) (l : List Str) : HO := .ext fun h => ∃ D, h.get? a = some (sObj "set" D) ∧ Txs P w D l
section
variable {X : Cx}
theorem setX_new {w : World} {P : Program} {H : Hp} {h : Heap} {a : Addr} {l : List Str} (R : ∃ D, h.get? a = some (sObj "set" D) ∧ Txs P w D l) : ObjOk P w H h a (SetX P w a l) := by
  obtain ⟨D, e, F⟩ := id R
  exact ⟨R, ⟨_, e⟩, fun h1 h2 ⟨D2, e2, F2⟩ keep => ⟨D2, keep _ e2, F2⟩⟩
def rSetX (K : PySem.W.Frag) (P : Program) (w : World) : List V → Hp → VK → Prop := fun vs H Q => ∃ (a : Addr) (xs : List Str), vs = [V.ref a] ∧ SqL K H a (xs.map V.str) ∧ xs.length < 64 ∧
  ∀ (l : List Str) (p : Addr), l.Nodup → (∀ z, z ∈ l ↔ z ∈ xs) → l.length ≤ xs.length → H p = none → Q (.ref p) (upd H p (SetX P w p l))
theorem cr_setX (hc : X.calm = true) : CallR X (.type "set") (rSetX X.K X.prog X.w) := by
  intro pins s σ H vs us Q I r h
  obtain ⟨a, xs, rfl, hs, few, q⟩ := h
  obtain ⟨its, rv, hl, _⟩ := I.list hs
  rw [Vals.ref1 r]
  refine set_txt (I.ok.hd hc) hl.isList rv.strs (by unfold scanBound; omega) fun h' tk D l' e F m ll keep => ?_
  exact ⟨.ref _, upd H s.heap.objs.size (SetX X.prog X.w s.heap.objs.size l'), I.laid (t' := tk) keep (Nat.le_refl _) (setX_new ⟨D, e, F⟩), rfl, q l' _ F.nd m ll (I.hok.fresh (Nat.le_refl _))⟩
def rSortedX (P : Program) (w : World) : List V → Hp → VK → Prop := fun vs H Q => ∃ (a : Addr) (l : List Str), vs = [V.ref a] ∧ H a = some (SetX P w a l) ∧ l.length < 64 ∧
  ∀ (ys : List Str) (p : Addr), ys.Perm l → sortedS ys = true → H p = none → Q (.ref p) (upd H p (.lst (ys.map V.str)))
theorem cr_sortedX (hc : X.calm = true) : CallR X (.builtin "sorted") (rSortedX X.prog X.w) := by
  intro pins s σ H vs us Q I r h
  obtain ⟨a, l, rfl, at_, few, q⟩ := h
  obtain ⟨D, e, F⟩ := (I.hok a _ at_).1
  rw [Vals.ref1 r]
  refine sorted_txt e F (I.ok.hd hc) few fun s' p out c ys keep g o hp he hy pm so => ?_
  have hn : H p = none := I.hok.fresh hp
  have hlen : (ys.map V.str).length ≤ sizeLine := by rw [List.length_map, pm.length_eq]; exact small64 few
  have J : Inv X pins σ (upd H p (.lst (ys.map V.str))) { s with heap := s'.heap, gens := s'.gens, drawn := s'.drawn, toks := s'.toks } :=
    I.call (ch := []) (Un.laid keep hp hn) (I.hok.laid keep hp ⟨hlen, out.toList, c, vals_of_strs hy, he⟩) (by rw [g]; exact I.bare) (fun _ z => nomatch z)
  have es : s' = { s with heap := s'.heap, gens := s'.gens, drawn := s'.drawn, toks := s'.toks } := by
    cases s'
    cases s
    cases o
    rfl
  rw [es]
  exact ⟨.ref p, _, J, rfl, q ys p pm so hn⟩
end
end TSet
set_option maxRecDepth 100000
set_option maxHeartbeats 4000000
/-! tuple(d.values()), the keys of d tuples of ints and texts -/
namespace TV
open PySem PySem.Spec PyProof.Rows L2
section
variable {prog : Program} {w : World} {A : Around} {E : Value → Shared → Prop} {s : Shared} {T : String} {r d : Addr} {n : Nat} {P : Nat → Value → Prop} {OK : Heap → Prop}
theorem collect_kdl {Q : List Value → Shared → Prop} (K : PySem.W.KdlSrc prog w T r d n P OK) (hh : A.handled = none) (hok : OK s.heap) (hn : n ≤ sizeLine)
    (hQ : ∀ (h' : Heap) (tk : Nat) (acc : Array Value), (∀ b o, s.heap.get? b = some o → h'.get? b = some o) → ItemsOf P acc n → Q acc.toList { s with heap := h', toks := tk }) :
    wpAny (model prog w) A (collect (.ref r)) Q E s := by
  have hok1 : OK (s.heap.push { cls := .type "list", data := .seq ([] : List Value).toArray }) := K.keep _ _ hok fun b _ o e => Heap.get?_push_of_some _ e
  have hlt := K.there _ hok
  unfold collect
  refine wpAny_bind (wpAny_runValue (codeAny_builtin F.entry_proto_collect ?_))
  rw [Around.under_plainId F.plain_proto_collect _]
  show wpAny _ A.in1 (newList [] >>= fun l => again (.builtin "list.__iadd__" ⟨[l, .ref r], []⟩)) _ _ s
  refine wpAny_bind (wpAny_newObj_type ?_)
  refine wpAny_pure ⟨plainId_quiet F.plain_list_iadd _, codeAny_builtin F.entry_list_iadd ?_⟩
  rw [Around.under_plainId F.plain_list_iadd _]
  show wpAny _ A.in1 (Builtin.List.listExtendWith (.ref s.heap.objs.size) (.ref r) (.ref s.heap.objs.size)) _ _ _
  have hS : (s.heap.push { cls := .type "list", data := .seq ([] : List Value).toArray }).get? s.heap.objs.size = some { cls := .type "list", data := .seq #[] 0 } := Heap.get?_push_size _ rfl
  refine wpAny_mono (PySem.W.kdl_extend (A := A) (R := fun rr s' => rr = .ok (.ret (.ref s.heap.objs.size)) ∧ ∃ (h' : Heap) (tk : Nat) (acc : Array Value) (c' : Nat), s' = { s with heap := h', toks := tk } ∧
      (∀ b o, s.heap.get? b = some o → h'.get? b = some o) ∧ h'.get? s.heap.objs.size = some { cls := .type "list", dict := none, data := .seq acc c', slots := #[] } ∧ ItemsOf P acc n)
    (s := { s with heap := s.heap.push { cls := .type "list", data := .seq ([] : List Value).toArray } }) K hh hok1 s.heap.objs.size (Nat.ne_of_gt hlt.1) (Nat.ne_of_gt hlt.2) _ 0 hS
    (fun h' tk acc c' hk e hi => ⟨rfl, h', tk, acc, c', rfl, fun b o q => hk b o (Nat.ne_of_lt (Heap.lt_size q)) (Heap.get?_push_of_some _ q), e, hi⟩) hn) (fun fin s' h => ?_) (fun e s' h => ?_)
  · cases fin with
    | done f =>
      obtain ⟨e, h', tk, acc, c', rfl, hk, hS', hi⟩ := h
      cases e
      show wpAny _ A (load s.heap.objs.size >>= _) _ _ _
      exact wpAny_bind (wpAny_load hS' (wpAny_pure (hQ h' tk acc hk hi)))
    | again c' =>
      refine ⟨h.1, codeAny_mono h.2 fun rr s'' hr' => ?_⟩
      obtain ⟨rfl, h', tk, acc, c', rfl, hk, hS', hi⟩ := hr'
      show wpAny _ A (load s.heap.objs.size >>= _) _ _ _
      exact wpAny_bind (wpAny_load hS' (wpAny_pure (hQ h' tk acc hk hi)))
  · exact absurd h.1 (by simp)
theorem code_tuple_new_vals {Q₁ : Value → Shared → Prop} (K : PySem.W.KdlSrc prog w "dict_values" r d n P OK) (hh : A.handled = none) (hok : OK s.heap) (hn : n ≤ sizeLine)
    (h : ∀ (h' : Heap) (tk : Nat) (acc : Array Value), (∀ b o, s.heap.get? b = some o → h'.get? b = some o) → ItemsOf P acc n →
      Q₁ (.ref h'.objs.size) { s with heap := h'.push { cls := .type "tuple", data := .seq acc }, toks := tk }) :
    codeAny (model prog w) A (.call (.builtin "tuple.__new__") ⟨[.type "tuple", .ref r], []⟩) (wants Q₁ E) s := by
  refine codeAny_of_tree ?_
  show wpAny _ A.in1 (do checkBuiltinCall "tuple.__new__" ⟨[.type "tuple", .ref r], []⟩; again (.builtin "tuple.__new__" ⟨[.type "tuple", .ref r], []⟩)) _ _ s
  refine wpAny_bind (wpAny_of_eq (F.newCall_tuple_1 _) (wpAny_pure ⟨plainId_quiet F.plain_tuple_new _, codeAny_builtin F.entry_tuple_new ?_⟩))
  rw [Around.under_plainId F.plain_tuple_new _]
  have hsub := sub_tuple_self
  have hinit := init_tuple_lookup
  have hmh := madeHere_tuple
  have hTI : s.TypeIs (.ref r) "dict_values" := K.type s hok
  have hh1 : A.in1.handled = none := hh
  wp_walk using wpAny_typeOf hTI, collect_kdl (A := A.in1) K hh1 hok hn
  intro h' tk acc hk hacc
  show wpAny _ _ (Builtin.Tuple.tupleExact acc.toList.toArray >>= fun v => ret v) _ _ _
  unfold Builtin.Tuple.tupleExact
  refine wpAny_bind (wpAny_newObj_type ?_ (by show acc.toList.toArray.size ≤ sizeLine; simp only [Array.toArray_toList]; rw [hacc.1]; exact hn))
  refine wpAny_pure ?_
  have e : acc.toList.toArray = acc := by simp
  rw [e]
  exact h h' tk acc hk hacc
theorem call_tuple_vals {Q : Value → Shared → Prop} (K : PySem.W.KdlSrc prog w "dict_values" r d n P OK) (hh : A.handled = none) (hok : OK s.heap) (hn : n ≤ sizeLine)
    (hQ : ∀ (h' : Heap) (tk : Nat) (acc : Array Value), (∀ b o, s.heap.get? b = some o → h'.get? b = some o) → ItemsOf P acc n →
      Q (.ref h'.objs.size) { s with heap := h'.push { cls := .type "tuple", data := .seq acc }, toks := tk }) :
    wpAny (model prog w) A (call (.type "tuple") [.ref r]) Q E s := by
  refine callType_codes (Q₁ := fun obj s₁ => s₁.TypeIs obj "tuple" ∧ Q obj s₁) F.called_tuple (F.typeCall_tuple_1 _) F.entry_object_init
    (code_tuple_new_vals (A := A.in1) K hh hok hn fun h' tk acc hk hacc => ⟨⟨_, Heap.get?_push_size _ rfl, rfl⟩, hQ h' tk acc hk hacc⟩) fun obj s₁ h₁ => ?_
  exact ⟨h₁.1, F.args_object_init_2 obj _, object_init_meets F.called_tuple.init.lookup F.called_tuple.made (by decide) prog w A.in1 _ s₁ ⟨h₁.1, rfl, h₁.2⟩⟩
end
section
variable {X : Cx} {e : Expr} {td : TE} {apos cpos : Pos}
theorem raw_of {P : Program} {w : World} {h : Heap} {a : Addr} {xs : List (List L2.Key × Addr × Value)} (x : h.DictOfH (tupleKind (mixKind P w)) a xs) : ∃ es ep, h.DictRaw a es ep ∧ es.toList = xs.map (entryOfKey (tupleKind (mixKind P w))) := by
  obtain ⟨o, es, ep, h1, h2, h3, h4, _⟩ := x
  exact ⟨es, ep, ⟨o, h1, h2, h3⟩, h4⟩
def tValsT (td : TE) : TE := fun σ H Q => td σ H fun x H1 => ∃ d, x = .ref d ∧ (∃ kvs, H1 d = some (.dT kvs)) ∧ ∀ p, H1 p = none → Q (.ref p) (upd H1 p (viewO "dict_values" p d))
theorem pe_valsT (he : PE X e td) (hbase : attributeBase e "values" X.env (eval e X.env) = eval e X.env := by rfl) (hline : (apos.endLine == cpos.line) = true := by rfl) : PE X (.Call (.Attribute e "values" apos) [] [] cpos) (tValsT td) := by
  refine ⟨fun pins s σ H Q I h => ?_⟩
  refine wpAny_Call_method (T := "dict") (id := "dict.values") hbase rfl hline F.plainAttrs_dict F.slot_dict_values F.type_dict_values (thn (he.run pins s σ H _ I h) fun u s1 ⟨x, H1, I1, rx, d, ex, ⟨kvs, hd⟩, q⟩ => ?_)
  subst ex
  obtain rfl : u = Value.ref d := rx
  obtain ⟨z, hs, xs, rel, dd⟩ := dt_of I1.hok hd
  obtain ⟨es, ep, raw, _⟩ := raw_of dd
  refine ⟨raw.typeIs, fun b e => ?_, ?_⟩
  · cases e
    obtain ⟨o, h1, h2, _⟩ := raw
    exact ⟨o, h1, h2.2.1⟩
  show wpAny _ _ (callWith cpos (.builtin "dict.values") [.ref d] [] []) _ X.xe s1
  exact method_meetsIn F.slot_dict_values F.entry_dict_values rfl (PySem.evalArgs_none ⟨rfl, raw.typeIs, F.args_dict_values_1 _, _, meets_dict_values_raw d hs, ⟨⟨es, ep, raw⟩, ⟨.ref s1.heap.objs.size, _, I1.laid (t' := s1.toks) (fun b o q => Heap.get?_push_of_some _ q) (Nat.le_refl _) (viewO_ok (Heap.get?_push_size _ rfl)), rfl, q _ (I1.hok.fresh (Nat.le_refl _))⟩⟩⟩)
theorem pair_get {α β : Type} {F : α → β → Prop} : ∀ {l : List α} {m : List β}, Paired F l m → ∀ {j : Nat} {a : α}, l[j]? = some a → ∃ b, m[j]? = some b ∧ F a b
  | _, _, .nil, _, _, h => by simp at h
  | _, _, .cons (a := c) (b := b) hq r, 0, a, h => ⟨b, rfl, by have e : c = a := Option.some.inj h; rw [← e]; exact hq⟩
  | _, _, .cons hq r, j + 1, a, h => pair_get r (j := j) (by simpa using h)
def rTupVals : List V → Hp → VK → Prop := fun xs H Q => ∃ (p d : Addr) (kvs : List (List L2.Key × V)), xs = [.ref p] ∧ H p = some (viewO "dict_values" p d) ∧ H d = some (.dT kvs) ∧ ∀ q, H q = none → Q (.ref q) (upd H q (.tup (kvs.map (·.2))))
theorem cr_tupVals (hc : X.calm = true) : CallR X (.type "tuple") rTupVals := by
  intro pins s σ H xs us Q I rx h
  obtain ⟨p, d, kvs, rfl, hp, hd, q⟩ := h
  rw [Vals.ref1 rx]
  have hv : s.heap.get? p = some (DSub.viewOb "dict_values" d) := (show ObjOk X.prog X.w H s.heap p (viewO "dict_values" p d) from I.hok p _ hp).1
  obtain ⟨z, hs, ys, rel, dd⟩ := dt_of I.hok hd
  obtain ⟨es, ep, raw, he⟩ := raw_of dd
  have hl : kvs.length = ys.length := Paired.length rel
  have hes : es.size = ys.length := by
    have := congrArg List.length he
    rwa [List.length_map, Array.length_toList] at this
  refine call_tuple_vals (PySem.KdlSrc.rawValues (r := p) (d := d) (es := es) (ep := ep)) (I.ok.hd hc) ⟨⟨_, hv, rfl, rfl⟩, raw⟩ (by omega) fun h' tk acc hk hacc => ?_
  have I1 : Inv X pins σ H { s with heap := h', toks := tk } := I.kept hk
  refine ⟨.ref h'.objs.size, upd H h'.objs.size (.tup (kvs.map (·.2))), I1.laid (t' := tk) (fun b o q => Heap.get?_push_of_some _ q) (Nat.le_refl _) (show ObjOk X.prog X.w _ _ _ (.tup (kvs.map (·.2))) from ⟨by rw [List.length_map]; exact z, acc.toList, ?_, ?_⟩), rfl, q _ (I1.hok.fresh (Nat.le_refl _))⟩
  · have el : acc.toList.length = acc.size := by simp
    refine vals_of_at (by rw [List.length_map, el, hacc.1, hl, hes]) fun j x w h1 h2 => ?_
    obtain ⟨hi, hw⟩ := hacc.2 j w (by rw [← Array.getElem?_toList]; exact h2)
    rw [List.getElem?_map] at h1
    obtain ⟨kv, hkv, rfl⟩ := Option.map_eq_some_iff.mp h1
    obtain ⟨y, hy, hr⟩ := pair_get rel hkv
    have e1 : es.toList[j]? = some (entryOfKey (tupleKind (mixKind X.prog X.w)) y) := by rw [he, List.getElem?_map, hy]; rfl
    have e2 : es.toList[j]? = some es[j] := by rw [Array.getElem?_toList, Array.getElem?_eq_getElem hi]
    have e3 := Option.some.inj (e2.symm.trans e1)
    rw [hw, e3]
    exact hr.2.2
  · have := IsTup.new h' acc.toList.toArray
    rw [Array.toArray_toList] at this ⊢
    exact this
end
end TV
set_option maxRecDepth 100000
set_option maxHeartbeats 4000000
/-! repr of tuples and lists: defs that are called while nothing is being shown -/
namespace GP
open PySem PySem.Spec PyProof.Rows L2
/-- what a def promises that is called while nothing is being shown -/
structure FnG (P : Program) (w : World) (K : PySem.W.Frag) (mg : Str → Option Value) (base : Heap) (k : Nat) (f : Addr) (fd : FuncData) (ps : List Str) (sp : Sp) : Prop where
  len : ∀ vs H Q E, sp vs H Q E → vs.length = ps.length
  run : ∀ (A : Around) (outer : List Env) (s : Shared) (H : Hp) (args : Args) (us : List Value) (vs : List V) (Q : VK) (E : XK), Room k A → A.guards = some [] → Env0 P w K mg base A outer s H → BindsTo s fd args (ps.zip us) → Vals vs us →
    sp vs H Q E → codeAny (model P w) A (.call (.ref f) args) (CR CX0 outer P w H s Q E) s
section
variable {P : Program} {w : World} {K : PySem.W.Frag} {mg : Str → Option Value} {base : Heap}
theorem FnG.of {k : Nat} {f : Addr} {fd : FuncData} {ps : List Str} {sp : Sp} (F : FnOk P w K mg base CX0 k f fd ps sp) : FnG P w K mg base k f fd ps sp :=
  ⟨F.len, fun A outer s H args us vs Q E hr _ => F.run A outer s H args us vs Q E hr⟩
/-- such a def by its body -/
theorem okG {x qual : Str} {st : Stmt} {f : Addr} {fd : FuncData} {N ps : List Str} {k : Nat} {sp : Sp} (F : Fun K x qual st f fd) (S : FnScope N ps (defScope st)) (len : ∀ vs H Q E, sp vs H Q E → vs.length = ps.length)
    (body : ∀ (cdv : Value) (A : Around) (outer : List Env) (s : Shared) (H : Hp) (vs : List V) (Q : VK) (E : XK), Room k (A.deeper (envOfC qual (defScope st) s.heap.objs.size f cdv)) → A.guards = some [] → sp vs H Q E →
      ∃ t, PSs (cxOf CX0 P w K mg base N qual (defScope st) f cdv A outer s H E).nox (defBody st) t ∧ t { nx := fun _ H' => Q .non H', rt := Q } (L2.start N vs) H) : FnG P w K mg base (k + 1) f fd ps sp := by
  obtain ⟨oc, od, kV, doc, pm, an, cdv, ct, osl, rfl, lk, hcd⟩ := F.ex
  refine ⟨len, fun A outer s H args us vs Q E room gd e0 bind r h => ?_⟩
  have lenV := len _ _ _ _ h
  have inS : K.In s.heap := e0.mod.kin.keeps fun b o e => (e0.bs b o e).1
  have noLim : s.heap.NoLimit := e0.mod.nolimit.keeps fun b o e => (e0.bs b o e).1
  have kinds : ∀ y ∈ ps.zip us, (defScope st).names.lookup y.1 = some .local ∨ ((defScope st).names.lookup y.1 = some .cell ∧ ((cellsFrom (s.heap.objs.size + 1) (defScope st).names []).lookup y.1).isSome = true) := by
    rintro ⟨n, v⟩ hy
    cases S.par n (List.of_mem_zip hy).1 with
    | inl q => exact .inl q
    | inr q => exact .inr ⟨q, PySem.W.cellsFrom_some _ _ _ (.inl q)⟩
  refine codeAny_call_function room.depth (inS _ _ lk) rfl S.co S.gen rfl (PySem.W.codeRec_of inS hcd) (bind _ _ _ _ (wpAny_newFunctionEnv_cells S.kind kinds fun env he s1 y => ?_))
  subst he
  refine ⟨noLim.keeps y.toInCall.keep, codeAny_func ?_⟩
  obtain ⟨t, ht0, hq⟩ := body cdv A outer s H vs Q E (room.deeper _) gd h
  have ht := ht0.nox
  have I0 := inv_start (CX := CX0) (E := E) S room.hd e0 lenV r y
  refine wpAny_mono (ht.run [] s1 (L2.start N vs) H _ I0 hq) (fun fl s' hs => ?_) fun e s' hs => hs
  cases fl with
  | ret u => obtain ⟨v, σ', H', J, rv, q⟩ := hs; exact ⟨v, H', J.os, J.bare, J.base, J.hok, rv, q⟩
  | next => obtain ⟨σ', H', J, q⟩ := hs; exact ⟨V.non, H', J.os, J.bare, J.base, J.hok, rfl, q⟩
  | brk => obtain ⟨_, _, _, q⟩ := hs; exact q.elim
  | cont => obtain ⟨_, _, _, q⟩ := hs; exact q.elim
end
section
variable {X : Cx} {k : Nat} {f : Addr} {fd : FuncData} {ps : List Str} {sp : Sp} {x : Str} {q pos : Pos} {e : Expr} {es : List Expr} {t : TA} {E : XK}
/-- the call of such a def -/
theorem pe_callG (F : FnG X.prog X.w X.K X.mg X.base k f fd ps sp) (hr : Room k X.A) (gd : X.A.guards = some []) (hg : Gl X x) (hm : X.mg x = some (.ref f)) (hk : PySem.W.keepIn X.K (.ref f) = true) (hb : Binds X.K fd ps []) (hx : Passes CX0 X E)
    (ha : PA X (e :: es) t) (hdb : (x == ("__debug__" : Str)) = false := by decide) (he : starEach (e :: es) X.env = (false, eval e X.env) :: starEach es X.env := by rfl) (hpl : (backTo pos (starEach es X.env)).any (·.1) = false := by rfl) :
    PE X (.Call (.Name x q) (e :: es) [] pos) (tCall sp [] E t) := by
  refine ⟨fun pins s σ H Q I h => wpAny_Call_Name_kw (ld_glob I hg hm ?_ hdb)⟩
  refine PySem.W.callWith_K (h₀ := X.base) I.ok.mod.kin hk (thn (ha.run pos pins s σ H _ I h) fun us s1 ⟨vs, H1, I1, r, w0⟩ => ⟨I1.kIn, ?_⟩) he hpl
  have w1 : sp (vs ++ []) H1 Q E := w0
  rw [List.append_nil] at w1
  have lenU : us.length = ps.length := by rw [← r.length]; exact F.len _ _ _ _ w1
  have bd := hb s1 us I1.kIn (by rw [List.append_nil]; exact lenU)
  rw [List.append_nil] at bd
  refine wpAny_call (codeAny_mono (F.run X.A X.stack s1 H1 ⟨us, []⟩ us vs Q E hr gd I1.env0 bd r w1) fun r s' hq => ?_)
  cases r with
  | error e => exact hx pins σ H1 s1 e s' I1 hq
  | ok fl =>
    cases fl with
    | ret u => exact I1.after hq
    | next => exact hq.elim
    | brk => exact hq.elim
    | cont => exact hq.elim
/-- repr of a tuple or a list -/
theorem call_reprD (gd : X.A.guards = some []) (hu : X.A.units + 70 < cLine) : CallR X (.builtin "repr") (fun xs H Q => ∃ p d, xs = [.ref p] ∧ Dp X.K H (.ref p) d ∧ d.showable = true ∧ d.hasDict = false ∧ d.depth ≤ 60 ∧ d.shown.length ≤ sizeLine ∧ Q (.str d.shown) H) := by
  intro pins s σ H xs us Q I r h
  obtain ⟨p, d, rfl, hd, sh, nd, dep, hsz, q⟩ := h
  obtain ⟨u, rfl, ru⟩ := vals1 r
  cases (show u = Value.ref p from ru)
  obtain ⟨as, r1⟩ := Dp.reads I d (.ref p) (.ref p) hd rfl
  exact repr_of_reads' r1 sh (fun z => by rw [nd] at z; cases z) gd (by omega) (fun _ _ z => z) (fun h' u tk hk => ⟨.str d.shown, H, I.kept (t' := tk) hk, ⟨u, rfl⟩, q⟩) hsz
end
end GP
set_option maxRecDepth 100000
set_option maxHeartbeats 4000000
/-! rules for sets of ints, min with default=, data compared by <, a list turned round, dict.update -/
namespace HR
open PySem PySem.Spec PyProof.Rows L2 PySem.W
section
variable {X : Cx}
theorem ints_get : ∀ {us : List Value} {ns : List Int}, IntsAre us ns → ∀ {i : Nat} {v : Value}, us[i]? = some v → ∃ z t, ns[i]? = some z ∧ v = .int z t
  | _, _, .nil, _, _, h => by simp at h
  | _, _, .cons n t _, 0, v, h => ⟨n, t, rfl, (Option.some.inj h).symm⟩
  | _, _, .cons n t r, i + 1, v, h => ints_get r (i := i) (by simpa using h)
/-- set(a list or tuple of ints) -/
def rSetI (K : PySem.W.Frag) (w : World) : List V → Hp → VK → Prop := fun vs H Q => ∃ (a : Addr) (ns : List Int), vs = [V.ref a] ∧ (SqL K H a (ns.map V.int) ∨ SqT K H a (ns.map V.int)) ∧ ns.length < 64 ∧
  ∀ (n : Nat) (p : Addr), n ≤ ns.length → H p = none → Q (.ref p) (upd H p (SetO w p (fun j => decide (j ∈ ns)) n))
theorem cr_setI (hc : X.calm = true) : CallR X (.type "set") (rSetI X.K X.w) := by
  intro pins s σ H vs us Q I r h
  obtain ⟨a, ns, rfl, hs, few, q⟩ := h
  rw [Vals.ref1 r]
  rcases hs with hs | hs
  · obtain ⟨its, rv, hl, _⟩ := I.list hs
    have hit : IntsAre its.toArray.toList ns := intsAre_of rv
    refine TSet.made_any (P := X.prog) (w := X.w) (items := its.toArray) (I.ok.hd hc) hl.isList (fun i h => ∃ c, c ≤ i ∧ SetR X.w h s.heap.objs.size (fun j => decide (j ∈ ns.take i)) c) (fun i h h' ⟨c, hc, S⟩ k => ⟨c, hc, S.at fun o e => k _ o (by omega) e⟩)
      (fun h e _ => ⟨0, Nat.le_refl _, setR_new_at e⟩) (fun B i v s1 E' Q' hB hv ⟨c, hc, S⟩ k => ?_) fun h' tk ⟨c, hc, S⟩ keep => ?_
    · obtain ⟨z, t, hz, rfl⟩ := ints_get hit (i := i) (v := v) (by rw [Array.getElem?_toList]; exact hv)
      have hi : i < ns.length := (List.getElem?_eq_some_iff.mp hz).1
      unfold setAdd
      refine wpAny_holding ?_
      refine wpAny_bind ((intKind X.prog X.w).pyHash (k := z) (intKind_is _ _ _ _) ?_)
      refine setR_add_hashed (s := { s1 with toks := s1.toks + 1 }) S (by unfold scanBound; omega) fun h' hsb hS2 => ?_
      have hS3 : SetR X.w h' s.heap.objs.size (fun j => decide (j ∈ ns.take (i + 1))) (if decide (z ∈ ns.take i) = true then c else c + 1) := hS2.congr fun j => by
        rw [List.take_add_one, hz]
        simp [List.mem_append]
      exact k _ h' _ (Nat.le_succ _) hsb ⟨_, by split <;> omega, hS3⟩
    · have e : ns.take its.toArray.size = ns := List.take_of_length_le (by
        have := IntsAre.length hit
        rw [← this]
        simp)
      rw [e] at S
      have hl2 : its.toArray.size = ns.length := by
        have := IntsAre.length hit
        simpa using this
      exact ⟨.ref _, upd H s.heap.objs.size (SetO X.w s.heap.objs.size (fun j => decide (j ∈ ns)) c), I.laid (t' := tk) keep (Nat.le_refl _) (setO_new S), rfl, q c _ (by omega) (I.hok.fresh (Nat.le_refl _))⟩
  · obtain ⟨its, rv, hl, _⟩ := I.tuple hs
    have hit : IntsAre its.toArray.toList ns := intsAre_of rv
    refine call_set_tupI ns (I.ok.hd hc) (show s.heap.IsTuple a its.toArray from hl) hit (by unfold scanBound; omega) fun h' tk c S hcl keep => ?_
    exact ⟨.ref _, upd H s.heap.objs.size (SetO X.w s.heap.objs.size (fun j => decide (j ∈ ns)) c), I.laid (t' := tk) keep (Nat.le_refl _) (setO_new S), rfl, q c _ hcl (I.hok.fresh (Nat.le_refl _))⟩
/-- min(a list of ints, default=d) -/
def minI (d : Int) : List Int → Int
  | [] => d
  | x :: r => r.foldl (fun a y => if y < a then y else a) x
theorem minD_ints (x : Int) : ∀ (r : List Int), minD (.int x) (r.map .int) = .int (r.foldl (fun a y => if y < a then y else a) x) := by
  intro r
  induction r generalizing x with
  | nil => rfl
  | cons y r ih =>
    unfold minD at ih ⊢
    rw [List.map_cons, List.foldl_cons, List.foldl_cons, dataLt_int]
    by_cases h : y < x
    · rw [decide_eq_true h, if_pos rfl, if_pos h]
      exact ih y
    · rw [decide_eq_false h, if_neg Bool.false_ne_true, if_neg h]
      exact ih x
def rMinDef (K : PySem.W.Frag) : List V → List V → Hp → VK → Prop := fun vs zs H Q => ∃ (a : Addr) (ns : List Int) (d : Int), vs = [V.ref a] ∧ zs = [V.int d] ∧ SqL K H a (ns.map V.int) ∧ Q (.int (minI d ns)) H
theorem dp_ints {K : PySem.W.Frag} {H : Hp} : ∀ ns : List Int, DpAll K H (ns.map V.int) (ns.map .int)
  | [] => .nil
  | n :: ns => .cons (.int n) (dp_ints ns)
theorem depth_ints : ∀ ns : List Int, PyData.depthAll (ns.map .int) ≤ 1
  | [] => by simp [PyData.depthAll]
  | n :: ns => by
    rw [List.map_cons, PyData.depthAll]
    exact Nat.max_le.mpr ⟨by simp [PyData.depth], depth_ints ns⟩
theorem cr_minDef (hc : X.calm = true) (hu : X.A.units + 64 < cLine) : CallRK X (.builtin "min") [Str.ofString "default"] (rMinDef X.K) := by
  intro pins s σ H xs zs us ws Q I rx rz h
  obtain ⟨a, ns, d, rfl, rfl, hs, q⟩ := h
  obtain ⟨wd, rfl, rd⟩ := vals1 rz
  obtain ⟨t, rfl⟩ := rd
  obtain ⟨its, rv, hl, _⟩ := I.list hs
  rw [Vals.ref1 rx]
  obtain ⟨as, rr⟩ := Dp.readsAll I (ns.map .int) (ns.map V.int) its (dp_ints ns) rv
  show wpAny _ _ (call (.builtin "min") [.ref a] [(Str.ofString "default", .int d t)]) _ _ s
  refine min_list_default (vs := its.toArray) (xs := ns.map .int) (as := as) (I.ok.hd hc) hl.isList rr ⟨fun x hx y hy => ?_, fun x hx => ?_⟩ (by have := depth_ints ns; omega) (fun e h' tk keep => ?_) fun y ys i v h' tk bs e hv rd keep => ?_
  · obtain ⟨n, _, rfl⟩ := List.mem_map.mp hx
    obtain ⟨m, _, rfl⟩ := List.mem_map.mp hy
    rfl
  · obtain ⟨n, _, rfl⟩ := List.mem_map.mp hx
    exact fun e => by cases e
  · have : ns = [] := by
      cases ns with
      | nil => rfl
      | cons _ _ => cases e
    subst this
    exact ⟨.int d, H, I.kept (t' := tk) keep, ⟨t, rfl⟩, q⟩
  · cases ns with
    | nil => cases e
    | cons n ns =>
      obtain ⟨rfl, rfl⟩ : .int n = y ∧ ns.map .int = ys := by
        have := List.cons.inj e
        exact ⟨this.1, this.2⟩
      rw [minD_ints] at rd
      obtain ⟨z, t2, hz, rfl⟩ := ints_get (show IntsAre its.toArray.toList (n :: ns) from intsAre_of rv) (i := i) (v := v) (by rw [Array.getElem?_toList]; exact hv)
      refine ⟨.int (minI d (n :: ns)), H, I.kept (t' := tk) keep, ?_, q⟩
      show ∃ t', Value.int z t2 = Value.int (ns.foldl (fun a y => if y < a then y else a) n) t'
      cases rd
      exact ⟨_, rfl⟩
/-- x < y, data of one shape -/
def rLtD (K : PySem.W.Frag) : R2 := fun x y H Q => ∃ d e, Dp K H x d ∧ Dp K H y e ∧ alike d e = true ∧ d ≠ .none ∧ d.depth ≤ 60 ∧ Q (.bl (dataLt d e)) H
theorem op_ltD (hu : X.A.units + 64 < cLine) : OpR X (compareOp .Lt) (rLtD X.K) := by
  intro pins s σ H x y v u Q I rx ry h
  obtain ⟨d, e, hd, he, al, nn, dep, q⟩ := h
  obtain ⟨as, r1⟩ := Dp.reads I d x v hd rx
  obtain ⟨bs, r2⟩ := Dp.reads I e y u he ry
  refine lt_data r1 r2 al nn (by have := Nat.min_le_left d.depth e.depth; omega) ⟨.bl (dataLt d e), H, I, rfl, q⟩
/-- repr(None) -/
theorem call_reprN (gd : X.A.guards = some []) (hu : X.A.units + 70 < cLine) : CallR X (.builtin "repr") (fun xs H Q => xs = [.non] ∧ Q (.str "None") H) := by
  intro pins s σ H xs us Q I r h
  obtain ⟨rfl, q⟩ := h
  obtain ⟨u, rfl, ru⟩ := vals1 r
  have e : u = .none := ru
  subst e
  exact PySem.P.repr_of_none ⟨.str "None", H, I.tok _, ⟨_, rfl⟩, q⟩
/-- xs[::-1] of a list -/
def tRev (K : PySem.W.Frag) (te : TE) : TE := fun σ H Q => te σ H fun x H1 => ∃ a xs, x = .ref a ∧ SqL K H1 a xs ∧ ∀ p, H1 p = none → Q (.ref p) (upd H1 p (.lst xs.reverse))
/-- d.update(e), dicts by ints and texts -/
def rUpdK : V → List V → Hp → VK → Prop := fun x xs H Q => ∃ (a b : Addr) (kvs more : List (L2.Key × V)), x = .ref a ∧ xs = [.ref b] ∧ a ≠ b ∧ H a = some (.dK kvs) ∧ H b = some (.dK more) ∧ kvs.length + more.length ≤ sizeLine ∧ Q .non (upd H a (.dK (mergeK kvs more)))
theorem mt_updK : MtR X "dict.update" rUpdK := by
  intro pins s σ H x xs v us Q I rx rxs h
  obtain ⟨a, b, kvs, more, rfl, rfl, nab, ha, hb, few, q⟩ := h
  cases rx
  rw [Vals.ref1 rxs]
  obtain ⟨z, hs, vs, rel, dd⟩ := dk_of I.hok ha
  obtain ⟨z2, hs2, ms, rel2, dd2⟩ := dk_of I.hok hb
  have l1 : kvs.length = vs.length := Paired.length rel
  have l2 : more.length = ms.length := Paired.length rel2
  refine call_meetsIn F.slot_dict_update dd.typeIs F.entry_dict_update (F.args_dict_update_2 _ _) (meets_dict_update (mixKind X.prog X.w) a b nab hs2) ⟨vs, ms, dd, dd2, by omega, fun h' d1 d2 same => ?_⟩
  have hz : (mergeK kvs more).length ≤ sizeLine := Nat.le_trans (length_mergeK more kvs) few
  have I2 : Inv X pins σ (upd H a (.dK (mergeK kvs more))) { s with heap := h', toks := s.toks } := d_write I (by rw [ha]; exact True.intro) same (by obtain ⟨ep, o, es, ho, _⟩ := d1.dictAt; exact ⟨o, ho⟩) (dk_new hz hs (KV.merge rel2 rel) d1)
  exact ⟨.non, _, I2, rfl, q⟩
end
end HR
set_option maxRecDepth 100000
set_option maxHeartbeats 4000000
/-! {k: v for ..} with keys that are tuples of ints and texts -/
namespace HR
open PySem PySem.Spec PyProof.Rows L2
/-- one more entry, by a tuple -/
theorem put_tup {X : Cx} {pp : List (Addr × Obj)} {st : L2.St} {G : Hp} {sh : Shared} {EE : Value → Shared → Prop} {D b : Addr} {kvs : List (List L2.Key × V)} {k : List L2.Key} {v : V} {r : Value} {Q : Unit → Shared → Prop} (roomy : X.A.units < cLine)
    (J : Inv X pp st G sh) (at_ : G D = some (.dT kvs)) (few : kvs.length < sizeLine) (key : G b = some (.tup (k.map kV))) (rv : RelV v r) (nxt : ∀ sh', Inv X pp st (upd G D (.dT (putK kvs k v))) sh' → Q () sh') :
    wpAny (model X.prog X.w) X.A (dictSet D (.ref b) r) Q EE sh := by
  obtain ⟨z, notSys, ys, rel, dd⟩ := dt_of J.hok at_
  have ly : ys.length ≤ sizeLine := by rw [← Paired.length rel]; exact z
  have lk : (putK kvs k v).length ≤ sizeLine := by have := length_putK kvs k v; omega
  refine wpAny_dictSet_heap (hsz := ly) (knd := tupleKind (mixKind X.prog X.w)) (k := k) (show X.A.units < cLine from roomy) (key_of J.hok key) dd fun h' dd' same => nxt _ ?_
  obtain ⟨o, es, ep, ho, h2, h3, h4, _, h5⟩ := dd'
  refine d_write J (by rw [at_]; exact True.intro) same ⟨o, ho⟩ ⟨lk, notSys, _, (rel.put k key rv).keeps fun c zs ec => ?_, o, es, ep, ho, h2, h3, h4, h5⟩
  rw [upd_ne (ne_of ec at_ (fun z => nomatch z))]
  exact ec
def tDcT (wi : TI) (g : TG) (tt : TT) (tk tv : TE) (own : List Nat) : TE := fun st G Q => wi st G fun J G1 => ∀ D, G1 D = none → ∃ W : Nat → Nat → Hp → Prop, (∃ m, W 0 m (upd G1 D (.dT []))) ∧ ∀ i m G, W i m G →
  (J.stop i G ∧ Q (.ref D) G) ∨ (J.go i G ∧ ∃ Nx : Hp → Prop, (∀ G', Nx G' → ∃ m', m' < m ∧ W (i + 1) m' G') ∧ ∀ x G', J.yld i G x G' → g x (wipe st own) G' fun st2 G2 => wipe st2 own = wipe st own ∧ tt st2 G2 fun yes G3 =>
    if yes = true then tk st2 G3 fun y G4 => tv st2 G4 fun z G5 => ∃ kvs k b, y = .ref b ∧ G5 b = some (.tup (k.map kV)) ∧ G5 D = some (.dT kvs) ∧ kvs.length < sizeLine ∧ Nx (upd G5 D (.dT (putK kvs k z))) else Nx G3)
section
variable {X : Cx} {kx vx tg iter : Expr} {ifs : List Expr} {scope : Scope} {own : List (Str × Nat)} {wi : TI} {g : TG} {tt : TT} {tk tv : TE}
theorem pe_dcT {pos : Pos} (calm : X.calm = true) (roomy : X.A.units < cLine) (diff : X.N.Nodup) (walk : PI X tg iter wi) (blk : BlkOk X.N X.env.scope scope own)
    (aim : ∀ (sh : Shared) (G : Hp) (C : Addr) (cl : List (Str × Addr)) (feet : List Addr), PG (X.blk sh G scope (compEnvC scope cl C X.env) feet) tg g)
    (tests : ∀ (sh : Shared) (G : Hp) (C : Addr) (cl : List (Str × Addr)) (feet : List Addr), PTs (X.blk sh G scope (compEnvC scope cl C X.env) feet) ifs tt)
    (keys : ∀ (sh : Shared) (G : Hp) (C : Addr) (cl : List (Str × Addr)) (feet : List Addr), PE (X.blk sh G scope (compEnvC scope cl C X.env) feet) kx tk)
    (vals : ∀ (sh : Shared) (G : Hp) (C : Addr) (cl : List (Str × Addr)) (feet : List Addr), PE (X.blk sh G scope (compEnvC scope cl C X.env) feet) vx tv)
    (plain : ∀ x, foldedSetIterable iter X.env x = pure x := by intro _; rfl) : PE X (.DictComp kx vx [⟨tg, iter, ifs, 0⟩] scope pos) (tDcT wi g tt tk tv (own.map (·.2))) := by
  refine ⟨fun pp sh0 st G0 Q I0 ask => ?_⟩
  rw [arm_eval_DictComp]
  have frees : ∀ y ∈ scope.names, y.2 = .free → ∃ c, X.env.cells.lookup y.1 = some c := fun y hy e => (blk.free y hy e).elim (fun k => I0.ok.has _ (.inl k)) fun k => I0.ok.has _ (.inr k)
  refine wpAny_comprehension_free (use := none) rfl plain (closure_ok frees) blk.kind (fun y hy e => by rw [blk.uniq y hy, e]) (thn (walk.run pp sh0 st G0 _ I0 ask) fun xv sh1 came => thn came fun itv sh2 more => ?_)
  obtain ⟨it, feet, ten, J, G2, rfl, I2, T, at0, free2, turn⟩ := more
  refine wpAny_newObj_type (newEnv_comp ?_)
  have new : G2 sh2.heap.objs.size = none := I2.hok.fresh (Nat.le_refl _)
  obtain ⟨W, ⟨m0, w0⟩, step⟩ := turn _ new
  -- the dict is laid
  obtain ⟨G3, eG3⟩ : ∃ G3, G3 = upd G2 sh2.heap.objs.size (.dT []) := ⟨_, rfl⟩
  rw [← eG3] at w0
  obtain ⟨sh3, e3⟩ : ∃ sh3 : Shared, sh3 = { sh2 with heap := sh2.heap.push { cls := .type "dict", data := .dict #[] } } := ⟨_, rfl⟩
  have I3 : Inv X pp st G3 sh3 := by
    rw [e3, eG3]
    exact I2.laid (t' := sh2.toks) (fun b o q => Heap.get?_push_of_some _ q) (Nat.le_refl _) (dt_empty sh2.heap I2.big)
  have heap3 : sh3.heap = sh2.heap.push { cls := .type "dict", data := .dict #[] } := by rw [e3]
  have low : ∀ b ∈ feet, b < sh2.heap.objs.size := fun b hb => Heap.lt_size (T.obj _ _ at0 b hb).choose_spec.1
  have free3 : ∀ b ∈ feet, FpOk X pp G3 b ∧ b < sh3.heap.objs.size := fun b hb => ⟨⟨by rw [eG3, upd_ne (Nat.ne_of_lt (low b hb))]; exact (free2 b hb).1, (free2 b hb).2⟩, by rw [heap3, Heap.size_push]; exact Nat.lt_succ_of_lt (low b hb)⟩
  have at3 : ten 0 sh3.heap := T.keep _ _ _ at0 fun b _ o q => by rw [heap3]; exact Heap.get?_push_of_some _ q
  have I4 := block_start I3 blk diff free3
  obtain ⟨C, eC⟩ : ∃ C, C = sh3.heap.objs.size := ⟨_, rfl⟩
  obtain ⟨cl, ecl⟩ : ∃ cl, cl = cellsFrom (sh3.heap.objs.size + 1) scope.names (cloFrom X.env.cells scope.names []) := ⟨_, rfl⟩
  obtain ⟨sh4, e4⟩ : ∃ sh4 : Shared, sh4 = { sh3 with heap := pushCells (sh3.heap.push { cls := .type "dict", data := .dict #[] }) scope.names } := ⟨_, rfl⟩
  rw [← ecl, ← eC, ← e4] at I4
  have at4 : ten 0 sh4.heap := T.keep _ _ _ at3 fun b _ o q => by rw [e4]; exact pushCells_keeps _ _ _ _ (Heap.get?_push_of_some _ q)
  have none3 : ∀ b ∈ feet, G3 b = none := fun b hb => (free3 b hb).1.1
  obtain ⟨Y, eY⟩ : ∃ Y, Y = X.blk sh3 G3 scope (compEnvC scope cl C X.env) feet := ⟨_, rfl⟩
  rw [← eY] at I4
  have held : ∀ {st' : L2.St} {G' : Hp} {sh' : Shared}, Inv Y [] st' G' sh' → (∀ b ∈ feet, G' b = none) → ∀ b ∈ feet, FpOk Y [] G' b := by
    subst eY
    exact fun {_ _ _} I' no b hb => ⟨no b hb, (I'.ok.exf b hb).1, I'.ok.exfs b hb, .inl hb, fun x c q => (I'.ok.exf b hb).2 x c q, fun p hp => absurd (show p ∈ ([] : List (Addr × Obj)) ++ [] from hp) (by simp)⟩
  have locC : (compEnvC scope cl C X.env).locals = C := rfl
  have loop : codeAny (model X.prog X.w) X.A (.compLoop (.DictComp kx vx [⟨tg, iter, ifs, 0⟩] scope pos) 0 (.ref it) (.ref sh2.heap.objs.size) (compEnvC scope cl C X.env)) (compPost (model X.prog X.w) X.A X.xe none (EP X pp st Q) (.ref sh2.heap.objs.size) C) sh4 := by
    subst eY
    refine compLoop_anyD (fun left sh => ∃ i G, Inv (X.blk sh3 G3 scope (compEnvC scope cl C X.env) feet) [] (wipe st (own.map (·.2))) G sh ∧ ten i sh.heap ∧ (∀ b ∈ feet, G b = none) ∧ W i left G) ?_ m0 ⟨0, G3, I4, at4, none3, w0⟩
    rintro left sh5 ⟨i, G5, I5, at5, no5, w5⟩
    rcases step i left G5 w5 with ⟨over, good⟩ | ⟨on, Nx, fewer, go⟩
    · -- the walk is over
      refine thnF (T.done (X.blk sh3 G3 scope (compEnvC scope cl C X.env) feet) rfl rfl rfl calm i [] sh5 _ G5 (fun _ _ => False) I5 (held I5 no5) at5 over) fun r sh6 ⟨er, I6⟩ => ?_
      subst er
      have I7 : Inv X pp st G5 sh6 := I3.call' (ch := feet) I6.os I6.base I6.hok I6.bare fun b hb => let f := (free3 b hb).1.2; ⟨f.2.2.1, f.1, f.2.2.2.1, f.2.2.2.2⟩
      have noC : G5 C = none := I6.free
      obtain ⟨m, names, _⟩ := I6.loc
      obtain ⟨f0, f1, f2, f3, f4, f5⟩ := I3.fpOk (Nat.le_of_eq eC.symm) noC
      exact ⟨m, names, fun h'' sb => ⟨.ref sh2.heap.objs.size, G5, I7.turned (t' := sh6.toks) (fun b o hb q => (sb.2 b hb).trans q) f0 f1 f3 f4 f5, rfl, good⟩⟩
    · -- one turn
      refine thnF (T.item (X.blk sh3 G3 scope (compEnvC scope cl C X.env) feet) rfl rfl rfl calm i [] sh5 _ G5 (fun _ _ => False) I5 (held I5 no5) at5 on) fun r sh6 ⟨u, er, rest⟩ => ?_
      subst er
      refine thnF rest fun _ sh7 ⟨x, G7, I7, rx, y7, at7, no7⟩ => ?_
      have P7 := I7.pinned (held I7 no7) (T.obj _ _ at7)
      refine thnF ((aim sh3 G3 C cl feet).run _ sh7 _ G7 x u _ P7 rx (go x G7 y7)) fun _ sh8 ⟨st8, G8, I8, same8, q8⟩ => ?_
      refine thnF ((tests sh3 G3 C cl feet).run _ sh8 st8 G8 _ I8 q8) fun yes sh9 ⟨G9, I9, q9⟩ => ?_
      have back : ∀ {sh' : Shared} {G' : Hp}, Inv (X.blk sh3 G3 scope (compEnvC scope cl C X.env) feet) ([] ++ pinsAt feet sh7.heap) st8 G' sh' → Nx G' →
          ∃ m, m < left ∧ ∃ i G, Inv (X.blk sh3 G3 scope (compEnvC scope cl C X.env) feet) [] (wipe st (own.map (·.2))) G sh' ∧ ten i sh'.heap ∧ (∀ b ∈ feet, G b = none) ∧ W i m G := by
        intro sh' G' I' nx
        obtain ⟨m', less, w'⟩ := fewer G' nx
        have pin : ∀ b ∈ feet, ∀ o, sh7.heap.get? b = some o → sh'.heap.get? b = some o ∧ G' b = none := fun b hb o q => by
          have z := I'.pin (b, o) (List.mem_append_right _ (List.mem_append_right _ (mem_pinsAt hb q)))
          exact ⟨z.1, z.2.1⟩
        have len : (wipe st (own.map (·.2))).length = st8.length := by rw [← same8, wipe_length]
        refine ⟨m', less, i + 1, G', (I'.unpinned (pins := [])).weak len (fun j v q => ?_), T.keep _ _ _ at7 fun b hb o q => (pin b hb o q).1, fun b hb => ?_, w'⟩
        · rw [← same8] at q
          exact (wipe_some q).1
        · obtain ⟨o, q, _⟩ := T.obj _ _ at7 b hb
          exact (pin b hb o q).2
      cases yes with
      | false => exact back I9 q9
      | true =>
        refine thnF ((keys sh3 G3 C cl feet).run _ sh9 st8 G9 _ I9 q9) fun ku sh10 ⟨yk, G10, I10, rk, q10⟩ => ?_
        refine thnF ((vals sh3 G3 C cl feet).run _ sh10 st8 G10 _ I10 q10) fun vu sh11 ⟨yv, G11, I11, rv, kvs, k, b, ek, hb, hD, few, nx⟩ => ?_
        subst ek
        obtain rfl : ku = .ref b := rk
        exact put_tup (X := X.blk sh3 G3 scope (compEnvC scope cl C X.env) feet) roomy I11 hD few hb rv fun sh12 I12 => back I12 nx
  show codeAny _ _ (.compStart (.DictComp kx vx [⟨tg, iter, ifs, 0⟩] scope pos) 0 (.ref it) (.ref sh2.heap.objs.size) (compEnvC scope (cellsFrom (sh2.heap.push { cls := .type "dict", data := .dict #[] }).objs.size.succ scope.names (cloFrom X.env.cells scope.names [])) (sh2.heap.push { cls := .type "dict", data := .dict #[] }).objs.size X.env)) _ _
  rw [heap3] at eC ecl
  subst e3
  subst e4 ecl eC
  exact codeAny_compStart_dict loop (T.self X.A 0 _ _ _ at4 loop)
end
end HR
set_option maxRecDepth 100000
set_option maxHeartbeats 4000000
/-! min(rows, key=len); xs[::-1]; list(d), d by tuples -/
namespace HR
open PySem PySem.Spec PyProof.Rows L2 PySem.W
section
variable {X : Cx} {e : Expr} {te : TE} {t : TA} {p p2 pos kpos : Pos}
theorem tups_at {pp : List (Addr × Obj)} {st : L2.St} {H : Hp} {s : Shared} (I : Inv X pp st H s) {xs : List V} {its : List Value} (r : Vals xs its) (all : ∀ v ∈ xs, ∃ b ys, v = V.ref b ∧ SqT X.K H b ys) :
    ∀ (i : Nat) (v : Value), its[i]? = some v → ∃ b ys us, v = Value.ref b ∧ xs[i]? = some (V.ref b) ∧ Vals ys us ∧ IsTup s.heap b us.toArray ∧ us.length ≤ sizeLine := by
  intro i v hv
  have hi : i < xs.length := by rw [r.length]; exact (List.getElem?_eq_some_iff.mp hv).1
  obtain ⟨u, hu, ru⟩ := r.get (List.getElem?_eq_getElem hi)
  obtain ⟨b, ys, eb, hb⟩ := all _ (List.getElem_mem hi)
  obtain ⟨us, rv, ht, z⟩ := I.tuple hb
  rw [eb] at ru
  have ev : u = Value.ref b := ru
  rw [hv] at hu
  exact ⟨b, ys, us, by rw [← ev]; exact (Option.some.inj hu), by rw [List.getElem?_eq_getElem hi, eb], rv, ht, by rw [← rv.length]; exact z⟩
/-- some row of a list of tuples (the shortest; which is not told) -/
def tMinLen (K : PySem.W.Frag) (t : TA) : TE := fun σ H Q => t σ H fun vs H1 => ∃ a xs, vs = [V.ref a] ∧ SqL K H1 a xs ∧ xs ≠ [] ∧ (∀ v ∈ xs, ∃ b ys, v = V.ref b ∧ SqT K H1 b ys) ∧ ∀ v ∈ xs, Q v H1
theorem pe_minLen (calm : X.calm = true) (hu : X.A.units + 64 < cLine) (g1 : Gl X "min") (m1 : X.mg "min" = none) (g2 : Gl X "len") (m2 : X.mg "len" = none) (ha : PA X [e] t)
    (h1 : backTo pos (starEach [e] X.env) = (false, eval e X.env) :: backTo pos (starEach [] X.env) := by rfl) (h2 : (backTo pos (starEach [e] X.env)).any (·.1) = false := by rfl) :
    PE X (.Call (.Name "min" p) [e] [⟨some "key", .Name "len" p2, kpos⟩] pos) (tMinLen X.K t) := by
  refine ⟨fun pins s σ H Q I h => ?_⟩
  refine wpAny_Call_Name_kw (ld_blt I g1 m1 (u := .builtin "min") (by first | rfl | decide +kernel) ?_)
  refine PyProof.Rows.callWith_kw (thn (ha.run pos pins s σ H _ I h) fun us s1 ⟨vs, H1, I1, r1, a, xs, ev, hs, ne, all, q⟩ => ?_) h1 h2
  subst ev
  obtain ⟨u, rfl, ru⟩ := vals1 r1
  have eu : u = Value.ref a := ru
  subst eu
  show wpAny _ _ (evalAll ((do let v ← eval (.Name "len" p2) X.env; standAt pos; pure v) :: [])) _ _ s1
  refine wpAny_evalAll_cons (wpAny_bind (ld_blt I1 g2 m2 (u := .builtin "len") (by first | rfl | decide +kernel) (wpAny_bind (wpAny_standAt (wpAny_pure ?_)))))
  refine wpAny_evalAll_nil ?_
  show wpAny _ _ (call (.builtin "min") [.ref a] [(Str.ofString "key", .builtin "len")]) _ _ s1
  obtain ⟨its, rv, hl, z⟩ := I1.list hs
  have hd : X.A.in1.handled = none := I1.ok.hd calm
  have at_ := tups_at I1 rv all
  have lx : xs.length = its.length := rv.length
  let lens : List Nat := its.map fun v => match v with | Value.ref b => (match s1.heap.get? b with | some o => (match o.data with | .seq vs _ => vs.size | _ => 0) | none => 0) | _ => 0
  have lenAt : ∀ (i : Nat) (v : Value), its[i]? = some v → ∃ b, ∃ us : List Value, v = Value.ref b ∧ IsTup s1.heap b us.toArray ∧ us.length ≤ sizeLine ∧ lens.getD i 0 = us.length := fun i v hv => by
    obtain ⟨b, ys, us, rfl, _, _, ht, zu⟩ := at_ i v hv
    refine ⟨b, us, rfl, ht, zu, ?_⟩
    obtain ⟨o, ho, _, n, hdt⟩ := id ht
    show (its.map _).getD i 0 = _
    rw [List.getD_eq_getElem?_getD, List.getElem?_map, hv]
    show (match s1.heap.get? b with | some o => (match o.data with | .seq vs _ => vs.size | _ => 0) | none => 0) = _
    rw [ho]
    show (match o.data with | .seq vs _ => vs.size | _ => 0) = _
    rw [hdt]
    simp
  refine call_min_walkKB (iter_listW (A := X.A.in1) hd hl.isList fun s2 e2 W st0 hfp hw hk => ?_)
  have hn : 0 < its.toArray.size := by
    rw [List.size_toArray, ← lx]
    exact List.length_pos_iff.mpr ne
  refine ⟨_, _, _, _, _, _, _, (fun s' => ∃ h' tk, s' = { s1 with heap := h', toks := tk } ∧ ∀ b o, s1.heap.get? b = some o → h'.get? b = some o), (fun i k _ => ∃ tk, k = Value.int (lens.getD i 0 : Nat) tk), (fun i j => (fun (m n : Nat) => decide (m < n)) (lens.getD i 0) (lens.getD j 0)), rfl, W, st0, hfp, hn, ?_, ⟨s2.heap, s2.toks, by rw [e2], hk⟩, fun v s' hv ⟨h', tk, es, keep⟩ => ?_⟩
  · exact {
      keep := fun s s' ⟨h', tk, es, keep⟩ m => by
        subst es
        obtain ⟨hp, g, d, tk', os⟩ := s'
        have hg : g = s1.gens := m.gens
        have hdr : d = s1.drawn := m.drawn
        have hos : os = s1.os := m.os
        subst hg hdr hos
        refine ⟨hp, tk', rfl, fun b o q => m.heap b o (fun hb => ?_) (keep b o q)⟩
        have hlt := Heap.lt_size q
        have e3 : s2.heap.objs.size = s1.heap.objs.size + 1 := by rw [e2]; exact Heap.size_push _ _
        simp only [List.mem_cons, List.not_mem_nil, or_false] at hb
        rcases hb with hb | hb
        · rw [hb, e3] at hlt
          exact absurd hlt (Nat.not_lt.mpr (Nat.le_succ _))
        · rw [hb] at hlt
          exact absurd hlt (Nat.lt_irrefl _)
      keepV := fun i k s s' hv _ => hv
      turn := fun i v s o Q' E' hi hv ⟨h', tk, es, keep⟩ st ho nxt => by
        subst es
        obtain ⟨b, us, rfl, ht, zu, el⟩ := lenAt i v (by simpa using hv)
        have ht2 : IsTup h' b us.toArray := by
          obtain ⟨o2, h1, h2, h3⟩ := ht
          exact ⟨o2, keep _ _ h1, h2, h3⟩
        refine len_tuple (s := { s1 with heap := h', toks := tk }) ht2 (by have := line63; rw [List.size_toArray]; omega) (nxt _ _ ⟨h', tk + 1 + 1, rfl, keep⟩ st ho ⟨tk + 1, ?_⟩ fun j k' z => z)
        rw [el, List.size_toArray]
      cmp := fun i j ki kj s Q' E' _ ⟨t1, e1⟩ ⟨t2, e2⟩ q' => by
        subst e1 e2
        refine P.lt_int ?_
        rw [show decide (((lens.getD i 0 : Nat) : Int) < ((lens.getD j 0 : Nat) : Int)) = decide (lens.getD i 0 < lens.getD j 0) from decide_eq_decide.mpr (by omega)]
        exact q' }
  · subst es
    have hb : argBest (fun i j => (fun (m n : Nat) => decide (m < n)) (lens.getD i 0) (lens.getD j 0)) (its.toArray.size - 1) < its.length := by
      have le : lens.length = its.length := List.length_map _
      cases hle : lens with
      | nil => rw [hle] at le; rw [List.size_toArray] at hn; simp at le; omega
      | cons x ls =>
        have ab := (argBest_fold (fun (m n : Nat) => decide (m < n)) 0 x ls (its.toArray.size - 1) (by rw [hle] at le; rw [List.size_toArray]; simp at le; omega)).1
        rw [List.size_toArray] at ab hn ⊢
        exact Nat.lt_of_le_of_lt ab (by omega)
    have hv2 : its[argBest (fun i j => (fun (m n : Nat) => decide (m < n)) (lens.getD i 0) (lens.getD j 0)) (its.toArray.size - 1)]? = some v := by simpa using hv
    obtain ⟨b, ys, us, rfl, hx, _⟩ := at_ _ v hv2
    exact ⟨.ref b, H1, I1.kept (t' := tk) keep, rfl, q _ (List.mem_of_getElem? hx)⟩
end
end HR
set_option maxRecDepth 100000
set_option maxHeartbeats 4000000
/-! xs[::-1]; list(d), d by tuples -/
namespace HR
open PySem PySem.Spec PyProof.Rows L2
theorem pick_back (l : List Value) : slicePick l.toArray none none (some (-1)) = l.reverse.toArray := by
  unfold slicePick
  rw [List.size_toArray]
  show ((sliceRange ((l.length : Int) - 1) (-1) (-1)).filterMap (l.toArray[·]?)).toArray = _
  congr 1
  unfold sliceRange
  by_cases h0 : l.length = 0
  · have : l = [] := List.eq_nil_of_length_eq_zero h0
    subst this
    rfl
  have c : (if (-1 : Int) > 0 then (if ((l.length : Int) - 1) < -1 then (-1 - ((l.length : Int) - 1) + -1 - 1) / -1 else 0) else (if ((l.length : Int) - 1) > -1 then ((l.length : Int) - 1 - -1 - -1 - 1) / (- -1) else 0)) = (l.length : Int) := by
    rw [if_neg (by decide), if_pos (by omega), show (- -1 : Int) = 1 from rfl, Int.ediv_one]
    omega
  dsimp only
  rw [c, Int.toNat_natCast]
  apply List.ext_getElem?
  intro i
  have fm : ∀ (n : Nat), n ≤ l.length → ((List.range n).map fun (k : Nat) => (((l.length : Int) - 1) + -1 * (k : Int)).toNat).filterMap (l.toArray[·]?) = l.reverse.take n := by
    intro n
    induction n with
    | zero => intro _; rfl
    | succ n ih =>
      intro hn
      rw [List.range_succ, List.map_append, List.filterMap_append, ih (by omega), List.take_add_one]
      congr 1
      have e : ((l.length : Int) - 1 + -1 * (n : Int)).toNat = l.length - 1 - n := by omega
      simp only [List.map_cons, List.map_nil, List.filterMap_cons, List.filterMap_nil, e]
      rw [List.getElem?_reverse (by omega)]
      have hi : l.length - 1 - n < l.length := by omega
      simp [List.getElem?_eq_getElem hi]
  rw [fm l.length (Nat.le_refl _), List.take_of_length_le (by simp)]
section
variable {X : Cx} {e st : Expr} {te ts : TE} {p2 pos : Pos}
/-- xs[::k] with k = -1 -/
def tBack (K : PySem.W.Frag) (te ts : TE) : TE := fun σ H Q => te σ H fun x H1 => ts σ H1 fun y H2 => y = .int (-1) ∧ ∃ a xs, x = .ref a ∧ SqL K H2 a xs ∧ ∀ p, H2 p = none → Q (.ref p) (upd H2 p (.lst xs.reverse))
theorem pe_back (he : PE X e te) (hs : PE X st ts) : PE X (.Subscript e (.Slice none none (some st) p2) pos) (tBack X.K te ts) := by
  refine ⟨fun pins s σ H Q I h => ?_⟩
  refine Subscript_ (thn (he.run pins s σ H _ I h) fun v s1 ⟨x, H1, I1, r1, q1⟩ => ?_)
  refine wpAny_Slice ?_
  rw [evalPart_none]
  refine wpAny_pure (wpAny_pure ?_)
  rw [evalPart_some]
  refine thn (hs.run pins s1 σ H1 _ I1 q1) fun u s2 ⟨y, H2, I2, r2, ey, a, xs, ex, hx, q⟩ => ?_
  subst ey ex
  obtain ⟨tk, rfl⟩ := r2
  obtain rfl : v = .ref a := r1
  have I3 : Inv X pins σ H2 { s2 with heap := s2.heap.push { cls := .type "slice", data := .fields #[.none, .none, .int (-1) tk] } } := I2.kept (t' := s2.toks) fun b ob q => Heap.get?_push_of_some _ q
  obtain ⟨its, r, ht, hz⟩ := I3.list hx
  show wpAny (model X.prog X.w) X.A (subscriptTail e (.Slice none none (some st) p2) (.ref a) (.ref s2.heap.objs.size)) (EP X pins σ Q) X.xe { s2 with heap := s2.heap.push { cls := .type "slice", data := .fields #[.none, .none, .int (-1) tk] } }
  refine tail_any (ops := [.ref a, .ref s2.heap.objs.size]) ht.isList.typeIs slot_list_getitem.lookup ?_ (by with_unfolding_all rfl)
  refine wpAny_getItem_list_slice ht.isList (Heap.IsSliceOf.new ..) .none .none (.int (-1) tk) (by simp) ?_ (by rw [List.size_toArray, ← r.length]; exact hz)
  rw [pick_back]
  refine ⟨.ref _, _, I3.laid (t' := s2.toks) (o := .lst xs.reverse) (fun b ob q => Heap.get?_push_of_some _ q) (Nat.le_refl _) ⟨by rw [List.length_reverse]; exact hz, its.reverse, 0, r.reverse, Heap.get?_push_size _ rfl⟩, rfl, q _ (I3.hok.fresh (Nat.le_refl _))⟩
/-- list(d), d by tuples: its keys -/
def rKeysT : List V → Hp → VK → Prop := fun xs H Q => ∃ (d : Addr) (kvs : List (List L2.Key × V)), xs = [.ref d] ∧ H d = some (.dT kvs) ∧ ∀ (ks : List Addr) q, ks.length = kvs.length → (∀ (i : Nat) (b : Addr) (kv : List L2.Key × V), ks[i]? = some b → kvs[i]? = some kv → H b = some (.tup (kv.1.map kV))) → H q = none → Q (.ref q) (upd H q (.lst (ks.map V.ref)))
theorem cr_keysT (hc : X.calm = true) : CallR X (.type "list") rKeysT := by
  intro pins s σ H xs us Q I rx h
  obtain ⟨d, kvs, rfl, hd, q⟩ := h
  rw [Vals.ref1 rx]
  obtain ⟨z, hs, ys, rel, dd⟩ := dt_of I.hok hd
  obtain ⟨es, ep, raw, he⟩ := TV.raw_of dd
  have hl : kvs.length = ys.length := Paired.length rel
  have hes : es.size = ys.length := by
    have := congrArg List.length he
    rwa [List.length_map, Array.length_toList] at this
  refine PySem.W.kdl_call (PySem.KdlSrc.rawDict (d := d) (es := es) (ep := ep) hs) (I.ok.hd hc) raw (by omega) fun h' tk acc c hk hS hacc => ?_
  have ent : ∀ (j : Nat) (w : Value), acc.toList[j]? = some w → ∃ y : List L2.Key × Addr × Value, ys[j]? = some y ∧ w = .ref y.2.1 := fun j w hw => by
    obtain ⟨hi, hv⟩ := hacc.2 j w (by rw [← Array.getElem?_toList]; exact hw)
    have hj : j < ys.length := by omega
    refine ⟨ys[j], List.getElem?_eq_getElem hj, ?_⟩
    have e1 : es.toList[j]? = some (entryOfKey (tupleKind (mixKind X.prog X.w)) ys[j]) := by rw [he, List.getElem?_map, List.getElem?_eq_getElem hj]; rfl
    have e2 : es.toList[j]? = some es[j] := by rw [Array.getElem?_toList, Array.getElem?_eq_getElem hi]
    rw [hv, Option.some.inj (e2.symm.trans e1)]
    rfl
  have la : acc.toList.length = ys.length := by rw [Array.length_toList, hacc.1, hes]
  refine ⟨.ref s.heap.objs.size, upd H s.heap.objs.size (.lst ((ys.map fun y => y.2.1).map V.ref)), I.laid (t' := tk) hk (Nat.le_refl _) (show ObjOk X.prog X.w _ _ _ (.lst _) from ⟨by rw [List.length_map, List.length_map, ← hl]; exact z, acc.toList, c, ?_, ?_⟩), rfl, q _ _ (by rw [List.length_map, hl]) (fun i b kv hb hkv => ?_) (I.hok.fresh (Nat.le_refl _))⟩
  · refine vals_of_at (by rw [List.length_map, List.length_map, la]) fun j x w h1 h2 => ?_
    obtain ⟨y, hy, rfl⟩ := ent j w h2
    rw [List.map_map, List.getElem?_map, hy] at h1
    cases h1
    rfl
  · rw [Array.toArray_toList]; exact hS
  · rw [List.getElem?_map] at hb
    obtain ⟨y, hy, rfl⟩ := Option.map_eq_some_iff.mp hb
    obtain ⟨y2, hy2, hr⟩ := TV.pair_get rel hkv
    rw [hy] at hy2
    cases hy2
    exact hr.2.1
end
end HR
set_option maxRecDepth 100000
set_option maxHeartbeats 4000000
/-! enumerate(a list or tuple) -/
namespace HR
open PySem PySem.Spec PyProof.Rows L2 PySem.W
/-- the tuple at a, its items in new pairs -/
def ItT (K : PySem.W.Frag) (a : Addr) : It :=
  ⟨fun i H => ∃ (xs : List V) (x : V), SqT K H a xs ∧ xs[i]? = some x, fun i H v H' => ∃ T x, v = .ref T ∧ H T = none ∧ H' = upd H T (.tup [.int (i : Nat), x]) ∧ ∀ xs, SqT K H a xs → xs[i]? = some x, fun i H => ∃ xs : List V, SqT K H a xs ∧ xs.length ≤ i⟩
theorem walk_enT {K : PySem.W.Frag} {a : Addr} {xs : List V} : L2.Walk (ItT K a) xs.length (fun H => SqT K H a xs) (YPair (fun i => some (.int (i : Nat))) (fun i => xs[i]?)) :=
  ⟨fun i _ hi q => ⟨xs, xs[i], q, by simp [hi]⟩, fun _ q => ⟨xs, q, Nat.le_refl _⟩, fun i H v H' _ q ⟨T, x, h1, h2, h3, h4⟩ => ⟨T, .int (i : Nat), x, h1, h2, h3, rfl, h4 xs q⟩⟩
theorem turn_enT {P : Program} {w : World} {K : PySem.W.Frag} {elts : List Expr} {kk : Nat} {tpos : Pos} (a e it : Addr) :
    Turn P w K (.Tuple elts kk tpos) (ItT K a) [e, it] e (fun i h => (∃ old, IsEnum h e it ((i : Nat) : Int) old) ∧ h.IsTupleIter it a i ∧ e ≠ it) where
  mem := List.mem_cons_self
  obj := fun i h st b hb => by
    obtain ⟨⟨old, he⟩, ⟨o, ho, _, hd⟩, _⟩ := st
    rcases List.mem_cons.mp hb with z | hb
    · rw [z]
      exact ⟨_, he, fun v q => nomatch q⟩
    · exact ⟨o, by rw [List.mem_singleton.mp hb]; exact ho, fun v q => by rw [hd] at q; cases q⟩
  keep := fun i h h' ⟨⟨old, he⟩, hi, ne⟩ k => ⟨⟨old, k e List.mem_cons_self _ he⟩, hi.at fun o q => k it (List.mem_cons_of_mem _ List.mem_cons_self) o q, ne⟩
  item := by
    intro X hP hw hK calm i pp s σ H E I feet ⟨⟨old, he⟩, hit, ne⟩ ⟨xs, x, hx, hi⟩
    subst hP hw hK
    obtain ⟨its, rv, pt, few⟩ := I.tuple hx
    obtain ⟨u, hu, ru⟩ := rv.get hi
    have he' : e < s.heap.objs.size := Heap.lt_size he
    have hit' : it < s.heap.objs.size := by obtain ⟨o, q, _⟩ := hit; exact Heap.lt_size q
    obtain ⟨f1, f2⟩ := feet it (List.mem_cons_of_mem _ List.mem_cons_self)
    obtain ⟨ob, hob, _⟩ := id hit
    have hai : a ≠ it := fun z => by
      obtain ⟨o2, h2, c2, _⟩ := pt
      obtain ⟨o3, h3, c3, _⟩ := id hit
      rw [z] at h2
      rw [h2] at h3
      cases h3
      rw [c2] at c3
      exact absurd (Value.type.inj c3) (by decide)
    have hae : e ∉ [it, a] := by
      intro z
      rcases List.mem_cons.mp z with z | z
      · exact ne z
      · rw [List.mem_singleton.mp z] at he
        obtain ⟨o2, h2, c2, _⟩ := pt
        rw [show s.heap.get? a = some _ from he] at h2
        cases h2
        exact absurd (Value.type.inj c2) (by decide)
    refine wpAny_pyNext_enum_itemD (Draws.tuple (prog := X.prog) (w := X.w) (A := X.A.in1) (I.ok.hd calm) it a hai its.toArray) he ⟨hit, pt⟩ (i := i) (by rw [List.size_toArray]; exact (List.getElem?_eq_some_iff.mp hu).1) ne hae fun y h' tk hy ho st' hT hsz hk => ?_
    have ey : y = u := by
      have : its[i]? = some y := by simpa using hy
      rw [hu] at this
      exact (Option.some.inj this).symm
    subst ey
    refine ⟨_, rfl, wpAny_letOwnedTupleGo_enum (s := { s with heap := h', toks := tk + 1 }) ho fun h'' he2 sb => ?_⟩
    have hT2 : h''.get? s.heap.objs.size = some { cls := .type "tuple", data := .seq #[.int i tk, y] } := (sb.2 _ (Nat.ne_of_gt he')).trans hT
    have new : ObjOk X.prog X.w (upd H s.heap.objs.size (.tup [.int (i : Nat), x])) h'' s.heap.objs.size (.tup [.int (i : Nat), x]) := ⟨by show 2 ≤ sizeLine; decide, [.int i tk, y], .cons ⟨_, rfl⟩ (.cons ru .nil), ⟨_, hT2, rfl, _, rfl⟩⟩
    have I2 : Inv X pp σ (upd H s.heap.objs.size (.tup [.int (i : Nat), x])) { s with heap := h'', toks := tk + 1 } :=
      I.turnedNew (ch := [e, it]) (fun b o hb q => (sb.2 b (fun z => hb (by rw [z]; exact List.mem_cons_self))).trans (hk b o (fun z => hb (by rw [z]; exact List.mem_cons_self)) (fun z => hb (by rw [z]; exact List.mem_cons_of_mem _ List.mem_cons_self)) q)) feet (Nat.le_refl _) new
    refine ⟨.ref s.heap.objs.size, _, I2, rfl, ⟨_, x, rfl, I.hok.fresh (Nat.le_refl _), rfl, fun ys hy2 => by rw [I.tuple_inj hy2 hx]; exact hi⟩, ⟨⟨y, ?_⟩, st'.1.at fun o q => (sb.2 it (Ne.symm ne)).trans q, ne⟩, fun b hb => ?_⟩
    · have e1 : ((i + 1 : Nat) : Int) = (i : Int) + 1 := by omega
      rw [e1]; exact he2
    · have lt : b < s.heap.objs.size := by
        rcases List.mem_cons.mp hb with z | z
        · rw [z]; exact he'
        · rw [List.mem_singleton.mp z]; exact hit'
      rw [upd_ne (Nat.ne_of_lt lt)]
      exact (feet b hb).1
  done := by
    intro X hP hw hK calm i pp s σ H E I feet ⟨⟨old, he⟩, hit, ne⟩ ⟨xs, hx, over⟩
    subst hP hw hK
    obtain ⟨its, rv, pt, few⟩ := I.tuple hx
    obtain ⟨f0, f1, f2, f3, f4, f5⟩ := feet it (List.mem_cons_of_mem _ List.mem_cons_self)
    have hai : a ≠ it := fun z => by
      obtain ⟨o2, h2, c2, _⟩ := pt
      obtain ⟨o3, h3, c3, _⟩ := id hit
      rw [z] at h2
      rw [h2] at h3
      cases h3
      rw [c2] at c3
      exact absurd (Value.type.inj c3) (by decide)
    have hl := rv.length
    have none_ : its.toArray[i]? = none := by simp; omega
    have hT : s.TypeIs (.ref e) "enumerate" := ⟨_, he, rfl⟩
    unfold pyNext
    refine wpAny_bind (wpAny_attempt (wpAny_callSpecial?_slot (name := Str.ofString "__next__") hT F.slot_enumerate_next (wpAny_call_entry F.slot_enumerate_next hT F.entry_enumerate_next ?_ (F.args_enumerate_next_1 _))))
    show wpAny _ _ (field (.ref e) 2 >>= _) _ _ _
    refine wpAny_bind (wpAny_field he rfl (x := .ref it) rfl ?_)
    refine wpAny_bind (wpAny_nextOf_tuple_end (I.ok.hd calm) hit pt none_ fun h' x eb hx' => ?_)
    obtain ⟨o, ho, hc⟩ := hx'
    refine wpAny_bind (wpAny_isInstance (T := "StopIteration") (b := true) ⟨o, ho, hc⟩ isSubtype_stop ?_)
    exact wpAny_pure ⟨rfl, I.turned (t' := s.toks) (fun b o hb q => eb b o hb q) f0 f1 f3 f4 f5⟩
  self := fun A i s Q E ⟨⟨_, he⟩, _⟩ h => wpAny_pyIter_enum he h
set_option maxHeartbeats 4000000 in
theorem meets_enum_new {v : Value} {o : Obj} {Hh : Heap → Prop} (B : Begins v o Hh) :
    Meets (Builtin.«enumerate.__new__» ⟨[.type "enumerate", v], []⟩) (fun _ R s => Hh s.heap ∧
      R (.ok (.ret (.ref (s.heap.push o).objs.size))) { s with heap := (s.heap.push o).push { cls := .type "enumerate", data := .fields #[.none, .bool false, .ref s.heap.objs.size, rawInt 0, .none, .none] } }) :=
  .of_wp fun prog w A R s both => by
    obtain ⟨hp, g, d, tk, os⟩ := s
    obtain ⟨h1, h⟩ := both
    have sub := sub_enumerate
    have it_ : ∀ {A' : Around} {E : Value → Shared → Prop} {Q : Value → Shared → Prop}, Q (.ref hp.objs.size) ⟨hp.push o, g, d, tk, os⟩ → wpAny (model prog w) A' (pyIter v) Q E ⟨hp, g, d, tk, os⟩ := fun q => B.iter prog w _ _ ⟨hp, g, d, tk, os⟩ _ h1 q
    wp_walk using it_
    refine wpAny_stack_any fun st => wpAny_pure ?_
    split
    · rename_i c _ _ _ _ _
      cases (c == Value.type "enumerate") <;> (wp_walk using it_; exact ⟨_, rfl, h⟩)
    · wp_walk using it_
      exact ⟨_, rfl, h⟩
section
variable {X : Cx} {e : Expr} {ta : TA} {p pos tpos : Pos} {elts : List Expr} {kk : Nat}
/-- enumerate(a list or tuple) -/
def iEnS (K : PySem.W.Frag) (ta : TA) : TI := fun σ H R => ta σ H fun vs H1 => ∃ a xs, vs = [.ref a] ∧ ((SqL K H1 a xs ∧ R (Ite K a) H1) ∨ (SqT K H1 a xs ∧ R (ItT K a) H1))
theorem pi_enS (hg : Gl X "enumerate") (hm : X.mg "enumerate" = none) (ha : PA X [e] ta) (hs : starEach [e] X.env = [(false, eval e X.env)] := by rfl) : PI X (.Tuple elts kk tpos) (.Call (.Name "enumerate" p) [e] [] pos) (iEnS X.K ta) := by
  refine ⟨fun pins s σ H R I h => ?_⟩
  refine Call_ (ld_blt I hg hm boot_enumerate (PyProof.Rows.callWith_type1 (thn (ha.run pos pins s σ H _ I h) fun us s1 ⟨vs, H1, I1, r1, a, xs, ex, q⟩ => ?_) hs rfl))
  subst ex
  obtain ⟨u, rfl, ru⟩ := vals1 r1
  have eu : u = Value.ref a := ru
  subst eu
  have low : ∀ b ∈ [s1.heap.objs.size + 1, s1.heap.objs.size], s1.heap.objs.size ≤ b := fun b hb => by
    rcases List.mem_cons.mp hb with z | z
    · rw [z]; exact Nat.le_succ _
    · rw [List.mem_singleton.mp z]; exact Nat.le_refl _
  rcases q with ⟨hq, q⟩ | ⟨hq, q⟩
  · obtain ⟨its, rv, p', hz⟩ := I1.list hq
    refine call_enumerate_list p'.isList fun h' he hit hsz hk => wpAny_pyIter_enum he ?_
    have I2 : Inv X pins σ H1 { s1 with heap := h' } := I1.kept (t' := s1.toks) hk
    exact ⟨s1.heap.objs.size + 1, [s1.heap.objs.size + 1, s1.heap.objs.size], _, _, H1, rfl, I2, turn_enum a (s1.heap.objs.size + 1) s1.heap.objs.size, ⟨⟨.none, he⟩, hit, Nat.succ_ne_self _⟩, fun b hb => I1.fpOk (low b hb) (I1.hok.fresh (low b hb)), q⟩
  · obtain ⟨its, rv, p', hz⟩ := I1.tuple hq
    refine callType_new F.called_enumerate (by decide) (F.typeCall_enumerate_1 _) (F.newCall_enumerate_1 _) (fun obj => F.args_object_init_2 obj _) F.entry_enumerate_new (meets_enum_new (begins_tuple a its.toArray)) ⟨p', ?_⟩
    have hz : (s1.heap.push { cls := .type "tuple_iterator", data := .fields #[.ref a, .int 0 0] }).objs.size = s1.heap.objs.size + 1 := Heap.size_push ..
    show _ ∧ _
    rw [hz]
    have he : IsEnum ((s1.heap.push { cls := .type "tuple_iterator", data := .fields #[.ref a, .int 0 0] }).push { cls := .type "enumerate", data := .fields #[.none, .bool false, .ref s1.heap.objs.size, rawInt 0, .none, .none] }) (s1.heap.objs.size + 1) s1.heap.objs.size 0 .none := by
      have z := Heap.get?_push_size (s1.heap.push { cls := .type "tuple_iterator", data := .fields #[.ref a, .int 0 0] }) (o := { cls := .type "enumerate", data := .fields #[.none, .bool false, .ref s1.heap.objs.size, rawInt 0, .none, .none] }) rfl
      rw [hz] at z
      exact z
    refine ⟨⟨_, he, rfl⟩, wpAny_pyIter_enum he ?_⟩
    have hk : ∀ b o, s1.heap.get? b = some o → ((s1.heap.push { cls := .type "tuple_iterator", data := .fields #[.ref a, .int 0 0] }).push { cls := .type "enumerate", data := .fields #[.none, .bool false, .ref s1.heap.objs.size, rawInt 0, .none, .none] }).get? b = some o := fun b o x => Heap.get?_push_of_some _ (Heap.get?_push_of_some _ x)
    exact ⟨s1.heap.objs.size + 1, [s1.heap.objs.size + 1, s1.heap.objs.size], _, _, H1, rfl, I1.kept (t' := s1.toks) hk, turn_enT a (s1.heap.objs.size + 1) s1.heap.objs.size, ⟨⟨.none, he⟩, ⟨_, Heap.get?_push_of_some _ (Heap.get?_push_size _ rfl), rfl, rfl⟩, Nat.succ_ne_self _⟩, fun b hb => I1.fpOk (low b hb) (I1.hok.fresh (low b hb)), q⟩
end
end HR
set_option maxRecDepth 100000
set_option maxHeartbeats 4000000
/-! sorted(a tuple of ints); what is walked, one of two ways -/
namespace HR
open PySem PySem.Spec PyProof.Rows L2 SrtO
section
variable {prog : Program} {w : World} {A : Around} {E : Value → Shared → Prop} {s : Shared}
theorem collect_tup {t : Addr} {vs : List Value} {Q : List Value → Shared → Prop} (ht : IsTup s.heap t vs.toArray) (few : vs.length ≤ sizeLine) (nxt : Q vs { s with heap := (s.heap.push (seqObj "list" #[] 0)).update s.heap.objs.size (Obj.mapSeq (· ++ vs.toArray)) }) :
    wpAny (model prog w) A (collect (.ref t)) Q E s := by
  obtain ⟨o, at_, cls, n, dat⟩ := id ht
  have new : (s.heap.push (seqObj "list" #[] 0)).get? s.heap.objs.size = some (seqObj "list" #[] 0) := Heap.get?_push_size _ rfl
  have at1 : (s.heap.push (seqObj "list" #[] 0)).get? t = some o := Heap.get?_push_of_some _ at_
  have ne : s.heap.objs.size ≠ t := Nat.ne_of_gt (Heap.lt_size at_)
  unfold collect
  refine wpAny_bind (wpAny_runValue (codeAny_builtin F.entry_proto_collect ?_))
  show wpAny _ _ (do again (.builtin "list.__iadd__" ⟨[← newList [], .ref t], []⟩)) _ _ s
  refine wpAny_bind (wpAny_newList (wpAny_pure ⟨Code.quiet_builtin _ (by decide +kernel), codeAny_builtin F.entry_list_iadd ?_⟩))
  show wpAny _ _ (Builtin.List.listExtendWith (.ref s.heap.objs.size) (.ref t) (.ref s.heap.objs.size)) _ _ { s with heap := s.heap.push (seqObj "list" #[] 0) }
  unfold Builtin.List.listExtendWith
  refine wpAny_bind (wpAny_typeOf (T := "tuple") ⟨o, at1, cls⟩ ?_)
  have same : Builtin.List.listSameRef (.ref s.heap.objs.size) (.ref t) = false := by simp [Builtin.List.listSameRef, ne]
  rw [if_pos (by rw [show (Value.type "tuple" == Value.type "tuple") = true from rfl]; simp)]
  refine wpAny_bind (listItems_at at1 dat ?_)
  refine wpAny_bind (listItems_at (xs := #[]) (n := 0) new rfl ?_)
  rw [if_neg (by simp)]
  refine wpAny_bind (listUpdate_at (xs := #[]) (n := 0) new rfl ?_ (Nat.zero_le _) (by show (#[] ++ vs.toArray).size ≤ sizeLine + 1; simp only [Array.size_append, List.size_toArray, List.length_nil]; omega))
  refine wpAny_pure ?_
  show wpAny (model prog w) A (load s.heap.objs.size >>= _) Q E _
  refine wpAny_bind (wpAny_load (get?_update_seq new _) ?_)
  show wpAny _ _ (pure ((#[] : Array Value) ++ vs.toArray).toList) Q E _
  rw [show ((#[] : Array Value) ++ vs.toArray).toList = vs by simp]
  exact wpAny_pure nxt
end
section
variable {X : Cx}
theorem pi_or {tg e : Expr} {t1 t2 : TI} (h1 : PI X tg e t1) (h2 : PI X tg e t2) : PI X tg e (fun σ H R => t1 σ H R ∨ t2 σ H R) :=
  ⟨fun pins s σ H R I h => h.elim (h1.run pins s σ H R I) (h2.run pins s σ H R I)⟩
def rSortedTI (K : PySem.W.Frag) : List V → Hp → VK → Prop := fun vs H Q => ∃ (a : Addr) (ns : List Int), vs = [V.ref a] ∧ SqT K H a (ns.map V.int) ∧ ∀ (ms : List Int) (p : Addr), ms.Perm ns → ms.Pairwise (· ≤ ·) → H p = none → Q (.ref p) (upd H p (.lst (ms.map V.int)))
theorem cr_sortedTI : CallR X (.builtin "sorted") (rSortedTI X.K) := by
  intro pins s σ H vs us Q I r h
  obtain ⟨a, ns, rfl, hs, q⟩ := h
  obtain ⟨its, rv, ht, few⟩ := I.tuple hs
  rw [Vals.ref1 r]
  have hi : IntsAre its ns := intsAre_of rv
  have hz : its.length ≤ sizeLine := by rw [← rv.length]; exact few
  refine Calls.call_function_entry kind_sorted plain_sorted entry_sorted (args_sorted1 _) ?_
  unfold Builtin.«sorted»
  refine wpAny_bind (m := checkCount "sorted" 1 1 _) (wpAny_pure ?_)
  refine wpAny_bind (collect_tup ht hz ?_)
  refine wpAny_bind (wpAny_newList ?_ hz)
  have size2 : ((s.heap.push (seqObj "list" #[] 0)).update s.heap.objs.size (Obj.mapSeq (· ++ its.toArray))).objs.size = s.heap.objs.size + 1 := by rw [Heap.size_update, size_push']
  show wpAny _ _ _ _ _ { s with heap := ((s.heap.push (seqObj "list" #[] 0)).update s.heap.objs.size (Obj.mapSeq (· ++ its.toArray))).push (seqObj "list" its.toArray 0) }
  rw [size2]
  have laid : (((s.heap.push (seqObj "list" #[] 0)).update s.heap.objs.size (Obj.mapSeq (· ++ its.toArray))).push (seqObj "list" its.toArray 0)).get? (s.heap.objs.size + 1) = some (seqObj "list" its.toArray 0) := by
    rw [← size2]
    exact Heap.get?_push_size _ rfl
  refine wpAny_bind (wpAny_holding (wpAny_call_entry slot_list_sort ⟨_, laid, rfl⟩ entry_list_sort (list_sort_ord swo_int laid hz (fun h2 => ints_sortable hi h2) fun out h1 h2 => ⟨_, rfl, ?_⟩) (args_list_sort _)))
  obtain ⟨k1, k2, k3⟩ := ints_out hi h1 h2
  obtain ⟨ep, he'⟩ := PyProof.Rows.sortedAll_at s.heap its out.toArray
  have few2 : ((out.map iv).map V.int).length ≤ sizeLine := by rw [List.length_map, k2.length_eq]; rw [List.length_map] at few; exact few
  exact wpAny_pure ⟨_, rfl, .ref _, upd H (s.heap.objs.size + 1) (.lst ((out.map iv).map V.int)), I.laid (t' := s.toks) (fun _ _ => PyProof.Rows.sortedAll_old) (Nat.le_succ _) ⟨few2, out, ep, vals_of_ints k1, he'⟩, rfl, q _ _ k2 k3 (I.hok.fresh (Nat.le_succ _))⟩
end
end HR
set_option maxRecDepth 100000
set_option maxHeartbeats 4000000
/-! x = {k: v for ..} with keys that are tuples of ints and texts -/
namespace HR
open PySem PySem.Spec PyProof.Rows L2
section
variable {X : Cx} {kx vx tg iter : Expr} {ifs : List Expr} {scope : Scope} {own : List (Str × Nat)} {wi : TI} {g : TG} {tt : TT} {tk tv : TE}
theorem ps_setDcT {pos spos py : Pos} {i : Nat} {y : Str} (calm : X.calm = true) (roomy : X.A.units < cLine) (diff : X.N.Nodup) (hN : X.N[i]? = some y) (hv : X.env.scope.names.lookup y = some NameKind.local) (hs : swapsWith (.DictComp kx vx [⟨tg, iter, ifs, 0⟩] scope pos) (some (.Name y py)) spos.line X.env = pure true) (walk : PI X tg iter wi) (blk : BlkOk X.N X.env.scope scope own)
    (aim : ∀ (sh : Shared) (G : Hp) (C : Addr) (cl : List (Str × Addr)) (feet : List Addr), PG (X.blk sh G scope (compEnvC scope cl C X.env) feet) tg g)
    (tests : ∀ (sh : Shared) (G : Hp) (C : Addr) (cl : List (Str × Addr)) (feet : List Addr), PTs (X.blk sh G scope (compEnvC scope cl C X.env) feet) ifs tt)
    (keys : ∀ (sh : Shared) (G : Hp) (C : Addr) (cl : List (Str × Addr)) (feet : List Addr), PE (X.blk sh G scope (compEnvC scope cl C X.env) feet) kx tk)
    (vals : ∀ (sh : Shared) (G : Hp) (C : Addr) (cl : List (Str × Addr)) (feet : List Addr), PE (X.blk sh G scope (compEnvC scope cl C X.env) feet) vx tv)
    (plain : ∀ x, foldedSetIterable iter X.env x = pure x := by intro _; rfl) : PS X (.Assign [.Name y py] (.DictComp kx vx [⟨tg, iter, ifs, 0⟩] scope pos) spos) (tAsg (tDcT wi g tt tk tv (own.map (·.2))) (gName i)) := by
  refine ⟨fun pp sh0 st G0 D0 I0 ask => ?_⟩
  rw [exec_Assign_Name_used _ _ _ _ hs, arm_evalThenUse_DictComp]
  refine wpAny_bind (wpAny_standAt ?_)
  have frees : ∀ y ∈ scope.names, y.2 = .free → ∃ c, X.env.cells.lookup y.1 = some c := fun y hy e => (blk.free y hy e).elim (fun k => I0.ok.has _ (.inl k)) fun k => I0.ok.has _ (.inr k)
  refine wpAny_bind (wpAny_bind (wpAny_comprehension_free (use := some (assign (.Name y py) X.env)) rfl plain (closure_ok frees) blk.kind (fun y hy e => by rw [blk.uniq y hy, e]) (thn (walk.run pp sh0 st G0 _ I0 ask) fun xv sh1 came => thn came fun itv sh2 more => ?_)))
  obtain ⟨it, feet, ten, J, G2, rfl, I2, T, at0, free2, turn⟩ := more
  refine wpAny_newObj_type (newEnv_comp ?_)
  have new : G2 sh2.heap.objs.size = none := I2.hok.fresh (Nat.le_refl _)
  obtain ⟨W, ⟨m0, w0⟩, step⟩ := turn _ new
  -- the dict is laid
  obtain ⟨G3, eG3⟩ : ∃ G3, G3 = upd G2 sh2.heap.objs.size (.dT []) := ⟨_, rfl⟩
  rw [← eG3] at w0
  obtain ⟨sh3, e3⟩ : ∃ sh3 : Shared, sh3 = { sh2 with heap := sh2.heap.push { cls := .type "dict", data := .dict #[] } } := ⟨_, rfl⟩
  have I3 : Inv X pp st G3 sh3 := by
    rw [e3, eG3]
    exact I2.laid (t' := sh2.toks) (fun b o q => Heap.get?_push_of_some _ q) (Nat.le_refl _) (dt_empty sh2.heap I2.big)
  have heap3 : sh3.heap = sh2.heap.push { cls := .type "dict", data := .dict #[] } := by rw [e3]
  have low : ∀ b ∈ feet, b < sh2.heap.objs.size := fun b hb => Heap.lt_size (T.obj _ _ at0 b hb).choose_spec.1
  have free3 : ∀ b ∈ feet, FpOk X pp G3 b ∧ b < sh3.heap.objs.size := fun b hb => ⟨⟨by rw [eG3, upd_ne (Nat.ne_of_lt (low b hb))]; exact (free2 b hb).1, (free2 b hb).2⟩, by rw [heap3, Heap.size_push]; exact Nat.lt_succ_of_lt (low b hb)⟩
  have at3 : ten 0 sh3.heap := T.keep _ _ _ at0 fun b _ o q => by rw [heap3]; exact Heap.get?_push_of_some _ q
  have I4 := block_start I3 blk diff free3
  obtain ⟨C, eC⟩ : ∃ C, C = sh3.heap.objs.size := ⟨_, rfl⟩
  obtain ⟨cl, ecl⟩ : ∃ cl, cl = cellsFrom (sh3.heap.objs.size + 1) scope.names (cloFrom X.env.cells scope.names []) := ⟨_, rfl⟩
  obtain ⟨sh4, e4⟩ : ∃ sh4 : Shared, sh4 = { sh3 with heap := pushCells (sh3.heap.push { cls := .type "dict", data := .dict #[] }) scope.names } := ⟨_, rfl⟩
  rw [← ecl, ← eC, ← e4] at I4
  have at4 : ten 0 sh4.heap := T.keep _ _ _ at3 fun b _ o q => by rw [e4]; exact pushCells_keeps _ _ _ _ (Heap.get?_push_of_some _ q)
  have none3 : ∀ b ∈ feet, G3 b = none := fun b hb => (free3 b hb).1.1
  obtain ⟨Y, eY⟩ : ∃ Y, Y = X.blk sh3 G3 scope (compEnvC scope cl C X.env) feet := ⟨_, rfl⟩
  rw [← eY] at I4
  have held : ∀ {st' : L2.St} {G' : Hp} {sh' : Shared}, Inv Y [] st' G' sh' → (∀ b ∈ feet, G' b = none) → ∀ b ∈ feet, FpOk Y [] G' b := by
    subst eY
    exact fun {_ _ _} I' no b hb => ⟨no b hb, (I'.ok.exf b hb).1, I'.ok.exfs b hb, .inl hb, fun x c q => (I'.ok.exf b hb).2 x c q, fun p hp => absurd (show p ∈ ([] : List (Addr × Obj)) ++ [] from hp) (by simp)⟩
  have locC : (compEnvC scope cl C X.env).locals = C := rfl
  have loop : codeAny (model X.prog X.w) X.A (.compLoop (.DictComp kx vx [⟨tg, iter, ifs, 0⟩] scope pos) 0 (.ref it) (.ref sh2.heap.objs.size) (compEnvC scope cl C X.env)) (compPost (model X.prog X.w) X.A X.xe (some (assign (.Name y py) X.env)) (fun _ sh => wpAny (model X.prog X.w) X.A (pure ()) (fun _ sh => wpAny (model X.prog X.w) X.A (pure Flow.next) (SP X pp D0) X.xe sh) X.xe sh) (.ref sh2.heap.objs.size) C) sh4 := by
    subst eY
    refine compLoop_anyD (fun left sh => ∃ i G, Inv (X.blk sh3 G3 scope (compEnvC scope cl C X.env) feet) [] (wipe st (own.map (·.2))) G sh ∧ ten i sh.heap ∧ (∀ b ∈ feet, G b = none) ∧ W i left G) ?_ m0 ⟨0, G3, I4, at4, none3, w0⟩
    rintro left sh5 ⟨i, G5, I5, at5, no5, w5⟩
    rcases step i left G5 w5 with ⟨over, good⟩ | ⟨on, Nx, fewer, go⟩
    · -- the walk is over
      refine thnF (T.done (X.blk sh3 G3 scope (compEnvC scope cl C X.env) feet) rfl rfl rfl calm i [] sh5 _ G5 (fun _ _ => False) I5 (held I5 no5) at5 over) fun r sh6 ⟨er, I6⟩ => ?_
      subst er
      have I7 : Inv X pp st G5 sh6 := I3.call' (ch := feet) I6.os I6.base I6.hok I6.bare fun b hb => let f := (free3 b hb).1.2; ⟨f.2.2.1, f.1, f.2.2.2.1, f.2.2.2.2⟩
      have noC : G5 C = none := I6.free
      obtain ⟨m, names, _⟩ := I6.loc
      obtain ⟨oC, esC, epC, hoC, hdC, restC⟩ := id names
      have pinC := I7.pinned (fp := [C]) (fun b hb => by rw [List.mem_singleton.mp hb]; exact I3.fpOk (Nat.le_of_eq eC.symm) noC) (fun b hb => by rw [List.mem_singleton.mp hb]; exact ⟨oC, hoC, fun v q => by rw [hdC] at q; cases q⟩)
      refine thn ((pg_name diff hN (.inl hv) (Or.inr hv)).run _ sh6 st G5 (.ref sh2.heap.objs.size) (.ref sh2.heap.objs.size) _ pinC rfl good) fun _ sh7 ⟨st7, G7, I8, q8⟩ => ?_
      have hp := I8.pin (C, oC) (List.mem_append_right _ (List.mem_append_right _ (mem_pinsAt (List.mem_singleton.mpr rfl) hoC)))
      obtain ⟨f0, f1, f2, f3, f4, f5⟩ := I3.fpOk (Nat.le_of_eq eC.symm) hp.2.1
      exact ⟨m, ⟨oC, esC, epC, hp.1, hdC, restC⟩, fun h'' sb => wpAny_pure (wpAny_pure ⟨st7, G7, I8.unpinned.turned (t' := sh7.toks) (fun b o hb q => (sb.2 b hb).trans q) f0 f1 f3 f4 f5, q8⟩)⟩
    · -- one turn
      refine thnF (T.item (X.blk sh3 G3 scope (compEnvC scope cl C X.env) feet) rfl rfl rfl calm i [] sh5 _ G5 (fun _ _ => False) I5 (held I5 no5) at5 on) fun r sh6 ⟨u, er, rest⟩ => ?_
      subst er
      refine thnF rest fun _ sh7 ⟨x, G7, I7, rx, y7, at7, no7⟩ => ?_
      have P7 := I7.pinned (held I7 no7) (T.obj _ _ at7)
      refine thnF ((aim sh3 G3 C cl feet).run _ sh7 _ G7 x u _ P7 rx (go x G7 y7)) fun _ sh8 ⟨st8, G8, I8, same8, q8⟩ => ?_
      refine thnF ((tests sh3 G3 C cl feet).run _ sh8 st8 G8 _ I8 q8) fun yes sh9 ⟨G9, I9, q9⟩ => ?_
      have back : ∀ {sh' : Shared} {G' : Hp}, Inv (X.blk sh3 G3 scope (compEnvC scope cl C X.env) feet) ([] ++ pinsAt feet sh7.heap) st8 G' sh' → Nx G' →
          ∃ m, m < left ∧ ∃ i G, Inv (X.blk sh3 G3 scope (compEnvC scope cl C X.env) feet) [] (wipe st (own.map (·.2))) G sh' ∧ ten i sh'.heap ∧ (∀ b ∈ feet, G b = none) ∧ W i m G := by
        intro sh' G' I' nx
        obtain ⟨m', less, w'⟩ := fewer G' nx
        have pin : ∀ b ∈ feet, ∀ o, sh7.heap.get? b = some o → sh'.heap.get? b = some o ∧ G' b = none := fun b hb o q => by
          have z := I'.pin (b, o) (List.mem_append_right _ (List.mem_append_right _ (mem_pinsAt hb q)))
          exact ⟨z.1, z.2.1⟩
        have len : (wipe st (own.map (·.2))).length = st8.length := by rw [← same8, wipe_length]
        refine ⟨m', less, i + 1, G', (I'.unpinned (pins := [])).weak len (fun j v q => ?_), T.keep _ _ _ at7 fun b hb o q => (pin b hb o q).1, fun b hb => ?_, w'⟩
        · rw [← same8] at q
          exact (wipe_some q).1
        · obtain ⟨o, q, _⟩ := T.obj _ _ at7 b hb
          exact (pin b hb o q).2
      cases yes with
      | false => exact back I9 q9
      | true =>
        refine thnF ((keys sh3 G3 C cl feet).run _ sh9 st8 G9 _ I9 q9) fun ku sh10 ⟨yk, G10, I10, rk, q10⟩ => ?_
        refine thnF ((vals sh3 G3 C cl feet).run _ sh10 st8 G10 _ I10 q10) fun vu sh11 ⟨yv, G11, I11, rv, kvs, k, b, ek, hb, hD, few, nx⟩ => ?_
        subst ek
        obtain rfl : ku = .ref b := rk
        exact put_tup (X := X.blk sh3 G3 scope (compEnvC scope cl C X.env) feet) roomy I11 hD few hb rv fun sh12 I12 => back I12 nx
  show codeAny _ _ (.compStart (.DictComp kx vx [⟨tg, iter, ifs, 0⟩] scope pos) 0 (.ref it) (.ref sh2.heap.objs.size) (compEnvC scope (cellsFrom (sh2.heap.push { cls := .type "dict", data := .dict #[] }).objs.size.succ scope.names (cloFrom X.env.cells scope.names [])) (sh2.heap.push { cls := .type "dict", data := .dict #[] }).objs.size X.env)) _ _
  rw [heap3] at eC ecl
  subst e3
  subst e4 ecl eC
  exact codeAny_compStart_dict loop (T.self X.A 0 _ _ _ at4 loop)
end
theorem sw_trueD {kx vx : Expr} {gs : List Comprehension} {scope : Scope} {pos py : Pos} {y : Str} {l : Nat} {env : Env} (h1 : env.scope.kind = ScopeKind.function) (h2 : List.lookup y env.scope.names = some NameKind.local) (h3 : (py.line == pos.line) = true)
   (h4 : (scope.names.any fun x => match x with | (n, k) => n == y && (k == NameKind.local || k == NameKind.cell)) = false) : swapsWith (.DictComp kx vx gs scope pos) (some (.Name y py)) l env = pure true := sw_true (elt := kx) (gs := gs) (l := l) h1 h2 h3 h4
end HR
set_option maxRecDepth 100000
set_option maxHeartbeats 4000000
/-! a + b of tuples, a empty or not, b not empty; calls by one of two rules -/
namespace HR
open PySem PySem.Spec PyProof.Rows L2
def rCatTx (K : PySem.W.Frag) : R2 := fun x y H Q => ∃ (a b : Addr) (xs ys : List V), x = .ref a ∧ y = .ref b ∧ SqT K H a xs ∧ SqT K H b ys ∧ ys ≠ [] ∧ xs.length + ys.length ≤ sizeLine ∧ (xs = [] → Q (.ref b) H) ∧ (xs ≠ [] → ∀ p : Addr, H p = none → Q (.ref p) (upd H p (.tup (xs ++ ys))))
theorem op_catTx {X : Cx} {K : PySem.W.Frag} (hK : X.K = K := by rfl) : OpR X (binaryOp .Add) (rCatTx K) := by
  subst hK
  intro pins s σ H x y v u Q I rx ry h
  obtain ⟨a, b, xs, ys, rfl, rfl, ha, hb, ny, few, q0, q1⟩ := h
  cases xs with
  | cons x0 xr => exact op_catT pins s σ H _ _ v u Q I rx ry ⟨a, b, _, ys, rfl, rfl, ha, hb, List.cons_ne_nil _ _, few, fun e => absurd e ny, fun _ => q1 (List.cons_ne_nil _ _)⟩
  | nil =>
    cases rx
    cases ry
    obtain ⟨i1, v1, t1, _⟩ := I.tuple ha
    obtain ⟨i2, v2, t2, _⟩ := I.tuple hb
    have e1 : i1 = [] := List.eq_nil_of_length_eq_zero (by rw [← v1.length]; rfl)
    subst e1
    refine wpAny_binaryOp_concat t1.typeIs t2.typeIs noFill_tuple_add seq_tuple_add ?_
    obtain ⟨⟨c1, dd1, da1, sl1⟩, g1, k1, n1, d1⟩ := id t1
    obtain ⟨⟨c2, dd2, da2, sl2⟩, g2, k2, n2, d2⟩ := id t2
    dsimp only at k1 k2 d1 d2
    subst k1 k2 d1 d2
    exact call_meetsIn F.slot_tuple_add t1.typeIs F.entry_tuple_add (F.args_tuple_add_2 _ _) ((tuple_addW0 a b #[] _ n1 n2 dd1 dd2 sl1 sl2 rfl).inModel _ _) ⟨g1, g2, ⟨.ref b, H, I, rfl, q0 rfl⟩⟩
theorem cr_or {X : Cx} {f : Value} {r1 r2 : List V → Hp → VK → Prop} (h1 : CallR X f r1) (h2 : CallR X f r2) : CallR X f (fun vs H Q => r1 vs H Q ∨ r2 vs H Q) := by
  intro pins s σ H vs us Q I r h
  rcases h with h | h
  · exact h1 pins s σ H vs us Q I r h
  · exact h2 pins s σ H vs us Q I r h
end HR
set_option maxRecDepth 100000
set_option maxHeartbeats 4000000
/-! tuple(a list), the object told too; dict(such a tuple of pairs) -/
namespace HR
open PySem PySem.Spec PyProof.Rows L2
section
variable {X : Cx}
/-- tuple(a list): a tuple that has no attributes of its own -/
def rTupF (K : PySem.W.Frag) : List V → Hp → VK → Prop := fun xs H Q => ∃ (p : Addr) (ys : List V), xs = [.ref p] ∧ SqL K H p ys ∧ ∀ (l : Addr) (o : Obj), o.cls = .type "tuple" → o.dict = none → H l = none → Q (.ref l) (upd H l (.frz o (.tup ys)))
theorem cr_tupF {K : PySem.W.Frag} (hK : X.K = K := by rfl) : CallR X (.type "tuple") (rTupF K) := by
  subst hK
  intro pins s σ H xs us Q I rx h
  obtain ⟨p, ys, rfl, hs, q⟩ := h
  rw [Vals.ref1 rx]
  obtain ⟨its, rv, hl, few⟩ := I.list hs
  have len := rv.length
  refine call_tuple_list hl.isList (fun h' keep => ?_) (by rw [List.size_toArray, ← len]; exact few)
  have I1 : Inv X pins σ H { s with heap := h', toks := s.toks } := I.kept keep
  refine ⟨.ref h'.objs.size, upd H h'.objs.size (.frz { cls := .type "tuple", data := .seq its.toArray } (.tup ys)), I1.laid (t' := s.toks) (fun b o q => Heap.get?_push_of_some _ q) (Nat.le_refl _) ⟨Heap.get?_push_size _ rfl, few, its, rv, ⟨_, Heap.get?_push_size _ rfl, rfl, _, rfl⟩⟩, rfl, q _ _ rfl rfl (I1.hok.fresh (Nat.le_refl _))⟩
/-- dict(a tuple of pairs) -/
def rDictF (K : PySem.W.Frag) : List V → Hp → VK → Prop := fun xs H Q => ∃ (a : Addr) (o : Obj) (ps : List Addr) (kvs : List (L2.Key × V)), xs = [.ref a] ∧ H a = some (.frz o (.tup (ps.map V.ref))) ∧ o.dict = none ∧ Paired (fun p kv => SqT K H p [kV kv.1, kv.2]) ps kvs ∧
  ∀ p, H p = none → Q (.ref p) (upd H p (.dK (mergeK [] kvs)))
theorem key_rel {k : L2.Key} {u : Value} (h : RelV (kV k) u) : keyIs k u = true := by
  cases k with
  | inl i =>
    obtain ⟨t, rfl⟩ := h
    exact decide_eq_true rfl
  | inr x =>
    obtain ⟨t, rfl⟩ := h
    exact decide_eq_true rfl
theorem pairs_told {pins : List (Addr × Obj)} {σ : L2.St} {H : Hp} {s : Shared} (I : Inv X pins σ H s) : ∀ {ps : List Addr} {kvs : List (L2.Key × V)}, Paired (fun p kv => SqT X.K H p [kV kv.1, kv.2]) ps kvs →
    ∃ (us : List Value) (vs : List (L2.Key × Value)), KV kvs vs ∧ us.length = ps.length ∧ vs.length = ps.length ∧ ∀ (j : Nat) (p : Addr) (u : Value) (kv : L2.Key × Value), ps[j]? = some p → us[j]? = some u → vs[j]? = some kv → keyIs kv.1 u = true ∧ IsTup s.heap p #[u, kv.2]
  | _, _, .nil => ⟨[], [], .nil, rfl, rfl, fun j p u kv h => by simp at h⟩
  | _, _, .cons (a := p) (b := kv) (l₁ := ps) (l₂ := kvs) h r => by
    obtain ⟨us, vs, k, l1, l2, w⟩ := pairs_told I r
    obtain ⟨its, rv, t, _⟩ := I.tuple h
    obtain ⟨u, v, rfl, ru, rw'⟩ := vals2 rv
    refine ⟨u :: us, (kv.1, v) :: vs, .cons ⟨rfl, rw'⟩ k, by simp [l1], by simp [l2], fun j q x y h1 h2 h3 => ?_⟩
    cases j with
    | zero =>
      cases h1
      cases h2
      cases h3
      exact ⟨key_rel ru, t⟩
    | succ j => exact w j q x y (by simpa using h1) (by simpa using h2) (by simpa using h3)
theorem cr_dictF {K : PySem.W.Frag} (hc : X.calm = true) (hK : X.K = K := by rfl) : CallR X (.type "dict") (rDictF K) := by
  subst hK
  intro pins s σ H xs us Q I rx h
  obtain ⟨a, o, ps, kvs, rfl, ha, hd, pr, q⟩ := h
  rw [Vals.ref1 rx]
  obtain ⟨g, few, its, rv, t⟩ := I.hok a _ ha
  obtain ⟨us, vs, kv, l1, l2, w⟩ := pairs_told I pr
  have li := rv.length
  rw [List.length_map] at li few
  obtain ⟨o2, g2, c2, n, d2⟩ := t
  rw [g] at g2
  cases g2
  have lz : (List.zip us (vs.map Prod.snd)).length = ps.length := by rw [List.length_zip, List.length_map, l1, l2, Nat.min_self]
  refine call_dict_pairs (knd := mixKind X.prog X.w) (kvs := vs) (PairArg.tuple a its.toArray (fun j => ps.getD j 0) (List.zip us (vs.map Prod.snd))) (I.ok.hd hc) ⟨⟨o, n, g, c2, hd, d2⟩, by rw [List.size_toArray, lz, ← li], fun j k v hj => ?_⟩ ⟨by rw [lz, l2], fun i key v hj => ?_⟩ (by rw [lz]; exact few) fun h' tk dd keep => ?_
  · obtain ⟨h1, h2⟩ := List.getElem?_zip_eq_some.mp hj
    have hjl : j < ps.length := by rw [← l1]; exact (List.getElem?_eq_some_iff.mp h1).1
    rw [List.getElem?_map] at h2
    obtain ⟨y, hy, rfl⟩ := Option.map_eq_some_iff.mp h2
    have hp : ps[j]? = some (ps.getD j 0) := by rw [List.getD_eq_getElem?_getD, List.getElem?_eq_getElem hjl]; rfl
    obtain ⟨u, hu, ru⟩ := rv.get (i := j) (x := V.ref (ps.getD j 0)) (by rw [List.getElem?_map, hp]; rfl)
    have eu : u = .ref (ps.getD j 0) := ru
    subst eu
    refine ⟨by simpa using hu, .inl ?_⟩
    exact (w j _ _ _ hp h1 hy).2
  · obtain ⟨h1, h2⟩ := List.getElem?_zip_eq_some.mp hj
    have hjl : i < ps.length := by rw [← l1]; exact (List.getElem?_eq_some_iff.mp h1).1
    rw [List.getElem?_map] at h2
    obtain ⟨y, hy, rfl⟩ := Option.map_eq_some_iff.mp h2
    exact ⟨y.1, hy, (w i _ _ _ (List.getElem?_eq_getElem hjl) h1 hy).1⟩
  · have hz : (mergeK [] kvs).length ≤ sizeLine := Nat.le_trans (length_mergeK kvs []) (by rw [← Paired.length pr]; simpa using few)
    have hs : (s.heap.objs.size == sysModules) = false := by
      have := I.big
      exact beq_false_of_ne (Nat.ne_of_gt this)
    exact ⟨.ref s.heap.objs.size, upd H s.heap.objs.size (.dK (mergeK [] kvs)), I.laid (t' := tk) (fun b o q => keep b o (by simp) q) (Nat.le_refl _) (dk_new hz hs (KV.merge kv .nil) dd), rfl, q _ (I.hok.fresh (Nat.le_refl _))⟩
/-- repr(True) -/
theorem call_reprBl (gd : X.A.guards = some []) (hu : X.A.units + 70 < cLine) : CallR X (.builtin "repr") (fun xs H Q => ∃ b, xs = [.bl b] ∧ Q (.str (PyData.bool b).shown) H) := by
  intro pins s σ H xs us Q I r h
  obtain ⟨b, rfl, q⟩ := h
  obtain ⟨u, rfl, ru⟩ := vals1 r
  have e : u = .bool b := ru
  subst e
  have e2 : (PyData.bool b).shown = if b = true then Str.ofString "True" else Str.ofString "False" := by
    simp only [PyData.shown]
  rw [e2] at q
  exact PySem.P.repr_of_bool ⟨.str _, H, I.tok _, ⟨_, rfl⟩, q⟩
end
end HR
set_option maxRecDepth 100000
set_option maxHeartbeats 4000000
/-! rules with the frag told, for use within a comprehension -/
namespace HR
open PySem PySem.Spec PyProof.Rows L2
theorem ix_listK {X : Cx} {K : PySem.W.Frag} (h : X.K = K := by rfl) : IxR X (rIxL K) := by
  subst h
  exact ix_list
theorem op_notIn_seqK {X : Cx} {K : PySem.W.Frag} (h : X.K = K := by rfl) : OpR X (compareOp .NotIn) (rIn K true) := by
  subst h
  exact op_notIn_seq
theorem op_in_seqK {X : Cx} {K : PySem.W.Frag} (h : X.K = K := by rfl) : OpR X (compareOp .In) (rIn K false) := by
  subst h
  exact op_in_seq
theorem call_tuple_ofK {X : Cx} {K : PySem.W.Frag} (h : X.K = K := by rfl) : CallR X (.type "tuple") fun xs H Q => ∃ p ys, xs = [V.ref p] ∧ ((SqL K H p ys ∧ ∀ l : Addr, H l = none → Q (V.ref l) (upd H l (.tup ys))) ∨ SqT K H p ys ∧ Q (V.ref p) H) := by
  subst h
  exact call_tuple_of
theorem call_list_ofK {X : Cx} {K : PySem.W.Frag} (h : X.K = K := by rfl) : CallR X (.type "list") fun xs H Q => ∃ p ys, xs = [V.ref p] ∧ (SqL K H p ys ∨ SqT K H p ys) ∧ ∀ l : Addr, H l = none → Q (V.ref l) (upd H l (.lst ys)) := by
  subst h
  exact call_list_of
theorem call_len_seqK {X : Cx} {K : PySem.W.Frag} (h : X.K = K := by rfl) : CallR X (.builtin "len") fun xs H Q => ∃ p ys, xs = [V.ref p] ∧ (SqL K H p ys ∨ SqT K H p ys) ∧ Q (V.int (ys.length : Nat)) H := by
  subst h
  exact call_len_seq
theorem pi_tupK {X : Cx} {K : PySem.W.Frag} {tg l : Expr} {tl : TE} (he : PE X l tl) (h : X.K = K := by rfl) : PI X tg l (iTup K tl) := by
  subst h
  exact pi_tup he
theorem pi_listK {X : Cx} {K : PySem.W.Frag} {tg l : Expr} {tl : TE} (he : PE X l tl) (h : X.K = K := by rfl) : PI X tg l (iList K tl) := by
  subst h
  exact pi_list he
theorem pe_backK {X : Cx} {K : PySem.W.Frag} {e st : Expr} {te ts : TE} {p2 pos : Pos} (he : PE X e te) (hs : PE X st ts) (h : X.K = K := by rfl) : PE X (.Subscript e (.Slice none none (some st) p2) pos) (tBack K te ts) := by
  subst h
  exact pe_back he hs
theorem cr_sortedTIK {X : Cx} {K : PySem.W.Frag} (h : X.K = K := by rfl) : CallR X (.builtin "sorted") (rSortedTI K) := by
  subst h
  exact cr_sortedTI
theorem cr_setIK {X : Cx} {K : PySem.W.Frag} {w : World} (hc : X.calm = true := by rfl) (h : X.K = K := by rfl) (hw : X.w = w := by rfl) : CallR X (.type "set") (rSetI K w) := by
  subst h hw
  exact cr_setI hc
theorem cr_sortedSetK {X : Cx} {w : World} (hc : X.calm = true := by rfl) (hw : X.w = w := by rfl) : CallR X (.builtin "sorted") (rSortedSet w) := by
  subst hw
  exact cr_sortedSet hc
theorem cr_anyK {X : Cx} {K : PySem.W.Frag} (hc : X.calm = true := by rfl) (h : X.K = K := by rfl) : CallR X (.builtin "any") (rAny K) := by
  subst h
  exact cr_any hc
theorem cr_sumK {X : Cx} {K : PySem.W.Frag} (hc : X.calm = true := by rfl) (h : X.K = K := by rfl) : CallR X (.builtin "sum") (rSum K) := by
  subst h
  exact cr_sum hc
theorem ix_tupK {X : Cx} {K : PySem.W.Frag} (h : X.K = K := by rfl) : IxR X (rIxT K) := by
  subst h
  exact ix_tup
theorem ix_seqK {X : Cx} {K : PySem.W.Frag} (h : X.K = K := by rfl) : IxR X (rIx K) := by
  subst h
  exact ix_seq
theorem op_catTK {X : Cx} {K : PySem.W.Frag} (h : X.K = K := by rfl) : OpR X (binaryOp .Add) (rCatT K) := by
  subst h
  exact op_catT
end HR
set_option maxRecDepth 100000
set_option maxHeartbeats 8000000
namespace HR
open PySem L2 Evl GP
/-! ### comprehensions -/
section
variable {K : PySem.W.Frag} {σ : L2.St} {H1 : Hp} {J : It} {G : Hp → Prop} {te : TE} {tt : TT}
/-- one name, a condition, the items' values are written -/
theorem lcF {α : Type} {xs : List α} {f : α → V} (w : L2.Walk J (xs.map f).length G (YAt (xs.map f))) (c : α → Bool) (r : α → V) {j : Nat} {vs : List Nat} (hz : xs.length < sizeLine) (hG : ∀ H', Ex H1 H' → G H') (hw : ∀ v, wipe ((wipe σ vs).set j (some v)) vs = wipe σ vs)
    (ht : ∀ v ∈ xs, ∀ H', Ex H1 H' → ∀ Q : Bool → Hp → Prop, (∀ H'', Ex H' H'' → Q (c v) H'') → tt ((wipe σ vs).set j (some (f v))) H' Q)
    (he : ∀ v ∈ xs, c v = true → ∀ H', Ex H1 H' → ∀ Q : VK, (∀ H'', Ex H' H'' → Q (r v) H'') → te ((wipe σ vs).set j (some (f v))) H' Q) {Qd : Hp → Prop} {D : Addr} (hD : H1 D = none) (k : ∀ H', Ex H1 H' → H' D = some (.lst ((xs.filter c).map r)) → Qd H') :
    ∃ W : Nat → Nat → Hp → Prop, (∃ m, W 0 m (upd H1 D (.lst []))) ∧ ∀ i m H, W i m H →
      (J.stop i H ∧ Qd H) ∨ (J.go i H ∧ ∃ Nx : Hp → Prop, (∀ H', Nx H' → ∃ m', m' < m ∧ W (i + 1) m' H') ∧ ∀ x H', J.yld i H x H' → gName j x (wipe σ vs) H' fun σ2 H2 => wipe σ2 vs = wipe σ vs ∧ tt σ2 H2 fun b H3 =>
        if b = true then te σ2 H3 fun y H4 => ∃ acc, H4 D = some (.lst acc) ∧ acc.length < sizeLine ∧ Nx (upd H4 D (.lst (acc ++ [y]))) else Nx H3) := by
  refine lc_it w (fun i H => Ex H1 H ∧ H D = some (.lst (((xs.take i).filter c).map r))) ⟨Ex.new hD, upd_same⟩ (fun i H _ p => hG H p.1) ?_ (fun H p => k H p.1 (by have := p.2; rwa [List.length_map, List.take_length] at this))
  rintro i x H H' hi ⟨e, hl⟩ ⟨rfl, hx⟩
  rw [List.length_map] at hi
  rw [List.getElem?_map, List.getElem?_eq_getElem hi] at hx
  cases hx
  have hm : xs[i] ∈ xs := List.getElem_mem hi
  unfold gName
  dsimp only
  refine ⟨hw _, ht _ hm H' e _ fun H3 e3 => ?_⟩
  have tk : (xs.take (i + 1)).filter c = (xs.take i).filter c ++ (if c xs[i] = true then [xs[i]] else []) := by
    rw [List.take_add_one, List.getElem?_eq_getElem hi, List.filter_append]
    simp only [Option.toList_some]
    by_cases hc : c xs[i] = true
    · rw [if_pos hc]; simp [hc]
    · rw [if_neg hc]; simp [hc]
  cases hc : c xs[i] with
  | true =>
    rw [if_pos rfl]
    refine he _ hm hc H3 (e.trans e3) _ fun H4 e4 => ⟨_, e4 D _ (e3 D _ hl), ?_, Ex.mut ((e.trans e3).trans e4) hD, ?_⟩
    · have := List.length_filter_le c (xs.take i)
      rw [List.length_map]
      rw [List.length_take] at this
      omega
    · rw [upd_same, tk, hc, if_pos rfl, List.map_append]
      rfl
  | false =>
    rw [if_neg Bool.false_ne_true]
    refine ⟨e.trans e3, ?_⟩
    rw [tk, hc, if_neg Bool.false_ne_true, List.append_nil]
    exact e3 D _ hl
end
section
variable {K : PySem.W.Frag} {σ : L2.St} {H1 : Hp} {J : It} {G : Hp → Prop} {te : TE} {tt : TT}
/-- one name, no condition -/
theorem lcM {α : Type} {xs : List α} {f : α → V} (w : L2.Walk J (xs.map f).length G (YAt (xs.map f))) (r : α → V) {j : Nat} {vs : List Nat} (hz : xs.length < sizeLine) (hG : ∀ H', Ex H1 H' → G H') (hw : ∀ v, wipe ((wipe σ vs).set j (some v)) vs = wipe σ vs)
    (he : ∀ v ∈ xs, ∀ H', Ex H1 H' → ∀ Q : VK, (∀ H'', Ex H' H'' → Q (r v) H'') → te ((wipe σ vs).set j (some (f v))) H' Q) {Qd : Hp → Prop} {D : Addr} (hD : H1 D = none) (k : ∀ H', Ex H1 H' → H' D = some (.lst (xs.map r)) → Qd H') :
    ∃ W : Nat → Nat → Hp → Prop, (∃ m, W 0 m (upd H1 D (.lst []))) ∧ ∀ i m H, W i m H →
      (J.stop i H ∧ Qd H) ∨ (J.go i H ∧ ∃ Nx : Hp → Prop, (∀ H', Nx H' → ∃ m', m' < m ∧ W (i + 1) m' H') ∧ ∀ x H', J.yld i H x H' → gName j x (wipe σ vs) H' fun σ2 H2 => wipe σ2 vs = wipe σ vs ∧ tYes σ2 H2 fun b H3 =>
        if b = true then te σ2 H3 fun y H4 => ∃ acc, H4 D = some (.lst acc) ∧ acc.length < sizeLine ∧ Nx (upd H4 D (.lst (acc ++ [y]))) else Nx H3) :=
  lcF w (fun _ => true) r hz hG hw (fun v _ H' _ Q q => q H' (Ex.refl _)) (fun v hv _ => he v hv) hD fun H' e h => k H' e (by rwa [List.filter_eq_self.mpr (fun _ _ => rfl)] at h)
end
end HR
set_option maxRecDepth 100000
set_option maxHeartbeats 4000000
namespace GP
open PySem PySem.Spec PyProof.Rows L2
section
variable {P : Program} {w : World} {K : PySem.W.Frag} {mg mb : Str → Option Value} {k : Nat} {fa script : Addr} {fd : FuncData} {x : Str} {sp : Sp} {st : Shared} {cells : List Value} {ns : List Int}
def Fin0 (st : Shared) : Except Value Flow → Shared → Prop := fun r s2 => r = .ok (.ret (.bool true)) ∧ OldK st.heap s2.heap ∧ s2.os = st.os ∧ AllBare s2.gens
/-- the law, from a heap in which at most the script is told -/
theorem law_part (inK : K.In st.heap) (g1 : st.heap.Ns mainGlobals mg) (g2 : st.heap.Ns builtinsNs mb) (g3 : ∀ x : Str, x ≠ "__name__" → mb x = bootBuiltins x) (g4 : st.heap.NoLimit) (g5 : st.gens = #[])
    (is : st.heap.get? script = some { cls := .type "list", data := .seq cells.toArray }) (room : Room k callerA) (F : ∀ base : Heap, K.In base → base.Ns mainGlobals mg → FnG P w K mg base k fa fd [x] sp) (bind : ∀ (s : Shared) (u : Value), BindsTo s fd ⟨[u], []⟩ [(x, u)])
    (H : Hp) (only : Only H) (h : sp [.ref script] H (fun v _ => v = .bl true) fun _ _ _ => False) (ok : HOk P w H st.heap) (one : ∀ b, H b ≠ none → b = script) (notK : H script ≠ none → K.lookup script = none) :
    codeAny (model P w) callerA (.call (.ref fa) ⟨[.ref script], []⟩) (Fin0 st) st := by
  have seen : ∀ {b : Addr} {o : Obj}, st.heap.get? b = some o → H b = none → (hidT st.heap H).get? b = some o := fun a1 a2 => hidT_get a1 a2
  have free : ∀ {b : Addr} {o : Obj} {es : Array DictEntry} {ep : Nat}, st.heap.get? b = some o → o.data = .dict es ep → H b = none := by
    intro b o es ep a1 a2
    rcases e : H b with _ | u
    · rfl
    · have := one b (by rw [e]; exact fun z => nomatch z)
      rw [this, is] at a1
      rw [← Option.some.inj a1] at a2
      cases a2
  have names : ∀ {b : Addr} {m : Str → Option Value}, st.heap.Ns b m → (hidT st.heap H).Ns b m := by
    rintro b m ⟨o, es, ep, a1, a2, a3⟩
    exact ⟨o, es, ep, seen a1 (free a1 a2), a2, a3⟩
  have inB : K.In (hidT st.heap H) := by
    intro b o a1
    refine seen (inK b o a1) ?_
    rcases e : H b with _ | u
    · rfl
    · have := one b (by rw [e]; exact fun z => nomatch z)
      rw [this] at e a1
      rw [notK (by rw [e]; exact fun z => nomatch z)] at a1
      cases a1
  obtain ⟨mc, c1, c2⟩ := g4
  have M : Mod K mg (hidT st.heap H) := ⟨inB, names g1, ⟨mb, names g2, g3⟩, ⟨mc, names c1, c2⟩⟩
  have e0 : Env0 P w K mg (hidT st.heap H) callerA [] st H := ⟨rfl, M, fun b o e => of_hidT e, Nat.le_of_eq (hidT_size _ _), trivial, fun b hb => absurd hb List.not_mem_nil, ok, .of_eq g5⟩
  have R := (F _ inB (names g1)).run callerA [] st H ⟨[.ref script], []⟩ [.ref script] [.ref script] _ _ room rfl e0 (bind st (.ref script)) (.cons rfl .nil) h
  refine codeAny_mono R fun r s2 z => ?_
  match r, z with
  | .error e, z => exact absurd z (fun y => by exact y.elim)
  | .ok .next, z => exact z.elim
  | .ok .brk, z => exact z.elim
  | .ok .cont, z => exact z.elim
  | .ok (.ret u), ⟨v, H2, os, bare, un, ok2, ru, hv⟩ =>
    have hv2 : v = .bl true := hv
    rw [hv2] at ru
    have ru2 : u = Value.bool true := ru
    rw [ru2]
    refine ⟨rfl, OldK.of_keep fun b o a1 => ?_, os, bare⟩
    rcases e : H b with _ | t
    · exact un.keep b o a1 e (fun z => absurd z List.not_mem_nil) List.not_mem_nil
    · rcases only b with z | ⟨ob, xs, z⟩
      · rw [e] at z; cases z
      · have f1 := (ok b _ z).1
        have f2 := (ok2 b _ (un.frzs b ob _ z)).1
        rw [a1] at f1
        rw [Option.some.inj f1]
        exact f2
theorem law_whole (inK : K.In st.heap) (g1 : st.heap.Ns mainGlobals mg) (g2 : st.heap.Ns builtinsNs mb) (g3 : ∀ x : Str, x ≠ "__name__" → mb x = bootBuiltins x) (g4 : st.heap.NoLimit) (g5 : st.gens = #[])
    (is : st.heap.get? script = some { cls := .type "list", data := .seq cells.toArray }) (nums : IntsAre cells ns) (few : ns.length ≤ sizeLine) (room : Room k callerA) (F : ∀ base : Heap, K.In base → base.Ns mainGlobals mg → FnG P w K mg base k fa fd [x] sp)
    (bind : ∀ (s : Shared) (u : Value), BindsTo s fd ⟨[u], []⟩ [(x, u)]) (h : ∀ H : Hp, Only H → SqL K H script (ns.map V.int) → sp [.ref script] H (fun v _ => v = .bl true) fun _ _ _ => False) :
    codeAny (model P w) callerA (.call (.ref fa) ⟨[.ref script], []⟩) (Fin0 st) st := by
  have vals := vals_ints nums
  have len := nums.length
  rcases e : K.lookup script with _ | o
  · let ob : Obj := { cls := .type "list", data := .seq cells.toArray }
    let G : Hp := fun b => if b = script then some (.frz ob (.lst (ns.map V.int))) else none
    have at1 : G script = some (.frz ob (.lst (ns.map V.int))) := if_pos rfl
    have at2 : ∀ b, b ≠ script → G b = none := fun b n => if_neg n
    refine law_part inK g1 g2 g3 g4 g5 is room F bind G (fun b => ?_) (h G (fun b => ?_) (.inl (.inr ⟨ob, at1⟩))) (fun b u z => ?_) (fun b z => ?_) fun _ => e
    · by_cases n : b = script
      · exact .inr ⟨ob, _, by rw [n]; exact at1⟩
      · exact .inl (at2 b n)
    · by_cases n : b = script
      · exact .inr ⟨ob, _, by rw [n]; exact at1⟩
      · exact .inl (at2 b n)
    · by_cases n : b = script
      · subst n
        cases at1.symm.trans z
        exact ⟨is, by rw [List.length_map]; exact few, cells, _, vals, is⟩
      · cases (at2 b n).symm.trans z
    · by_cases n : b = script
      · exact n
      · exact absurd (at2 b n) z
  · have mine := inK script o e
    rw [is] at mine
    cases mine
    let G : Hp := fun _ => none
    exact law_part inK g1 g2 g3 g4 g5 is room F bind G (fun _ => .inl rfl) (h G (fun _ => .inl rfl) (.inr ⟨_, cells.toArray, _, e, rfl, rfl, rfl, by rw [List.size_toArray, len]; exact few, by simpa using vals⟩)) (fun _ _ z => nomatch z) (fun _ z => absurd rfl z) fun z => absurd rfl z
end
theorem walk_ofG {l : PySem.W.OpenLaw} {n k : Nat} {q : Program} {loose : List Str} {XP : (Str → Option Value) → Heap → Prop} {YP : World → Heap → Prop} {d : DefRec} {K : Params → PySem.W.Frag} {sp : World → Sp} {x : Str}
    (most : l.most = some n) (few : n ≤ sizeLine) (plain : d.params.defaults = []) (room : Room k callerA) (inK : ∀ (w : World) (h : Heap), YP w h → (K w.params).In h)
    (F : ∀ (w : World) (mg : Str → Option Value) (fa : Addr) (h : Heap), (K w.params).In h → h.Ns mainGlobals mg → mg d.name = some (.ref fa) →
      ∃ fd : FuncData, (∀ (s : Shared) (u : Value), BindsTo s fd ⟨[u], []⟩ [(x, u)]) ∧ ∀ base : Heap, (K w.params).In base → base.Ns mainGlobals mg → FnG l.prog w (K w.params) mg base k fa fd [x] (sp w))
    (h : ∀ (w : World) (H : Hp) (a : Addr) (ns : List Int), ns.length ≤ n → Only H → SqL (K w.params) H a (ns.map V.int) → sp w [.ref a] H (fun v _ => v = .bl true) fun _ _ _ => False) :
    PySem.W.WalkO q loose XP YP l.row.toRowW d [] (fun f vs => PySem.call f vs) := by
  refine Att.attach_call most plain fun w _ _ mg _ fa _ _ _ _ a cells ns S Y _ _ _ named is nums len gens => ?_
  obtain ⟨fd, bind, G⟩ := F w mg fa _ (inK w _ Y) S.T.g named
  exact law_whole (inK w _ Y) S.T.g S.T.b S.T.builtins S.T.nolimit gens is nums (Nat.le_trans len few) room G bind fun H only z => h w H a ns len only z
end GP
set_option maxRecDepth 100000
set_option maxHeartbeats 4000000
/-! which data repr may be asked of -/
namespace GP
open PySem PySem.Spec PyProof.Rows L2
structure Rp (n c : Nat) (d : PyData) : Prop where
  sh : d.showable = true
  nd : d.hasDict = false
  dp : d.depth ≤ n
  ln : d.shown.length ≤ c
theorem Rp.mono {n c m e : Nat} {d : PyData} (r : Rp n c d) (h1 : n ≤ m) (h2 : c ≤ e) : Rp m e d := ⟨r.sh, r.nd, Nat.le_trans r.dp h1, Nat.le_trans r.ln h2⟩
theorem Rp.none : Rp 0 4 .none := ⟨by simp [PyData.showable], by simp [PyData.hasDict], by simp [PyData.depth], by simp only [PyData.shown]; decide +kernel⟩
theorem Rp.int {i : Int} (h : i.natAbs.log2 < 1920) : Rp 0 1921 (.int i) := ⟨by simp only [PyData.showable]; exact decide_eq_true h, by simp [PyData.hasDict], by simp [PyData.depth], by simp only [PyData.shown]; exact int_text_len_1921 h⟩
theorem Rp.str {x : Str} (h : ∀ c ∈ x.cps.toList, c < 16 ^ 8) : Rp 0 (10 * x.length + 2) (.str x) := ⟨by simp [PyData.showable], by simp [PyData.hasDict], by simp [PyData.depth], by simp only [PyData.shown]; exact StrLaws.reprText_len x h⟩
theorem all_sh : ∀ {n c : Nat} {ds : List PyData}, (∀ d ∈ ds, Rp n c d) → PyData.showableAll ds = true ∧ PyData.hasDictAll ds = false ∧ PyData.depthAll ds ≤ n ∧ piled (PyData.shownAll ds) ≤ ds.length * (c + 2)
  | n, c, [], _ => ⟨by simp [PyData.showableAll], by simp [PyData.hasDictAll], by simp [PyData.depthAll], by simp [PyData.shownAll, piled]⟩
  | n, c, d :: ds, h => by
    have r := h d List.mem_cons_self
    obtain ⟨h1, h2, h3, h4⟩ := all_sh (n := n) (c := c) (ds := ds) fun x hx => h x (List.mem_cons_of_mem _ hx)
    refine ⟨by simp only [PyData.showableAll, r.sh, h1, Bool.and_self], by simp only [PyData.hasDictAll, r.nd, h2, Bool.or_self], ?_, ?_⟩
    · simp only [PyData.depthAll]
      exact Nat.max_le.mpr ⟨r.dp, h3⟩
    · simp only [PyData.shownAll]
      rw [piled_cons, List.length_cons, Nat.add_mul, Nat.one_mul]
      have := r.ln
      omega
theorem Rp.tuple {n c : Nat} {ds : List PyData} (h : ∀ d ∈ ds, Rp n c d) : Rp (n + 1) (ds.length * (c + 2) + 2) (.tuple ds) := by
  obtain ⟨h1, h2, h3, h4⟩ := all_sh h
  refine ⟨by simp only [PyData.showable, h1], by simp only [PyData.hasDict, h2], by simp only [PyData.depth]; omega, ?_⟩
  simp only [PyData.shown]
  exact Nat.le_trans (fmt_text _) (by omega)
theorem list_text (ts : List Str) : (listText ts).length ≤ piled ts + 2 := by
  have e1 : (("[" : Str)).length = 1 := rfl
  have e2 : (("]" : Str)).length = 1 := rfl
  rw [listText_eq_join, strLen_append, strLen_append, e1, e2]
  by_cases h : ts = []
  · subst h
    decide +kernel
  · have := join_length_add ts h
    omega
theorem Rp.list {n c : Nat} {ds : List PyData} (h : ∀ d ∈ ds, Rp n c d) : Rp (n + 1) (ds.length * (c + 2) + 2) (.list ds) := by
  obtain ⟨h1, h2, h3, h4⟩ := all_sh h
  refine ⟨by simp only [PyData.showable, h1], by simp only [PyData.hasDict, h2], by simp only [PyData.depth]; omega, ?_⟩
  simp only [PyData.shown]
  exact Nat.le_trans (list_text _) (by omega)
section
variable {X : Cx}
theorem call_reprR (gd : X.A.guards = some []) (hu : X.A.units + 70 < cLine) : CallR X (.builtin "repr") (fun xs H Q => ∃ p d n c, xs = [.ref p] ∧ Dp X.K H (.ref p) d ∧ Rp n c d ∧ n ≤ 60 ∧ c ≤ sizeLine ∧ Q (.str d.shown) H) := by
  intro pins s σ H xs us Q I r h
  obtain ⟨p, d, n, c, rfl, hd, rp, hn, hc, q⟩ := h
  exact call_reprD gd hu pins s σ H [.ref p] us Q I r ⟨p, d, rfl, hd, rp.sh, rp.nd, Nat.le_trans rp.dp hn, Nat.le_trans rp.ln hc, q⟩
end
end GP
set_option maxRecDepth 100000
set_option maxHeartbeats 4000000
/-! {text for .. if .. for ..} -/
namespace SC
open PySem PySem.Spec PyProof.Rows L2 TSet
abbrev tests (ifs : List Expr) (env : Env) : Sem Bool := forIn ifs true fun c r => if r = true then (do
  let ok ← PySem.isTrue c env (eval c env)
  pure (ForInStep.yield ok)) else pure (ForInStep.yield r)
section
variable {prog : Program} {w : World} {A : Around} {R : Result → Shared → Prop} {s : Shared} {elt t0 i0 t1 i1 : Expr} {ifs0 ifs1 : List Expr} {scope : Scope} {pos : Pos} {it acc : Value} {env : Env}
theorem turn_out : compTurn (.SetComp elt [⟨t0, i0, ifs0, 0⟩, ⟨t1, i1, ifs1, 0⟩] scope pos) 0 it acc env =
    (standAt i0.pos >>= fun _ => pyNext it >>= fun r => match r with
      | none => pure (Fin.done Flow.next)
      | some v => letOwnedTupleGo t0 it v >>= fun _ => assign t0 env v >>= fun _ => tests ifs0 env >>= fun ok =>
        if ok = true then eval i1 env >>= fun x => standAt i1.pos >>= fun _ => foldedSetIterable i1 env x >>= fun x => holding [x] (pyIter x) >>= fun u => runOwn (.compStart (.SetComp elt [⟨t0, i0, ifs0, 0⟩, ⟨t1, i1, ifs1, 0⟩] scope pos) 1 u acc env) env >>= fun _ => PySem.again (.compLoop (.SetComp elt [⟨t0, i0, ifs0, 0⟩, ⟨t1, i1, ifs1, 0⟩] scope pos) 0 it acc env)
        else PySem.again (.compLoop (.SetComp elt [⟨t0, i0, ifs0, 0⟩, ⟨t1, i1, ifs1, 0⟩] scope pos) 0 it acc env)) := rfl
theorem turn_in : compTurn (.SetComp elt [⟨t0, i0, ifs0, 0⟩, ⟨t1, i1, ifs1, 0⟩] scope pos) 1 it acc env =
    (standAt i1.pos >>= fun _ => pyNext it >>= fun r => match r with
      | none => pure (Fin.done Flow.next)
      | some v => letOwnedTupleGo t1 it v >>= fun _ => assign t1 env v >>= fun _ => tests ifs1 env >>= fun ok =>
        if ok = true then (eval elt env >>= fun v => standAt elt.pos >>= fun _ => call (.builtin "set.add") [acc, v] >>= fun _ => pure ()) >>= fun _ => PySem.again (.compLoop (.SetComp elt [⟨t0, i0, ifs0, 0⟩, ⟨t1, i1, ifs1, 0⟩] scope pos) 1 it acc env)
        else PySem.again (.compLoop (.SetComp elt [⟨t0, i0, ifs0, 0⟩, ⟨t1, i1, ifs1, 0⟩] scope pos) 1 it acc env)) := rfl
theorem loop_in (I : Nat → Shared → Prop) (hyp : ∀ n s, I n s → wpAny (model prog w) A (pyNext it) (fun r s1 => match r with
      | none => R (.ok .next) s1
      | some v => wpAny (model prog w) A (letOwnedTupleGo t1 it v) (fun _ s2 => wpAny (model prog w) A (assign t1 env v) (fun _ s3 => wpAny (model prog w) A (tests ifs1 env) (fun ok s4 =>
          if ok = true then wpAny (model prog w) A (eval elt env) (fun x s5 => wpAny (model prog w) A (call (.builtin "set.add") [acc, x]) (fun _ s6 => ∃ m, m < n ∧ I m s6) (fun _ _ => False) s5) (fun _ _ => False) s4
          else ∃ m, m < n ∧ I m s4) (fun _ _ => False) s3) (fun _ _ => False) s2) (fun _ _ => False) s1) (fun _ _ => False) s) (n : Nat) (hI : I n s) :
    codeAny (model prog w) A (.compLoop (.SetComp elt [⟨t0, i0, ifs0, 0⟩, ⟨t1, i1, ifs1, 0⟩] scope pos) 1 it acc env) R s := by
  refine codeAny_loop rfl I (fun n s hI => ?_) n hI
  show wpAny _ _ ((compTurn (.SetComp elt [⟨t0, i0, ifs0, 0⟩, ⟨t1, i1, ifs1, 0⟩] scope pos) 1 it acc env).onRaise _) _ _ _
  refine wpAny_onRaise ?_
  rw [turn_in]
  refine wpAny_bind (wpAny_standAt ?_)
  refine wpAny_bind (thnF (hyp n s hI) fun r s1 h1 => ?_)
  cases r with
  | none => exact wpAny_pure h1
  | some v =>
    refine wpAny_bind (thnF h1 fun _ s2 h2 => ?_)
    refine wpAny_bind (thnF h2 fun _ s3 h3 => ?_)
    refine wpAny_bind (thnF h3 fun ok s4 h4 => ?_)
    cases ok with
    | false => exact wpAny_pure ⟨rfl, h4⟩
    | true =>
      refine wpAny_bind (wpAny_bind (thnF h4 fun x s5 h5 => ?_))
      refine wpAny_bind (wpAny_standAt ?_)
      refine wpAny_bind (thnF h5 fun _ s6 h6 => ?_)
      exact wpAny_pure (wpAny_pure ⟨rfl, h6⟩)
theorem loop_out (plain : ∀ x, foldedSetIterable i1 env x = pure x) (I : Nat → Shared → Prop) (hyp : ∀ n s, I n s → wpAny (model prog w) A (pyNext it) (fun r s1 => match r with
      | none => R (.ok .next) s1
      | some v => wpAny (model prog w) A (letOwnedTupleGo t0 it v) (fun _ s2 => wpAny (model prog w) A (assign t0 env v) (fun _ s3 => wpAny (model prog w) A (tests ifs0 env) (fun ok s4 =>
          if ok = true then wpAny (model prog w) A (eval i1 env) (fun x s5 => wpAny (model prog w) A (pyIter x) (fun u s6 => codeAny (model prog w) A (.compStart (.SetComp elt [⟨t0, i0, ifs0, 0⟩, ⟨t1, i1, ifs1, 0⟩] scope pos) 1 u acc env) (fun r s7 => match r with | .ok _ => ∃ m, m < n ∧ I m s7 | .error _ => False) s6) (fun _ _ => False) s5) (fun _ _ => False) s4
          else ∃ m, m < n ∧ I m s4) (fun _ _ => False) s3) (fun _ _ => False) s2) (fun _ _ => False) s1) (fun _ _ => False) s) (n : Nat) (hI : I n s) :
    codeAny (model prog w) A (.compLoop (.SetComp elt [⟨t0, i0, ifs0, 0⟩, ⟨t1, i1, ifs1, 0⟩] scope pos) 0 it acc env) R s := by
  refine codeAny_loop rfl I (fun n s hI => ?_) n hI
  show wpAny _ _ ((compTurn (.SetComp elt [⟨t0, i0, ifs0, 0⟩, ⟨t1, i1, ifs1, 0⟩] scope pos) 0 it acc env).onRaise _) _ _ _
  refine wpAny_onRaise ?_
  rw [turn_out]
  refine wpAny_bind (wpAny_standAt ?_)
  refine wpAny_bind (thnF (hyp n s hI) fun r s1 h1 => ?_)
  cases r with
  | none => exact wpAny_pure h1
  | some v =>
    refine wpAny_bind (thnF h1 fun _ s2 h2 => ?_)
    refine wpAny_bind (thnF h2 fun _ s3 h3 => ?_)
    refine wpAny_bind (thnF h3 fun ok s4 h4 => ?_)
    cases ok with
    | false => exact wpAny_pure ⟨rfl, h4⟩
    | true =>
      refine wpAny_bind (thnF h4 fun x s5 h5 => ?_)
      refine wpAny_bind (wpAny_standAt ?_)
      rw [plain]
      refine wpAny_bind (wpAny_pure ?_)
      refine wpAny_bind (wpAny_holding (thnF h5 fun u s6 h6 => ?_))
      refine wpAny_bind (wpAny_runOwn (codeAny_mono h6 fun r s7 h7 => ?_))
      cases r with
      | error e => exact h7.elim
      | ok f => exact wpAny_pure ⟨rfl, h7⟩
theorem start_at {d : Nat} (hd : ((clausesOf (.SetComp elt [⟨t0, i0, ifs0, 0⟩, ⟨t1, i1, ifs1, 0⟩] scope pos))[d]?.elim false fun x => x.is_async != 0) = false)
    (h : codeAny (model prog w) A (.compLoop (.SetComp elt [⟨t0, i0, ifs0, 0⟩, ⟨t1, i1, ifs1, 0⟩] scope pos) d it acc env) R s)
    (h2 : wpAny (model prog w) A (pyIter it) (fun it' s' => codeAny (model prog w) A (.compLoop (.SetComp elt [⟨t0, i0, ifs0, 0⟩, ⟨t1, i1, ifs1, 0⟩] scope pos) d it' acc env) R s') (fun _ _ => False) s) :
    codeAny (model prog w) A (.compStart (.SetComp elt [⟨t0, i0, ifs0, 0⟩, ⟨t1, i1, ifs1, 0⟩] scope pos) d it acc env) R s := by
  refine codeAny_of_tree ?_
  show wpAny _ _ ((compStart (.SetComp elt [⟨t0, i0, ifs0, 0⟩, ⟨t1, i1, ifs1, 0⟩] scope pos) d it acc env).onRaise _) _ _ _
  refine wpAny_onRaise ?_
  unfold compStart
  rw [hd, if_neg Bool.false_ne_true]
  refine wpAny_bind (wpAny_askSetting ?_)
  by_cases g : (model prog w).w.params.followText "comprehension-iter-twice" = true
  · rw [if_pos g]
    exact wpAny_pure ⟨rfl, h⟩
  · rw [if_neg g]
    refine wpAny_bind (wpAny_rule ?_)
    cases hg : (clausesOf (.SetComp elt [⟨t0, i0, ifs0, 0⟩, ⟨t1, i1, ifs1, 0⟩] scope pos))[d]? with
    | none => exact wpAny_bind (thnF h2 fun it' s' h3 => wpAny_pure ⟨rfl, h3⟩)
    | some g => exact wpAny_bind (wpAny_standAt (wpAny_bind (thnF h2 fun it' s' h3 => wpAny_pure ⟨rfl, h3⟩)))
end
end SC
set_option maxRecDepth 100000
set_option maxHeartbeats 4000000
namespace SC
open PySem PySem.Spec PyProof.Rows L2 TSet Froz
section
variable {P : Program} {w : World} {A : Around} {E : Value → Shared → Prop} {s : Shared}
theorem set_add_txt {a : Addr} {D : SD} {l : List Str} {k : Str} {u : Tok} {Q : Value → Shared → Prop} (at_ : s.heap.get? a = some (sObj "set" D)) (Z : Txs P w D l) (few : l.length + 1 < scanBound)
    (h : ∀ h' tk D' l', Heap.SameBut a s.heap h' → h'.get? a = some (sObj "set" D') → Txs P w D' l' → (∀ z, z ∈ l' ↔ z = k ∨ z ∈ l) → l'.length ≤ l.length + 1 → Q .none { s with heap := h', toks := tk }) :
    wpAny (model P w) A (call (.builtin "set.add") [.ref a, .str k u]) Q E s := by
  refine call_meetsIn (S := fun A R s => s.heap.get? a = some (sObj "set" D) ∧ ∀ h' tk D' l', Heap.SameBut a s.heap h' → h'.get? a = some (sObj "set" D') → Txs P w D' l' → (∀ z, z ∈ l' ↔ z = k ∨ z ∈ l) → l'.length ≤ l.length + 1 → R (.ok (.ret .none)) { s with heap := h', toks := tk }) F.slot_set_add ⟨_, at_, rfl⟩ F.entry_set_add (F.args_set_add_2 _ _) (fun A R s ⟨g, q⟩ => ?_) ⟨at_, fun h' tk D' l' a b c d e => h h' tk D' l' a b c d e⟩
  unfold Builtin.«set.add» Builtin.Frozenset.oneOther
  have add_ : ∀ {A' : Around} {E' : Value → Shared → Prop} {Q' : Bool → Shared → Prop}, (∀ b h' tk D' l', Heap.SameBut a s.heap h' → h'.get? a = some (sObj "set" D') → Txs P w D' l' → (∀ z, z ∈ l' ↔ z = k ∨ z ∈ l) → l'.length ≤ l.length + 1 → Q' b { s with heap := h', toks := tk }) → wpAny (model P w) A' (setAdd a (.str k u)) Q' E' s := fun q' => by
    unfold setAdd
    refine wpAny_holding (wpAny_bind ((strKind P w).pyHash (k := k) (is_str k u) ?_))
    exact add_any (s := { s with toks := s.toks + 1 }) g Z few fun b h' D' l' c d e f g => q' b h' _ D' l' c d e f g
  wp_walk using add_
  exact fun b h' tk D' l' c d e f g => wpAny_pure (q h' tk D' l' c d e f g)
theorem new_set {Q : Value → Shared → Prop} (h : Q (.ref s.heap.objs.size) { s with heap := s.heap.push (freshSet w) }) : wpAny (model P w) A (newSet (.type "set")) Q E s := by
  unfold newSet setsByText
  refine wpAny_bind (wpAny_bind (wpAny_askSetting ?_))
  refine wpAny_pure ?_
  exact wpAny_newObj_type h
end
/-- {elt for .. if .. for ..}, texts -/
def tSc2 (P : Program) (w : World) (wi : TI) (g : TG) (tt : TT) (wi1 : TI) (g1 : TG) (tt1 : TT) (te : TE) (vs vs1 : List Nat) : TE := fun σ H Q => wi σ H fun J H1 => ∀ D, H1 D = none → ∃ W : Nat → Nat → Hp → Prop, (∃ m, W 0 m (upd H1 D (SetX P w D []))) ∧ ∀ i m H, W i m H →
  (J.stop i H ∧ Q (.ref D) H) ∨ (J.go i H ∧ ∃ Nx : Hp → Prop, (∀ H', Nx H' → ∃ m', m' < m ∧ W (i + 1) m' H') ∧ ∀ x H', J.yld i H x H' → g x (wipe σ vs) H' fun σ2 H2 => wipe σ2 vs = wipe σ vs ∧ tt σ2 H2 fun b H3 =>
    if b = true then wi1 σ2 H3 fun J1 H4 => ∃ W1 : Nat → Nat → Hp → Prop, (∃ m, W1 0 m H4) ∧ ∀ j k H, W1 j k H →
      (J1.stop j H ∧ Nx H) ∨ (J1.go j H ∧ ∃ Nx1 : Hp → Prop, (∀ H', Nx1 H' → ∃ k', k' < k ∧ W1 (j + 1) k' H') ∧ ∀ x H', J1.yld j H x H' → g1 x (wipe σ2 vs1) H' fun σ3 H5 => wipe σ3 vs1 = wipe σ2 vs1 ∧ tt1 σ3 H5 fun b H6 =>
        if b = true then te σ3 H6 fun y H7 => ∃ l z, y = .str z ∧ H7 D = some (SetX P w D l) ∧ l.length < 64 ∧ ∀ l' : List Str, l'.Nodup → (∀ q, q ∈ l' ↔ q = z ∨ q ∈ l) → l'.length ≤ l.length + 1 → Nx1 (upd H7 D (SetX P w D l'))
        else Nx1 H6)
    else Nx H3)
section
variable {X : Cx} {elt tg iter tg1 iter1 : Expr} {ifs ifs1 : List Expr} {scope : Scope} {own : List (Str × Nat)} {vs1 : List Nat} {wi wi1 : TI} {g g1 : TG} {tt tt1 : TT} {te : TE}
theorem pe_sc2 {pos : Pos} (calm : X.calm = true) (diff : X.N.Nodup) (walk : PI X tg iter wi) (blk : BlkOk X.N X.env.scope scope own) (sub : ∀ i ∈ vs1, i ∈ own.map (·.2))
    (aim : ∀ (sh : Shared) (G : Hp) (C : Addr) (cl : List (Str × Addr)) (feet : List Addr), PG (X.blk sh G scope (compEnvC scope cl C X.env) feet) tg g)
    (tests : ∀ (sh : Shared) (G : Hp) (C : Addr) (cl : List (Str × Addr)) (feet : List Addr), PTs (X.blk sh G scope (compEnvC scope cl C X.env) feet) ifs tt)
    (walk1 : ∀ (sh : Shared) (G : Hp) (C : Addr) (cl : List (Str × Addr)) (feet : List Addr), PI (X.blk sh G scope (compEnvC scope cl C X.env) feet) tg1 iter1 wi1)
    (aim1 : ∀ (sh : Shared) (G : Hp) (C : Addr) (cl : List (Str × Addr)) (feet : List Addr), PG (X.blk sh G scope (compEnvC scope cl C X.env) feet) tg1 g1)
    (tests1 : ∀ (sh : Shared) (G : Hp) (C : Addr) (cl : List (Str × Addr)) (feet : List Addr), PTs (X.blk sh G scope (compEnvC scope cl C X.env) feet) ifs1 tt1)
    (elts : ∀ (sh : Shared) (G : Hp) (C : Addr) (cl : List (Str × Addr)) (feet : List Addr), PE (X.blk sh G scope (compEnvC scope cl C X.env) feet) elt te)
    (plain : ∀ x, foldedSetIterable iter X.env x = pure x := by intro _; rfl) (plain1 : ∀ env x, foldedSetIterable iter1 env x = pure x := by intro _ _; rfl) :
    PE X (.SetComp elt [⟨tg, iter, ifs, 0⟩, ⟨tg1, iter1, ifs1, 0⟩] scope pos) (tSc2 X.prog X.w wi g tt wi1 g1 tt1 te (own.map (·.2)) vs1) := by
  refine ⟨fun pp sh0 st G0 Q I0 ask => ?_⟩
  rw [arm_eval_SetComp]
  have frees : ∀ y ∈ scope.names, y.2 = .free → ∃ c, X.env.cells.lookup y.1 = some c := fun y hy e => (blk.free y hy e).elim (fun k => I0.ok.has _ (.inl k)) fun k => I0.ok.has _ (.inr k)
  refine wpAny_comprehension_free (use := none) rfl plain (closure_ok frees) blk.kind (fun y hy e => by rw [blk.uniq y hy, e]) (thn (walk.run pp sh0 st G0 _ I0 ask) fun xv sh1 came => thn came fun itv sh2 more => ?_)
  obtain ⟨it, feet, ten, J, G2, rfl, I2, T, at0, free2, turn⟩ := more
  refine new_set (newEnv_comp ?_)
  have new : G2 sh2.heap.objs.size = none := I2.hok.fresh (Nat.le_refl _)
  obtain ⟨W, ⟨m0, w0⟩, step⟩ := turn _ new
  obtain ⟨G3, eG3⟩ : ∃ G3, G3 = upd G2 sh2.heap.objs.size (SetX X.prog X.w sh2.heap.objs.size []) := ⟨_, rfl⟩
  rw [← eG3] at w0
  obtain ⟨sh3, e3⟩ : ∃ sh3 : Shared, sh3 = { sh2 with heap := sh2.heap.push (freshSet X.w) } := ⟨_, rfl⟩
  have I3 : Inv X pp st G3 sh3 := by
    rw [e3, eG3]
    exact I2.laid (t' := sh2.toks) (fun b o q => Heap.get?_push_of_some _ q) (Nat.le_refl _) (setX_new ⟨(#[], 0, .fresh 0 0 (!X.w.params.followText "set-order")), Heap.get?_push_size _ rfl, Txs.fresh⟩)
  have heap3 : sh3.heap = sh2.heap.push (freshSet X.w) := by rw [e3]
  have low : ∀ b ∈ feet, b < sh2.heap.objs.size := fun b hb => Heap.lt_size (T.obj _ _ at0 b hb).choose_spec.1
  have free3 : ∀ b ∈ feet, FpOk X pp G3 b ∧ b < sh3.heap.objs.size := fun b hb => ⟨⟨by rw [eG3, upd_ne (Nat.ne_of_lt (low b hb))]; exact (free2 b hb).1, (free2 b hb).2⟩, by rw [heap3, Heap.size_push]; exact Nat.lt_succ_of_lt (low b hb)⟩
  have at3 : ten 0 sh3.heap := T.keep _ _ _ at0 fun b _ o q => by rw [heap3]; exact Heap.get?_push_of_some _ q
  have I4 := block_start I3 blk diff free3
  obtain ⟨C, eC⟩ : ∃ C, C = sh3.heap.objs.size := ⟨_, rfl⟩
  obtain ⟨cl, ecl⟩ : ∃ cl, cl = cellsFrom (sh3.heap.objs.size + 1) scope.names (cloFrom X.env.cells scope.names []) := ⟨_, rfl⟩
  obtain ⟨sh4, e4⟩ : ∃ sh4 : Shared, sh4 = { sh3 with heap := pushCells (sh3.heap.push { cls := .type "dict", data := .dict #[] }) scope.names } := ⟨_, rfl⟩
  rw [← ecl, ← eC, ← e4] at I4
  have at4 : ten 0 sh4.heap := T.keep _ _ _ at3 fun b _ o q => by rw [e4]; exact pushCells_keeps _ _ _ _ (Heap.get?_push_of_some _ q)
  have none3 : ∀ b ∈ feet, G3 b = none := fun b hb => (free3 b hb).1.1
  obtain ⟨Y, eY⟩ : ∃ Y, Y = X.blk sh3 G3 scope (compEnvC scope cl C X.env) feet := ⟨_, rfl⟩
  rw [← eY] at I4
  have held : ∀ {st' : L2.St} {G' : Hp} {sh' : Shared}, Inv Y [] st' G' sh' → (∀ b ∈ feet, G' b = none) → ∀ b ∈ feet, FpOk Y [] G' b := by
    subst eY
    exact fun {_ _ _} I' no b hb => ⟨no b hb, (I'.ok.exf b hb).1, I'.ok.exfs b hb, .inl hb, fun x c q => (I'.ok.exf b hb).2 x c q, fun p hp => absurd (show p ∈ ([] : List (Addr × Obj)) ++ [] from hp) (by simp)⟩
  have locC : (compEnvC scope cl C X.env).locals = C := rfl
  have loop : codeAny (model X.prog X.w) X.A (.compLoop (.SetComp elt [⟨tg, iter, ifs, 0⟩, ⟨tg1, iter1, ifs1, 0⟩] scope pos) 0 (.ref it) (.ref sh2.heap.objs.size) (compEnvC scope cl C X.env)) (compPost (model X.prog X.w) X.A X.xe none (EP X pp st Q) (.ref sh2.heap.objs.size) C) sh4 := by
    subst eY
    refine loop_out (plain1 _) (fun left sh => ∃ i G, Inv (X.blk sh3 G3 scope (compEnvC scope cl C X.env) feet) [] (wipe st (own.map (·.2))) G sh ∧ ten i sh.heap ∧ (∀ b ∈ feet, G b = none) ∧ W i left G) ?_ m0 ⟨0, G3, I4, at4, none3, w0⟩
    rintro left sh5 ⟨i, G5, I5, at5, no5, w5⟩
    rcases step i left G5 w5 with ⟨over, good⟩ | ⟨on, Nx, fewer, go⟩
    · -- the walk is over
      refine thnF (T.done (X.blk sh3 G3 scope (compEnvC scope cl C X.env) feet) rfl rfl rfl calm i [] sh5 _ G5 (fun _ _ => False) I5 (held I5 no5) at5 over) fun r sh6 ⟨er, I6⟩ => ?_
      subst er
      have I7 : Inv X pp st G5 sh6 := I3.call' (ch := feet) I6.os I6.base I6.hok I6.bare fun b hb => let f := (free3 b hb).1.2; ⟨f.2.2.1, f.1, f.2.2.2.1, f.2.2.2.2⟩
      have noC : G5 C = none := I6.free
      obtain ⟨m, names, _⟩ := I6.loc
      obtain ⟨f0, f1, f2, f3, f4, f5⟩ := I3.fpOk (Nat.le_of_eq eC.symm) noC
      exact ⟨m, names, fun h'' sb => ⟨.ref sh2.heap.objs.size, G5, I7.turned (t' := sh6.toks) (fun b o hb q => (sb.2 b hb).trans q) f0 f1 f3 f4 f5, rfl, good⟩⟩
    · -- one turn
      refine thnF (T.item (X.blk sh3 G3 scope (compEnvC scope cl C X.env) feet) rfl rfl rfl calm i [] sh5 _ G5 (fun _ _ => False) I5 (held I5 no5) at5 on) fun r sh6 ⟨u, er, rest⟩ => ?_
      subst er
      refine thnF rest fun _ sh7 ⟨x, G7, I7, rx, y7, at7, no7⟩ => ?_
      have P7 := I7.pinned (held I7 no7) (T.obj _ _ at7)
      refine thnF ((aim sh3 G3 C cl feet).run _ sh7 _ G7 x u _ P7 rx (go x G7 y7)) fun _ sh8 ⟨st8, G8, I8, same8, q8⟩ => ?_
      refine thnF ((tests sh3 G3 C cl feet).run _ sh8 st8 G8 _ I8 q8) fun yes sh9 ⟨G9, I9, q9⟩ => ?_
      have back : ∀ {st' : L2.St} {sh' : Shared} {G' : Hp}, Inv (X.blk sh3 G3 scope (compEnvC scope cl C X.env) feet) ([] ++ pinsAt feet sh7.heap) st' G' sh' → st'.length = st8.length → (∀ (j : Nat) (v : V), (wipe st8 (own.map (·.2)))[j]? = some (some v) → st'[j]? = some (some v)) → Nx G' →
          ∃ m, m < left ∧ ∃ i G, Inv (X.blk sh3 G3 scope (compEnvC scope cl C X.env) feet) [] (wipe st (own.map (·.2))) G sh' ∧ ten i sh'.heap ∧ (∀ b ∈ feet, G b = none) ∧ W i m G := by
        intro st' sh' G' I' hl hw nx
        obtain ⟨m', less, w'⟩ := fewer G' nx
        have pin : ∀ b ∈ feet, ∀ o, sh7.heap.get? b = some o → sh'.heap.get? b = some o ∧ G' b = none := fun b hb o q => by
          have z := I'.pin (b, o) (List.mem_append_right _ (List.mem_append_right _ (mem_pinsAt hb q)))
          exact ⟨z.1, z.2.1⟩
        have len : (wipe st (own.map (·.2))).length = st'.length := by rw [← same8, wipe_length, hl]
        refine ⟨m', less, i + 1, G', (I'.unpinned (pins := [])).weak len (fun j v q => ?_), T.keep _ _ _ at7 fun b hb o q => (pin b hb o q).1, fun b hb => ?_, w'⟩
        · rw [← same8] at q
          exact hw j v q
        · obtain ⟨o, q, _⟩ := T.obj _ _ at7 b hb
          exact (pin b hb o q).2
      cases yes with
      | false => exact back I9 rfl (fun j v q => (wipe_some q).1) q9
      | true =>
        refine thnF ((walk1 sh3 G3 C cl feet).run _ sh9 st8 G9 _ I9 q9) fun xv1 sh10 came1 => thnF came1 fun itv1 sh11 more1 => ?_
        obtain ⟨it1, feet1, ten1, J1, G11, rfl, I11, T1, at1, free1, W1, ⟨k0, w10⟩, step1⟩ := more1
        have I11w := I11.weak (wipe_length st8 vs1) (fun j v q => (wipe_some q).1)
        have held1 : ∀ {G' : Hp}, (∀ b ∈ feet1, G' b = none) → ∀ b ∈ feet1, FpOk (X.blk sh3 G3 scope (compEnvC scope cl C X.env) feet) ([] ++ pinsAt feet sh7.heap) G' b := fun no b hb => ⟨no b hb, (free1 b hb).2⟩
        have loop1 : codeAny (model X.prog X.w) X.A (.compLoop (.SetComp elt [⟨tg, iter, ifs, 0⟩, ⟨tg1, iter1, ifs1, 0⟩] scope pos) 1 (.ref it1) (.ref sh2.heap.objs.size) (compEnvC scope cl C X.env)) (fun r s7 => match r with
            | .ok _ => ∃ m, m < left ∧ ∃ i G, Inv (X.blk sh3 G3 scope (compEnvC scope cl C X.env) feet) [] (wipe st (own.map (·.2))) G s7 ∧ ten i s7.heap ∧ (∀ b ∈ feet, G b = none) ∧ W i m G
            | .error _ => False) sh11 := by
          refine loop_in (fun k sh => ∃ j G, Inv (X.blk sh3 G3 scope (compEnvC scope cl C X.env) feet) ([] ++ pinsAt feet sh7.heap) (wipe st8 vs1) G sh ∧ ten1 j sh.heap ∧ (∀ b ∈ feet1, G b = none) ∧ W1 j k G) ?_ k0 ⟨0, G11, I11w, at1, fun b hb => (free1 b hb).1, w10⟩
          rintro k sh12 ⟨j, G12, I12, at12, no12, w12⟩
          rcases step1 j k G12 w12 with ⟨over, nx⟩ | ⟨on1, Nx1, fewer1, go1⟩
          · refine thnF (T1.done (X.blk sh3 G3 scope (compEnvC scope cl C X.env) feet) rfl rfl rfl calm j _ sh12 _ G12 (fun _ _ => False) I12 (held1 no12) at12 over) fun r sh13 ⟨er, I13⟩ => ?_
            subst er
            exact back I13 (wipe_length st8 vs1) (fun j v q => by
              obtain ⟨q1, q2⟩ := wipe_some q
              rw [wipe_out fun z => q2 (sub j z)]
              exact q1) nx
          · refine thnF (T1.item (X.blk sh3 G3 scope (compEnvC scope cl C X.env) feet) rfl rfl rfl calm j _ sh12 _ G12 (fun _ _ => False) I12 (held1 no12) at12 on1) fun r sh13 ⟨u1, er, rest1⟩ => ?_
            subst er
            refine thnF rest1 fun _ sh14 ⟨x1, G14, I14, rx1, y14, at14, no14⟩ => ?_
            have P14 := I14.pinned (held1 no14) (T1.obj _ _ at14)
            refine thnF ((aim1 sh3 G3 C cl feet).run _ sh14 _ G14 x1 u1 _ P14 rx1 (go1 x1 G14 y14)) fun _ sh15 ⟨st15, G15, I15, same15, q15⟩ => ?_
            refine thnF ((tests1 sh3 G3 C cl feet).run _ sh15 st15 G15 _ I15 q15) fun yes1 sh16 ⟨G16, I16, q16⟩ => ?_
            have back1 : ∀ {sh' : Shared} {G' : Hp}, Inv (X.blk sh3 G3 scope (compEnvC scope cl C X.env) feet) (([] ++ pinsAt feet sh7.heap) ++ pinsAt feet1 sh14.heap) st15 G' sh' → Nx1 G' →
                ∃ k', k' < k ∧ ∃ j G, Inv (X.blk sh3 G3 scope (compEnvC scope cl C X.env) feet) ([] ++ pinsAt feet sh7.heap) (wipe st8 vs1) G sh' ∧ ten1 j sh'.heap ∧ (∀ b ∈ feet1, G b = none) ∧ W1 j k' G := by
              intro sh' G' I' nx
              obtain ⟨k', less, w'⟩ := fewer1 G' nx
              have pin : ∀ b ∈ feet1, ∀ o, sh14.heap.get? b = some o → sh'.heap.get? b = some o ∧ G' b = none := fun b hb o q => by
                have z := I'.pin (b, o) (List.mem_append_right _ (List.mem_append_right _ (mem_pinsAt hb q)))
                exact ⟨z.1, z.2.1⟩
              have len : (wipe st8 vs1).length = st15.length := by rw [← same15, wipe_length]
              refine ⟨k', less, j + 1, G', I'.unpinned.weak len (fun j v q => ?_), T1.keep _ _ _ at14 fun b hb o q => (pin b hb o q).1, fun b hb => ?_, w'⟩
              · rw [← same15] at q
                exact (wipe_some q).1
              · obtain ⟨o, q, _⟩ := T1.obj _ _ at14 b hb
                exact (pin b hb o q).2
            cases yes1 with
            | false => exact back1 I16 q16
            | true =>
              refine thnF ((elts sh3 G3 C cl feet).run _ sh16 st15 G16 _ I16 q16) fun ku sh17 ⟨yk, G17, I17, rk, l, z, ek, hD, few, nx⟩ => ?_
              subst ek
              obtain ⟨tk, rfl⟩ := rk
              obtain ⟨DD, e, F⟩ := (I17.hok _ _ hD).1
              refine set_add_txt e F (by unfold scanBound; omega) fun h' tk' D' l' same a2 f2 m2 n2 => back1 (d_write (t' := tk') I17 (by rw [hD]; exact True.intro) same ⟨_, a2⟩ (setX_new ⟨D', a2, f2⟩)) (nx l' f2.nd m2 n2)
        exact start_at rfl loop1 (T1.self X.A 0 _ _ _ at1 loop1)
  show codeAny _ _ (.compStart (.SetComp elt [⟨tg, iter, ifs, 0⟩, ⟨tg1, iter1, ifs1, 0⟩] scope pos) 0 (.ref it) (.ref sh2.heap.objs.size) (compEnvC scope (cellsFrom (sh2.heap.push (freshSet X.w)).objs.size.succ scope.names (cloFrom X.env.cells scope.names [])) (sh2.heap.push (freshSet X.w)).objs.size X.env)) _ _
  rw [heap3] at eC ecl
  subst e3
  subst e4 ecl eC
  exact start_at rfl loop (T.self X.A 0 _ _ _ at4 loop)
end
end SC
set_option maxRecDepth 100000
set_option maxHeartbeats 4000000
namespace HR
open PySem L2
theorem toList_inj {x y : Str} (h : x.cps.toList = y.cps.toList) : x = y := by
  obtain ⟨a⟩ := x
  obtain ⟨b⟩ := y
  have : a = b := Array.ext' h
  rw [this]
/-! ### ascending texts -/
def Asc (l : List Str) : Prop := l.Pairwise fun a b => a.cps.toList < b.cps.toList
instance (l : List Str) : Decidable (Asc l) := by unfold Asc; infer_instance
theorem lt_irr (a : Str) : ¬ a.cps.toList < a.cps.toList := List.lt_irrefl _
theorem lt_tri {a b : Str} (h1 : ¬ a.cps.toList < b.cps.toList) (h2 : ¬ b.cps.toList < a.cps.toList) : a = b := toList_inj (List.le_antisymm (List.not_lt.mp h2) (List.not_lt.mp h1))
theorem rise_pw : ∀ (l : List Str), PyProof.Rows.sortedS l = true → l.Pairwise fun a b => ¬ b.cps.toList < a.cps.toList
  | [], _ => List.Pairwise.nil
  | x :: l, h => by
    have go : ∀ (l : List Str) (p : Str), PyProof.Rows.risingS p l = true → (p :: l).Pairwise fun a b => ¬ b.cps.toList < a.cps.toList := by
      intro l
      induction l with
      | nil => intro p _; exact List.pairwise_singleton _ _
      | cons y l ih =>
        intro p h
        rw [PyProof.Rows.risingS, Bool.and_eq_true, Bool.not_eq_true', PyProof.Rows.ltCps_eq, decide_eq_false_iff_not] at h
        have hp := ih y h.2
        refine List.pairwise_cons.mpr ⟨fun z hz => ?_, hp⟩
        rcases List.mem_cons.mp hz with e | e
        · rw [e]; exact h.1
        · have hyz := (List.pairwise_cons.mp hp).1 z e
          exact fun q => h.1 (List.lt_of_le_of_lt (List.not_lt.mp hyz) q)
    exact go l x h
theorem asc_of {ys : List Str} (so : PyProof.Rows.sortedS ys = true) (nd : ys.Nodup) : Asc ys := by
  have h := rise_pw ys so
  unfold Asc
  refine List.Pairwise.imp₂ (R := fun a b => ¬ b.cps.toList < a.cps.toList) (S := fun a b => a ≠ b) (fun a b h1 h2 => ?_) h nd
  rcases Classical.em (a.cps.toList < b.cps.toList) with c | c
  · exact c
  · exact absurd (lt_tri c h1) h2
theorem asc_nodup {l : List Str} (h : Asc l) : l.Nodup := List.Pairwise.imp (fun {a b} q e => by rw [e] at q; exact lt_irr _ q) h
theorem asc_same : ∀ {xs ys : List Str}, Asc xs → Asc ys → (∀ z, z ∈ xs ↔ z ∈ ys) → xs = ys
  | [], [], _, _, _ => rfl
  | [], y :: ys, _, _, m => absurd ((m y).mpr List.mem_cons_self) (by simp)
  | x :: xs, [], _, _, m => absurd ((m x).mp List.mem_cons_self) (by simp)
  | x :: xs, y :: ys, hx, hy, m => by
    obtain ⟨x1, x2⟩ := List.pairwise_cons.mp hx
    obtain ⟨y1, y2⟩ := List.pairwise_cons.mp hy
    have e : x = y := by
      rcases List.mem_cons.mp ((m x).mp List.mem_cons_self) with e | e
      · exact e
      · rcases List.mem_cons.mp ((m y).mpr List.mem_cons_self) with e2 | e2
        · exact e2.symm
        · exact absurd (List.lt_trans (x1 y e2) (y1 x e)) (lt_irr _)
    subst e
    rw [asc_same x2 y2 fun z => ?_]
    constructor
    · intro h
      rcases List.mem_cons.mp ((m z).mp (List.mem_cons_of_mem _ h)) with e | e
      · exact absurd (x1 z h) (by rw [e]; exact lt_irr _)
      · exact e
    · intro h
      rcases List.mem_cons.mp ((m z).mpr (List.mem_cons_of_mem _ h)) with e | e
      · exact absurd (y1 z h) (by rw [e]; exact lt_irr _)
      · exact e
end HR
set_option maxRecDepth 100000
set_option maxHeartbeats 4000000
/-! a set whose elements are found by any kind of key that stands on the heap -/
namespace SetH
open PySem PySem.Spec PyProof.Rows L2
variable {P : Program} {w : World} {κ : Type} [DecidableEq κ]
/-- what of a kind is asked for sets -/
structure SK (knd : HeapKind P w κ) : Prop where
  noClass : ∀ {A : Around} {E : Value → Shared → Prop} {s : Shared} {k : κ} {b : Addr} {Q : Bool → Shared → Prop}, knd.is s.heap k b → Q false s → wpAny (model P w) A (ofAClassStatement 8 (.ref b)) Q E s
  valued : ∀ {A : Around} {E : Value → Shared → Prop} {s : Shared} {k : κ} {b : Addr} {Q : Bool → Shared → Prop}, knd.is s.heap k b → (∀ v, Q v s) → wpAny (model P w) A (hashByValue 8 (.ref b)) Q E s
  apart : ∀ {h h' : Heap} {k : κ} {a b : Addr} {o : Obj} {es : Array (Int × Value)} {ep : Nat} {t : SetTable}, knd.is h k b → h.get? a = some o → o.data = .set es ep t → Heap.SameBut a h h' → knd.is h' k b
  keep : ∀ {h h' : Heap} {k : κ} {b : Addr}, knd.is h k b → (∀ o, h.get? b = some o → h'.get? b = some o) → knd.is h' k b
  lies : ∀ {h : Heap} {k : κ} {b : Addr}, knd.is h k b → b < h.objs.size
section
variable {knd : HeapKind P w κ} {A : Around} {E : Value → Shared → Prop} {s : Shared}
/-- while a search goes on among such keys nothing is shown -/
theorem unseen (S : SK knd) {k : κ} {b : Addr} {Q : Bool → Shared → Prop} (hk : knd.is s.heap k b) {ys : List Value} (hy : ∀ y ∈ ys, ∃ k' c, y = Value.ref c ∧ knd.is s.heap k' c) (h : Q false s) :
    wpAny (model P w) A (searchCouldBeSeen (.ref b) ys) Q E s := by
  unfold searchCouldBeSeen
  refine wpAny_bind (wpAny_forIn_list _ (fun todo r s1 => r.1 = none ∧ s1 = s ∧ ∀ y ∈ todo, ∃ k' c, y = Value.ref c ∧ knd.is s.heap k' c) _ ?_ ?_ _ _ ⟨rfl, rfl, hy⟩)
  · rintro v todo ⟨r1, r2⟩ s1 ⟨e1, e2, all⟩
    dsimp only at e1
    subst e1 e2
    obtain ⟨k', c, rfl, hc⟩ := all v List.mem_cons_self
    have more : ∀ y ∈ todo, ∃ k' c, y = Value.ref c ∧ knd.is s1.heap k' c := fun y hm => all y (List.mem_cons_of_mem _ hm)
    dsimp only
    by_cases hv : (b == c || (carriedByValue (.ref b) && carriedByValue (.ref c))) = true
    · exact wp_if_pos hv (wpAny_pure ⟨rfl, rfl, more⟩)
    · refine wp_if_neg hv (wpAny_bind (knd.quiet hk ?_))
      simp only [Bool.not_true, Bool.false_eq_true, if_false]
      refine wpAny_bind (knd.quiet hc ?_)
      simp only [Bool.not_true, Bool.false_eq_true, if_false]
      refine wpAny_bind (S.noClass hk ?_)
      simp only [Bool.false_eq_true, if_false]
      refine wpAny_bind (S.noClass hc ?_)
      simp only [Bool.false_eq_true, if_false]
      exact wpAny_pure ⟨rfl, rfl, more⟩
  · rintro ⟨r1, r2⟩ s1 ⟨e1, e2, _⟩
    dsimp only at e1
    subst e1 e2
    exact wpAny_pure h
/-- the rows of the table, in the order in which they lie -/
def row (knd : HeapKind P w κ) (p : Addr × κ) : Int × Value := (knd.hash p.2, .ref p.1)
structure Held (knd : HeapKind P w κ) (h : Heap) (a : Addr) (L : List (Addr × κ)) (es : Array (Int × Value)) (ep : Nat) (t : SetTable) : Prop where
  at_ : ∃ o, h.get? a = some o ∧ o.ExactSet ∧ o.data = .set es ep t
  rows : es.toList = L.map (row knd)
  tab : TabOk t (L.map fun p => knd.hash p.2)
  nd : (L.map Prod.snd).Nodup
  own : ∀ p ∈ L, knd.is h p.2 p.1
  led : w.params.followText "set-order" = true ∨ t.led = true
  wide : L.length * 5 < t.mask * 3
  few : L.length < 64
variable {a : Addr} {L : List (Addr × κ)} {es : Array (Int × Value)} {ep : Nat} {t : SetTable}
theorem rows_size (hr : es.toList = L.map (row knd)) : es.size = L.length := by
  rw [← Array.length_toList, hr, List.length_map]
theorem rows_at (hr : es.toList = L.map (row knd)) {i : Nat} {p : Addr × κ} (h : L[i]? = some p) : es[i]? = some (knd.hash p.2, .ref p.1) := by
  rw [← Array.getElem?_toList, hr, List.getElem?_map, h]
  rfl
theorem Held.tsize {h : Heap} (R : Held knd h a L es ep t) : t.place.size = L.length := by
  have := R.tab.sz
  rwa [List.length_map] at this
theorem Held.fits {h : Heap} (R : Held knd h a L es ep t) : t.fits es.size = true := by
  have h1 := R.tsize
  have h2 := rows_size R.rows
  have h3 := R.wide
  unfold SetTable.fits SetTable.fill
  rw [R.tab.dm, Bool.and_eq_true, beq_iff_eq, decide_eq_true_eq]
  exact ⟨h1.trans h2.symm, by show t.place.size + 0 ≤ t.mask; omega⟩
/-- the c-th step of the way of hh -/
def stp (t : SetTable) (hh : Int) (c : Nat) : SetTable.Probe := nth t.mask (runAt t.mask (SetTable.bits hh % (t.mask + 1)) (SetTable.bits hh)) c
theorem stp_clear (t : SetTable) (hh : Int) (c : Nat) : (stp t hh c).dummy = none := by
  have all : ∀ (n : Nat) (p : SetTable.Probe), p.dummy = none → (nth t.mask p n).dummy = none := by
    intro n
    induction n with
    | zero => exact fun p h => h
    | succ n ih =>
      intro p h
      have h1 : (adv t.mask p).dummy = none := by unfold adv; split <;> exact h
      exact ih (adv t.mask p) h1
  exact all c _ rfl
theorem stp_on (t : SetTable) (hh : Int) (c q : Nat) : nth t.mask (stp t hh c) q = stp t hh (c + q) := (nth_add t.mask c _ q).symm
theorem even_no {m : Nat} {t : SetTable} (h : t.mask = m) (hm : MaskOk m) : ¬ t.gaveWay = true := by
  unfold SetTable.gaveWay
  rw [h, mask_odd hm]
  decide
/-- from any step of the way on, n steps ahead of the free slot -/
theorem seek (S : SK knd) (R : Held knd s.heap a L es ep t) {x : Addr} {k : κ} (hx : knd.is s.heap k x) (hu : knd.room A) {K : Nat} (hf : K < 10 * SetTable.turns t.mask) (hK : way t.mask (knd.hash k) K ∉ t.place.toList)
    (hb : ∀ c, c < K → way t.mask (knd.hash k) c ∈ t.place.toList) {Q : SetFound → Shared → Prop} (yes : k ∈ L.map Prod.snd → Q (.there none) s) (no : k ∉ L.map Prod.snd → Q (.free (way t.mask (knd.hash k) K) false) s) :
    ∀ (n fuel c : Nat) (st : Option SetTable.Probe), c + n = K → n < fuel → st.getD (t.probeStart (knd.hash k)) = stp t (knd.hash k) c →
      (∀ (i : Nat) p, L[i]? = some p → p.2 = k → ∃ c', c ≤ c' ∧ c' < K ∧ t.place.toList[i]? = some (way t.mask (knd.hash k) c')) →
      wpAny (model P w) A (setSearchFrom a (.ref x) (knd.hash k) true fuel st) Q E s := by
  intro n
  induction n using Nat.strongRecOn with
  | _ n ih =>
    intro fuel c st hc hfu hst ahead
    obtain ⟨fuel, rfl⟩ : ∃ f, fuel = f + 1 := ⟨fuel - 1, by omega⟩
    obtain ⟨o, ho, hex, hd⟩ := R.at_
    rw [setSearchFrom_succ]
    refine wpAny_bind (wpAny_setState_of ho hd R.fits ?_)
    dsimp only
    refine wp_if_neg (even_no rfl R.tab.mok) ?_
    try refine wpAny_bind (wpAny_pure ?_)
    have jw : ∀ q, (nth t.mask (stp t (knd.hash k) c) q).j = way t.mask (knd.hash k) (c + q) := fun q => congrArg SetTable.Probe.j (stp_on t _ c q)
    have hashed : ∀ (i : Nat) p, L[i]? = some p → (es[i]?.map Prod.fst).getD 0 = knd.hash p.2 := fun i p hp => by rw [rows_at R.rows hp]; rfl
    have out := go_spec t R.tab.ris R.tab.dm (fun i => (es[i]?.map (·.1)).getD 0) (knd.hash k) (10 * SetTable.turns t.mask) n (stp t (knd.hash k) c) (stp_clear t _ c) (by omega) (fun q hq => by rw [jw]; exact hb _ (by omega)) (by rw [jw, hc]; exact hK)
    rcases out with ⟨q, i, hq, hi, hh, first, hp⟩ | ⟨none_, hp⟩
    · have hp' : t.probe (fun i => (es[i]?.map (·.1)).getD 0) (knd.hash k) (st.getD (t.probeStart (knd.hash k))) = some (.candidate (way t.mask (knd.hash k) (c + q)) i (stp t (knd.hash k) (c + (q + 1)))) := by
        rw [hst, ← jw, ← stp_on]
        exact hp
      rw [hp']
      dsimp only
      rw [jw] at hi
      have hil : i < L.length := by
        have := (List.getElem?_eq_some_iff.mp hi).1
        rw [Array.length_toList, R.tsize] at this
        exact this
      obtain ⟨p, hpi⟩ : ∃ p, L[i]? = some p := ⟨L[i], List.getElem?_eq_getElem hil⟩
      have hpm := List.mem_of_getElem? hpi
      have hpk := R.own p hpm
      have go : wpAny (model P w) A (searchRest a (.ref x) (knd.hash k) true fuel es t (way t.mask (knd.hash k) (c + q)) i (stp t (knd.hash k) (c + (q + 1)))) Q E s := by
        unfold searchRest
        rw [rows_at R.rows hpi]
        dsimp only
        refine wpAny_bind (wpAny_holding (knd.eqBool hu hpk hx (wpAny_bind (wpAny_setState_of ho hd R.fits ?_))))
        dsimp only
        by_cases same : p.2 = k
        · exact wp_if_pos (by simp [same]) (wpAny_pure (yes (List.mem_map.mpr ⟨p, hpm, same⟩)))
        · refine wp_if_neg (by simp [same]) ?_
          try refine wpAny_bind (wpAny_pure ?_)
          rw [sameMem]
          dsimp only
          have live : t.slot (way t.mask (knd.hash k) (c + q)) = .live i := slot_live R.tab.ris hi
          simp only [if_true, live, rows_at R.rows hpi]
          refine wpAny_bind (wpAny_isSame_ref_self (wpAny_bind (wpAny_pure ?_)))
          simp only [if_true]
          refine wp_if_neg (by simp [same]) ?_
          refine ih (n - (q + 1)) (by omega) fuel (c + (q + 1)) _ (by omega) (by omega) rfl fun i0 p0 h0 k0 => ?_
          obtain ⟨c', l1, l2, l3⟩ := ahead i0 p0 h0 k0
          refine ⟨c', ?_, l2, l3⟩
          by_cases lt : c' < c + q
          · exact absurd ((hashed i0 p0 h0).trans (congrArg knd.hash k0)) (first (c' - c) i0 (by omega) (by rw [jw, show c + (c' - c) = c' by omega]; exact l3))
          · by_cases eq : c' = c + q
            · subst eq
              have l4 := slot_live R.tab.ris l3
              rw [live] at l4
              obtain rfl : i = i0 := by injection l4
              rw [hpi] at h0
              obtain rfl := Option.some.inj h0
              exact absurd k0 same
            · omega
      by_cases hl : t.led = true
      · refine wp_if_neg (by simp [hl]) ?_
        try refine wpAny_bind (wpAny_pure ?_)
        exact go
      · refine wp_if_pos (by simp [hl]) (wpAny_bind (unseen S hx (fun y hy => ?_) ?_))
        · obtain ⟨e, he, rfl⟩ := List.mem_map.mp hy
          have he2 : e ∈ es.toList := by
            have : e ∈ es ∧ e.1 = knd.hash k := by simpa using he
            simpa using this.1
          rw [R.rows] at he2
          obtain ⟨p2, hm2, rfl⟩ := List.mem_map.mp he2
          exact ⟨p2.2, p2.1, rfl, R.own p2 hm2⟩
        · refine wp_if_neg (by decide) ?_
          try refine wpAny_bind (wpAny_pure ?_)
          exact go
    · have hp' : t.probe (fun i => (es[i]?.map (·.1)).getD 0) (knd.hash k) (st.getD (t.probeStart (knd.hash k))) = some (.empty (way t.mask (knd.hash k) K) none) := by
        have e := jw n
        rw [hc] at e
        rw [hst, ← e]
        exact hp
      rw [hp']
      dsimp only
      refine wpAny_pure (no fun hm => ?_)
      obtain ⟨p0, hm0, k0⟩ := List.mem_map.mp hm
      obtain ⟨i0, h0⟩ := List.getElem?_of_mem hm0
      obtain ⟨c', l1, l2, l3⟩ := ahead i0 p0 h0 k0
      exact none_ (c' - c) i0 (by omega) (by rw [jw, show c + (c' - c) = c' by omega]; exact l3) ((hashed i0 p0 h0).trans (congrArg knd.hash k0))
/-- the search of an add -/
theorem sought (S : SK knd) (R : Held knd s.heap a L es ep t) {x : Addr} {k : κ} (hx : knd.is s.heap k x) (hu : knd.room A) {Q : SetFound → Shared → Prop} (yes : k ∈ L.map Prod.snd → Q (.there none) s)
    (no : ∀ K, k ∉ L.map Prod.snd → way t.mask (knd.hash k) K ∉ t.place.toList → (∀ c, c < K → way t.mask (knd.hash k) c ∈ t.place.toList) → Q (.free (way t.mask (knd.hash k) K) false) s) :
    wpAny (model P w) A (setSearch a (.ref x) (knd.hash k) true) Q E s := by
  have wd := R.wide
  obtain ⟨K, hf, hK, hb⟩ := R.tab.first (by rw [List.length_map]; omega) (knd.hash k)
  have turns : 10 * SetTable.turns t.mask ≤ 1420 := by
    unfold SetTable.turns
    rcases R.tab.mok with e | e | e <;> omega
  unfold setSearch
  refine seek S R hx hu hf hK hb yes (fun hn => no K hn hK hb) K 100000 0 none (Nat.zero_add K) (by omega) rfl fun i p hp hk => ?_
  have h1 : (L.map fun p => knd.hash p.2)[i]? = some (knd.hash k) := by rw [List.getElem?_map, hp, ← hk]; rfl
  have h2 : i < t.place.toList.length := by
    rw [Array.length_toList, R.tsize]
    exact (List.getElem?_eq_some_iff.mp hp).1
  obtain ⟨c, hc, e⟩ := R.tab.before hK h1 (List.getElem?_eq_getElem h2)
  exact ⟨c, Nat.zero_le _, hc, by rw [List.getElem?_eq_getElem h2, e]⟩
/-- the elements in a new order -/
theorem range_all {α : Type} : ∀ l : List α, (List.range l.length).filterMap (fun i => l[i]?) = l
  | [] => rfl
  | x :: l => by
    have e : (fun i => (x :: l)[i]?) 0 = some x := rfl
    rw [List.length_cons, List.range_succ_eq_map, List.filterMap_cons_some e, List.filterMap_map]
    exact congrArg (x :: ·) (range_all l)
theorem turned (hr : es.toList = L.map (row knd)) {order : Array Nat} (hp : order.toList.Perm (List.range L.length)) :
    ∃ Lm : List (Addr × κ), (order.filterMap (es[·]?)).toList = Lm.map (row knd) ∧ Lm.Perm L ∧ (Lm.map fun p => knd.hash p.2) = order.toList.map fun i => (es.map (·.1)).getD i 0 := by
  have low : ∀ i ∈ order.toList, i < L.length := fun i hi => List.mem_range.mp (hp.mem_iff.mp hi)
  have each : ∀ l : List Nat, (∀ i ∈ l, i < L.length) → l.filterMap (fun i => es[i]?) = (l.filterMap fun i => L[i]?).map (row knd) ∧ ((l.filterMap fun i => L[i]?).map fun p => knd.hash p.2) = l.map fun i => (es.map (·.1)).getD i 0 := by
    intro l
    induction l with
    | nil => exact fun _ => ⟨rfl, rfl⟩
    | cons i l ih =>
      intro hl
      have hi := hl i List.mem_cons_self
      obtain ⟨e1, e2⟩ := ih fun j hj => hl j (List.mem_cons_of_mem _ hj)
      have hL : L[i]? = some L[i] := List.getElem?_eq_getElem hi
      have hE := rows_at hr hL
      have hG : (es.map (·.1)).getD i 0 = knd.hash L[i].2 := by
        have h0 : (es.map (·.1))[i]? = some (knd.hash L[i].2) := by rw [Array.getElem?_map, hE]; rfl
        rw [Array.getD_eq_getD_getElem?, h0]
        rfl
      rw [List.filterMap_cons_some hE, List.filterMap_cons_some hL, List.map_cons, List.map_cons, List.map_cons, e1, e2, hG]
      exact ⟨rfl, rfl⟩
  obtain ⟨e1, e2⟩ := each order.toList low
  refine ⟨_, by rw [Array.toList_filterMap]; exact e1, ?_, e2⟩
  have h := hp.filterMap fun i => L[i]?
  rwa [range_all] at h
theorem fits_of {h : Heap} (hs : t.place.size = es.size) (dm : t.dummies = #[]) (hl : es.size ≤ t.mask) : t.fits es.size = true := by
  unfold SetTable.fits SetTable.fill
  rw [dm, Bool.and_eq_true, beq_iff_eq, decide_eq_true_eq]
  exact ⟨hs, by show t.place.size + 0 ≤ t.mask; omega⟩
/-- all laid anew in a larger table -/
theorem relay (S : SK knd) {o : Obj} (ho : s.heap.get? a = some o) (hex : o.ExactSet) (hd : o.data = .set es ep t) (hr : es.toList = L.map (row knd)) (hs : t.place.size = L.length) (dm : t.dummies = #[]) (hl : L.length ≤ t.mask) (nd : (L.map Prod.snd).Nodup)
    (own : ∀ p ∈ L, knd.is s.heap p.2 p.1) (ld : w.params.followText "set-order" = true ∨ t.led = true) (few : L.length < 64) {want M : Nat} (hw : SetTable.sizeAbove want - 1 = M) (hM : MaskOk M) (h128 : SetTable.sizeAbove want ≤ 128) (hn : L.length * 5 < M * 3)
    {Q : Unit → Shared → Prop} (hQ : ∀ h' L' es' ep' t', Heap.SameBut a s.heap h' → Held knd h' a L' es' ep' t' → L'.Perm L → Q () { s with heap := h' }) : wpAny (model P w) A (setRelay a want) Q E s := by
  have sz := rows_size hr
  obtain ⟨t', order, er, hp, T, tm, tl, tp, td⟩ := relaid_ok t (hs := es.map (·.1)) (wanted := want) hw hM (by rw [Array.size_map, sz]; omega)
  rw [Array.size_map, sz] at hp
  obtain ⟨Lm, r1, r2, r3⟩ := turned hr hp
  rw [← r3] at T
  have sz2 : (order.filterMap (es[·]?)).size = es.size := by rw [rows_size r1, r2.length_eq, sz]
  rw [setRelay_eq]
  refine wpAny_bind (wpAny_setState_of ho hd (fits_of (h := s.heap) (hs.trans sz.symm) dm (by omega)) ?_)
  dsimp only
  refine wp_if_neg (by rw [sizeLine_eq]; omega) ?_
  try refine wpAny_bind (wpAny_pure ?_)
  rw [er]
  dsimp only
  refine wpAny_bind (wp_if_neg (by rw [sz2]; simp) ?_)
  try refine wpAny_bind (wpAny_pure ?_)
  refine wpAny_pure ?_
  dsimp only
  refine wpAny_storeSet_of ho hd ?_ (by rw [sz2, sz, sizeLine_eq]; omega)
  have sb : Heap.SameBut a s.heap (s.heap.update a (Obj.putSet (order.filterMap (es[·]?)) t')) := Heap.SameBut.update ..
  exact hQ _ Lm _ (ep + 1) t' sb ⟨⟨_, store_at ho hd, ⟨hex.1, hex.2.1, hex.2.2⟩, rfl⟩, r1, T, (r2.map Prod.snd).nodup_iff.mpr nd, fun p hm => S.apart (own p (r2.mem_iff.mp hm)) ho hd sb, by rw [tl]; exact ld, by rw [r2.length_eq, tm]; exact hn, by rw [r2.length_eq]; exact few⟩ r2
/-- an element added -/
theorem added (S : SK knd) (R : Held knd s.heap a L es ep t) {x : Addr} {k : κ} (hx : knd.is s.heap k x) (hu : knd.room A) (few : L.length + 1 < 64) {Q : Bool → Shared → Prop}
    (hQ : ∀ b h' L' es' ep' t', Heap.SameBut a s.heap h' → Held knd h' a L' es' ep' t' → (k ∈ L.map Prod.snd → L' = L) → (k ∉ L.map Prod.snd → L'.Perm ((x, k) :: L)) → Q b { s with heap := h' }) :
    wpAny (model P w) A (setAddHashed a (.ref x) (knd.hash k)) Q E s := by
  obtain ⟨o, ho, hex, hd⟩ := R.at_
  have sz := rows_size R.rows
  have wd := R.wide
  unfold setAddHashed
  rw [show (100000 : Nat) = 99999 + 1 from rfl, setAddHashedIn_succ]
  refine wpAny_holding (wpAny_bind (wpAny_setState_of ho hd R.fits ?_))
  dsimp only
  refine wp_if_neg (by simp [byScan, Value.scannable]) ?_
  try refine wpAny_bind (wpAny_pure ?_)
  refine wpAny_bind (sought S R hx hu (fun hm => wpAny_pure (hQ false s.heap L es ep t (Heap.SameBut.refl a s.heap) R (fun _ => rfl) fun z => absurd hm z)) fun K hm hK hb => ?_)
  dsimp only
  refine wpAny_bind (wpAny_setState_of ho hd R.fits ?_)
  dsimp only
  obtain ⟨q1, q2, q3, q4, q5, _, _, _, q9⟩ := R.tab.put hK hb
  generalize hj : SetTable.below t.place (way t.mask (knd.hash k) K) = j at q1 q2 q3
  generalize hpt : t.put (way t.mask (knd.hash k) K) = pt at q1 q3 q4 q5 q9 ⊢
  obtain ⟨t0, j'⟩ := pt
  dsimp only at q1 q3 q4 q5 q9 ⊢
  subst q1
  suffices tail : ∀ t1 : SetTable, TabOk t1 ((L.map fun p => knd.hash p.2).take j' ++ knd.hash k :: (L.map fun p => knd.hash p.2).drop j') → t1.mask = t.mask → t1.led = t.led → t1.fill = (L.map fun p => knd.hash p.2).length + 1 → wpAny (model P w) A (do
      storeSet a (SetTable.insertAt es j' (knd.hash k, Value.ref x)) t1
      if (!false && t1.tooFull) = true then do
          setRelay a (SetTable.grown (es.size + 1))
          pure true
        else pure true) Q E s by
    have t9 := tail t0 q3 q4 q5 q9
    have t8 := tail { t0 with plain := false } ⟨q3.ris, q3.dm, q3.sz, q3.mok, q3.bd, q3.reach⟩ q4 q5 q9
    by_cases hp : t0.plain = true
    · refine wp_if_pos hp (wpAny_bind (S.valued hx fun v => ?_))
      cases v with
      | true => simpa using t9
      | false => simpa using t8
    · refine wp_if_neg hp ?_
      first
        | exact t9
        | simpa using t9
  intro t1 q3 q4 q5 q9
  have pm : (L.take j' ++ (x, k) :: L.drop j').Perm ((x, k) :: L) := put_perm L j' (x, k)
  have r1 : (SetTable.insertAt es j' (knd.hash k, Value.ref x)).toList = (L.take j' ++ (x, k) :: L.drop j').map (row knd) := by
    rw [SetTable.toList_insertAt, R.rows, List.map_append, List.map_cons, List.map_take, List.map_drop]
    rfl
  have hh : (L.take j' ++ (x, k) :: L.drop j').map (fun p => knd.hash p.2) = (L.map fun p => knd.hash p.2).take j' ++ knd.hash k :: (L.map fun p => knd.hash p.2).drop j' := by
    rw [List.map_append, List.map_cons, List.map_take, List.map_drop]
  rw [← hh] at q3
  generalize L.take j' ++ (x, k) :: L.drop j' = L1 at pm r1 q3
  have sz1 := rows_size r1
  have l1 : L1.length = L.length + 1 := pm.length_eq
  generalize SetTable.insertAt es j' (knd.hash k, Value.ref x) = es1 at r1 sz1 ⊢
  have nd1 : (L1.map Prod.snd).Nodup := (pm.map Prod.snd).nodup_iff.mpr (List.nodup_cons.mpr ⟨hm, R.nd⟩)
  have ts1 : t1.place.size = L1.length := by
    have := q3.sz
    rwa [List.length_map] at this
  refine wpAny_bind (wpAny_storeSet_of ho hd ?_ (by rw [sz1, l1, sizeLine_eq]; omega))
  have sb : Heap.SameBut a s.heap (s.heap.update a (Obj.putSet es1 t1)) := Heap.SameBut.update ..
  have ho1 := store_at (es' := es1) (t' := t1) ho hd
  generalize s.heap.update a (Obj.putSet es1 t1) = h1 at sb ho1 ⊢
  have own1 : ∀ p ∈ L1, knd.is h1 p.2 p.1 := fun p hp => by
    rcases List.mem_cons.mp (pm.mem_iff.mp hp) with rfl | hp
    · exact S.apart hx ho hd sb
    · exact S.apart (R.own p hp) ho hd sb
  have led1 : w.params.followText "set-order" = true ∨ t1.led = true := by rw [q5]; exact R.led
  have full : t1.tooFull = decide ((L.length + 1) * 5 ≥ t.mask * 3) := by
    unfold SetTable.tooFull
    rw [q9, q4, List.length_map]
  by_cases hf : t1.tooFull = true
  · rw [full, decide_eq_true_eq] at hf
    have which : (t.mask = 7 ∧ L.length = 4) ∨ (t.mask = 31 ∧ L.length = 18) := by
      rcases R.tab.mok with e | e | e <;> rw [e] at hf wd
      · exact .inl ⟨e, by omega⟩
      · exact .inr ⟨e, by omega⟩
      · omega
    have onto : ∀ M, SetTable.sizeAbove (SetTable.grown (L.length + 1)) - 1 = M → MaskOk M → SetTable.sizeAbove (SetTable.grown (L.length + 1)) ≤ 128 → (L.length + 1) * 5 < M * 3 →
        wpAny (model P w) A (setRelay a (SetTable.grown (L.length + 1))) (fun _ s1 => wpAny (model P w) A (pure true) Q E s1) E { s with heap := h1 } := fun M w1 w2 w3 w4 =>
      relay S (s := { s with heap := h1 }) ho1 ⟨hex.1, hex.2.1, hex.2.2⟩ rfl r1 ts1 q3.dm (by rw [l1, q4]; rcases which with ⟨e, e2⟩ | ⟨e, e2⟩ <;> omega) nd1 own1 led1 (by rw [l1]; exact few) w1 w2 w3 (by rw [l1]; exact w4)
        fun h2 Lm es2 ep2 t2 sb2 R2 pm2 => wpAny_pure (hQ true h2 Lm es2 ep2 t2 (sb.trans sb2) R2 (fun z => absurd z hm) fun _ => pm2.trans pm)
    have hf1 : (!false && t1.tooFull) = true := by rw [full, decide_eq_true hf]; rfl
    rw [sz]
    first
      | refine wp_if_pos hf1 (wpAny_bind ?_)
      | refine wpAny_bind (wp_if_pos hf1 ?_)
    rcases which with ⟨_, e2⟩ | ⟨_, e2⟩
    · exact onto 31 (by rw [e2, size_20]) (.inr (.inl rfl)) (by rw [e2, size_20]; decide) (by omega)
    · exact onto 127 (by rw [e2, size_76]) (.inr (.inr rfl)) (by rw [e2, size_76]; decide) (by omega)
  · have hf1 : ¬ (!false && t1.tooFull) = true := fun z => hf (by simpa using z)
    refine wp_if_neg hf1 (wpAny_pure (hQ true h1 L1 es1 (ep + 1) t1 sb ⟨⟨_, ho1, ⟨hex.1, hex.2.1, hex.2.2⟩, rfl⟩, r1, q3, nd1, own1, led1, ?_, by rw [l1]; exact few⟩ (fun z => absurd z hm) fun _ => pm))
    rw [full, decide_eq_true_eq] at hf
    rw [l1, q4]
    omega
theorem Held.move (S : SK knd) {h h' : Heap} (R : Held knd h a L es ep t) (k0 : ∀ o, h.get? a = some o → h'.get? a = some o) (k1 : ∀ p ∈ L, ∀ o, h.get? p.1 = some o → h'.get? p.1 = some o) : Held knd h' a L es ep t :=
  { R with at_ := let ⟨o, ho, r⟩ := R.at_; ⟨o, k0 o ho, r⟩, own := fun p hp => S.keep (R.own p hp) (k1 p hp) }
theorem Held.fresh {h : Heap} (ho : h.get? a = some (TSet.freshSet w)) : Held knd h a [] #[] 0 (.fresh 0 0 (!w.params.followText "set-order")) where
  at_ := ⟨_, ho, ⟨rfl, rfl, rfl⟩, rfl⟩
  rows := rfl
  tab := (setTR_fresh (P := P) (w := w) ho).tab
  nd := List.nodup_nil
  own := fun p hp => absurd hp List.not_mem_nil
  led := (setTR_fresh (P := P) (w := w) ho).led
  wide := by show 0 * 5 < 7 * 3; decide
  few := by show 0 < 64; decide
/-- what a set has taken from the first of the keys -/
structure Took (ks : List (Addr × κ)) (L : List (Addr × κ)) : Prop where
  from_ : ∀ p ∈ L, p ∈ ks
  got : ∀ q ∈ ks, q.2 ∈ L.map Prod.snd
  le : L.length ≤ ks.length
theorem Took.next {ks L L' : List (Addr × κ)} {q : Addr × κ} (T : Took ks L) (h1 : q.2 ∈ L.map Prod.snd → L' = L) (h2 : q.2 ∉ L.map Prod.snd → L'.Perm (q :: L)) : Took (ks ++ [q]) L' := by
  by_cases h : q.2 ∈ L.map Prod.snd
  · rw [h1 h]
    refine ⟨fun p hp => List.mem_append_left _ (T.from_ p hp), fun r hr => ?_, Nat.le_trans T.le (by simp)⟩
    rcases List.mem_append.mp hr with hr | hr
    · exact T.got r hr
    · rw [List.mem_singleton.mp hr]; exact h
  · have pm := h2 h
    refine ⟨fun p hp => ?_, fun r hr => ?_, by rw [pm.length_eq, List.length_cons, List.length_append]; exact Nat.succ_le_succ T.le⟩
    · rcases List.mem_cons.mp (pm.mem_iff.mp hp) with rfl | hp
      · exact List.mem_append_right _ (List.mem_singleton.mpr rfl)
      · exact List.mem_append_left _ (T.from_ p hp)
    · rw [(pm.map Prod.snd).mem_iff, List.map_cons]
      rcases List.mem_append.mp hr with hr | hr
      · exact List.mem_cons_of_mem _ (T.got r hr)
      · rw [List.mem_singleton.mp hr]; exact List.mem_cons_self
/-- set(a list) -/
theorem set_list (S : SK knd) {l : Addr} {items : Array Value} (ks : List (Addr × κ)) {Q : Value → Shared → Prop} (hh : A.handled = none) (hl : s.heap.IsList l items) (hi : items.toList = ks.map fun p => Value.ref p.1) (hk : ∀ p ∈ ks, knd.is s.heap p.2 p.1) (few : ks.length < 63)
    (hu : ∀ B : Around, B.units ≤ A.units + 3 → knd.room B)
    (k : ∀ (h' : Heap) (tk : Nat) L es ep t, Held knd h' s.heap.objs.size L es ep t → Took ks L → (∀ b o, s.heap.get? b = some o → h'.get? b = some o) → Q (.ref s.heap.objs.size) { s with heap := h', toks := tk }) :
    wpAny (model P w) A (call (.type "set") [.ref l]) Q E s := by
  have len : items.size = ks.length := by rw [← Array.length_toList, hi, List.length_map]
  have low : ∀ p ∈ ks, p.1 < s.heap.objs.size := fun p hp => S.lies (hk p hp)
  refine TSet.made_any hh hl (fun i h => (∃ L es ep t, Held knd h s.heap.objs.size L es ep t ∧ Took (ks.take i) L) ∧ ∀ p ∈ ks, ∀ o, s.heap.get? p.1 = some o → h.get? p.1 = some o) ?_ ?_ ?_ ?_
  · rintro i h h' ⟨⟨L, es, ep, t, R, T⟩, kp⟩ e
    refine ⟨⟨L, es, ep, t, R.move S (fun o => e _ o (Nat.ne_of_lt (Nat.lt_succ_self _))) (fun p hp o => e _ o ?_), T⟩, fun p hp o g => e _ o ?_ (kp p hp o g)⟩
    · exact Nat.ne_of_lt (Nat.lt_succ_of_lt (low p (List.mem_of_mem_take (T.from_ p hp))))
    · exact Nat.ne_of_lt (Nat.lt_succ_of_lt (low p hp))
  · exact fun h e kp => ⟨⟨[], _, _, _, Held.fresh e, fun _ h => absurd h List.not_mem_nil, fun _ h => absurd h List.not_mem_nil, Nat.le_refl _⟩, fun p _ o g => kp _ o g⟩
  · rintro B i v s1 E1 Q1 hB hv ⟨⟨L, es, ep, t, R, T⟩, kp⟩ q
    have hv2 : items.toList[i]? = some v := by rw [Array.getElem?_toList]; exact hv
    rw [hi, List.getElem?_map] at hv2
    obtain ⟨p, hp, rfl⟩ := Option.map_eq_some_iff.mp hv2
    have hpm := List.mem_of_getElem? hp
    have hx : knd.is s1.heap p.2 p.1 := S.keep (hk p hpm) (kp p hpm)
    have room := hu B hB
    have tk : ks.take (i + 1) = ks.take i ++ [p] := by rw [List.take_add_one, hp]; rfl
    unfold setAdd
    refine wpAny_holding (wpAny_bind (knd.pyHash room hx ?_))
    refine added (s := { s1 with toks := s1.toks + knd.draws p.2 }) S R hx room (by have := T.le; rw [List.length_take] at this; omega) fun b h' L' es' ep' t' sb R' n1 n2 => ?_
    refine q b h' (s1.toks + knd.draws p.2) (Nat.le_add_right _ _) sb ⟨⟨L', es', ep', t', R', by rw [tk]; exact T.next n1 n2⟩, fun r hr o g => ?_⟩
    have ne : r.1 ≠ s.heap.objs.size := Nat.ne_of_lt (low r hr)
    rw [sb.2 r.1 ne]
    exact kp r hr o g
  · rintro h' tk ⟨⟨L, es, ep, t, R, T⟩, _⟩ keep
    rw [len, List.take_length] at T
    exact k h' tk L es ep t R T keep
end
end SetH
set_option maxRecDepth 100000
set_option maxHeartbeats 4000000
/-! set(a tuple) -/
namespace SetH
open PySem PySem.Spec PyProof.Rows L2 TSet
section
variable {P : Program} {w : World} {A : Around} {E : Value → Shared → Prop} {s : Shared}
/-- set(a tuple), for any way of adding -/
theorem made_tup {l : Addr} {items : Array Value} {Q : Value → Shared → Prop} (hh : A.handled = none) (hl : s.heap.IsTuple l items) (T : Nat → Heap → Prop)
    (fr : ∀ i h h', T i h → (∀ b o, b ≠ s.heap.objs.size + 1 → h.get? b = some o → h'.get? b = some o) → T i h')
    (zero : ∀ h, h.get? s.heap.objs.size = some (freshSet w) → (∀ b o, s.heap.get? b = some o → h.get? b = some o) → T 0 h)
    (add : ∀ (B : Around) i v (s1 : Shared) (E : Value → Shared → Prop) (Q : Bool → Shared → Prop), B.units ≤ A.units + 3 → items[i]? = some v → T i s1.heap →
      (∀ b h' tk, s1.toks ≤ tk → Heap.SameBut s.heap.objs.size s1.heap h' → T (i + 1) h' → Q b { s1 with heap := h', toks := tk }) → wpAny (model P w) B (setAdd s.heap.objs.size v) Q E s1)
    (k : ∀ (h' : Heap) (tk : Nat), T items.size h' → (∀ b o, s.heap.get? b = some o → h'.get? b = some o) → Q (.ref s.heap.objs.size) { s with heap := h', toks := tk }) :
    wpAny (model P w) A (call (.type "set") [.ref l]) Q E s := by
  obtain ⟨_, _, hmro⟩ := PySem.F.called_set.mro
  have made_ := PySem.F.called_set.made
  have sub_ := PySem.F.called_set.sub
  refine wpAny_call (codeAny_of_tree ?_)
  show wpAny (model P w) _ (callAny (.type "set") _) _ _ _
  refine wpAny_pure ⟨Code.quiet_builtin _ (by decide +kernel), codeAny_builtin PySem.F.entry_type_call ?_⟩
  rw [Around.under_plain (weight_type_call_type "set" [.ref l] []) rfl]
  have notT := PySem.F.called_set.notType
  have canC := PySem.F.called_set.canCreate
  have typC := PySem.F.typeCall_set_1 (.ref l)
  repeat (any_goals (first | assumption | wp_step))
  let S := s.heap.objs.size
  let hp1 := s.heap.push (freshSet w)
  refine codeAny_mono (code_set_led1 (.ref l) (E := E) (Q₁ := fun obj s1 => obj = .ref S ∧ s1 = { s with heap := hp1 }) ⟨rfl, rfl⟩) fun r s1 hr => ?_
  rcases r with _ | e
  case error => exact hr
  cases e with
  | ret obj =>
    obtain ⟨rfl, rfl⟩ := hr
    have atS : hp1.get? S = some (freshSet w) := Heap.get?_push_size _ rfl
    have tyS : Shared.TypeIs { s with heap := hp1 } (.ref S) "set" := ⟨_, atS, rfl⟩
    have iLook := PySem.F.called_set.init.lookup
    have iBind := PySem.F.called_set.init.bind (.ref S)
    repeat (any_goals (first | assumption | wp_step))
    refine codeAny_mono (codeAny_call_builtin (R := wants (fun r s2 => r = .none ∧ ∃ h' tk, s2 = { s with heap := h', toks := tk } ∧ T items.size h' ∧ (∀ b o, s.heap.get? b = some o → h'.get? b = some o)) E)
      PySem.F.called_set.init.plain PySem.F.entry_set_init (check_set_init_1 tyS ?_)) fun r2 s2 hr2 => ?_
    · obtain ⟨ol, hol, cl, nl, dl⟩ := hl
      obtain ⟨ocl, odi, oda, osl⟩ := ol
      simp only at cl dl
      subst cl
      subst dl
      have ltl : l < S := Heap.lt_size hol
      have atl : hp1.get? l = some { cls := .type "tuple", dict := odi, data := .seq items nl, slots := osl } := Heap.get?_push_of_some _ hol
      have ls1 := PySem.F.sub_tuple_set
      have ls2 := PySem.F.sub_tuple_frozenset
      have nd1 : (Value.type "tuple" == Value.type "dict") = false := by decide
      have isl : hp1.IsTuple l items := ⟨_, atl, rfl, nl, rfl⟩
      have szI : hp1.objs.size = S + 1 := Heap.size_push ..
      unfold Builtin.«set.__init__» noKeywords Builtin.Frozenset.updateFrom
      generalize ePI : pyIter = PI
      wp_walk
      subst ePI
      refine wpAny_pyIter_tuple isl (wpAny_bind (wpAny_runValue ?_))
      have h3 : A.in1.in1.in1.handled = none := by simp [hh]
      have nI : l ≠ hp1.objs.size := by rw [szI]; exact Nat.ne_of_lt (Nat.lt_succ_of_lt ltl)
      have nS : S ∉ [hp1.objs.size, l] := by
        rw [szI]
        intro z
        rcases List.mem_cons.mp z with z | z
        · exact absurd z (Nat.ne_of_lt (Nat.lt_succ_self _))
        · exact absurd (List.mem_singleton.mp z) (Nat.ne_of_gt ltl)
      refine loop_any ((Walks.tuple h3 _ l nI items).toS) nS T (fun i h h' t e => fr i h h' t fun b o nb => e b o (by rw [szI]; simpa using nb)) (fun i v s1 E1 Q1 _ pv t q => add _ i v s1 E1 Q1 (Nat.le_refl _) pv t q)
        (items.size - 0) 0 _ (by omega) (Nat.zero_le _) ⟨⟨_, Heap.get?_push_size _ rfl, rfl, rfl⟩, isl.push _⟩ (zero _ (Heap.get?_push_of_some _ atS) fun b o e => Heap.get?_push_of_some _ (Heap.get?_push_of_some _ e)) ?_
      intro s' m t'
      obtain ⟨h', g', d', tk', os'⟩ := s'
      obtain rfl : g' = s.gens := m.gens
      obtain rfl : d' = s.drawn := m.drawn
      obtain rfl : os' = s.os := m.os
      show wpAny _ _ _ _ _ _
      refine wpAny_pure ?_
      show wpAny _ _ (ret Value.none) _ _ _
      refine wpAny_pure ⟨rfl, h', tk', rfl, t', fun b o e => ?_⟩
      have ltb : b < S := Heap.lt_size e
      refine m.heap b o (fun z => ?_) (Heap.get?_push_of_some _ (Heap.get?_push_of_some _ e))
      rcases List.mem_cons.mp z with z | z
      · exact absurd z (Nat.ne_of_lt ltb)
      · have z2 := List.mem_singleton.mp z
        rw [szI] at z2
        exact absurd z2 (Nat.ne_of_lt (Nat.lt_succ_of_lt ltb))
    · rcases r2 with _ | e2
      case error => exact hr2
      cases e2 with
      | ret r =>
        obtain ⟨rfl, h', tk, rfl, t', keep⟩ := hr2
        repeat (any_goals (first | assumption | wp_step))
        exact k _ _ t' keep
      | _ => exact hr2.elim
  | _ => exact hr.elim
end
variable {P : Program} {w : World} {κ : Type} [DecidableEq κ]
section
variable {knd : HeapKind P w κ} {A : Around} {E : Value → Shared → Prop} {s : Shared}
/-- set(a tuple) -/
theorem set_tup (S : SK knd) {l : Addr} {items : Array Value} (ks : List (Addr × κ)) {Q : Value → Shared → Prop} (hh : A.handled = none) (hl : s.heap.IsTuple l items) (hi : items.toList = ks.map fun p => Value.ref p.1) (hk : ∀ p ∈ ks, knd.is s.heap p.2 p.1) (few : ks.length < 63)
    (hu : ∀ B : Around, B.units ≤ A.units + 3 → knd.room B)
    (k : ∀ (h' : Heap) (tk : Nat) L es ep t, Held knd h' s.heap.objs.size L es ep t → Took ks L → (∀ b o, s.heap.get? b = some o → h'.get? b = some o) → Q (.ref s.heap.objs.size) { s with heap := h', toks := tk }) :
    wpAny (model P w) A (call (.type "set") [.ref l]) Q E s := by
  have len : items.size = ks.length := by rw [← Array.length_toList, hi, List.length_map]
  have low : ∀ p ∈ ks, p.1 < s.heap.objs.size := fun p hp => S.lies (hk p hp)
  refine made_tup hh hl (fun i h => (∃ L es ep t, Held knd h s.heap.objs.size L es ep t ∧ Took (ks.take i) L) ∧ ∀ p ∈ ks, ∀ o, s.heap.get? p.1 = some o → h.get? p.1 = some o) ?_ ?_ ?_ ?_
  · rintro i h h' ⟨⟨L, es, ep, t, R, T⟩, kp⟩ e
    refine ⟨⟨L, es, ep, t, R.move S (fun o => e _ o (Nat.ne_of_lt (Nat.lt_succ_self _))) (fun p hp o => e _ o ?_), T⟩, fun p hp o g => e _ o ?_ (kp p hp o g)⟩
    · exact Nat.ne_of_lt (Nat.lt_succ_of_lt (low p (List.mem_of_mem_take (T.from_ p hp))))
    · exact Nat.ne_of_lt (Nat.lt_succ_of_lt (low p hp))
  · exact fun h e kp => ⟨⟨[], _, _, _, Held.fresh e, fun _ h => absurd h List.not_mem_nil, fun _ h => absurd h List.not_mem_nil, Nat.le_refl _⟩, fun p _ o g => kp _ o g⟩
  · rintro B i v s1 E1 Q1 hB hv ⟨⟨L, es, ep, t, R, T⟩, kp⟩ q
    have hv2 : items.toList[i]? = some v := by rw [Array.getElem?_toList]; exact hv
    rw [hi, List.getElem?_map] at hv2
    obtain ⟨p, hp, rfl⟩ := Option.map_eq_some_iff.mp hv2
    have hpm := List.mem_of_getElem? hp
    have hx : knd.is s1.heap p.2 p.1 := S.keep (hk p hpm) (kp p hpm)
    have room := hu B hB
    have tk : ks.take (i + 1) = ks.take i ++ [p] := by rw [List.take_add_one, hp]; rfl
    unfold setAdd
    refine wpAny_holding (wpAny_bind (knd.pyHash room hx ?_))
    refine added (s := { s1 with toks := s1.toks + knd.draws p.2 }) S R hx room (by have := T.le; rw [List.length_take] at this; omega) fun b h' L' es' ep' t' sb R' n1 n2 => ?_
    refine q b h' (s1.toks + knd.draws p.2) (Nat.le_add_right _ _) sb ⟨⟨L', es', ep', t', R', by rw [tk]; exact T.next n1 n2⟩, fun r hr o g => ?_⟩
    have ne : r.1 ≠ s.heap.objs.size := Nat.ne_of_lt (low r hr)
    rw [sb.2 r.1 ne]
    exact kp r hr o g
  · rintro h' tk ⟨⟨L, es, ep, t, R, T⟩, _⟩ keep
    rw [len, List.take_length] at T
    exact k h' tk L es ep t R T keep
end
end SetH
set_option maxRecDepth 100000
set_option maxHeartbeats 4000000
/-! sorted of a list of data: texts, literals, clauses .. -/
namespace SD
open PySem PySem.Spec PyProof.Rows L2
theorem vals_each : ∀ {bs : List (V × PyData)} {us : List Value}, Vals (bs.map Prod.fst) us → PySem.W.EachIs (fun u b => RelV b.1 u) us bs
  | [], _, r => by
    cases r
    exact .nil
  | b :: bs, _, r => by
    cases r with
    | cons r1 r2 => exact .cons r1 (vals_each r2)
theorem each_vals : ∀ {us : List Value} {bs : List (V × PyData)}, PySem.W.EachIs (fun u b => RelV b.1 u) us bs → Vals (bs.map Prod.fst) us
  | _, _, .nil => .nil
  | _, _, .cons r1 r2 => .cons r1 (each_vals r2)
/-- what the list reads as, sorted -/
def sortedD (bs : List (V × PyData)) : List (V × PyData) := bs.mergeSort (PySem.W.dataLe false Prod.snd)
theorem sorted_perm (bs : List (V × PyData)) : (sortedD bs).Perm bs := List.mergeSort_perm _ _
/-- sorted(xs), xs a list of alike data -/
def rSortedD (K : PySem.W.Frag) : List V → Hp → VK → Prop := fun vs H Q => ∃ (a : Addr) (bs : List (V × PyData)), vs = [.ref a] ∧ SqL K H a (bs.map Prod.fst) ∧ (∀ b ∈ bs, Dp K H b.1 b.2 ∧ b.2.depth ≤ 60) ∧ PySem.W.AllAlike (bs.map Prod.snd) ∧ PySem.W.Sortable (bs.map Prod.snd) ∧
  ∀ p, H p = none → Q (.ref p) (upd H p (.lst ((sortedD bs).map Prod.fst)))
section
variable {X : Cx}
theorem each_reads {pins : List (Addr × Obj)} {σ : L2.St} {H : Hp} {s : Shared} (I : Inv X pins σ H s) : ∀ {us : List Value} {bs : List (V × PyData)}, PySem.W.EachIs (fun u b => RelV b.1 u) us bs → (∀ b ∈ bs, Dp X.K H b.1 b.2) → PySem.W.EachIs (fun u b => ∃ as, Reads s.heap u b.2 as) us bs
  | _, _, .nil, _ => .nil
  | _, b :: bs, .cons r1 r2, h => .cons (Dp.reads I b.2 b.1 _ (h b List.mem_cons_self) r1) (each_reads I r2 fun c hc => h c (List.mem_cons_of_mem _ hc))
theorem cr_sortedD (hu : X.A.units + 64 < cLine) : CallR X (.builtin "sorted") (rSortedD X.K) := by
  intro pins s σ H vs us Q I r h
  obtain ⟨a, bs, rfl, hs, hd, hal, hk, q⟩ := h
  obtain ⟨its, rv, hl, hz⟩ := I.list hs
  obtain ⟨u, rfl, ru⟩ := vals1 r
  obtain rfl : u = Value.ref a := ru
  have hlen : bs.length ≤ sizeLine := by rw [List.length_map] at hz; exact hz
  refine PySem.W.sorted_data (R := fun u b => RelV b.1 u) (enc := fun b : V × PyData => b.2) (bs := bs) hl.isList (vals_each rv) (each_reads I (vals_each rv) fun b hb => (hd b hb).1) hal hk hlen (fun b hb => by have := (hd b hb).2; omega) fun out ho he => ?_
  obtain ⟨c, hc⟩ := sortedAll_at s.heap its out.toArray
  have fr : H (s.heap.objs.size + 1) = none := I.hok.fresh (Nat.le_succ _)
  refine ⟨.ref (s.heap.objs.size + 1), upd H (s.heap.objs.size + 1) (.lst ((sortedD bs).map Prod.fst)), I.laid (t' := s.toks) (fun _ _ => sortedAll_old) (Nat.le_succ _) ⟨?_, out, c, each_vals he, hc⟩, rfl, q _ fr⟩
  rw [List.length_map, (sorted_perm bs).length_eq]
  exact hlen
end
end SD
set_option maxRecDepth 100000
set_option maxHeartbeats 4000000
/-! sets of tuples of texts and ints, and sorted of them -/
namespace SetM
open PySem PySem.Spec PyProof.Rows L2 SetH
section
variable {P : Program} {w : World} {A : Around} {E : Value → Shared → Prop} {s : Shared}
theorem noClass_key {k : L2.Key} {v : Value} (h : keyIs k v = true) (n : Nat) : ofAClassStatement n v = pure false := by
  rcases keyIs_shape h with ⟨i, t, rfl, rfl⟩ | ⟨x, t, rfl, rfl⟩ <;> cases n <;> rfl
theorem valued_key {k : L2.Key} {v : Value} (h : keyIs k v = true) (n : Nat) : ∃ b, hashByValue n v = pure b := by
  rcases keyIs_shape h with ⟨i, t, rfl, rfl⟩ | ⟨x, t, rfl, rfl⟩ <;> cases n <;> exact ⟨_, rfl⟩
theorem items_key {k : List L2.Key} {vs : List Value} (h : ItemsAre (mixKind P w) k vs) : ∀ v ∈ vs, ∃ q, keyIs q v = true := by
  induction h with
  | nil => exact fun v hv => absurd hv List.not_mem_nil
  | cons h1 _ ih =>
    intro v hv
    rcases List.mem_cons.mp hv with rfl | hv
    · exact ⟨_, h1⟩
    · exact ih v hv
theorem kinds : SK (tupleKind (mixKind P w)) where
  noClass := by
    intro A E s k b Q hk h
    have ty := IsTupleKey.typeIs hk
    obtain ⟨o, items, n, ho, _, hd, hi⟩ := hk
    unfold ofAClassStatement
    refine wpAny_bind (wpAny_typeOf ty ?_)
    dsimp only
    simp only [show (("tuple" : String) == "tuple") = true by decide, if_true, Bool.not_true, Bool.false_eq_true, if_false]
    try refine wpAny_bind (wpAny_pure ?_)
    try simp only [Bool.not_true, Bool.false_eq_true, if_false]
    refine wpAny_bind (wpAny_seqItems ho hd ?_)
    dsimp only
    rw [← Array.forIn_toList]
    refine wpAny_bind (wpAny_forIn_list _ (fun todo r s1 => r.1 = none ∧ s1 = s ∧ ∀ v ∈ todo, ∃ q, keyIs q v = true) _ ?_ ?_ _ _ ⟨rfl, rfl, items_key hi⟩)
    · rintro v todo ⟨r1, r2⟩ s1 ⟨e1, e2, all⟩
      dsimp only at e1
      subst e1 e2
      obtain ⟨q, hq⟩ := all v List.mem_cons_self
      rw [noClass_key hq]
      refine wpAny_bind (wpAny_pure ?_)
      simp only [Bool.false_eq_true, if_false]
      exact wpAny_pure ⟨rfl, rfl, fun u hu => all u (List.mem_cons_of_mem _ hu)⟩
    · rintro ⟨r1, r2⟩ s1 ⟨e1, e2, _⟩
      dsimp only at e1
      subst e1 e2
      exact wpAny_pure h
  valued := by
    intro A E s k b Q hk h
    have ty := IsTupleKey.typeIs hk
    obtain ⟨o, items, n, ho, _, hd, hi⟩ := hk
    unfold hashByValue
    refine wpAny_bind (wpAny_specialOf ty F.slot_tuple_hash.lookup ?_)
    refine wpAny_bind (wpAny_seqItems ho hd ?_)
    dsimp only
    rw [← Array.forIn_toList]
    refine wpAny_bind (wpAny_forIn_list _ (fun todo r s1 => r.1 = none ∧ s1 = s ∧ ∀ v ∈ todo, ∃ q, keyIs q v = true) _ ?_ ?_ _ _ ⟨rfl, rfl, items_key hi⟩)
    · rintro v todo ⟨r1, r2⟩ s1 ⟨e1, e2, all⟩
      dsimp only at e1
      subst e1 e2
      obtain ⟨q, hq⟩ := all v List.mem_cons_self
      obtain ⟨c, hc⟩ := valued_key hq 7
      rw [hc]
      refine wpAny_bind (wpAny_pure ?_)
      cases c with
      | true =>
        simp only [Bool.not_true, Bool.false_eq_true, if_false]
        exact wpAny_pure ⟨rfl, rfl, fun u hu => all u (List.mem_cons_of_mem _ hu)⟩
      | false =>
        simp only [Bool.not_false, if_true]
        exact wpAny_pure (wpAny_pure (h _))
    · rintro ⟨r1, r2⟩ s1 ⟨e1, e2, _⟩
      dsimp only at e1
      subst e1 e2
      exact wpAny_pure (h _)
  apart := by
    rintro h h' k a b o es ep t ⟨o', items, n, ho', hc, hd', hi⟩ ho hd sb
    have ne : b ≠ a := fun z => by
      rw [z, ho] at ho'
      obtain rfl := Option.some.inj ho'
      rw [hd] at hd'
      cases hd'
    exact ⟨o', items, n, (sb.2 b ne).trans ho', hc, hd', hi⟩
  keep := fun ⟨o, items, n, ho, r⟩ kp => ⟨o, items, n, kp o ho, r⟩
  lies := fun ⟨o, items, n, ho, r⟩ => Heap.lt_size ho
end
section
variable {P : Program} {w : World} {A : Around} {E : Value → Shared → Prop} {s : Shared}
theorem each_perm {α β : Type} {R : α → β → Prop} {vs out : List α} (pm : out.Perm vs) : ∀ {bs : List β}, PySem.W.EachIs R vs bs → ∃ bs', bs'.Perm bs ∧ PySem.W.EachIs R out bs' := by
  induction pm with
  | nil => intro bs h; cases h; exact ⟨[], .nil, .nil⟩
  | cons x _ ih =>
    intro bs h
    cases h with
    | cons h1 h2 =>
      obtain ⟨bs', p, e⟩ := ih h2
      exact ⟨_ :: bs', p.cons _, .cons h1 e⟩
  | swap x y l =>
    intro bs h
    cases h with
    | cons h1 h2 =>
      cases h2 with
      | cons h2 h3 => exact ⟨_, List.Perm.swap _ _ _, .cons h2 (.cons h1 h3)⟩
  | trans _ _ ih1 ih2 =>
    intro bs h
    obtain ⟨b1, p1, e1⟩ := ih2 h
    obtain ⟨b2, p2, e2⟩ := ih1 e1
    exact ⟨b2, p2.trans p1, e2⟩
theorem alike_perm {β : Type} {enc : β → PyData} {bs bs' : List β} (pm : bs'.Perm bs) (h : PySem.W.AllAlike (bs.map enc)) : PySem.W.AllAlike (bs'.map enc) := fun d hd e he => h d ((pm.map enc).mem_iff.mp hd) e ((pm.map enc).mem_iff.mp he)
theorem sortable_perm {β : Type} {enc : β → PyData} {bs bs' : List β} (pm : bs'.Perm bs) (h : PySem.W.Sortable (bs.map enc)) : PySem.W.Sortable (bs'.map enc) := h.imp (fun h d hd => h d ((pm.map enc).mem_iff.mp hd)) (fun h d hd => h d ((pm.map enc).mem_iff.mp hd))
/-- sorted(a set), the elements read as data -/
theorem sorted_set {β : Type} {R : Value → β → Prop} {enc : β → PyData} {a : Addr} {o : Obj} {es : Array (Int × Value)} {ep : Nat} {t : SetTable} (ho : s.heap.get? a = some o) (hc : o.ExactSet) (hd : o.data = .set es ep t) (hf : t.fits es.size = true) (few : es.size < 64) (ris : Ris t.place.toList)
    (led : w.params.followText "set-order" = true ∨ t.led = true) (hh : A.handled = none) {bs0 : List β} (e0 : PySem.W.EachIs R (es.toList.map (·.2)) bs0) (rd : ∀ v b, b ∈ bs0 → R v b → ∃ as, Reads s.heap v (enc b) as) (hal : PySem.W.AllAlike (bs0.map enc)) (hk : PySem.W.Sortable (bs0.map enc))
    (hu : ∀ b, b ∈ bs0 → A.units + 4 + (enc b).depth < cLine) {Q : Value → Shared → Prop}
    (k : ∀ s' p (out : Array Value) (c : Nat) (bs : List β), (∀ b o, s.heap.get? b = some o → s'.heap.get? b = some o) → s'.gens = s.gens → s'.os = s.os → s.heap.objs.size ≤ p → s'.heap.get? p = some (seqObj "list" out c) → bs.Perm bs0 → PySem.W.EachIs R out.toList (bs.mergeSort (PySem.W.dataLe false enc)) → Q (.ref p) s') :
    wpAny (model P w) A (call (.builtin "sorted") [.ref a]) Q E s := by
  have sc : es.size < scanBound := by unfold scanBound; omega
  refine Calls.call_function_entry kind_sorted plain_sorted entry_sorted (args_sorted1 _) ?_
  unfold Builtin.«sorted»
  refine wpAny_bind (m := checkCount "sorted" 1 1 _) (wpAny_pure (wpAny_bind ?_))
  refine collect_set (A := A.in1) hh ⟨o, ho, hc.1, hd⟩ hf sc ris led fun s1 vs k1 z1 g1 o1 pm => ?_
  obtain ⟨bs, pb, eb⟩ := each_perm pm e0
  have lv : vs.length = es.size := by rw [pm.length_eq, List.length_map, Array.length_toList]
  refine wpAny_bind (wpAny_newList ?_ (by rw [lv, sizeLine_eq]; omega))
  have oL : (s1.heap.push (seqObj "list" vs.toArray 0)).get? s1.heap.objs.size = some (seqObj "list" vs.toArray 0) := Heap.get?_push_size _ rfl
  have old : ∀ b o, s1.heap.get? b = some o → (PySem.W.sortingHeap (s1.heap.push (seqObj "list" vs.toArray 0)) s1.heap.objs.size vs).get? b = some o := fun b o e => PySem.W.sortingHeap_old (Nat.ne_of_lt (Heap.lt_size e)) (Heap.get?_push_of_some _ e)
  have er : PySem.W.EachIs (fun v b => ∃ as, Reads (PySem.W.sortingHeap (s1.heap.push (seqObj "list" vs.toArray 0)) s1.heap.objs.size vs) v (enc b) as) vs bs := by
    exact (PySem.W.each_mem eb).mono fun v b ⟨h, hb⟩ => by
      obtain ⟨as, r⟩ := rd v b (pb.mem_iff.mp hb) h
      exact ⟨as, PyProof.Rows.Reads.keeps (fun b o e => old b o (k1 b o e)) r⟩
  have hal' := alike_perm pb hal
  have hk' := sortable_perm pb hk
  refine wpAny_bind (wpAny_holding (wpAny_call_entry slot_list_sort ⟨_, oL, rfl⟩ entry_list_sort
    (PySem.W.list_sort_vals (κ := PySem.W.dataKind (PySem.W.sortingHeap (s1.heap.push (seqObj "list" vs.toArray 0)) s1.heap.objs.size vs) (bs.map enc)) oL
      (PySem.W.SortsAt.data (PySem.W.each_map (R := fun v d => ∃ as, Reads (PySem.W.sortingHeap (s1.heap.push (seqObj "list" vs.toArray 0)) s1.heap.objs.size vs) v d as) enc er) hal' hk' fun d hd => ?_) (by rw [lv, sizeLine_eq]; omega) ⟨.none, rfl, ?_⟩) (args_list_sort _)))
  · obtain ⟨b, hb, rfl⟩ := List.mem_map.mp hd
    have := hu b (pb.mem_iff.mp hb)
    show A.units + 1 + 1 + _ < _
    omega
  · obtain ⟨c, hc'⟩ := sortedHeap_at (vs := vs) (out := (PySem.W.sortVals (PySem.W.dataKind (PySem.W.sortingHeap (s1.heap.push (seqObj "list" vs.toArray 0)) s1.heap.objs.size vs) (bs.map enc)) false vs vs).toArray) oL
    refine wpAny_pure ⟨_, rfl, k _ s1.heap.objs.size _ c bs (fun b u e => ?_) g1 o1 z1 hc' pb (by simpa using PySem.W.sortVals_data false eb er hal')⟩
    have q := k1 b u e
    have lt := Heap.lt_size q
    refine (sortedHeap_old (Nat.ne_of_lt lt) (by rw [size_push']; exact Nat.lt_succ_of_lt lt)).trans ?_
    exact Heap.get?_push_of_some _ q
end
/-! ### as calls -/
def kD : L2.Key → PyData
  | .inl i => .int i
  | .inr x => .str x
def enK (k : List L2.Key) : PyData := .tuple (k.map kD)
def enP (p : Addr × List L2.Key) : V × PyData := (.ref p.1, enK p.2)
abbrev MK (P : Program) (w : World) : HeapKind P w (List L2.Key) := tupleKind (mixKind P w)
/-- at a a set of the tuples L -/
def SetMO (P : Program) (w : World) (a : Addr) (L : List (Addr × List L2.Key)) : HO := .ext fun h => ∃ es ep t, (∃ o, h.get? a = some o ∧ o.ExactSet ∧ o.data = .set es ep t) ∧ es.toList = L.map (row (MK P w)) ∧ Ris t.place.toList ∧ t.fits es.size = true ∧ (w.params.followText "set-order" = true ∨ t.led = true) ∧ L.length < 64
theorem setMO_new {P : Program} {w : World} {H : Hp} {h : Heap} {a : Addr} {L : List (Addr × List L2.Key)} {es : Array (Int × Value)} {ep : Nat} {t : SetTable} (R : Held (MK P w) h a L es ep t) : ObjOk P w H h a (SetMO P w a L) := by
  have fits := R.fits
  obtain ⟨⟨o, ho, hex, hd⟩, rows, tab, nd, own, led, wide, few⟩ := R
  exact ⟨⟨es, ep, t, ⟨o, ho, hex, hd⟩, rows, tab.ris, fits, led, few⟩, ⟨o, ho⟩, fun h1 h2 ⟨es2, ep2, t2, ⟨o2, ho2, r⟩, r2⟩ keep => ⟨es2, ep2, t2, ⟨o2, keep _ ho2, r⟩, r2⟩⟩
section
variable {X : Cx}
theorem key_vals {P : Program} {w : World} : ∀ {k : List L2.Key} {us : List Value}, Vals (k.map kV) us → ItemsAre (mixKind P w) k us
  | [], _, .nil => .nil
  | _ :: _, _, .cons h r => .cons (HR.key_rel h) (key_vals r)
theorem tup_key {pins : List (Addr × Obj)} {σ : L2.St} {H : Hp} {s : Shared} (I : Inv X pins σ H s) {b : Addr} {k : List L2.Key} (h : SqT X.K H b (k.map kV)) : (MK X.prog X.w).is s.heap k b := by
  obtain ⟨its, rv, ⟨o, ho, hc, n, hd⟩, _⟩ := I.tuple h
  exact ⟨o, its.toArray, n, ho, hc, hd, key_vals rv⟩
theorem refs_are : ∀ {ks : List (Addr × List L2.Key)} {us : List Value}, Vals (ks.map fun p => V.ref p.1) us → us = ks.map fun p => Value.ref p.1
  | [], _, .nil => rfl
  | _ :: _, _, .cons h r => by
    rw [List.map_cons, ← refs_are r]
    exact congrArg (· :: _) h
def rSetM (K : PySem.W.Frag) (P : Program) (w : World) : List V → Hp → VK → Prop := fun xs H Q => ∃ (l : Addr) (ks : List (Addr × List L2.Key)), xs = [V.ref l] ∧ (SqL K H l (ks.map fun p => V.ref p.1) ∨ SqT K H l (ks.map fun p => V.ref p.1)) ∧ (∀ p ∈ ks, SqT K H p.1 (p.2.map kV)) ∧ ks.length < 63 ∧
  ∀ (L : List (Addr × List L2.Key)) (p : Addr), Took ks L → (L.map Prod.snd).Nodup → H p = none → Q (.ref p) (upd H p (SetMO P w p L))
theorem cr_setM {K : PySem.W.Frag} {P : Program} {w : World} (hc : X.calm = true) (hu : X.A.units + 64 < cLine) (hK : X.K = K := by rfl) (hP : X.prog = P := by rfl) (hw : X.w = w := by rfl) : CallR X (.type "set") (rSetM K P w) := by
  subst hK hP hw
  intro pins s σ H xs us Q I r h
  obtain ⟨l, ks, rfl, hs, hk, few, q⟩ := h
  rw [Vals.ref1 r]
  have own : ∀ p ∈ ks, (MK X.prog X.w).is s.heap p.2 p.1 := fun p hp => tup_key I (hk p hp)
  have room : ∀ B : Around, B.units ≤ X.A.units + 3 → (MK X.prog X.w).room B := fun B hB => by show B.units < cLine; omega
  have fin : ∀ (h' : Heap) (tk : Nat) L es ep t, Held (MK X.prog X.w) h' s.heap.objs.size L es ep t → Took ks L → (∀ b o, s.heap.get? b = some o → h'.get? b = some o) → EP X pins σ Q (.ref s.heap.objs.size) { s with heap := h', toks := tk } := fun h' tk L es ep t R T keep =>
    ⟨.ref _, upd H s.heap.objs.size (SetMO X.prog X.w s.heap.objs.size L), I.laid (t' := tk) keep (Nat.le_refl _) (setMO_new R), rfl, q L _ T R.nd (I.hok.fresh (Nat.le_refl _))⟩
  rcases hs with hs | hs
  · obtain ⟨its, rv, hl, _⟩ := I.list hs
    exact set_list kinds ks (I.ok.hd hc) hl.isList (refs_are rv) own few room fin
  · obtain ⟨its, rv, ht, _⟩ := I.tuple hs
    exact set_tup kinds ks (I.ok.hd hc) ht (refs_are rv) own few room fin
def rSortedM (K : PySem.W.Frag) (P : Program) (w : World) : List V → Hp → VK → Prop := fun vs H Q => ∃ (a : Addr) (L : List (Addr × List L2.Key)), vs = [V.ref a] ∧ H a = some (SetMO P w a L) ∧ (∀ p ∈ L, Dp K H (.ref p.1) (enK p.2) ∧ (enK p.2).depth ≤ 50) ∧ PySem.W.AllAlike (L.map fun p => enK p.2) ∧ PySem.W.Sortable (L.map fun p => enK p.2) ∧
  ∀ (bs : List (V × PyData)) (p : Addr), bs.Perm (L.map enP) → H p = none → Q (.ref p) (upd H p (.lst ((SD.sortedD bs).map Prod.fst)))
theorem cr_sortedM {K : PySem.W.Frag} {P : Program} {w : World} (hc : X.calm = true) (hu : X.A.units + 64 < cLine) (hK : X.K = K := by rfl) (hP : X.prog = P := by rfl) (hw : X.w = w := by rfl) : CallR X (.builtin "sorted") (rSortedM K P w) := by
  subst hK hP hw
  intro pins s σ H vs us Q I r h
  obtain ⟨a, L, rfl, at_, hd, hal, hk, q⟩ := h
  obtain ⟨es, ep, t, ⟨o, ho, hex, hdt⟩, rows, ris, fits, led, few⟩ := (I.hok a _ at_).1
  rw [Vals.ref1 r]
  have sz : es.size = L.length := rows_size rows
  have e0 : PySem.W.EachIs (fun (u : Value) (b : V × PyData) => RelV b.1 u) (es.toList.map (·.2)) (L.map enP) := by
    rw [rows]
    have : ∀ L : List (Addr × List L2.Key), PySem.W.EachIs (fun (u : Value) (b : V × PyData) => RelV b.1 u) ((L.map (row (MK X.prog X.w))).map (·.2)) (L.map enP) := fun L => by
      induction L with
      | nil => exact .nil
      | cons p L ih => exact .cons rfl ih
    exact this L
  have eL : (L.map enP).map Prod.snd = L.map fun p => enK p.2 := by rw [List.map_map]; rfl
  refine sorted_set (R := fun (u : Value) (b : V × PyData) => RelV b.1 u) (enc := fun b : V × PyData => b.2) ho hex hdt fits (by omega) ris led (I.ok.hd hc) e0 (fun v b hb hv => ?_) (by show PySem.W.AllAlike ((L.map enP).map Prod.snd); rw [eL]; exact hal) (by show PySem.W.Sortable ((L.map enP).map Prod.snd); rw [eL]; exact hk) (fun b hb => ?_)
    fun s' p out c bs keep g o hp hc' pm he => ?_
  · obtain ⟨p, hp, rfl⟩ := List.mem_map.mp hb
    exact Dp.reads I _ _ _ (hd p hp).1 hv
  · obtain ⟨p, hp, rfl⟩ := List.mem_map.mp hb
    have := (hd p hp).2
    show X.A.units + 4 + (enK p.2).depth < cLine
    omega
  · have hn : H p = none := I.hok.fresh hp
    have len : ((SD.sortedD bs).map Prod.fst).length ≤ sizeLine := by
      rw [List.length_map, (SD.sorted_perm bs).length_eq, pm.length_eq, List.length_map, sizeLine_eq]
      omega
    have J : Inv X pins σ (upd H p (.lst ((SD.sortedD bs).map Prod.fst))) { s with heap := s'.heap, gens := s'.gens, drawn := s'.drawn, toks := s'.toks } :=
      I.call (ch := []) (Un.laid keep hp hn) (I.hok.laid keep hp ⟨len, out.toList, c, SD.each_vals he, hc'⟩) (by rw [g]; exact I.bare) (fun _ z => nomatch z)
    have es' : s' = { s with heap := s'.heap, gens := s'.gens, drawn := s'.drawn, toks := s'.toks } := by
      cases s'
      cases s
      cases o
      rfl
    rw [es']
    exact ⟨.ref p, _, J, rfl, q bs p pm hn⟩
end
end SetM
set_option maxRecDepth 100000
set_option maxHeartbeats 4000000
/-! repr of data with dicts in it (no lists) -/
namespace RQ
open PySem PySem.Spec PyProof.Rows L2 SetM
mutual
inductive Dq (K : PySem.W.Frag) (H : Hp) : V → PyData → Prop
  | non : Dq K H .non .none
  | bl (b : Bool) : Dq K H (.bl b) (.bool b)
  | int (i : Int) : Dq K H (.int i) (.int i)
  | str (x : Str) : Dq K H (.str x) (.str x)
  | tup {p : Addr} {vs : List V} {ds : List PyData} : SqT K H p vs → DqAll K H vs ds → Dq K H (.ref p) (.tuple ds)
  | dK {p : Addr} {kvs : List (L2.Key × V)} {ds : List PyData} : H p = some (.dK kvs) → DqAll K H (kvs.map Prod.snd) ds → Dq K H (.ref p) (.dict ((kvs.map fun kv => kD kv.1).zip ds))
  | dT {p : Addr} {kvs : List (List L2.Key × V)} {ds : List PyData} : H p = some (.dT kvs) → DqAll K H (kvs.map Prod.snd) ds → Dq K H (.ref p) (.dict ((kvs.map fun kv => enK kv.1).zip ds))
inductive DqAll (K : PySem.W.Frag) (H : Hp) : List V → List PyData → Prop
  | nil : DqAll K H [] []
  | cons {v : V} {d : PyData} {vs : List V} {ds : List PyData} : Dq K H v d → DqAll K H vs ds → DqAll K H (v :: vs) (d :: ds)
end
section
variable {X : Cx} {pins : List (Addr × Obj)} {σ : L2.St} {H : Hp} {s : Shared}
theorem DqAll.len {K : PySem.W.Frag} : ∀ {vs : List V} {ds : List PyData}, DqAll K H vs ds → vs.length = ds.length
  | _, _, .nil => rfl
  | _, _, .cons _ r => by rw [List.length_cons, List.length_cons, DqAll.len r]
theorem key_reads {h : Heap} {k : L2.Key} {u : Value} (e : keyIs k u = true) : Reads h u (kD k) [] := by
  rcases keyIs_shape e with ⟨i, t, rfl, rfl⟩ | ⟨x, t, rfl, rfl⟩
  · exact .int i t
  · exact .str x t
theorem keys_read {h : Heap} {P : Program} {w : World} : ∀ {k : List L2.Key} {us : List Value}, ItemsAre (mixKind P w) k us → ReadsAll h us (k.map kD) []
  | _, _, .nil => .nil
  | _, _, .cons e r => .cons (as := []) (bs := []) (key_reads e) (keys_read r)
theorem tup_reads (I : Inv X pins σ H s) {b : Addr} {k : List L2.Key} (h : SqT X.K H b (k.map kV)) : Reads s.heap (.ref b) (enK k) [] := by
  obtain ⟨o, items, n, ho, hc, hd, hi⟩ := tup_key I h
  exact .tuple ho hc hd (keys_read hi)
theorem pairs_read {h : Heap} {P : Program} {w : World} : ∀ {es : List DictEntry} {vs : List (L2.Key × Value)} {kvs : List (L2.Key × V)}, Pairs (mixKind P w) es vs → KV kvs vs → ReadsAll h (es.map (·.key)) (kvs.map fun kv => kD kv.1) [] ∧ Vals (kvs.map Prod.snd) (es.map (·.val))
  | _, _, _, .nil, k => by cases k; exact ⟨.nil, .nil⟩
  | _, _, _, .cons e1 e2 r, k => by
    cases k with
    | cons k1 k2 =>
      obtain ⟨h1, h2⟩ := pairs_read (h := h) r k2
      refine ⟨.cons (as := []) (bs := []) (by show Reads h _ (kD _) []; rw [k1.1]; exact key_reads e1) h1, .cons ?_ h2⟩
      show RelV _ (DictEntry.val _)
      rw [e2]
      exact k1.2
theorem tups_read (I : Inv X pins σ H s) : ∀ {xs : List (List L2.Key × Addr × Value)} {kvs : List (List L2.Key × V)}, Paired (fun (p : List L2.Key × V) (q : List L2.Key × Addr × Value) => p.1 = q.1 ∧ H q.2.1 = some (.tup (p.1.map kV)) ∧ RelV p.2 q.2.2) kvs xs →
    ReadsAll s.heap ((xs.map (entryOfKey (MK X.prog X.w))).map (·.key)) (kvs.map fun kv => enK kv.1) [] ∧ Vals (kvs.map Prod.snd) ((xs.map (entryOfKey (MK X.prog X.w))).map (·.val))
  | _, _, .nil => ⟨.nil, .nil⟩
  | _, _, .cons k1 k2 => by
    obtain ⟨h1, h2⟩ := tups_read I k2
    exact ⟨.cons (as := []) (bs := []) (tup_reads I (SqT.of k1.2.1)) h1, .cons k1.2.2 h2⟩
mutual
theorem Dq.reads (I : Inv X pins σ H s) : ∀ {v : V} {d : PyData}, Dq X.K H v d → ∀ {u : Value}, RelV v u → ∃ as, Reads s.heap u d as ∧ sysModules ∉ as
  | _, _, .non, _, r => by cases r; exact ⟨_, .none, List.not_mem_nil⟩
  | _, _, .bl b, _, r => by cases r; exact ⟨_, .bool b, List.not_mem_nil⟩
  | _, _, .int i, _, r => by obtain ⟨t, rfl⟩ := r; exact ⟨_, .int i t, List.not_mem_nil⟩
  | _, _, .str x, _, r => by obtain ⟨t, rfl⟩ := r; exact ⟨_, .str x t, List.not_mem_nil⟩
  | _, _, .tup h a, _, r => by
    cases r
    obtain ⟨its, rv, ⟨o, ho, hc, n, hd⟩, _⟩ := I.tuple h
    obtain ⟨as, ra, na⟩ := DqAll.reads I a rv
    exact ⟨as, .tuple ho hc hd (by simpa using ra), na⟩
  | _, _, .dK (kvs := kvs) (ds := ds) h a, _, r => by
    cases r
    obtain ⟨_, hs, vs, kv, o, es, ep, ho, hex, hd, _, prs, _⟩ := dk_of I.hok h
    obtain ⟨rk, rv⟩ := pairs_read (h := s.heap) prs kv
    obtain ⟨bs, rb, nb⟩ := DqAll.reads I a rv
    have l1 := a.len
    rw [List.length_map] at l1
    refine ⟨_, .dict ho hex.1 hd (by rw [List.map_fst_zip (by rw [List.length_map]; omega)]; exact rk) (by rw [List.map_snd_zip (by rw [List.length_map]; omega)]; exact rb), fun z => ?_⟩
    rcases List.mem_cons.mp z with e | z
    · rw [← e] at hs
      simp at hs
    · exact nb z
  | _, _, .dT (kvs := kvs) (ds := ds) h a, _, r => by
    cases r
    obtain ⟨_, hs, xs, pr, o, es, ep, ho, hex, hd, he, _⟩ := I.hok _ _ h
    obtain ⟨rk, rv⟩ := tups_read I pr
    rw [← he] at rk rv
    obtain ⟨bs, rb, nb⟩ := DqAll.reads I a rv
    have l1 := a.len
    rw [List.length_map] at l1
    refine ⟨_, .dict ho hex.1 hd (by rw [List.map_fst_zip (by rw [List.length_map]; omega)]; exact rk) (by rw [List.map_snd_zip (by rw [List.length_map]; omega)]; exact rb), fun z => ?_⟩
    rcases List.mem_cons.mp z with e | z
    · rw [← e] at hs
      simp at hs
    · exact nb z
theorem DqAll.reads (I : Inv X pins σ H s) : ∀ {vs : List V} {ds : List PyData}, DqAll X.K H vs ds → ∀ {us : List Value}, Vals vs us → ∃ as, ReadsAll s.heap us ds as ∧ sysModules ∉ as
  | _, _, .nil, _, r => by cases r; exact ⟨_, .nil, List.not_mem_nil⟩
  | _, _, .cons a b, _, r => by
    cases r with
    | cons r1 r2 =>
      obtain ⟨as, h1, n1⟩ := Dq.reads I a r1
      obtain ⟨bs, h2, n2⟩ := DqAll.reads I b r2
      exact ⟨_, .cons h1 h2, fun z => (List.mem_append.mp z).elim n1 n2⟩
end
/-- repr of such data -/
def rReprQ (K : PySem.W.Frag) : List V → Hp → VK → Prop := fun xs H Q => ∃ p d, xs = [.ref p] ∧ Dq K H (.ref p) d ∧ d.showable = true ∧ d.depth ≤ 60 ∧ d.shown.length ≤ sizeLine ∧ Q (.str d.shown) H
theorem cr_reprQ {K : PySem.W.Frag} (gd : X.A.guards = some []) (hu : X.A.units + 70 < cLine) (hK : X.K = K := by rfl) : CallR X (.builtin "repr") (rReprQ K) := by
  subst hK
  intro pins s σ H xs us Q I r h
  obtain ⟨p, d, rfl, hd, sh, dep, sz, q⟩ := h
  rw [Vals.ref1 r]
  obtain ⟨as, ra, na⟩ := Dq.reads I hd rfl
  exact repr_of_reads' ra sh (fun _ => na) gd (by omega) (fun _ _ z => z) (fun h' u tk hk => ⟨.str d.shown, H, I.kept (t' := tk) hk, ⟨u, rfl⟩, q⟩) sz
end
end RQ
set_option maxRecDepth 100000
set_option maxHeartbeats 4000000
namespace M6
open PySem L2 Evl
def top (i : Nat) : Stmt := PySem.Challenge.pw_ringclause_k56_fit_question_clauses.main.body.getD i (.Pass ⟨0, 0, 0, 0⟩)

/-! ### general -/
section
variable {K : PySem.W.Frag} {σ : L2.St} {H H1 : Hp} {J : It} {G : Hp → Prop} {te : TE}
theorem lcMap {xs : List V} (w : Walk J xs.length G (YAt xs)) (f : V → V) {j : Nat} {vs : List Nat} (hz : xs.length < sizeLine) (hG : ∀ H', Ex H1 H' → G H')
    (hw : ∀ v, wipe ((wipe σ vs).set j (some v)) vs = wipe σ vs) (he : ∀ v ∈ xs, ∀ H', Ex H1 H' → Ev te ((wipe σ vs).set j (some v)) H' (f v)) {Qd : Hp → Prop} {D : Addr} (hD : H1 D = none)
    (k : ∀ H', Ex H1 H' → H' D = some (.lst (xs.map f)) → Qd H') :
    ∃ W : Nat → Nat → Hp → Prop, (∃ m, W 0 m (upd H1 D (.lst []))) ∧ ∀ i m H, W i m H →
      (J.stop i H ∧ Qd H) ∨ (J.go i H ∧ ∃ Nx : Hp → Prop, (∀ H', Nx H' → ∃ m', m' < m ∧ W (i + 1) m' H') ∧ ∀ x H', J.yld i H x H' → gName j x (wipe σ vs) H' fun σ2 H2 => wipe σ2 vs = wipe σ vs ∧ tYes σ2 H2 fun b H3 =>
        if b = true then te σ2 H3 fun y H4 => ∃ acc, H4 D = some (.lst acc) ∧ acc.length < sizeLine ∧ Nx (upd H4 D (.lst (acc ++ [y]))) else Nx H3) := by
  refine lc_it w (fun i H => Ex H1 H ∧ H D = some (.lst ((xs.take i).map f))) ⟨Ex.new hD, upd_same⟩ (fun i H _ p => hG H p.1) ?_ (fun H p => k H p.1 (by have := p.2; rwa [List.take_length] at this))
  rintro i x H H' hi ⟨e, hl⟩ ⟨rfl, hx⟩
  have hm : x ∈ xs := by
    obtain ⟨h, q⟩ := List.getElem?_eq_some_iff.mp hx
    rw [← q]
    exact List.getElem_mem h
  unfold gName tYes
  dsimp only
  refine ⟨hw x, ?_⟩
  rw [if_pos rfl]
  refine he x hm H' e H' (Ex.refl _) _ fun H4 e4 => ⟨_, e4 D _ hl, ?_, Ex.mut (e.trans e4) hD, ?_⟩
  · rw [List.length_map, List.length_take]
    omega
  · rw [upd_same, List.take_add_one, hx]
    simp
theorem walk_signs {z : Str} : Walk (Its z) (z.cps.toList.map fun c => V.str ⟨#[c]⟩).length (fun _ => True) (YAt (z.cps.toList.map fun c => V.str ⟨#[c]⟩)) := by
  have e : (z.cps.toList.map fun c => V.str ⟨#[c]⟩).length = z.cps.size := by simp
  rw [e]
  refine walk_str.mono (fun _ h => h) ?_
  rintro i H x H' hi _ ⟨rfl, c, hc, rfl⟩
  refine ⟨rfl, ?_⟩
  simp [hc]
end

theorem at_lit {α : Type} {l : List α} {n : Nat} {z : Int} {v : α} (e : z = (n : Int)) (h : l[n]? = some v) : atI l z = some v := by
  rw [e]
  exact atI_nat h
/-! ### data by its kind -/
def tyN : PyData → String
  | .none => "NoneType" | .bool _ => "bool" | .int _ => "int" | .str _ => "str" | .list _ => "list" | .tuple _ => "tuple" | .dict _ => "dict"
def isStrD : PyData → Bool | .str _ => true | _ => false
def isIntLikeD : PyData → Bool | .int _ => true | .bool _ => true | _ => false
def isBoolD : PyData → Bool | .bool _ => true | _ => false
def isTupD : PyData → Bool | .tuple _ => true | _ => false
def isListD : PyData → Bool | .list _ => true | _ => false
section
variable {K : PySem.W.Frag} {H H' : Hp} {v : V} {d : PyData}
theorem dp_ty (h : Dp K H v d) : TyX K H v (.type (tyN d)) := by
  cases h with
  | non => exact .base .non
  | bl b => exact .base (.bl b)
  | int i => exact .base (.int i)
  | str x => exact .base (.str x)
  | lst h _ =>
    rcases h with (h | ⟨o, h⟩) | ⟨o, its, n, h1, h2, _⟩
    · exact .base (.lst h)
    · exact .base (.frz h)
    · exact .kList h1 h2
  | tup h _ =>
    rcases h with (h | ⟨o, h⟩) | ⟨o, its, n, h1, h2, _⟩
    · exact .base (.tup h)
    · exact .fTuple h
    · exact .kTuple h1 h2
theorem kit_str (d : PyData) : PySem.W.kitOne K (.type (tyN d)) (.type "str") = some (isStrD d) := by cases d <;> (refine kit_ty ?_; simp only [tyN, isStrD]; decide +kernel)
theorem kit_int (d : PyData) : PySem.W.kitOne K (.type (tyN d)) (.type "int") = some (isIntLikeD d) := by cases d <;> (refine kit_ty ?_; simp only [tyN, isIntLikeD]; decide +kernel)
theorem kit_bool (d : PyData) : PySem.W.kitOne K (.type (tyN d)) (.type "bool") = some (isBoolD d) := by cases d <;> (refine kit_ty ?_; simp only [tyN, isBoolD]; decide +kernel)
theorem kit_tuple (d : PyData) : PySem.W.kitOne K (.type (tyN d)) (.type "tuple") = some (isTupD d) := by cases d <;> (refine kit_ty ?_; simp only [tyN, isTupD]; decide +kernel)
theorem kit_list (d : PyData) : PySem.W.kitOne K (.type (tyN d)) (.type "list") = some (isListD d) := by cases d <;> (refine kit_ty ?_; simp only [tyN, isListD]; decide +kernel)
mutual
theorem Dp.ex (e : Ex H H') {v : V} {d : PyData} : Dp K H v d → Dp K H' v d
  | .non => .non
  | .bl b => .bl b
  | .int i => .int i
  | .str x => .str x
  | .lst h a => .lst (ex_l e h) (DpAll.ex e a)
  | .tup h a => .tup (ex_t e h) (DpAll.ex e a)
theorem DpAll.ex (e : Ex H H') {vs : List V} {ds : List PyData} : DpAll K H vs ds → DpAll K H' vs ds
  | .nil => .nil
  | .cons a b => .cons (Dp.ex e a) (DpAll.ex e b)
end
theorem DpAll.len : ∀ {vs : List V} {ds : List PyData}, DpAll K H vs ds → vs.length = ds.length
  | _, _, .nil => rfl
  | _, _, .cons _ r => by rw [List.length_cons, List.length_cons, DpAll.len r]
theorem DpAll.get : ∀ {vs : List V} {ds : List PyData}, DpAll K H vs ds → ∀ {i : Nat} {v : V}, vs[i]? = some v → ∃ d, ds[i]? = some d ∧ Dp K H v d
  | _, _, .nil, _, _, h => by simp at h
  | _, _, .cons (d := d) a _, 0, v, h => by
    have e : _ = v := Option.some.inj h
    subst e
    exact ⟨d, rfl, a⟩
  | _, _, .cons _ b, i + 1, v, h => DpAll.get b (i := i) (by simpa using h)
end
/-! ### the names and bounds of the program, over data -/
def letters : Str := "abcdefghijklmnopqrstuvwxyz"
def signs : Str := "abcdefghijklmnopqrstuvwxyz0123456789"
def isNameS (z : Str) : Bool := decide (1 ≤ z.length ∧ z.length ≤ 8) && (decide ((z.cps.toList.headD 0) ∈ letters.cps.toList) && z.cps.toList.all fun c => decide (c ∈ signs.cps.toList))
def isNameD : PyData → Bool | .str z => isNameS z | _ => false
def isIntD (d : PyData) : Bool := isIntLikeD d && !isBoolD d
def partsD : PyData → Option (PyData × PyData × PyData × PyData)
  | .tuple [a, b, c, e] => some (a, b, c, e)
  | _ => none
def isMostD : PyData → Bool | .str w => decide (w = ("most" : Str)) | _ => false
def sameD : PyData → PyData → Bool
  | .str x, .str y => decide (x = y)
  | _, _ => false
def isBoundD (d : PyData) : Bool := match partsD d with
  | some (a, b, c, e) => isMostD a && (isNameD b && (isNameD c && (!sameD b c && isIntD e)))
  | none => false
theorem isBound4 {a b c e : PyData} : isBoundD (.tuple [a, b, c, e]) = (isMostD a && (isNameD b && (isNameD c && (!sameD b c && isIntD e)))) := rfl
/-- texts in it, not too long -/
def szS : PyData → Prop | .str z => z.length ≤ sizeLine | _ => True
def szD : PyData → Prop | .tuple ds => ∀ d ∈ ds, szS d | _ => True

/-! ### the text -/
abbrev s_wall : Stmt := top 0
theorem sc_wall : FnScope ["k"] ["k"] (defScope s_wall) := ⟨rfl, rfl, rfl, by decide +kernel, rfl, by decide +kernel, by decide +kernel⟩
abbrev s_is_name : Stmt := top 11
theorem sc_is_name : FnScope ["value"] ["value"] (defScope s_is_name) := ⟨rfl, rfl, rfl, by decide +kernel, rfl, by decide +kernel, by decide +kernel⟩
abbrev s_is_integer : Stmt := top 12
theorem sc_is_integer : FnScope ["value"] ["value"] (defScope s_is_integer) := ⟨rfl, rfl, rfl, by decide +kernel, rfl, by decide +kernel, by decide +kernel⟩
abbrev s_is_bound : Stmt := top 13
theorem sc_is_bound : FnScope ["value", "word", "first", "second", "limit"] ["value"] (defScope s_is_bound) := ⟨rfl, rfl, rfl, by decide +kernel, rfl, by decide +kernel, by decide +kernel⟩
abbrev s_is_literal : Stmt := top 14
theorem sc_is_literal : FnScope ["value", "word", "name"] ["value"] (defScope s_is_literal) := ⟨rfl, rfl, rfl, by decide +kernel, rfl, by decide +kernel, by decide +kernel⟩
abbrev s_is_clause : Stmt := top 15
theorem sc_is_clause : FnScope ["value", "item"] ["value"] (defScope s_is_clause) := ⟨rfl, rfl, rfl, by decide +kernel, rfl, by decide +kernel, by decide +kernel⟩
abbrev s_check_literal : Stmt := top 16
theorem sc_check_literal : FnScope ["value"] ["value"] (defScope s_check_literal) := ⟨rfl, rfl, rfl, by decide +kernel, rfl, by decide +kernel, by decide +kernel⟩
abbrev s_opposite : Stmt := top 17
theorem sc_opposite : FnScope ["literal", "_", "first", "second", "limit", "word", "name"] ["literal"] (defScope s_opposite) := ⟨rfl, rfl, rfl, by decide +kernel, rfl, by decide +kernel, by decide +kernel⟩
abbrev s_atom_of : Stmt := top 18
theorem sc_atom_of : FnScope ["literal", "other"] ["literal"] (defScope s_atom_of) := ⟨rfl, rfl, rfl, by decide +kernel, rfl, by decide +kernel, by decide +kernel⟩
abbrev s_atoms_of : Stmt := top 19
theorem sc_atoms_of : FnScope ["literals", "literal"] ["literals"] (defScope s_atoms_of) := ⟨rfl, rfl, rfl, by decide +kernel, rfl, by decide +kernel, by decide +kernel⟩
abbrev s_truths_of : Stmt := top 20
theorem sc_truths_of : FnScope ["literals", "literal"] ["literals"] (defScope s_truths_of) := ⟨rfl, rfl, rfl, by decide +kernel, rfl, by decide +kernel, by decide +kernel⟩
abbrev s_moments_of : Stmt := top 21
theorem sc_moments_of : FnScope ["literals", "literal", "name"] ["literals"] (defScope s_moments_of) := ⟨rfl, rfl, rfl, by decide +kernel, rfl, by decide +kernel, by decide +kernel⟩
abbrev s_clause_of : Stmt := top 22
theorem sc_clause_of : FnScope ["literals", "literal"] ["literals"] (defScope s_clause_of) := ⟨rfl, rfl, rfl, by decide +kernel, rfl, by decide +kernel, by decide +kernel⟩
abbrev s_normal_form : Stmt := top 23
theorem sc_normal_form : FnScope ["literals"] ["literals"] (defScope s_normal_form) := ⟨rfl, rfl, rfl, by decide +kernel, rfl, by decide +kernel, by decide +kernel⟩
abbrev s_check_listed : Stmt := top 24
theorem sc_check_listed : FnScope ["moments", "values", "name", "listed", "_"] ["moments", "values"] (defScope s_check_listed) := ⟨rfl, rfl, rfl, by decide +kernel, rfl, by decide +kernel, by decide +kernel⟩
abbrev s_literal_stands : Stmt := top 25
theorem sc_literal_stands : FnScope ["literal", "names", "table", "_", "first", "second", "limit", "word", "name"] ["literal", "names", "table"] (defScope s_literal_stands) := ⟨rfl, rfl, rfl, by decide +kernel, rfl, by decide +kernel, by decide +kernel⟩
abbrev s_clauses_stand : Stmt := top 26
theorem sc_clauses_stand : FnScope ["clauses", "values", "names", "times", "table", "clause", "literal"] ["clauses", "values"] (defScope s_clauses_stand) := ⟨rfl, rfl, rfl, by decide +kernel, rfl, by decide +kernel, by decide +kernel⟩
abbrev s_holds : Stmt := top 27
theorem sc_holds : FnScope ["literal", "values"] ["literal", "values"] (defScope s_holds) := ⟨rfl, rfl, rfl, by decide +kernel, rfl, by decide +kernel, by decide +kernel⟩
abbrev s_clause_holds : Stmt := top 28
theorem sc_clause_holds : FnScope ["clause", "values", "literals"] ["clause", "values"] (defScope s_clause_holds) := ⟨rfl, rfl, rfl, by decide +kernel, rfl, by decide +kernel, by decide +kernel⟩
abbrev s_write_literal : Stmt := top 34
theorem sc_write_literal : FnScope ["literal", "_", "first", "second", "limit", "word", "name"] ["literal"] (defScope s_write_literal) := ⟨rfl, rfl, rfl, by decide +kernel, rfl, by decide +kernel, by decide +kernel⟩
abbrev s_write_clause : Stmt := top 35
theorem sc_write_clause : FnScope ["clause", "literals", "texts", "literal"] ["clause"] (defScope s_write_clause) := ⟨rfl, rfl, rfl, by decide +kernel, rfl, by decide +kernel, by decide +kernel⟩
abbrev s_is_number : Stmt := top 36
theorem sc_is_number : FnScope ["text", "most", "sign"] ["text", "most"] (defScope s_is_number) := ⟨rfl, rfl, rfl, by decide +kernel, rfl, by decide +kernel, by decide +kernel⟩
abbrev s_told_integer : Stmt := top 37
theorem sc_told_integer : FnScope ["text", "below", "digits"] ["text"] (defScope s_told_integer) := ⟨rfl, rfl, rfl, by decide +kernel, rfl, by decide +kernel, by decide +kernel⟩
abbrev s_told_bound : Stmt := top 38
theorem sc_told_bound : FnScope ["text", "names", "_", "written", "first", "second", "limit", "bound"] ["text"] (defScope s_told_bound) := ⟨rfl, rfl, rfl, by decide +kernel, rfl, by decide +kernel, by decide +kernel⟩
abbrev s_told_literal : Stmt := top 39
theorem sc_told_literal : FnScope ["text"] ["text"] (defScope s_told_literal) := ⟨rfl, rfl, rfl, by decide +kernel, rfl, by decide +kernel, by decide +kernel⟩
abbrev s_told_clause : Stmt := top 40
theorem sc_told_clause : FnScope ["text", "literals", "part"] ["text"] (defScope s_told_clause) := ⟨rfl, rfl, rfl, by decide +kernel, rfl, by decide +kernel, by decide +kernel⟩
abbrev s_all_read : Stmt := top 41
theorem sc_all_read : FnScope ["rows", "index", "row"] ["rows"] (defScope s_all_read) := ⟨rfl, rfl, rfl, by decide +kernel, rfl, by decide +kernel, by decide +kernel⟩
abbrev s_fit_question : Stmt := top 45
theorem sc_fit_question : FnScope ["good", "bad", "literals", "count", "kinds", "clauses", "values", "held", "number", "row", "place"] ["good", "bad", "literals", "count"] (defScope s_fit_question) := ⟨rfl, rfl, rfl, by decide +kernel, rfl, by decide +kernel, by decide +kernel⟩
abbrev s_places_held : Stmt := top 46
theorem sc_places_held : FnScope ["literals", "values", "place", "literal"] ["literals", "values"] (defScope s_places_held) := ⟨rfl, rfl, rfl, by decide +kernel, rfl, by decide +kernel, by decide +kernel⟩
abbrev s_name_of_part : Stmt := top 47
theorem sc_name_of_part : FnScope ["row", "place"] ["row", "place"] (defScope s_name_of_part) := ⟨rfl, rfl, rfl, by decide +kernel, rfl, by decide +kernel, by decide +kernel⟩
abbrev s_name_of_refusal : Stmt := top 48
theorem sc_name_of_refusal : FnScope ["row", "number"] ["row", "number"] (defScope s_name_of_refusal) := ⟨rfl, rfl, rfl, by decide +kernel, rfl, by decide +kernel, by decide +kernel⟩
abbrev s_law_bag : Stmt := top 50
theorem sc_law_bag : FnScope ["script", "k", "cell"] ["script", "k"] (defScope s_law_bag) := ⟨rfl, rfl, rfl, by decide +kernel, rfl, by decide +kernel, by decide +kernel⟩
abbrev s_law_draw : Stmt := top 51
theorem sc_law_draw : FnScope ["bag", "size", "digit", "mixed"] ["bag", "size"] (defScope s_law_draw) := ⟨rfl, rfl, rfl, by decide +kernel, rfl, by decide +kernel, by decide +kernel⟩
abbrev s_law_letters : Stmt := top 52
theorem sc_law_letters : FnScope ["bag", "count", "signs", "word", "k"] ["bag", "count"] (defScope s_law_letters) := ⟨rfl, rfl, rfl, by decide +kernel, rfl, by decide +kernel, by decide +kernel⟩
abbrev s_law_names : Stmt := top 53
theorem sc_law_names : FnScope ["bag", "size", "head", "tail", "stems", "truths", "one"] ["bag"] (defScope s_law_names) := ⟨rfl, rfl, rfl, by decide +kernel, rfl, by decide +kernel, by decide +kernel⟩
abbrev s_law_integer : Stmt := top 54
theorem sc_law_integer : FnScope ["bag", "great", "k"] ["bag"] (defScope s_law_integer) := ⟨rfl, rfl, rfl, by decide +kernel, rfl, by decide +kernel, by decide +kernel⟩
abbrev s_law_literal : Stmt := top 55
theorem sc_law_literal : FnScope ["bag", "truths", "moments", "kind", "one", "two"] ["bag", "truths", "moments"] (defScope s_law_literal) := ⟨rfl, rfl, rfl, by decide +kernel, rfl, by decide +kernel, by decide +kernel⟩
abbrev s_law_form : Stmt := top 56
theorem sc_law_form : FnScope ["literals"] ["literals"] (defScope s_law_form) := ⟨rfl, rfl, rfl, by decide +kernel, rfl, by decide +kernel, by decide +kernel⟩
abbrev s_law_whole : Stmt := top 57
theorem sc_law_whole : FnScope ["one"] ["one"] (defScope s_law_whole) := ⟨rfl, rfl, rfl, by decide +kernel, rfl, by decide +kernel, by decide +kernel⟩
abbrev s_law_is_literal : Stmt := top 58
theorem sc_law_is_literal : FnScope ["one"] ["one"] (defScope s_law_is_literal) := ⟨rfl, rfl, rfl, by decide +kernel, rfl, by decide +kernel, by decide +kernel⟩
abbrev s_law_holds : Stmt := top 59
theorem sc_law_holds : FnScope ["literal", "values", "times"] ["literal", "values"] (defScope s_law_holds) := ⟨rfl, rfl, rfl, by decide +kernel, rfl, by decide +kernel, by decide +kernel⟩
abbrev s_law_values : Stmt := top 60
theorem sc_law_values : FnScope ["bag", "truths", "moments", "names", "one", "times"] ["bag", "truths", "moments"] (defScope s_law_values) := ⟨rfl, rfl, rfl, by decide +kernel, rfl, by decide +kernel, by decide +kernel⟩
abbrev s_law_literals : Stmt := top 61
theorem sc_law_literals : FnScope ["bag", "truths", "moments", "most", "literals", "k", "one", "near", "last"] ["bag", "truths", "moments", "most"] (defScope s_law_literals) := ⟨rfl, rfl, rfl, by decide +kernel, rfl, by decide +kernel, by decide +kernel⟩
abbrev s_law_fit_clauses : Stmt := top 62
theorem sc_law_fit_clauses : FnScope ["good", "bad", "literals", "count", "rows", "clauses", "one", "j", "told", "i", "k"] ["good", "bad", "literals", "count"] (defScope s_law_fit_clauses) := ⟨rfl, rfl, rfl, by decide +kernel, rfl, by decide +kernel, by decide +kernel⟩
abbrev s_law_odd : Stmt := top 63
theorem sc_law_odd : FnScope ["bag", "literals", "truths", "moments", "x", "y", "p", "odd", "mixed", "k"] ["bag", "literals", "truths", "moments"] (defScope s_law_odd) := ⟨rfl, rfl, rfl, by decide +kernel, rfl, by decide +kernel, by decide +kernel⟩
abbrev s_law_more : Stmt := top 64
theorem sc_law_more : FnScope ["bag", "values", "names"] ["bag", "values"] (defScope s_law_more) := ⟨rfl, rfl, rfl, by decide +kernel, rfl, by decide +kernel, by decide +kernel⟩
abbrev s_law_is_word : Stmt := top 65
theorem sc_law_is_word : FnScope ["one", "letters", "sign"] ["one"] (defScope s_law_is_word) := ⟨rfl, rfl, rfl, by decide +kernel, rfl, by decide +kernel, by decide +kernel⟩
abbrev s_law_is_good : Stmt := top 66
theorem sc_law_is_good : FnScope ["one"] ["one"] (defScope s_law_is_good) := ⟨rfl, rfl, rfl, by decide +kernel, rfl, by decide +kernel, by decide +kernel⟩
abbrev s_law_asked : Stmt := top 67
theorem sc_law_asked : FnScope ["good", "bad", "literals", "count", "told", "raised", "base"] ["good", "bad", "literals", "count"] (defScope s_law_asked) := ⟨rfl, rfl, rfl, by decide +kernel, rfl, by decide +kernel, by decide +kernel⟩
abbrev s_law_handed : Stmt := top 68
theorem sc_law_handed : FnScope ["rows", "shape"] ["rows", "shape"] (defScope s_law_handed) := ⟨rfl, rfl, rfl, by decide +kernel, rfl, by decide +kernel, by decide +kernel⟩
abbrev s_law : Stmt := top 69
theorem sc_law : FnScope ["script", "bag", "truths", "names", "moments", "many", "literals", "cells", "good", "k", "bad", "odd", "shape", "count", "rows", "goods", "bads", "told", "due", "one"] ["script"] (defScope s_law) := ⟨rfl, rfl, rfl, by decide +kernel, rfl, by decide +kernel, by decide +kernel⟩
/-- where the defs stand -/
structure Ad where
  a_wall : Addr
  a_is_name : Addr
  a_is_integer : Addr
  a_is_bound : Addr
  a_is_literal : Addr
  a_is_clause : Addr
  a_check_literal : Addr
  a_opposite : Addr
  a_atom_of : Addr
  a_atoms_of : Addr
  a_truths_of : Addr
  a_moments_of : Addr
  a_clause_of : Addr
  a_normal_form : Addr
  a_check_listed : Addr
  a_literal_stands : Addr
  a_clauses_stand : Addr
  a_holds : Addr
  a_clause_holds : Addr
  a_write_literal : Addr
  a_write_clause : Addr
  a_is_number : Addr
  a_told_integer : Addr
  a_told_bound : Addr
  a_told_literal : Addr
  a_told_clause : Addr
  a_all_read : Addr
  a_fit_question : Addr
  a_places_held : Addr
  a_name_of_part : Addr
  a_name_of_refusal : Addr
  a_law_bag : Addr
  a_law_draw : Addr
  a_law_letters : Addr
  a_law_names : Addr
  a_law_integer : Addr
  a_law_literal : Addr
  a_law_form : Addr
  a_law_whole : Addr
  a_law_is_literal : Addr
  a_law_holds : Addr
  a_law_values : Addr
  a_law_literals : Addr
  a_law_fit_clauses : Addr
  a_law_odd : Addr
  a_law_more : Addr
  a_law_is_word : Addr
  a_law_is_good : Addr
  a_law_asked : Addr
  a_law_handed : Addr
  a_law : Addr
  tL : Tok
  tS : Tok
  tN : Tok
  cR : Addr
  cL : Addr
  cC : Addr
  cU : Addr
  cQ : Addr
structure Fd where
  a_wall : FuncData
  a_is_name : FuncData
  a_is_integer : FuncData
  a_is_bound : FuncData
  a_is_literal : FuncData
  a_is_clause : FuncData
  a_check_literal : FuncData
  a_opposite : FuncData
  a_atom_of : FuncData
  a_atoms_of : FuncData
  a_truths_of : FuncData
  a_moments_of : FuncData
  a_clause_of : FuncData
  a_normal_form : FuncData
  a_check_listed : FuncData
  a_literal_stands : FuncData
  a_clauses_stand : FuncData
  a_holds : FuncData
  a_clause_holds : FuncData
  a_write_literal : FuncData
  a_write_clause : FuncData
  a_is_number : FuncData
  a_told_integer : FuncData
  a_told_bound : FuncData
  a_told_literal : FuncData
  a_told_clause : FuncData
  a_all_read : FuncData
  a_fit_question : FuncData
  a_places_held : FuncData
  a_name_of_part : FuncData
  a_name_of_refusal : FuncData
  a_law_bag : FuncData
  a_law_draw : FuncData
  a_law_letters : FuncData
  a_law_names : FuncData
  a_law_integer : FuncData
  a_law_literal : FuncData
  a_law_form : FuncData
  a_law_whole : FuncData
  a_law_is_literal : FuncData
  a_law_holds : FuncData
  a_law_values : FuncData
  a_law_literals : FuncData
  a_law_fit_clauses : FuncData
  a_law_odd : FuncData
  a_law_more : FuncData
  a_law_is_word : FuncData
  a_law_is_good : FuncData
  a_law_asked : FuncData
  a_law_handed : FuncData
  a_law : FuncData
structure TX (K : PySem.W.Frag) (mg : Str → Option Value) (a : Ad) : Prop where
  b_isinstance : mg "isinstance" = none
  b_str : mg "str" = none
  b_int : mg "int" = none
  b_bool : mg "bool" = none
  b_tuple : mg "tuple" = none
  b_list : mg "list" = none
  b_len : mg "len" = none
  b_range : mg "range" = none
  b_sorted : mg "sorted" = none
  b_abs : mg "abs" = none
  b_all : mg "all" = none
  b_any : mg "any" = none
  b_set : mg "set" = none
  b_sum : mg "sum" = none
  b_zip : mg "zip" = none
  b_enumerate : mg "enumerate" = none
  b_dict : mg "dict" = none
  b_repr : mg "repr" = none
  b_ValueError : mg "ValueError" = none
  g_LETTERS : mg "LETTERS" = some (.str letters a.tL)
  g_SIGNS : mg "SIGNS" = some (.str signs a.tS)
  g_LONGEST_NAME : mg "LONGEST_NAME" = some (.int 8 a.tN)
  c_RingclauseError : mg "RingclauseError" = some (.ref a.cR)
  c_InvalidLiteral : mg "InvalidLiteral" = some (.ref a.cL)
  c_InvalidClause : mg "InvalidClause" = some (.ref a.cC)
  c_UnknownMoment : mg "UnknownMoment" = some (.ref a.cU)
  c_Question : mg "Question" = some (.ref a.cQ)
  f__wall : mg "_wall" = some (.ref a.a_wall)
  k__wall : PySem.W.keepIn K (.ref a.a_wall) = true
  f_is_name : mg "is_name" = some (.ref a.a_is_name)
  k_is_name : PySem.W.keepIn K (.ref a.a_is_name) = true
  f_is_integer : mg "is_integer" = some (.ref a.a_is_integer)
  k_is_integer : PySem.W.keepIn K (.ref a.a_is_integer) = true
  f_is_bound : mg "is_bound" = some (.ref a.a_is_bound)
  k_is_bound : PySem.W.keepIn K (.ref a.a_is_bound) = true
  f_is_literal : mg "is_literal" = some (.ref a.a_is_literal)
  k_is_literal : PySem.W.keepIn K (.ref a.a_is_literal) = true
  f_is_clause : mg "is_clause" = some (.ref a.a_is_clause)
  k_is_clause : PySem.W.keepIn K (.ref a.a_is_clause) = true
  f_check_literal : mg "check_literal" = some (.ref a.a_check_literal)
  k_check_literal : PySem.W.keepIn K (.ref a.a_check_literal) = true
  f_opposite : mg "opposite" = some (.ref a.a_opposite)
  k_opposite : PySem.W.keepIn K (.ref a.a_opposite) = true
  f_atom_of : mg "atom_of" = some (.ref a.a_atom_of)
  k_atom_of : PySem.W.keepIn K (.ref a.a_atom_of) = true
  f_atoms_of : mg "atoms_of" = some (.ref a.a_atoms_of)
  k_atoms_of : PySem.W.keepIn K (.ref a.a_atoms_of) = true
  f_truths_of : mg "truths_of" = some (.ref a.a_truths_of)
  k_truths_of : PySem.W.keepIn K (.ref a.a_truths_of) = true
  f_moments_of : mg "moments_of" = some (.ref a.a_moments_of)
  k_moments_of : PySem.W.keepIn K (.ref a.a_moments_of) = true
  f_clause_of : mg "clause_of" = some (.ref a.a_clause_of)
  k_clause_of : PySem.W.keepIn K (.ref a.a_clause_of) = true
  f_normal_form : mg "normal_form" = some (.ref a.a_normal_form)
  k_normal_form : PySem.W.keepIn K (.ref a.a_normal_form) = true
  f_check_listed : mg "check_listed" = some (.ref a.a_check_listed)
  k_check_listed : PySem.W.keepIn K (.ref a.a_check_listed) = true
  f_literal_stands : mg "literal_stands" = some (.ref a.a_literal_stands)
  k_literal_stands : PySem.W.keepIn K (.ref a.a_literal_stands) = true
  f_clauses_stand : mg "clauses_stand" = some (.ref a.a_clauses_stand)
  k_clauses_stand : PySem.W.keepIn K (.ref a.a_clauses_stand) = true
  f_holds : mg "holds" = some (.ref a.a_holds)
  k_holds : PySem.W.keepIn K (.ref a.a_holds) = true
  f_clause_holds : mg "clause_holds" = some (.ref a.a_clause_holds)
  k_clause_holds : PySem.W.keepIn K (.ref a.a_clause_holds) = true
  f_write_literal : mg "write_literal" = some (.ref a.a_write_literal)
  k_write_literal : PySem.W.keepIn K (.ref a.a_write_literal) = true
  f_write_clause : mg "write_clause" = some (.ref a.a_write_clause)
  k_write_clause : PySem.W.keepIn K (.ref a.a_write_clause) = true
  f_is_number : mg "is_number" = some (.ref a.a_is_number)
  k_is_number : PySem.W.keepIn K (.ref a.a_is_number) = true
  f_told_integer : mg "told_integer" = some (.ref a.a_told_integer)
  k_told_integer : PySem.W.keepIn K (.ref a.a_told_integer) = true
  f_told_bound : mg "told_bound" = some (.ref a.a_told_bound)
  k_told_bound : PySem.W.keepIn K (.ref a.a_told_bound) = true
  f_told_literal : mg "told_literal" = some (.ref a.a_told_literal)
  k_told_literal : PySem.W.keepIn K (.ref a.a_told_literal) = true
  f_told_clause : mg "told_clause" = some (.ref a.a_told_clause)
  k_told_clause : PySem.W.keepIn K (.ref a.a_told_clause) = true
  f_all_read : mg "all_read" = some (.ref a.a_all_read)
  k_all_read : PySem.W.keepIn K (.ref a.a_all_read) = true
  f_fit_question : mg "fit_question" = some (.ref a.a_fit_question)
  k_fit_question : PySem.W.keepIn K (.ref a.a_fit_question) = true
  f_places_held : mg "places_held" = some (.ref a.a_places_held)
  k_places_held : PySem.W.keepIn K (.ref a.a_places_held) = true
  f_name_of_part : mg "name_of_part" = some (.ref a.a_name_of_part)
  k_name_of_part : PySem.W.keepIn K (.ref a.a_name_of_part) = true
  f_name_of_refusal : mg "name_of_refusal" = some (.ref a.a_name_of_refusal)
  k_name_of_refusal : PySem.W.keepIn K (.ref a.a_name_of_refusal) = true
  f__law_bag : mg "_law_bag" = some (.ref a.a_law_bag)
  k__law_bag : PySem.W.keepIn K (.ref a.a_law_bag) = true
  f__law_draw : mg "_law_draw" = some (.ref a.a_law_draw)
  k__law_draw : PySem.W.keepIn K (.ref a.a_law_draw) = true
  f__law_letters : mg "_law_letters" = some (.ref a.a_law_letters)
  k__law_letters : PySem.W.keepIn K (.ref a.a_law_letters) = true
  f__law_names : mg "_law_names" = some (.ref a.a_law_names)
  k__law_names : PySem.W.keepIn K (.ref a.a_law_names) = true
  f__law_integer : mg "_law_integer" = some (.ref a.a_law_integer)
  k__law_integer : PySem.W.keepIn K (.ref a.a_law_integer) = true
  f__law_literal : mg "_law_literal" = some (.ref a.a_law_literal)
  k__law_literal : PySem.W.keepIn K (.ref a.a_law_literal) = true
  f__law_form : mg "_law_form" = some (.ref a.a_law_form)
  k__law_form : PySem.W.keepIn K (.ref a.a_law_form) = true
  f__law_whole : mg "_law_whole" = some (.ref a.a_law_whole)
  k__law_whole : PySem.W.keepIn K (.ref a.a_law_whole) = true
  f__law_is_literal : mg "_law_is_literal" = some (.ref a.a_law_is_literal)
  k__law_is_literal : PySem.W.keepIn K (.ref a.a_law_is_literal) = true
  f__law_holds : mg "_law_holds" = some (.ref a.a_law_holds)
  k__law_holds : PySem.W.keepIn K (.ref a.a_law_holds) = true
  f__law_values : mg "_law_values" = some (.ref a.a_law_values)
  k__law_values : PySem.W.keepIn K (.ref a.a_law_values) = true
  f__law_literals : mg "_law_literals" = some (.ref a.a_law_literals)
  k__law_literals : PySem.W.keepIn K (.ref a.a_law_literals) = true
  f__law_fit_clauses : mg "_law_fit_clauses" = some (.ref a.a_law_fit_clauses)
  k__law_fit_clauses : PySem.W.keepIn K (.ref a.a_law_fit_clauses) = true
  f__law_odd : mg "_law_odd" = some (.ref a.a_law_odd)
  k__law_odd : PySem.W.keepIn K (.ref a.a_law_odd) = true
  f__law_more : mg "_law_more" = some (.ref a.a_law_more)
  k__law_more : PySem.W.keepIn K (.ref a.a_law_more) = true
  f__law_is_word : mg "_law_is_word" = some (.ref a.a_law_is_word)
  k__law_is_word : PySem.W.keepIn K (.ref a.a_law_is_word) = true
  f__law_is_good : mg "_law_is_good" = some (.ref a.a_law_is_good)
  k__law_is_good : PySem.W.keepIn K (.ref a.a_law_is_good) = true
  f__law_asked : mg "_law_asked" = some (.ref a.a_law_asked)
  k__law_asked : PySem.W.keepIn K (.ref a.a_law_asked) = true
  f__law_handed : mg "_law_handed" = some (.ref a.a_law_handed)
  k__law_handed : PySem.W.keepIn K (.ref a.a_law_handed) = true
  f_law : mg "law" = some (.ref a.a_law)
  k_law : PySem.W.keepIn K (.ref a.a_law) = true
structure FDS (K : PySem.W.Frag) (a : Ad) (d : Fd) : Prop where
  F__wall : Fun K "_wall" "_wall" s_wall a.a_wall d.a_wall
  B__wall : Binds K d.a_wall ["k"] []
  F_is_name : Fun K "is_name" "is_name" s_is_name a.a_is_name d.a_is_name
  B_is_name : Binds K d.a_is_name ["value"] []
  F_is_integer : Fun K "is_integer" "is_integer" s_is_integer a.a_is_integer d.a_is_integer
  B_is_integer : Binds K d.a_is_integer ["value"] []
  F_is_bound : Fun K "is_bound" "is_bound" s_is_bound a.a_is_bound d.a_is_bound
  B_is_bound : Binds K d.a_is_bound ["value"] []
  F_is_literal : Fun K "is_literal" "is_literal" s_is_literal a.a_is_literal d.a_is_literal
  B_is_literal : Binds K d.a_is_literal ["value"] []
  F_is_clause : Fun K "is_clause" "is_clause" s_is_clause a.a_is_clause d.a_is_clause
  B_is_clause : Binds K d.a_is_clause ["value"] []
  F_check_literal : Fun K "check_literal" "check_literal" s_check_literal a.a_check_literal d.a_check_literal
  B_check_literal : Binds K d.a_check_literal ["value"] []
  F_opposite : Fun K "opposite" "opposite" s_opposite a.a_opposite d.a_opposite
  B_opposite : Binds K d.a_opposite ["literal"] []
  F_atom_of : Fun K "atom_of" "atom_of" s_atom_of a.a_atom_of d.a_atom_of
  B_atom_of : Binds K d.a_atom_of ["literal"] []
  F_atoms_of : Fun K "atoms_of" "atoms_of" s_atoms_of a.a_atoms_of d.a_atoms_of
  B_atoms_of : Binds K d.a_atoms_of ["literals"] []
  F_truths_of : Fun K "truths_of" "truths_of" s_truths_of a.a_truths_of d.a_truths_of
  B_truths_of : Binds K d.a_truths_of ["literals"] []
  F_moments_of : Fun K "moments_of" "moments_of" s_moments_of a.a_moments_of d.a_moments_of
  B_moments_of : Binds K d.a_moments_of ["literals"] []
  F_clause_of : Fun K "clause_of" "clause_of" s_clause_of a.a_clause_of d.a_clause_of
  B_clause_of : Binds K d.a_clause_of ["literals"] []
  F_normal_form : Fun K "normal_form" "normal_form" s_normal_form a.a_normal_form d.a_normal_form
  B_normal_form : Binds K d.a_normal_form ["literals"] []
  F_check_listed : Fun K "check_listed" "check_listed" s_check_listed a.a_check_listed d.a_check_listed
  B_check_listed : Binds K d.a_check_listed ["moments", "values"] []
  F_literal_stands : Fun K "literal_stands" "literal_stands" s_literal_stands a.a_literal_stands d.a_literal_stands
  B_literal_stands : Binds K d.a_literal_stands ["literal", "names", "table"] []
  F_clauses_stand : Fun K "clauses_stand" "clauses_stand" s_clauses_stand a.a_clauses_stand d.a_clauses_stand
  B_clauses_stand : Binds K d.a_clauses_stand ["clauses", "values"] []
  F_holds : Fun K "holds" "holds" s_holds a.a_holds d.a_holds
  B_holds : Binds K d.a_holds ["literal", "values"] []
  F_clause_holds : Fun K "clause_holds" "clause_holds" s_clause_holds a.a_clause_holds d.a_clause_holds
  B_clause_holds : Binds K d.a_clause_holds ["clause", "values"] []
  F_write_literal : Fun K "write_literal" "write_literal" s_write_literal a.a_write_literal d.a_write_literal
  B_write_literal : Binds K d.a_write_literal ["literal"] []
  F_write_clause : Fun K "write_clause" "write_clause" s_write_clause a.a_write_clause d.a_write_clause
  B_write_clause : Binds K d.a_write_clause ["clause"] []
  F_is_number : Fun K "is_number" "is_number" s_is_number a.a_is_number d.a_is_number
  B_is_number : Binds K d.a_is_number ["text", "most"] []
  F_told_integer : Fun K "told_integer" "told_integer" s_told_integer a.a_told_integer d.a_told_integer
  B_told_integer : Binds K d.a_told_integer ["text"] []
  F_told_bound : Fun K "told_bound" "told_bound" s_told_bound a.a_told_bound d.a_told_bound
  B_told_bound : Binds K d.a_told_bound ["text"] []
  F_told_literal : Fun K "told_literal" "told_literal" s_told_literal a.a_told_literal d.a_told_literal
  B_told_literal : Binds K d.a_told_literal ["text"] []
  F_told_clause : Fun K "told_clause" "told_clause" s_told_clause a.a_told_clause d.a_told_clause
  B_told_clause : Binds K d.a_told_clause ["text"] []
  F_all_read : Fun K "all_read" "all_read" s_all_read a.a_all_read d.a_all_read
  B_all_read : Binds K d.a_all_read ["rows"] []
  F_fit_question : Fun K "fit_question" "fit_question" s_fit_question a.a_fit_question d.a_fit_question
  B_fit_question : Binds K d.a_fit_question ["good", "bad", "literals", "count"] []
  F_places_held : Fun K "places_held" "places_held" s_places_held a.a_places_held d.a_places_held
  B_places_held : Binds K d.a_places_held ["literals", "values"] []
  F_name_of_part : Fun K "name_of_part" "name_of_part" s_name_of_part a.a_name_of_part d.a_name_of_part
  B_name_of_part : Binds K d.a_name_of_part ["row", "place"] []
  F_name_of_refusal : Fun K "name_of_refusal" "name_of_refusal" s_name_of_refusal a.a_name_of_refusal d.a_name_of_refusal
  B_name_of_refusal : Binds K d.a_name_of_refusal ["row", "number"] []
  F__law_bag : Fun K "_law_bag" "_law_bag" s_law_bag a.a_law_bag d.a_law_bag
  B__law_bag : Binds K d.a_law_bag ["script", "k"] []
  F__law_draw : Fun K "_law_draw" "_law_draw" s_law_draw a.a_law_draw d.a_law_draw
  B__law_draw : Binds K d.a_law_draw ["bag", "size"] []
  F__law_letters : Fun K "_law_letters" "_law_letters" s_law_letters a.a_law_letters d.a_law_letters
  B__law_letters : Binds K d.a_law_letters ["bag", "count"] []
  F__law_names : Fun K "_law_names" "_law_names" s_law_names a.a_law_names d.a_law_names
  B__law_names : Binds K d.a_law_names ["bag"] []
  F__law_integer : Fun K "_law_integer" "_law_integer" s_law_integer a.a_law_integer d.a_law_integer
  B__law_integer : Binds K d.a_law_integer ["bag"] []
  F__law_literal : Fun K "_law_literal" "_law_literal" s_law_literal a.a_law_literal d.a_law_literal
  B__law_literal : Binds K d.a_law_literal ["bag", "truths", "moments"] []
  F__law_form : Fun K "_law_form" "_law_form" s_law_form a.a_law_form d.a_law_form
  B__law_form : Binds K d.a_law_form ["literals"] []
  F__law_whole : Fun K "_law_whole" "_law_whole" s_law_whole a.a_law_whole d.a_law_whole
  B__law_whole : Binds K d.a_law_whole ["one"] []
  F__law_is_literal : Fun K "_law_is_literal" "_law_is_literal" s_law_is_literal a.a_law_is_literal d.a_law_is_literal
  B__law_is_literal : Binds K d.a_law_is_literal ["one"] []
  F__law_holds : Fun K "_law_holds" "_law_holds" s_law_holds a.a_law_holds d.a_law_holds
  B__law_holds : Binds K d.a_law_holds ["literal", "values"] []
  F__law_values : Fun K "_law_values" "_law_values" s_law_values a.a_law_values d.a_law_values
  B__law_values : Binds K d.a_law_values ["bag", "truths", "moments"] []
  F__law_literals : Fun K "_law_literals" "_law_literals" s_law_literals a.a_law_literals d.a_law_literals
  B__law_literals : Binds K d.a_law_literals ["bag", "truths", "moments", "most"] []
  F__law_fit_clauses : Fun K "_law_fit_clauses" "_law_fit_clauses" s_law_fit_clauses a.a_law_fit_clauses d.a_law_fit_clauses
  B__law_fit_clauses : Binds K d.a_law_fit_clauses ["good", "bad", "literals", "count"] []
  F__law_odd : Fun K "_law_odd" "_law_odd" s_law_odd a.a_law_odd d.a_law_odd
  B__law_odd : Binds K d.a_law_odd ["bag", "literals", "truths", "moments"] []
  F__law_more : Fun K "_law_more" "_law_more" s_law_more a.a_law_more d.a_law_more
  B__law_more : Binds K d.a_law_more ["bag", "values"] []
  F__law_is_word : Fun K "_law_is_word" "_law_is_word" s_law_is_word a.a_law_is_word d.a_law_is_word
  B__law_is_word : Binds K d.a_law_is_word ["one"] []
  F__law_is_good : Fun K "_law_is_good" "_law_is_good" s_law_is_good a.a_law_is_good d.a_law_is_good
  B__law_is_good : Binds K d.a_law_is_good ["one"] []
  F__law_asked : Fun K "_law_asked" "_law_asked" s_law_asked a.a_law_asked d.a_law_asked
  B__law_asked : Binds K d.a_law_asked ["good", "bad", "literals", "count"] []
  F__law_handed : Fun K "_law_handed" "_law_handed" s_law_handed a.a_law_handed d.a_law_handed
  B__law_handed : Binds K d.a_law_handed ["rows", "shape"] []
  F_law : Fun K "law" "law" s_law a.a_law d.a_law
  B_law : Binds K d.a_law ["script"] []
/-- the errors that the program raises -/
structure ER (K : PySem.W.Frag) (mg : Str → Option Value) (P : Program) (a : Ad) (fL fC fW : Addr) : Prop where
  eL : PySem.Sup.SupTxt K mg P "InvalidLiteral" "value" "not a literal" a.cL fL
  eC : PySem.Sup.SupTxt K mg P "InvalidClause" "value" "not a clause" a.cC fC

def spD (pre : PyData → Prop) (F : PyData → Bool) (K : PySem.W.Frag) : Sp := fun vs H Q _ => ∃ v d, vs = [v] ∧ Dp K H v d ∧ pre d ∧ ∀ H', Ex H H' → Q (.bl (F d)) H'
def spIsName (K : PySem.W.Frag) : Sp := spD szS isNameD K
def spIsInt (K : PySem.W.Frag) : Sp := spD (fun _ => True) isIntD K
def spIsBound (K : PySem.W.Frag) : Sp := spD szD isBoundD K
theorem iteT' {c : Bool} {A B : Prop} (hc : c = true) (h : A) : if c = true then A else B := by
  rw [if_pos hc]
  exact h
theorem ex_q {H H1 : Hp} {Q : VK} {b : Bool} (q : ∀ H', Ex H H' → Q (.bl b) H') {c : Bool} (e : b = c) (x : Ex H H1) : Q (.bl c) H1 := by
  rw [← e]
  exact q H1 x

section
variable {P : Program} {w : World} {K : PySem.W.Frag} {mg : Str → Option Value} {base : Heap} {a : Ad} {d : Fd}
theorem strip_all (z y : Str) : (Txt.stripChars z y = (⟨#[]⟩ : Str)) ↔ ∀ c ∈ z.cps.toList, c ∈ y.cps.toList := by
  have e0 : Txt.stripChars z y = Builtin.Str.strSub z (stripLo y.cps.contains true z) (stripHi y.cps.contains true z (stripLo y.cps.contains true z)) := PyProof.Rows.stripBy_eq _ _ _ _
  obtain ⟨l1, l2, l3⟩ := PyProof.Rows.lo_facts y.cps.contains z
  rw [e0]
  generalize stripLo y.cps.contains true z = lo at l1 l2 l3
  obtain ⟨h1, h2, h3, _⟩ := PyProof.Rows.hi_facts y.cps.contains z lo l1
  generalize stripHi y.cps.contains true z lo = hi at h1 h2 h3
  have hlen : z.cps.toList.length = z.length := by show _ = z.cps.size; simp
  have hin : ∀ c, y.cps.contains c = true ↔ c ∈ y.cps.toList := fun c => by rw [Array.contains_iff_mem]; simp
  have hk : ∀ k, k < z.length → ∃ c, z.cps.toList[k]? = some c ∧ z.cps.getD k 0 = c := fun k h => by
    have h' : k < z.cps.toList.length := by omega
    refine ⟨z.cps.toList[k], by simp, ?_⟩
    rw [← PyProof.Rows.getD_list]
    rw [List.getD, List.getElem?_eq_getElem h']; rfl
  constructor
  · intro h c hc
    have hd : (Builtin.Str.strSub z lo hi).cps.toList = [] := by rw [h]
    have hl : hi ≤ lo := by
      have := congrArg List.length hd
      rw [PySem.StrLaws.strSub_toList, List.length_take, List.length_drop, List.length_nil] at this
      omega
    obtain ⟨k, hk1, hk2⟩ := List.mem_iff_getElem.mp hc
    rw [hlen] at hk1
    obtain ⟨c', e1, e2⟩ := hk k hk1
    have : c' = c := by
      rw [List.getElem?_eq_getElem (by omega)] at e1
      rw [← hk2]
      exact (Option.some.inj e1).symm
    subst this
    rw [← hin, ← e2]
    by_cases hlo : k < lo
    · exact l2 k hlo
    · exact h3 k (by omega) hk1
  · intro h
    have hlo : lo = z.length := by
      rcases l3 with l3 | l3
      · exact l3
      · by_cases hb : lo < z.length
        · obtain ⟨c, e1, e2⟩ := hk lo hb
          rw [e2] at l3
          have := (hin c).mpr (h c (List.mem_of_getElem? e1))
          rw [this] at l3
          cases l3
        · omega
    have : hi = lo := by omega
    subst this
    have hd : (Builtin.Str.strSub z hi hi).cps.toList = [] := by rw [PySem.StrLaws.strSub_toList]; simp
    have : (Builtin.Str.strSub z hi hi).cps = #[] := by
      apply Array.ext'
      rw [hd]
    show (⟨(Builtin.Str.strSub z hi hi).cps⟩ : Str) = _
    rw [this]
theorem ok_is_name (T : TX K mg a) (D : FDS K a d) : FnOk P w K mg base CX0 1 a.a_is_name d.a_is_name ["value"] (spIsName K) := by
  refine D.F_is_name.ok sc_is_name (fun vs H Q E h => ?_) (fun cdv A outer s H vs Q E hr h => ?_)
  · obtain ⟨v, d, rfl, _⟩ := h
    rfl
  · obtain ⟨v, d, rfl, hd, hz, q⟩ := h
    refine ⟨_, (pss_cons (ps_if (PW.pt (pw_or (pt_not (pt_val (pe_callB call_isi (by rfl) T.b_isinstance (by decide +kernel) (pa_cons (pv 0) (pa_cons (pe_bltn (v := .ty "str") (by rfl) T.b_str (by decide +kernel) rfl) pa_nil))))) (pw_or1 (pt_not (pt_chain op_le op_le pe_int (pe_callB call_len_str (by rfl) T.b_len (by decide +kernel) (pa_cons (pv 0) pa_nil)) (pe_glob (v := .int 8) rfl T.g_LONGEST_NAME ⟨_, rfl⟩)))))) (pss_one (ps_ret pe_bl)) pss_nil)
        (pss_one (ps_ret (pe_and (pe_cmpR op_in_sign (pe_ix ix_str (pv 0) pe_int (fun _ _ => rfl)) (pe_glob (v := .str letters) rfl T.g_LETTERS ⟨_, rfl⟩) rfl) (pe_one (pe_cmpR op_eq (pe_m1 PySem.F.slot_str_strip PySem.F.type_str_strip mt_stripChars (pv 0) (pe_glob (v := .str signs) rfl T.g_SIGNS ⟨_, rfl⟩)) pe_str (nomark _))))))), ?_⟩
    refine ⟨_, rfl, v, _, _, _, _, rfl, .ty "str", dp_ty hd, kit_str d, _, rfl, ?_⟩
    cases hd with
    | str z =>
      have hz : z.length ≤ sizeLine := hz
      have hlen : z.cps.toList.length = z.length := by show _ = z.cps.size; simp
      refine ⟨_, rfl, z, rfl, hz, 1, _, rfl, rfl, _, rfl, ?_⟩
      by_cases h1 : (1 : Int) ≤ (z.length : Int)
      · rw [decide_eq_true h1]
        refine ⟨_, 8, rfl, rfl, _, rfl, ?_⟩
        by_cases h2 : (z.length : Int) ≤ 8
        · rw [decide_eq_true h2]
          obtain ⟨c, cs, hc⟩ : ∃ c cs, z.cps.toList = c :: cs := by
            cases e : z.cps.toList with
            | nil =>
              rw [e] at hlen
              simp at hlen
              omega
            | cons c cs => exact ⟨c, cs, rfl⟩
          refine ⟨_, rfl, z, 0, c, rfl, rfl, hz, at_lit (n := 0) rfl (show z.cps.toList[0]? = some c by rw [hc]; rfl), c, letters, rfl, rfl, _, rfl, ?_⟩
          have hv : isNameS z = (decide (c ∈ letters.cps.toList) && z.cps.toList.all fun c => decide (c ∈ signs.cps.toList)) := by
            unfold isNameS
            rw [decide_eq_true (show 1 ≤ z.length ∧ z.length ≤ 8 by omega), hc]
            rfl
          by_cases h3 : c ∈ letters.cps.toList
          · rw [decide_eq_true h3]
            refine iteT ⟨_, rfl, ⟨_, rfl⟩, z, signs, rfl, rfl, hz, rfl, ex_q q ?_ (Ex.refl _)⟩
            show isNameS z = decide (V.str (Txt.stripChars z signs) = V.str (⟨#[]⟩ : Str))
            rw [hv, decide_eq_true h3]
            apply Bool.eq_iff_iff.mpr
            rw [Bool.true_and, decide_eq_true_eq, List.all_eq_true]
            refine ⟨fun g => ?_, fun g => ?_⟩
            · rw [(strip_all z signs).mpr fun c h => of_decide_eq_true (g c h)]
            · intro c h
              exact decide_eq_true ((strip_all z signs).mp (V.str.inj g) c h)
          · rw [decide_eq_false h3]
            exact iteF (ex_q q (show isNameS z = false by rw [hv, decide_eq_false h3]; rfl) (Ex.refl _))
        · rw [decide_eq_false h2]
          refine ex_q q (show isNameS z = false from ?_) (Ex.refl _)
          unfold isNameS
          rw [decide_eq_false (show ¬ (1 ≤ z.length ∧ z.length ≤ 8) by omega)]
          rfl
      · rw [decide_eq_false h1]
        refine ⟨false, rfl, ex_q q (show isNameS z = false from ?_) (Ex.refl _)⟩
        unfold isNameS
        rw [decide_eq_false (show ¬ (1 ≤ z.length ∧ z.length ≤ 8) by omega)]
        rfl
    | _ => exact q H (Ex.refl _)
theorem ok_is_integer (T : TX K mg a) (D : FDS K a d) : FnOk P w K mg base CX0 1 a.a_is_integer d.a_is_integer ["value"] (spIsInt K) := by
  refine D.F_is_integer.ok sc_is_integer (fun vs H Q E h => ?_) (fun cdv A outer s H vs Q E hr h => ?_)
  · obtain ⟨v, d, rfl, _⟩ := h
    rfl
  · obtain ⟨v, d, rfl, hd, _, q⟩ := h
    refine ⟨_, (pss_one (ps_ret (pe_and (pe_callB call_isi (by rfl) T.b_isinstance (by decide +kernel) (pa_cons (pv 0) (pa_cons (pe_bltn (v := .ty "int") (by rfl) T.b_int (by decide +kernel) rfl) pa_nil))) (pe_one (pe_not (pe_callB call_isi (by rfl) T.b_isinstance (by decide +kernel) (pa_cons (pv 0) (pa_cons (pe_bltn (v := .ty "bool") (by rfl) T.b_bool (by decide +kernel) rfl) pa_nil)))))))), ?_⟩
    refine ⟨_, rfl, v, _, _, _, _, rfl, .ty "int", dp_ty hd, kit_int d, _, rfl, ?_⟩
    cases e : isIntLikeD d with
    | false => exact iteF (ex_q q (by show (isIntLikeD d && _) = false; rw [e]; rfl) (Ex.refl _))
    | true =>
      refine iteT ⟨_, rfl, v, _, _, _, _, rfl, .ty "bool", dp_ty hd, kit_bool d, _, rfl, ?_⟩
      exact ex_q q (by show (isIntLikeD d && _) = _; rw [e]; rfl) (Ex.refl _)
theorem ok_is_bound (T : TX K mg a) (D : FDS K a d) : FnOk P w K mg base CX0 2 a.a_is_bound d.a_is_bound ["value"] (spIsBound K) := by
  have G_is_name : FnOk P w K mg base CX0 1 a.a_is_name d.a_is_name ["value"] (spIsName K) := ok_is_name T D
  have G_is_integer : FnOk P w K mg base CX0 1 a.a_is_integer d.a_is_integer ["value"] (spIsInt K) := ok_is_integer T D
  refine D.F_is_bound.ok sc_is_bound (fun vs H Q E h => ?_) (fun cdv A outer s H vs Q E hr h => ?_)
  · obtain ⟨v, d, rfl, _⟩ := h
    rfl
  · obtain ⟨v, d, rfl, hd, hz, q⟩ := h
    refine ⟨_, (pss_cons (ps_if (PW.pt (pw_or (pt_not (pt_val (pe_callB call_isi (by rfl) T.b_isinstance (by decide +kernel) (pa_cons (pv 0) (pa_cons (pe_bltn (v := .ty "tuple") (by rfl) T.b_tuple (by decide +kernel) rfl) pa_nil))))) (pw_or1 (pt_cmpR op_ne (pe_callB call_len_seq (by rfl) T.b_len (by decide +kernel) (pa_cons (pv 0) pa_nil)) pe_int (nomark _))))) (pss_one (ps_ret pe_bl)) pss_nil)
        (pss_cons (ps_asg (pv 0) (pg_tup rfl (pgs_cons (pg_name (i := 1) sc_is_bound.nd rfl (Or.inl rfl)) (pgs_cons (pg_name (i := 2) sc_is_bound.nd rfl (Or.inl rfl)) (pgs_cons (pg_name (i := 3) sc_is_bound.nd rfl (Or.inl rfl)) (pgs_cons (pg_name (i := 4) sc_is_bound.nd rfl (Or.inl rfl)) pgs_nil))))))
        (pss_cons (ps_if (PW.pt (pw_or (pt_not (pt_val (pe_callB call_isi (by rfl) T.b_isinstance (by decide +kernel) (pa_cons (pv 1) (pa_cons (pe_bltn (v := .ty "str") (by rfl) T.b_str (by decide +kernel) rfl) pa_nil))))) (pw_or1 (pt_cmpR op_ne (pv 1) pe_str (nomark _))))) (pss_one (ps_ret pe_bl)) pss_nil)
        (pss_one (ps_ret (pe_and (pe_call G_is_name (hr.mono (by decide)) rfl T.f_is_name T.k_is_name D.B_is_name .nil pass0 (pa_cons (pv 2) pa_nil)) (pe_and (pe_call G_is_name (hr.mono (by decide)) rfl T.f_is_name T.k_is_name D.B_is_name .nil pass0 (pa_cons (pv 3) pa_nil)) (pe_and (pe_cmpR op_ne (pv 2) (pv 3) (nomark _)) (pe_one (pe_call G_is_integer (hr.mono (by decide)) rfl T.f_is_integer T.k_is_integer D.B_is_integer .nil pass0 (pa_cons (pv 4) pa_nil))))))))))), ?_⟩
    refine ⟨_, rfl, v, _, _, _, _, rfl, .ty "tuple", dp_ty hd, kit_tuple d, _, rfl, ?_⟩
    cases hd with
    | @tup a xs ds ha hall =>
      have hl := DpAll.len hall
      refine ⟨_, rfl, a, xs, rfl, .inr ha, rfl, _, rfl, ?_⟩
      by_cases h4 : xs.length = 4
      · refine iteNS (by rw [h4]; rfl) ?_
        obtain ⟨v1, v2, v3, v4, rfl⟩ : ∃ v1 v2 v3 v4, xs = [v1, v2, v3, v4] := by
          match xs, h4 with
          | [v1, v2, v3, v4], _ => exact ⟨v1, v2, v3, v4, rfl⟩
        cases hall with
        | cons g1 r1 =>
        cases r1 with
        | cons g2 r2 =>
        cases r2 with
        | cons g3 r3 =>
        cases r3 with
        | cons g4 r4 =>
        cases r4
        rename_i d1 d2 d3 d4
        have z2 : szS d2 := hz d2 (by simp)
        have z3 : szS d3 := hz d3 (by simp)
        refine ⟨_, rfl, a, _, rfl, ha, rfl, _, _, rfl, _, _, rfl, _, _, rfl, _, _, rfl, rfl, ?_⟩
        refine ⟨_, rfl, v1, _, _, _, _, rfl, .ty "str", dp_ty g1, kit_str d1, _, rfl, ?_⟩
        cases g1 with
        | str wd =>
          refine ⟨_, rfl, rfl, _, rfl, ?_⟩
          by_cases hw : wd = ("most" : Str)
          · refine iteNS (by rw [hw]) ?_
            subst hw
            -- is_name(first) and is_name(second) and first != second and is_integer(limit)
            refine ⟨_, rfl, v2, d2, rfl, g2, z2, fun H1 e1 => ⟨_, rfl, ?_⟩⟩
            cases e2 : isNameD d2 with
            | false => exact iteF (ex_q q (by rw [isBound4, e2]; simp) e1)
            | true =>
              refine iteT ⟨_, rfl, v3, d3, rfl, Dp.ex e1 g3, z3, fun H2 e3 => ⟨_, rfl, ?_⟩⟩
              cases g2 with
              | str x =>
                have e2' : isNameS x = true := e2
                cases e4 : isNameD d3 with
                | false => exact iteF (ex_q q (by rw [isBound4, e4]; simp) (e1.trans e3))
                | true =>
                  cases g3 with
                  | str y =>
                    have e4' : isNameS y = true := e4
                    refine iteT ⟨_, rfl, _, rfl, rfl, _, rfl, ?_⟩
                    by_cases hxy : x = y
                    · subst hxy
                      have e5 : decide (V.str x = V.str x) = true := decide_eq_true rfl
                      rw [e5]
                      exact iteF (ex_q q (by rw [isBound4, show sameD (.str x) (.str x) = true from decide_eq_true rfl]; simp) (e1.trans e3))
                    · have e5 : decide (V.str x = V.str y) = false := decide_eq_false fun z => hxy (V.str.inj z)
                      rw [e5]
                      refine iteT ⟨_, rfl, v4, d4, rfl, Dp.ex (e1.trans e3) g4, trivial, fun H3 e6 => ?_⟩
                      refine ex_q q ?_ ((e1.trans e3).trans e6)
                      rw [isBound4, e2, e4, show sameD (.str x) (.str y) = false from decide_eq_false hxy, (by simp [isMostD] : isMostD (.str ("most" : Str)) = true)]
                      rfl
                  | _ => cases e4
              | _ => cases e2
          · refine iteT' ?_ (ex_q q ?_ (Ex.refl _))
            · have e5 : decide (V.str wd = V.str ("most" : Str)) = false := decide_eq_false fun z => hw (V.str.inj z)
              rw [e5]
              rfl
            · rw [isBound4, show isMostD (.str wd) = false from decide_eq_false hw]
              rfl
        | _ => exact ex_q q rfl (Ex.refl _)
      · refine iteT' ?_ (ex_q q ?_ (Ex.refl _))
        · have e5 : decide (V.int (xs.length : Nat) = V.int 4) = false := decide_eq_false fun z => h4 (by have := V.int.inj z; omega)
          rw [e5]
          rfl
        · have l4 : ds.length ≠ 4 := by omega
          show isBoundD (.tuple ds) = false
          match ds, l4 with
          | [], _ => rfl
          | [_], _ => rfl
          | [_, _], _ => rfl
          | [_, _, _], _ => rfl
          | [_, _, _, _], h => exact absurd rfl h
          | _ :: _ :: _ :: _ :: _ :: _, _ => rfl
    | _ => exact ex_q q rfl (Ex.refl _)
end
end M6
set_option maxRecDepth 100000
set_option maxHeartbeats 4000000
namespace M6
open PySem L2 Evl GP HR SC
inductive Lit where
  | yn (b : Bool) (x : Str)
  | most (x y : Str) (k : Int)
deriving DecidableEq
def ynS (b : Bool) : Str := if b = true then "yes" else "no"
def litD : Lit → PyData
  | .yn b x => .tuple [.str (ynS b), .str x]
  | .most x y k => .tuple [.str "most", .str x, .str y, .int k]
def litV : Lit → List V
  | .yn b x => [.str (ynS b), .str x]
  | .most x y k => [.str "most", .str x, .str y, .int k]
/-- no drawn integer is greater -/
def B0 : Nat := 2 ^ 1000
def LitOk : Lit → Prop
  | .yn _ x => isNameS x = true
  | .most x y k => isNameS x = true ∧ isNameS y = true ∧ x ≠ y ∧ k.natAbs ≤ B0 + 100
def oppL : Lit → Lit
  | .yn b x => .yn (!b) x
  | .most x y k => .most y x (-k - 1)
def ltS (x y : Str) : Bool := decide (x.cps.toList < y.cps.toList)
def atomL : Lit → Lit
  | .yn _ x => .yn true x
  | .most x y k => if ltS x y = true then .most x y k else .most y x (-k - 1)
theorem lit_dp {K : PySem.W.Frag} {H : Hp} {p : Addr} {l : Lit} (h : SqT K H p (litV l)) : Dp K H (.ref p) (litD l) := by
  cases l with
  | yn b x => exact .tup h (.cons (.str _) (.cons (.str _) .nil))
  | most x y k => exact .tup h (.cons (.str _) (.cons (.str _) (.cons (.str _) (.cons (.int _) .nil))))
theorem name_len {x : Str} (h : isNameS x = true) : x.length ≤ 8 := by
  unfold isNameS at h
  have := of_decide_eq_true (Bool.and_eq_true_iff.mp h).1
  exact this.2
theorem lit_sz {l : Lit} (h : LitOk l) : szD (litD l) := by
  cases l with
  | yn b x =>
    have := name_len h
    intro d hd
    simp only [List.mem_cons, List.not_mem_nil, or_false] at hd
    rcases hd with rfl | rfl
    · show (ynS b).length ≤ sizeLine
      cases b <;> decide +kernel
    · exact Nat.le_trans this (by decide)
  | most x y k =>
    obtain ⟨h1, h2, _⟩ := h
    intro d hd
    simp only [List.mem_cons, List.not_mem_nil, or_false] at hd
    rcases hd with rfl | rfl | rfl | rfl
    · show ("most" : Str).length ≤ sizeLine
      decide +kernel
    · exact Nat.le_trans (name_len h1) (by decide)
    · exact Nat.le_trans (name_len h2) (by decide)
    · exact True.intro
theorem bound_lit {l : Lit} (h : LitOk l) : isBoundD (litD l) = match l with | .yn _ _ => false | .most _ _ _ => true := by
  cases l with
  | yn b x => rfl
  | most x y k =>
    obtain ⟨h1, h2, h3, _⟩ := h
    show isBoundD (.tuple [.str "most", .str x, .str y, .int k]) = true
    rw [isBound4, show isNameD (.str x) = true from h1, show isNameD (.str y) = true from h2, show sameD (.str x) (.str y) = false from decide_eq_false h3, (by simp [isMostD] : isMostD (.str ("most" : Str)) = true)]
    rfl
theorem iteF' {c : Bool} {A B : Prop} (hc : c = false) (h : B) : if c = true then A else B := by
  rw [hc, if_neg Bool.false_ne_true]
  exact h
/-- the values are literals, each its own tuple -/
structure Lits (H : Hp) (vs : List V) (ls : List Lit) : Prop where
  len : vs.length = ls.length
  at_ : ∀ (i : Nat) (l : Lit), ls[i]? = some l → ∃ t, vs[i]? = some (.ref t) ∧ H t = some (.tup (litV l))
theorem Lits.nil {H : Hp} : Lits H [] [] := ⟨rfl, fun i q h => by simp at h⟩
theorem Lits.ex {H H' : Hp} {vs : List V} {ls : List Lit} (A : Lits H vs ls) (e : Ex H H') : Lits H' vs ls := ⟨A.len, fun i q h => by
  obtain ⟨t, h1, h2⟩ := A.at_ i q h
  exact ⟨t, h1, e _ _ h2⟩⟩
theorem Lits.dp {K : PySem.W.Frag} {H : Hp} : ∀ {vs : List V} {ls : List Lit}, Lits H vs ls → DpAll K H vs (ls.map litD)
  | [], [], _ => .nil
  | [], _ :: _, A => by have := A.len; simp at this
  | _ :: _, [], A => by have := A.len; simp at this
  | v :: vs, l :: ls, A => by
    obtain ⟨t, h1, h2⟩ := A.at_ 0 l rfl
    obtain rfl : v = .ref t := Option.some.inj h1
    exact .cons (lit_dp (SqT.of h2)) (Lits.dp ⟨by have := A.len; simpa using this, fun i r g => A.at_ (i + 1) r g⟩)
theorem name_low {x : Str} (h : isNameS x = true) : ∀ c ∈ x.cps.toList, c < 16 ^ 8 := by
  unfold isNameS at h
  have h2 := (Bool.and_eq_true_iff.mp (Bool.and_eq_true_iff.mp h).2).2
  have h3 : ∀ c ∈ signs.cps.toList, c < 16 ^ 8 := by decide +kernel
  exact fun c hc => h3 c (of_decide_eq_true (List.all_eq_true.mp h2 c hc))
theorem rp_name {x : Str} (h : isNameS x = true) : Rp 0 2000 (.str x) := (Rp.str (name_low h)).mono (Nat.le_refl _) (by have := name_len h; omega)
theorem rp_lit {l : Lit} (h : LitOk l) : Rp 1 8010 (litD l) := by
  cases l with
  | yn b x =>
    refine (Rp.tuple (n := 0) (c := 2000) fun d hd => ?_).mono (Nat.le_refl _) (by show 2 * 2002 + 2 ≤ _; decide)
    simp only [List.mem_cons, List.not_mem_nil, or_false] at hd
    rcases hd with rfl | rfl
    · refine (Rp.str ?_).mono (Nat.le_refl _) ?_ <;> cases b <;> decide +kernel
    · exact rp_name h
  | most x y k =>
    obtain ⟨h1, h2, _, h4⟩ := h
    refine (Rp.tuple (n := 0) (c := 2000) fun d hd => ?_).mono (Nat.le_refl _) (by show 4 * 2002 + 2 ≤ _; decide)
    simp only [List.mem_cons, List.not_mem_nil, or_false] at hd
    rcases hd with rfl | rfl | rfl | rfl
    · refine (Rp.str ?_).mono (Nat.le_refl _) ?_ <;> decide +kernel
    · exact rp_name h1
    · exact rp_name h2
    · have lg : k.natAbs.log2 < 1001 := PySem.Flt.log2_lt_of (by decide) (Nat.lt_of_le_of_lt h4 (by unfold B0; decide +kernel))
      exact (Rp.int (Nat.lt_trans lg (by decide))).mono (Nat.le_refl _) (by decide)
theorem rp_lits {ls : List Lit} (h : ∀ l ∈ ls, LitOk l) (few : ls.length ≤ 1000) : Rp 2 8012002 (.tuple (ls.map litD)) ∧ Rp 2 8012002 (.list (ls.map litD)) := by
  have g : ∀ d ∈ ls.map litD, Rp 1 8010 d := fun d hd => by
    obtain ⟨l, hl, rfl⟩ := List.mem_map.mp hd
    exact rp_lit (h l hl)
  exact ⟨(Rp.tuple g).mono (Nat.le_refl _) (by rw [List.length_map]; omega), (Rp.list g).mono (Nat.le_refl _) (by rw [List.length_map]; omega)⟩
theorem Lits.get {H : Hp} {vs : List V} {ls : List Lit} (A : Lits H vs ls) {i : Nat} {v : V} (h : vs[i]? = some v) : ∃ t l, v = .ref t ∧ ls[i]? = some l ∧ H t = some (.tup (litV l)) := by
  have hi : i < ls.length := by rw [← A.len]; exact (List.getElem?_eq_some_iff.mp h).1
  obtain ⟨t, h1, h2⟩ := A.at_ i ls[i] (List.getElem?_eq_getElem hi)
  exact ⟨t, ls[i], Option.some.inj (h.symm.trans h1), List.getElem?_eq_getElem hi, h2⟩

theorem sl_tupK {X : Cx} {K : PySem.W.Frag} (h : X.K = K := by rfl) : SlR X (rSlA K) := by
  subst h
  exact sl_tupA
theorem pi_tupK {X : Cx} {K : PySem.W.Frag} {tg l : Expr} {tl : TE} (he : PE X l tl) (h : X.K = K := by rfl) : PI X tg l (iTup K tl) := by
  subst h
  exact pi_tup he
def namesOf : Lit → List Str
  | .yn _ _ => []
  | .most x y _ => [x, y]
theorem sub_len : ∀ {l m : List Str}, l.Nodup → (∀ z ∈ l, z ∈ m) → l.length ≤ m.length := by
  intro l
  induction l with
  | nil => exact fun _ _ => Nat.zero_le _
  | cons x l ih =>
    intro m nd h
    obtain ⟨nx, nd'⟩ := List.nodup_cons.mp nd
    have hx := h x List.mem_cons_self
    have := ih (m := m.erase x) nd' fun z hz => (List.mem_erase_of_ne fun e => nx (by rw [← e]; exact hz)).mpr (h z (List.mem_cons_of_mem _ hz))
    rw [List.length_erase_of_mem hx] at this
    have := List.length_pos_of_mem hx
    rw [List.length_cons]
    omega
def spMoments (K : PySem.W.Frag) : Sp := fun vs H Q _ => ∃ (a : Addr) (us : List V) (ls : List Lit) (pool : List Str), vs = [.ref a] ∧ SqL K H a us ∧ Lits H us ls ∧ (∀ l ∈ ls, LitOk l) ∧ pool.length ≤ 50 ∧ (∀ l ∈ ls, ∀ z ∈ namesOf l, z ∈ pool) ∧
  ∀ u ys H', Ex H H' → H' u = some (.tup (ys.map V.str)) → ys.Nodup → PyProof.Rows.sortedS ys = true → (∀ z, z ∈ ys ↔ ∃ l ∈ ls, z ∈ namesOf l) → Q (.ref u) H'
section
variable {P : Program} {w : World} {K : PySem.W.Frag} {mg : Str → Option Value} {base : Heap} {a : Ad} {d : Fd}
theorem ok_moments_of (T : TX K mg a) (D : FDS K a d) : FnOk P w K mg base CX0 3 a.a_moments_of d.a_moments_of ["literals"] (spMoments K) := by
  have G_is_bound : FnOk P w K mg base CX0 2 a.a_is_bound d.a_is_bound ["value"] (spIsBound K) := ok_is_bound T D
  refine D.F_moments_of.ok sc_moments_of (fun vs H Q E h => ?_) (fun cdv A outer s H vs Q E hr h => ?_)
  · obtain ⟨a, us, ls, pool, rfl, _⟩ := h
    rfl
  · obtain ⟨a, us, ls, pool, rfl, ha, L, ok, p50, sub, fin⟩ := h
    refine ⟨_, (pss_one (ps_ret (pe_callTy call_tuple_of (by rfl) T.b_tuple (by decide +kernel) (pa_cons (pe_callB (TSet.cr_sortedX rfl) (by rfl) T.b_sorted (by decide +kernel) (pa_cons (SC.pe_sc2 (own := [("literal", 1), ("name", 2)]) (vs1 := [2]) (g := gName 1) (g1 := gName 2) (tt1 := tYes) rfl sc_moments_of.nd (pi_list (pv 0)) (blkOk_by (N := ["literals", "literal", "name"]) (sc := defScope s_moments_of) (by decide +kernel)) (by decide) (fun _ _ _ _ _ => (pg_name (i := 1) sc_moments_of.nd rfl (Or.inl rfl))) (fun _ _ _ _ _ => (pts_one (pt_val (pe_call G_is_bound (hr.mono (by decide)) rfl T.f_is_bound T.k_is_bound D.B_is_bound .nil pass0 (pa_cons (pv 1) pa_nil))))) (fun _ _ _ _ _ => (pi_tupK (K := K) (pe_slice (sl_tupK (K := K)) (pv 1) (po_some pe_int) (po_some pe_int)))) (fun _ _ _ _ _ => (pg_name (i := 2) sc_moments_of.nd rfl (Or.inl rfl))) (fun _ _ _ _ _ => pts_nil) (fun _ _ _ _ _ => (pv 2))) pa_nil)) pa_nil)))), ?_⟩
    have lu := L.len
    refine ⟨_, rfl, a, rfl, ⟨_, ha⟩, fun D1 hD1 => ⟨fun i m H' => m = us.length - i ∧ i ≤ us.length ∧ Ex H H' ∧ ∃ l : List Str, H' D1 = some (TSet.SetX P w D1 l) ∧ l.Nodup ∧ ∀ z, z ∈ l ↔ ∃ q ∈ ls.take i, z ∈ namesOf q, ⟨_, rfl, Nat.zero_le _, Ex.new hD1, [], upd_same, List.nodup_nil, fun z => by simp⟩, ?_⟩⟩
    rintro i m H2 ⟨rfl, hi, e2, l, hl, nd, ml⟩
    have small : ∀ (l : List Str) (i : Nat), l.Nodup → (∀ z ∈ l, ∃ q ∈ ls, z ∈ namesOf q) → l.length ≤ 50 := fun l i nd h => Nat.le_trans (sub_len nd fun z hz => by
      obtain ⟨q, hq, hz⟩ := h z hz
      exact sub q hq z hz) p50
    rcases Nat.lt_or_eq_of_le hi with lt | rfl
    · refine .inr ⟨walk_list.goes i H2 lt (ex_l e2 ha), fun H' => Ex H H' ∧ ∃ l : List Str, H' D1 = some (TSet.SetX P w D1 l) ∧ l.Nodup ∧ ∀ z, z ∈ l ↔ ∃ q ∈ ls.take (i + 1), z ∈ namesOf q, fun H' h => ⟨_, by omega, rfl, lt, h⟩, fun v H3 hy => ?_⟩
      obtain ⟨rfl, hv⟩ := walk_list.yields i H2 v H3 lt (ex_l e2 ha) hy
      obtain ⟨t, q, rfl, hq, ht⟩ := L.get hv
      have okq := ok q (List.mem_of_getElem? hq)
      have tk : ls.take (i + 1) = ls.take i ++ [q] := by rw [List.take_add_one, hq]; rfl
      have mq : ∀ z, (∃ r ∈ ls.take (i + 1), z ∈ namesOf r) ↔ (∃ r ∈ ls.take i, z ∈ namesOf r) ∨ z ∈ namesOf q := fun z => by
        rw [tk]
        constructor
        · rintro ⟨r, hr, h⟩
          rcases List.mem_append.mp hr with hr | hr
          · exact .inl ⟨r, hr, h⟩
          · rw [List.mem_singleton.mp hr] at h
            exact .inr h
        · rintro (⟨r, hr, h⟩ | h)
          · exact ⟨r, List.mem_append_left _ hr, h⟩
          · exact ⟨q, List.mem_append_right _ (List.mem_singleton.mpr rfl), h⟩
      unfold gName
      dsimp only
      refine ⟨rfl, _, rfl, .ref t, litD q, rfl, lit_dp (SqT.of (e2 _ _ ht)), lit_sz okq, fun H4 e4 => ⟨_, rfl, ?_⟩⟩
      rw [bound_lit okq]
      cases q with
      | yn b x => exact iteF' rfl ⟨e2.trans e4, l, e4 _ _ hl, nd, fun z => by rw [mq z, ml z]; simp [namesOf]⟩
      | most x y k =>
        refine iteT' rfl ⟨_, rfl, 1, rfl, 3, rfl, t, _, rfl, SqT.of (e4 _ _ (e2 _ _ ht)), fun z => absurd z.1 (by decide : ¬ (HT.sIx 4 0 (some 1) = 0)), fun _ p2 hp2 => ?_⟩
        have x2 := Ex.new (o := .tup [.str x, .str y]) hp2
        have h2 : upd H4 p2 (.tup (cutV (litV (.most x y k)) (some 1) (some 3))) p2 = some (.tup [.str x, .str y]) := upd_same
        have xx : Ex H (upd H4 p2 (.tup (cutV (litV (.most x y k)) (some 1) (some 3)))) := (e2.trans e4).trans x2
        have hl4 : upd H4 p2 (.tup (cutV (litV (.most x y k)) (some 1) (some 3))) D1 = some (TSet.SetX P w D1 l) := x2 _ _ (e4 _ _ hl)
        generalize upd H4 p2 (.tup (cutV (litV (.most x y k)) (some 1) (some 3))) = H5 at *
        refine ⟨p2, rfl, ⟨_, SqT.of h2⟩, fun j m H' => m = 2 - j ∧ j ≤ 2 ∧ Ex H H' ∧ H' p2 = some (.tup [.str x, .str y]) ∧ ∃ l : List Str, H' D1 = some (TSet.SetX P w D1 l) ∧ l.Nodup ∧ ∀ z, z ∈ l ↔ (∃ q ∈ ls.take i, z ∈ namesOf q) ∨ z ∈ [x, y].take j, ⟨_, rfl, Nat.zero_le _, xx, h2, l, hl4, nd, fun z => by rw [ml z]; simp⟩, ?_⟩
        rintro j m H6 ⟨rfl, hj, e6, g6, l6, hl6, nd6, ml6⟩
        rcases Nat.lt_or_eq_of_le hj with ltj | rfl
        · refine .inr ⟨(walk_tup (xs := [V.str x, V.str y])).goes j H6 ltj (SqT.of g6), fun H' => Ex H H' ∧ H' p2 = some (.tup [.str x, .str y]) ∧ ∃ l : List Str, H' D1 = some (TSet.SetX P w D1 l) ∧ l.Nodup ∧ ∀ z, z ∈ l ↔ (∃ q ∈ ls.take i, z ∈ namesOf q) ∨ z ∈ [x, y].take (j + 1), fun H' h => ⟨_, by omega, rfl, ltj, h⟩, fun v H7 hy => ?_⟩
          obtain ⟨rfl, hv⟩ := (walk_tup (xs := [V.str x, V.str y])).yields j H6 v H7 ltj (SqT.of g6) hy
          obtain ⟨z0, hz0, rfl⟩ : ∃ z0 : Str, [x, y][j]? = some z0 ∧ v = .str z0 := by
            have : j = 0 ∨ j = 1 := by omega
            rcases this with rfl | rfl
            · exact ⟨x, rfl, (Option.some.inj hv).symm⟩
            · exact ⟨y, rfl, (Option.some.inj hv).symm⟩
          unfold tYes
          dsimp only
          refine ⟨rfl, iteT' rfl ⟨_, rfl, l6, z0, rfl, hl6, ?_, fun l' nd' ml' _ => ?_⟩⟩
          · have h50 : l6.length ≤ 50 := Nat.le_trans (sub_len nd6 fun z hz => by
              rcases (ml6 z).mp hz with ⟨r, hr, h⟩ | h
              · exact sub r (List.mem_of_mem_take hr) z h
              · exact sub _ (List.mem_of_getElem? hq) z (List.mem_of_mem_take h)) p50
            omega
          · have nD : p2 ≠ D1 := fun e => by rw [e, hl6] at g6; cases g6
            refine ⟨e6.mut hD1, by rw [upd_ne nD]; exact g6, l', upd_same, nd', fun z => ?_⟩
            rw [ml' z, ml6 z, List.take_add_one, hz0]
            simp only [Option.toList_some, List.mem_append, List.mem_singleton]
            constructor
            · rintro (h | h | h)
              · exact .inr (.inr h)
              · exact .inl h
              · exact .inr (.inl h)
            · rintro (h | h | h)
              · exact .inr (.inl h)
              · exact .inr (.inr h)
              · exact .inl h
        · exact .inl ⟨(walk_tup (xs := [V.str x, V.str y])).stops H6 (SqT.of g6), e6, l6, hl6, nd6, fun z => by rw [ml6 z, mq z]; rfl⟩
    · refine .inl ⟨walk_list.stops H2 (ex_l e2 ha), D1, l, rfl, hl, ?_, fun ys p pm so hp => ⟨p, _, rfl, .inl ⟨SqL.of upd_same, fun u hu => ?_⟩⟩⟩
      · rw [lu, List.take_length] at ml
        have := small l 0 nd fun z hz => (ml z).mp hz
        omega
      · rw [lu, List.take_length] at ml
        exact fin u ys _ (e2.trans ((Ex.new hp).trans (Ex.new hu))) upd_same (pm.nodup_iff.mpr nd) so fun z => by rw [pm.mem_iff, ml z]
end
theorem inV_strs {x : Str} {ns : List Str} : inV (.str x) (ns.map V.str) = decide (x ∈ ns) := by
  rw [Bool.eq_iff_iff, decide_eq_true_iff]
  unfold inV
  rw [List.any_map, List.any_eq_true]
  constructor
  · rintro ⟨q, hq, e⟩
    have : (q == x) = true := e
    rw [← eq_of_beq this]
    exact hq
  · exact fun h => ⟨x, h, (beq_self_eq_true x : (x == x) = true)⟩
theorem flat_strs {ns : List Str} : (ns.map V.str).all flatV = true := by
  rw [List.all_map, List.all_eq_true]
  exact fun _ _ => rfl
theorem fresh_back {H H' : Hp} {p : Addr} (e : Ex H H') (h : H' p = none) : H p = none := by
  cases g : H p with
  | none => rfl
  | some o =>
    have := e p o g
    rw [h] at this
    cases this
theorem merge_new : ∀ (more acc : List (L2.Key × V)), ((acc ++ more).map Prod.fst).Nodup → mergeK acc more = acc ++ more := by
  intro more
  induction more with
  | nil => intro acc _; rw [List.append_nil]; rfl
  | cons x r ih =>
    intro acc nd
    have nx : ¬ (acc.any fun kv => decide (kv.1 = x.1)) = true := fun h => by
      obtain ⟨kv, hk, e⟩ := List.any_eq_true.mp h
      have e := of_decide_eq_true e
      rw [List.map_append, List.map_cons] at nd
      exact (List.nodup_append.mp nd).2.2 kv.1 (List.mem_map_of_mem hk) x.1 List.mem_cons_self e
    have e : putK acc x.1 x.2 = acc ++ [x] := by
      unfold putK
      rw [if_neg nx]
    show mergeK (putK acc x.1 x.2) r = _
    rw [e, ih (acc ++ [x]) (by rwa [List.append_assoc]), List.append_assoc]
    rfl
end M6
set_option maxRecDepth 100000
set_option maxHeartbeats 8000000
namespace M6
open PySem L2 Evl GP HR SC
theorem fnOr {P : Program} {w : World} {K : PySem.W.Frag} {mg : Str → Option Value} {base : Heap} {CX : CXT} {k : Nat} {f : Addr} {fd : FuncData} {ps : List Str} {s1 s2 : Sp} (F1 : FnOk P w K mg base CX k f fd ps s1) (F2 : FnOk P w K mg base CX k f fd ps s2) : FnOk P w K mg base CX k f fd ps (fun vs H Q E => s1 vs H Q E ∨ s2 vs H Q E) :=
  ⟨fun vs H Q E h => h.elim (F1.len vs H Q E) (F2.len vs H Q E), fun A outer s H args us vs Q E hr e0 b r h => h.elim (F1.run A outer s H args us vs Q E hr e0 b r) (F2.run A outer s H args us vs Q E hr e0 b r)⟩
/-- a dict, or a tuple of a dict and something -/
def OddV (H : Hp) (v : V) : Prop := (∃ p kvs, v = .ref p ∧ H p = some (.dK kvs)) ∨ ∃ t p kvs x, v = .ref t ∧ H t = some (.tup [.ref p, x]) ∧ H p = some (.dK kvs)
theorem OddV.ex {H H' : Hp} {v : V} (h : OddV H v) (e : Ex H H') : OddV H' v := h.imp (fun ⟨p, kvs, h1, h2⟩ => ⟨p, kvs, h1, e _ _ h2⟩) (fun ⟨t, p, kvs, x, h1, h2, h3⟩ => ⟨t, p, kvs, x, h1, e _ _ h2, e _ _ h3⟩)
def spOdd (b : V) : Sp := fun vs H Q _ => ∃ v, vs = [v] ∧ OddV H v ∧ ∀ H', Ex H H' → Q b H'
def isYN : PyData → Bool | .str w => decide (w = ("yes" : Str)) || decide (w = ("no" : Str)) | _ => false
def isPairL : PyData → Bool
  | .tuple [w, n] => isYN w && isNameD n
  | _ => false
def isLitD (d : PyData) : Bool := isBoundD d || isPairL d
theorem yn_in (x : Str) : inV (.str x) [.str "yes", .str "no"] = isYN (.str x) := by
  show (("yes" == x) || (("no" == x) || false)) = (decide (x = ("yes" : Str)) || decide (x = ("no" : Str)))
  have h : ∀ a b : Str, (a == b) = decide (b = a) := fun a b => by
    rw [Bool.eq_iff_iff, decide_eq_true_iff, beq_iff_eq]
    exact eq_comm
  rw [h, h, Bool.or_false]
def spIsLitD (K : PySem.W.Frag) : Sp := spD szD isLitD K
def AnyV (K : PySem.W.Frag) (H : Hp) (v : V) (b : Bool) : Prop := (∃ d, Dp K H v d ∧ szD d ∧ isLitD d = b) ∨ (b = false ∧ OddV H v)
theorem AnyV.ex {K : PySem.W.Frag} {H H' : Hp} {v : V} {b : Bool} (h : AnyV K H v b) (e : Ex H H') : AnyV K H' v b := h.imp (fun ⟨d, h1, h2⟩ => ⟨d, Dp.ex e h1, h2⟩) (fun ⟨h1, h2⟩ => ⟨h1, h2.ex e⟩)
theorem lit_is {l : Lit} (h : LitOk l) : isLitD (litD l) = true := by
  unfold isLitD
  rw [bound_lit h]
  cases l with
  | most x y k => rfl
  | yn b x =>
    show (false || (isYN (.str (ynS b)) && isNameD (.str x))) = true
    rw [show isNameD (.str x) = true from h]
    cases b <;> decide +kernel
theorem kitDT {K : PySem.W.Frag} : PySem.W.kitOne K (.type "dict") (.type "tuple") = some false := kit_ty (by decide +kernel)
theorem kitDL {K : PySem.W.Frag} : PySem.W.kitOne K (.type "dict") (.type "list") = some false := kit_ty (by decide +kernel)
theorem kitDS {K : PySem.W.Frag} : PySem.W.kitOne K (.type "dict") (.type "str") = some false := kit_ty (by decide +kernel)
theorem kitTT {K : PySem.W.Frag} : PySem.W.kitOne K (.type "tuple") (.type "tuple") = some true := kit_ty (by decide +kernel)
section
variable {P : Program} {w : World} {K : PySem.W.Frag} {mg : Str → Option Value} {base : Heap} {a : Ad} {d : Fd}
theorem ok_is_bound2 (T : TX K mg a) (D : FDS K a d) : FnOk P w K mg base CX0 2 a.a_is_bound d.a_is_bound ["value"] (spOdd (.bl false)) := by
  have G_is_name : FnOk P w K mg base CX0 1 a.a_is_name d.a_is_name ["value"] (spIsName K) := ok_is_name T D
  have G_is_integer : FnOk P w K mg base CX0 1 a.a_is_integer d.a_is_integer ["value"] (spIsInt K) := ok_is_integer T D
  refine D.F_is_bound.ok sc_is_bound (fun vs H Q E h => ?_) (fun cdv A outer s H vs Q E hr h => ?_)
  · obtain ⟨v, rfl, _⟩ := h
    rfl
  · obtain ⟨v, rfl, ho, q⟩ := h
    refine ⟨_, (pss_cons (ps_if (PW.pt (pw_or (pt_not (pt_val (pe_callB call_isi (by rfl) T.b_isinstance (by decide +kernel) (pa_cons (pv 0) (pa_cons (pe_bltn (v := .ty "tuple") (by rfl) T.b_tuple (by decide +kernel) rfl) pa_nil))))) (pw_or1 (pt_cmpR op_ne (pe_callB call_len_seq (by rfl) T.b_len (by decide +kernel) (pa_cons (pv 0) pa_nil)) pe_int (nomark _))))) (pss_one (ps_ret pe_bl)) pss_nil)
        (pss_cons (ps_asg (pv 0) (pg_tup rfl (pgs_cons (pg_name (i := 1) sc_is_bound.nd rfl (Or.inl rfl)) (pgs_cons (pg_name (i := 2) sc_is_bound.nd rfl (Or.inl rfl)) (pgs_cons (pg_name (i := 3) sc_is_bound.nd rfl (Or.inl rfl)) (pgs_cons (pg_name (i := 4) sc_is_bound.nd rfl (Or.inl rfl)) pgs_nil))))))
        (pss_cons (ps_if (PW.pt (pw_or (pt_not (pt_val (pe_callB call_isi (by rfl) T.b_isinstance (by decide +kernel) (pa_cons (pv 1) (pa_cons (pe_bltn (v := .ty "str") (by rfl) T.b_str (by decide +kernel) rfl) pa_nil))))) (pw_or1 (pt_cmpR op_ne (pv 1) pe_str (nomark _))))) (pss_one (ps_ret pe_bl)) pss_nil)
        (pss_one (ps_ret (pe_and (pe_call G_is_name (hr.mono (by decide)) rfl T.f_is_name T.k_is_name D.B_is_name .nil pass0 (pa_cons (pv 2) pa_nil)) (pe_and (pe_call G_is_name (hr.mono (by decide)) rfl T.f_is_name T.k_is_name D.B_is_name .nil pass0 (pa_cons (pv 3) pa_nil)) (pe_and (pe_cmpR op_ne (pv 2) (pv 3) (nomark _)) (pe_one (pe_call G_is_integer (hr.mono (by decide)) rfl T.f_is_integer T.k_is_integer D.B_is_integer .nil pass0 (pa_cons (pv 4) pa_nil))))))))))), ?_⟩
    rcases ho with ⟨p, kvs, rfl, hp⟩ | ⟨t, p, kvs, x, rfl, ht, hp⟩
    · exact ⟨_, rfl, .ref p, _, _, _, _, rfl, .ty "tuple", .base (.dK hp), kitDT, _, rfl, q H (Ex.refl _)⟩
    · exact ⟨_, rfl, .ref t, _, _, _, _, rfl, .ty "tuple", .base (.tup ht), kitTT, _, rfl, _, rfl, t, _, rfl, .inr (SqT.of ht), rfl, _, rfl, iteT' rfl (q H (Ex.refl _))⟩
theorem ok_is_literal (T : TX K mg a) (D : FDS K a d) : FnOk P w K mg base CX0 3 a.a_is_literal d.a_is_literal ["value"] (fun vs H Q E => spIsLitD K vs H Q E ∨ spOdd (.bl false) vs H Q E) := by
  have G_is_name : FnOk P w K mg base CX0 1 a.a_is_name d.a_is_name ["value"] (spIsName K) := ok_is_name T D
  have G_is_bound : FnOk P w K mg base CX0 2 a.a_is_bound d.a_is_bound ["value"] (fun vs H Q E => spIsBound K vs H Q E ∨ spOdd (.bl false) vs H Q E) := fnOr (ok_is_bound T D) (ok_is_bound2 T D)
  refine D.F_is_literal.ok sc_is_literal (fun vs H Q E h => ?_) (fun cdv A outer s H vs Q E hr h => ?_)
  · rcases h with ⟨v, d, rfl, _⟩ | ⟨v, rfl, _⟩ <;> rfl
  · refine ⟨_, (pss_cons (ps_if (pt_val (pe_call G_is_bound (hr.mono (by decide)) rfl T.f_is_bound T.k_is_bound D.B_is_bound .nil pass0 (pa_cons (pv 0) pa_nil))) (pss_one (ps_ret pe_bl)) pss_nil)
        (pss_cons (ps_if (PW.pt (pw_or (pt_not (pt_val (pe_callB call_isi (by rfl) T.b_isinstance (by decide +kernel) (pa_cons (pv 0) (pa_cons (pe_bltn (v := .ty "tuple") (by rfl) T.b_tuple (by decide +kernel) rfl) pa_nil))))) (pw_or1 (pt_cmpR op_ne (pe_callB call_len_seq (by rfl) T.b_len (by decide +kernel) (pa_cons (pv 0) pa_nil)) pe_int (nomark _))))) (pss_one (ps_ret pe_bl)) pss_nil)
        (pss_cons (ps_asg (pv 0) (pg_tup rfl (pgs_cons (pg_name (i := 1) sc_is_literal.nd rfl (Or.inl rfl)) (pgs_cons (pg_name (i := 2) sc_is_literal.nd rfl (Or.inl rfl)) pgs_nil))))
        (pss_one (ps_ret (pe_and (pe_callB call_isi (by rfl) T.b_isinstance (by decide +kernel) (pa_cons (pv 1) (pa_cons (pe_bltn (v := .ty "str") (by rfl) T.b_str (by decide +kernel) rfl) pa_nil))) (pe_and (pe_cmpR op_in_seq (pv 1) (pe_tup (pa_cons pe_str (pa_cons pe_str pa_nil))) rfl) (pe_one (pe_call G_is_name (hr.mono (by decide)) rfl T.f_is_name T.k_is_name D.B_is_name .nil pass0 (pa_cons (pv 2) pa_nil)))))))))), ?_⟩
    rcases h with ⟨v, d, rfl, hd, sz, q⟩ | ⟨v, rfl, ho, q⟩
    · refine ⟨_, rfl, .inl ⟨v, d, rfl, hd, sz, fun H1 e1 => ⟨_, rfl, ?_⟩⟩⟩
      cases hb : isBoundD d with
      | true => exact iteT' rfl (ex_q q (by unfold isLitD; rw [hb]; rfl) e1)
      | false =>
        have hl : isLitD d = isPairL d := by unfold isLitD; rw [hb, Bool.false_or]
        refine iteF' rfl ⟨_, rfl, v, _, _, _, _, rfl, .ty "tuple", dp_ty (Dp.ex e1 hd), kit_tuple d, _, rfl, ?_⟩
        cases hd with
        | @tup t xs ds ht hall =>
          have len := DpAll.len hall
          have ht1 := ex_t e1 ht
          refine ⟨_, rfl, t, xs, rfl, .inr ht1, rfl, _, rfl, ?_⟩
          by_cases h2 : xs.length = 2
          · refine iteNS (by rw [h2]; rfl) ?_
            obtain ⟨v1, v2, rfl⟩ : ∃ v1 v2, xs = [v1, v2] := by
              match xs, h2 with
              | [v1, v2], _ => exact ⟨v1, v2, rfl⟩
            cases hall with
            | cons g1 r1 =>
            cases r1 with
            | cons g2 r2 =>
            cases r2
            rename_i d1 d2
            have z2 : szS d2 := sz d2 (by simp)
            refine ⟨_, rfl, t, _, rfl, ht1, rfl, _, _, rfl, _, _, rfl, rfl, ?_⟩
            refine ⟨_, rfl, v1, _, _, _, _, rfl, .ty "str", dp_ty (Dp.ex e1 g1), kit_str d1, _, rfl, ?_⟩
            cases g1 with
            | str wd =>
              refine iteT' rfl ⟨_, rfl, (by show 2 ≤ sizeLine; decide), fun t2 ht2 => ?_⟩
              have x2 := Ex.new (o := .tup [.str "yes", .str "no"]) ht2
              refine ⟨t2, _, rfl, .inr (SqT.of upd_same), rfl, rfl, _, rfl, ?_⟩
              rw [if_neg Bool.false_ne_true, yn_in]
              have hp : isPairL (.tuple [.str wd, d2]) = (isYN (.str wd) && isNameD d2) := rfl
              cases hy : isYN (.str wd) with
              | false => exact iteF' rfl (ex_q q (by rw [hl, hp, hy]; rfl) (e1.trans x2))
              | true =>
                refine iteT' rfl ⟨_, rfl, v2, d2, rfl, Dp.ex (e1.trans x2) g2, z2, fun H2 e2 => ?_⟩
                exact ex_q q (by rw [hl, hp, hy]; rfl) ((e1.trans x2).trans e2)
            | _ => exact iteF' rfl (ex_q q (by rw [hl]; rfl) e1)
          · refine iteT' ?_ (ex_q q ?_ e1)
            · have e5 : decide (V.int (xs.length : Nat) = V.int 2) = false := decide_eq_false fun z => h2 (by have := V.int.inj z; omega)
              rw [e5]
              rfl
            · rw [hl]
              have l2 : ds.length ≠ 2 := by omega
              match ds, l2 with
              | [], _ => rfl
              | [_], _ => rfl
              | [_, _], h => exact absurd rfl h
              | _ :: _ :: _ :: _, _ => rfl
        | _ => exact ex_q q (by rw [hl]; rfl) e1
    · refine ⟨_, rfl, .inr ⟨v, rfl, ho, fun H1 e1 => ⟨_, rfl, iteF' rfl ?_⟩⟩⟩
      rcases ho.ex e1 with ⟨p, kvs, rfl, hp⟩ | ⟨t, p, kvs, x, rfl, ht, hp⟩
      · exact ⟨_, rfl, .ref p, _, _, _, _, rfl, .ty "tuple", .base (.dK hp), kitDT, _, rfl, q H1 e1⟩
      · refine ⟨_, rfl, .ref t, _, _, _, _, rfl, .ty "tuple", .base (.tup ht), kitTT, _, rfl, _, rfl, t, _, rfl, .inr (SqT.of ht), rfl, _, rfl, iteNS rfl ?_⟩
        exact ⟨_, rfl, t, _, rfl, SqT.of ht, rfl, _, _, rfl, _, _, rfl, rfl, _, rfl, .ref p, _, _, _, _, rfl, .ty "str", .base (.dK hp), kitDS, _, rfl, iteF' rfl (q H1 e1)⟩
end
end M6
set_option maxRecDepth 100000
set_option maxHeartbeats 8000000
namespace M6
open PySem L2 Evl GP HR SC SetM SetH
theorem lit_alike (l m : Lit) : PySem.W.alike (litD l) (litD m) = true := by
  cases l <;> cases m <;> simp [litD, PySem.W.alike, PySem.W.alikeAll]
/-- a literal as a key -/
def litK : Lit → List L2.Key
  | .yn b x => [.inr (ynS b), .inr x]
  | .most x y k => [.inr "most", .inr x, .inr y, .inl k]
theorem litK_V (l : Lit) : (litK l).map kV = litV l := by cases l <;> rfl
theorem litK_D (l : Lit) : enK (litK l) = litD l := by cases l <;> rfl
def litOfD : PyData → Lit
  | .tuple [.str w, .str x] => .yn (decide (w = ("yes" : Str))) x
  | .tuple [_, .str x, .str y, .int k] => .most x y k
  | _ => .yn true ""
theorem litOf (l : Lit) : litOfD (litD l) = l := by
  cases l with
  | most x y k => rfl
  | yn b x =>
    show Lit.yn (decide (ynS b = ("yes" : Str))) x = .yn b x
    have : decide (ynS b = ("yes" : Str)) = b := by cases b <;> decide +kernel
    rw [this]
theorem litK_inj {l m : Lit} (h : litK l = litK m) : l = m := by
  have := congrArg (fun k => litOfD (enK k)) h
  rwa [litK_D, litK_D, litOf, litOf] at this
theorem lit_depth (l : Lit) : (litD l).depth ≤ 50 := by cases l <;> simp [litD, PyData.depth, PyData.depthAll]
theorem Lits.keys {H : Hp} : ∀ {vs : List V} {ls : List Lit}, Lits H vs ls → ∃ ks : List (Addr × List L2.Key), vs = ks.map (fun p => V.ref p.1) ∧ ks.map Prod.snd = ls.map litK ∧ ∀ p ∈ ks, ∃ l ∈ ls, p.2 = litK l ∧ H p.1 = some (.tup (litV l))
  | [], [], _ => ⟨[], rfl, rfl, fun _ h => absurd h List.not_mem_nil⟩
  | [], _ :: _, A => by have := A.len; simp at this
  | _ :: _, [], A => by have := A.len; simp at this
  | v :: vs, l :: ls, A => by
    obtain ⟨t, h1, h2⟩ := A.at_ 0 l rfl
    obtain rfl : v = .ref t := Option.some.inj h1
    obtain ⟨ks, e1, e2, hk⟩ := Lits.keys (vs := vs) (ls := ls) ⟨by have := A.len; simpa using this, fun i r h => A.at_ (i + 1) r h⟩
    refine ⟨(t, litK l) :: ks, by rw [e1]; rfl, by rw [List.map_cons, e2]; rfl, fun p hp => ?_⟩
    rcases List.mem_cons.mp hp with rfl | hp
    · exact ⟨l, List.mem_cons_self, rfl, h2⟩
    · obtain ⟨m, hm, r⟩ := hk p hp
      exact ⟨m, List.mem_cons_of_mem _ hm, r⟩
theorem Lits.of_each {H : Hp} {bs : List (V × PyData)} (h : ∀ b ∈ bs, ∃ t l, b.1 = .ref t ∧ b.2 = litD l ∧ H t = some (.tup (litV l))) : Lits H (bs.map Prod.fst) (bs.map fun b => litOfD b.2) := ⟨by rw [List.length_map, List.length_map], fun i l hl => by
  rw [List.getElem?_map] at hl
  obtain ⟨b, hb, rfl⟩ := Option.map_eq_some_iff.mp hl
  obtain ⟨t, l, e1, e2, ht⟩ := h b (List.mem_of_getElem? hb)
  exact ⟨t, by rw [List.getElem?_map, hb, ← e1]; rfl, by rw [e2, litOf]; exact ht⟩⟩
theorem dlt_trans {a b c : PyData} (h1 : PySem.W.dataLt a b = true) (h2 : PySem.W.dataLt b c = true) : PySem.W.dataLt a c = true := PyProof.Rows.lex_trans _ _ _ h1 h2
theorem dlt_asym {a b : PyData} (h : PySem.W.dataLt a b = true) : PySem.W.dataLt b a = false := by
  cases g : PySem.W.dataLt b a with
  | false => rfl
  | true =>
    have := dlt_trans h g
    rw [show PySem.W.dataLt a a = false from PyProof.Rows.lex_irrefl _] at this
    cases this
theorem sortedD_pw (bs : List (V × PyData)) : (SD.sortedD bs).Pairwise fun a b => PySem.W.dataLt b.2 a.2 = false := by
  have h := List.pairwise_mergeSort (le := PySem.W.dataLe false (Prod.snd : V × PyData → PyData)) (fun a b c h1 h2 => by
    simp only [PySem.W.dataLe_eq, cond_false, Bool.not_eq_true'] at h1 h2 ⊢
    cases g : PySem.W.dataLt c.2 a.2 with
    | false => rfl
    | true =>
      rcases PyProof.Rows.lex_negTrans _ (PySem.W.keyToks b.2) _ g with k | k
      · exact absurd (h2.symm.trans k) Bool.false_ne_true
      · exact absurd (h1.symm.trans k) Bool.false_ne_true) (fun a b => by
    simp only [PySem.W.dataLe_eq, cond_false]
    cases g : PySem.W.dataLt b.2 a.2 with
    | false => rfl
    | true => rw [dlt_asym g]; rfl) bs
  exact h.imp fun {a b} q => by simpa [PySem.W.dataLe_eq] using q
theorem yn_inj {b c : Bool} (h : (ynS b).cps.toList = (ynS c).cps.toList) : b = c := by
  cases b <;> cases c <;> first | rfl | exact absurd h (by decide +kernel)
theorem toks_inj {l m : Lit} (h : PySem.W.keyToks (litD l) = PySem.W.keyToks (litD m)) : l = m := by
  cases l with
  | yn b x =>
    cases m with
    | yn c y =>
      simp only [litD, PySem.W.keyToks, PySem.W.keyToksAll, List.cons_append, List.nil_append, List.cons.injEq, Sum.inr.injEq, true_and, and_true] at h
      rw [yn_inj h.1, toList_inj h.2]
    | most y z k => simp [litD, PySem.W.keyToks, PySem.W.keyToksAll] at h
  | most x y k =>
    cases m with
    | yn c z => simp [litD, PySem.W.keyToks, PySem.W.keyToksAll] at h
    | most u z j =>
      simp only [litD, PySem.W.keyToks, PySem.W.keyToksAll, List.cons_append, List.nil_append, List.cons.injEq, Sum.inr.injEq, Sum.inl.injEq, true_and, and_true] at h
      rw [toList_inj h.1, toList_inj h.2.1, h.2.2]
def AscL (ls : List Lit) : Prop := ls.Pairwise fun a b => PySem.W.dataLt (litD a) (litD b) = true
theorem asc_lits {ls : List Lit} (so : ls.Pairwise fun a b => PySem.W.dataLt (litD b) (litD a) = false) (nd : ls.Nodup) : AscL ls :=
  (so.and nd).imp fun {a b} q => by
    cases g : PySem.W.dataLt (litD a) (litD b) with
    | true => rfl
    | false => exact absurd (toks_inj (PyProof.Rows.lex_total _ _ g q.1)) q.2
theorem ascL_same : ∀ {xs ys : List Lit}, AscL xs → AscL ys → (∀ z, z ∈ xs ↔ z ∈ ys) → xs = ys
  | [], [], _, _, _ => rfl
  | [], y :: ys, _, _, h => absurd ((h y).mpr List.mem_cons_self) List.not_mem_nil
  | x :: xs, [], _, _, h => absurd ((h x).mp List.mem_cons_self) List.not_mem_nil
  | x :: xs, y :: ys, a, b, h => by
    obtain ⟨a1, a2⟩ := List.pairwise_cons.mp a
    obtain ⟨b1, b2⟩ := List.pairwise_cons.mp b
    have irr : ∀ z, ¬ PySem.W.dataLt (litD z) (litD z) = true := fun z q => by
      rw [show PySem.W.dataLt (litD z) (litD z) = false from PyProof.Rows.lex_irrefl _] at q
      cases q
    have e : x = y := by
      rcases List.mem_cons.mp ((h x).mp List.mem_cons_self) with e | e
      · exact e
      · rcases List.mem_cons.mp ((h y).mpr List.mem_cons_self) with g | g
        · exact g.symm
        · have q := dlt_asym (b1 x e)
          rw [a1 y g] at q
          cases q
    subst e
    refine congrArg (x :: ·) (ascL_same a2 b2 fun z => ⟨fun hz => ?_, fun hz => ?_⟩)
    · rcases List.mem_cons.mp ((h z).mp (List.mem_cons_of_mem _ hz)) with e | e
      · exact absurd (a1 z hz) (by rw [e]; exact irr x)
      · exact e
    · rcases List.mem_cons.mp ((h z).mpr (List.mem_cons_of_mem _ hz)) with e | e
      · exact absurd (b1 z hz) (by rw [e]; exact irr x)
      · exact e
def spNormal (K : PySem.W.Frag) : Sp := fun vs H Q _ => ∃ (p : Addr) (us : List V) (ls : List Lit), vs = [.ref p] ∧ (SqL K H p us ∨ SqT K H p us) ∧ Lits H us ls ∧ ls.length < 63 ∧
  ∀ (u : Addr) (us' : List V) (ls' : List Lit) H', Ex H H' → H' u = some (.tup us') → Lits H' us' ls' → (∀ l, l ∈ ls' ↔ l ∈ ls) → AscL ls' → Q (.ref u) H'
section
variable {P : Program} {w : World} {K : PySem.W.Frag} {mg : Str → Option Value} {base : Heap} {a : Ad} {d : Fd}
theorem ok_normal_form (T : TX K mg a) (D : FDS K a d) : FnOk P w K mg base CX0 1 a.a_normal_form d.a_normal_form ["literals"] (spNormal K) := by
  refine D.F_normal_form.ok sc_normal_form (fun vs H Q E h => ?_) (fun cdv A outer s H vs Q E hr h => ?_)
  · obtain ⟨p, us, ls, rfl, _⟩ := h
    rfl
  · obtain ⟨p, us, ls, rfl, hp, L, few, fin⟩ := h
    refine ⟨_, (pss_one (ps_ret (pe_callTy call_tuple_of (by rfl) T.b_tuple (by decide +kernel) (pa_cons (pe_callB (SetM.cr_sortedM (K := K) (P := P) (w := w) rfl hr.units) (by rfl) T.b_sorted (by decide +kernel) (pa_cons (pe_callTy (SetM.cr_setM (K := K) (P := P) (w := w) rfl hr.units) (by rfl) T.b_set (by decide +kernel) (pa_cons (pv 0) pa_nil)) pa_nil)) pa_nil)))), ?_⟩
    obtain ⟨ks, eu, ek, hk⟩ := L.keys
    subst eu
    have lk : ks.length = ls.length := by
      have := congrArg List.length ek
      rwa [List.length_map, List.length_map] at this
    refine ⟨_, rfl, p, ks, rfl, hp, fun q hq => ?_, by omega, fun L' S took nd hS => ?_⟩
    · obtain ⟨l, _, e, ht⟩ := hk q hq
      rw [e, litK_V]
      exact SqT.of ht
    · have x1 := Ex.new (o := SetMO P w S L') hS
      have each : ∀ q ∈ L', ∃ l ∈ ls, q.2 = litK l ∧ upd H S (SetMO P w S L') q.1 = some (.tup (litV l)) := fun q hq => by
        obtain ⟨l, hl, e, ht⟩ := hk q (took.from_ q hq)
        exact ⟨l, hl, e, x1 _ _ ht⟩
      have at1 : upd H S (SetMO P w S L') S = some (SetMO P w S L') := upd_same
      generalize upd H S (SetMO P w S L') = H1 at *
      refine ⟨S, L', rfl, at1, fun q hq => ?_, ?_, ?_, fun bs R pm hR => ⟨R, _, rfl, .inl ⟨SqL.of upd_same, fun u hu => ?_⟩⟩⟩
      · obtain ⟨l, _, e, ht⟩ := each q hq
        rw [e, litK_D]
        exact ⟨lit_dp (SqT.of ht), lit_depth l⟩
      · intro x hx y hy
        obtain ⟨q, hq, rfl⟩ := List.mem_map.mp hx
        obtain ⟨r, hr, rfl⟩ := List.mem_map.mp hy
        obtain ⟨l, _, e, _⟩ := each q hq
        obtain ⟨m, _, e2, _⟩ := each r hr
        rw [e, e2, litK_D, litK_D]
        exact lit_alike l m
      · refine .inl fun x hx => ?_
        obtain ⟨q, hq, rfl⟩ := List.mem_map.mp hx
        obtain ⟨l, _, e, _⟩ := each q hq
        rw [e, litK_D]
        cases l <;> exact ⟨_, _, rfl⟩
      · have x2 := Ex.new (o := .lst ((SD.sortedD bs).map Prod.fst)) hR
        have x3 := Ex.new (o := .tup ((SD.sortedD bs).map Prod.fst)) hu
        have pm2 := (SD.sorted_perm bs).trans pm
        have so0 := sortedD_pw bs
        generalize SD.sortedD bs = cs at *
        have each2 : ∀ b ∈ cs, ∃ t l, b.1 = .ref t ∧ b.2 = litD l ∧ H1 t = some (.tup (litV l)) ∧ l ∈ ls := fun b hb => by
          obtain ⟨q, hq, rfl⟩ := List.mem_map.mp (pm2.mem_iff.mp hb)
          obtain ⟨l, hl, e, ht⟩ := each q hq
          exact ⟨q.1, l, rfl, by show enK q.2 = _; rw [e, litK_D], ht, hl⟩
        have LL : Lits H1 (cs.map Prod.fst) (cs.map fun b => litOfD b.2) := Lits.of_each fun b hb => by
          obtain ⟨t, l, e1, e2, h, _⟩ := each2 b hb
          exact ⟨t, l, e1, e2, h⟩
        refine fin u _ _ _ (x1.trans (x2.trans x3)) upd_same (LL.ex (x2.trans x3)) (fun l => ⟨fun h => ?_, fun h => ?_⟩) (asc_lits ?_ ?_)
        · obtain ⟨b, hb, rfl⟩ := List.mem_map.mp h
          obtain ⟨t, l, e1, e2, _, hl⟩ := each2 b hb
          rw [e2, litOf]
          exact hl
        · have : litK l ∈ ks.map Prod.snd := by rw [ek]; exact List.mem_map_of_mem h
          obtain ⟨q, hq, e⟩ := List.mem_map.mp this
          have := took.got q hq
          obtain ⟨r, hr, e2⟩ := List.mem_map.mp this
          refine List.mem_map.mpr ⟨enP r, pm2.mem_iff.mpr (List.mem_map_of_mem hr), ?_⟩
          show litOfD (enK r.2) = l
          rw [e2, e, litK_D, litOf]
        · refine List.pairwise_map.mpr (so0.imp_of_mem fun {p q} hp hq z => ?_)
          obtain ⟨_, l, _, e1, _⟩ := each2 p hp
          obtain ⟨_, m, _, e2, _⟩ := each2 q hq
          rw [e1, e2, litOf, litOf, ← e1, ← e2]
          exact z
        · have e : (cs.map fun b => litOfD b.2).Perm (L'.map fun q => litOfD (enK q.2)) := by
            have := pm2.map fun b : V × PyData => litOfD b.2
            rwa [List.map_map] at this
          rw [e.nodup_iff]
          have nd2 : L'.Pairwise fun q r => q.2 ≠ r.2 := List.pairwise_map.mp nd
          refine List.pairwise_map.mpr (List.Pairwise.imp_of_mem (fun {q r} hq hr n z => n ?_) nd2)
          obtain ⟨l, _, e1, _⟩ := each q hq
          obtain ⟨m, _, e2, _⟩ := each r hr
          rw [e1, e2, litK_D, litK_D, litOf, litOf] at z
          rw [e1, e2, z]
end
end M6
set_option maxRecDepth 100000
set_option maxHeartbeats 8000000
namespace M6
open PySem L2 Evl GP HR SC SetM SetH
/-- what is raised where v is no literal -/
def Raised (c : Addr) (f : Str) (v : V) (H : Hp) (E : XK) : Prop := ∀ dd H', Ex H H' → H dd = none → H' dd = some (.xd [(f, v)]) → E (.ref c) (some dd) H'
theorem Raised.ex {c : Addr} {f : Str} {v : V} {H H1 : Hp} {E : XK} (r : Raised c f v H E) (e : Ex H H1) : Raised c f v H1 E := fun dd H' e' n h => r dd H' (e.trans e') (fresh_back e n) h
def spChk (K : PySem.W.Frag) (cL : Addr) : Sp := fun vs H Q E => ∃ v b, vs = [v] ∧ AnyV K H v b ∧ (b = true → ∀ H', Ex H H' → Q .non H') ∧ (b = false → Raised cL "value" v H E)
def Seq (K : PySem.W.Frag) (H : Hp) (p : Addr) (us : List V) : Prop := SqL K H p us ∨ SqT K H p us
theorem Seq.ex {K : PySem.W.Frag} {H H' : Hp} {p : Addr} {us : List V} (h : Seq K H p us) (e : Ex H H') : Seq K H' p us := h.imp (ex_l e) (ex_t e)
/-- neither a list nor a tuple -/
def NoSeq (K : PySem.W.Frag) (H : Hp) (v : V) : Prop := (∃ d, Dp K H v d ∧ isListD d = false ∧ isTupD d = false) ∨ ∃ p, v = .ref p ∧ ((∃ kvs, H p = some (.dK kvs)) ∨ ∃ kvs, H p = some (.dT kvs))
theorem NoSeq.ex {K : PySem.W.Frag} {H H' : Hp} {v : V} (h : NoSeq K H v) (e : Ex H H') : NoSeq K H' v := h.imp (fun ⟨d, h1, h2⟩ => ⟨d, Dp.ex e h1, h2⟩) (fun ⟨p, h1, h2⟩ => ⟨p, h1, h2.imp (fun ⟨k, g⟩ => ⟨k, e _ _ g⟩) (fun ⟨k, g⟩ => ⟨k, e _ _ g⟩)⟩)
theorem kit_seq {K : PySem.W.Frag} (d : PyData) : PySem.W.kitAny K (.type (tyN d)) [.type "list", .type "tuple"] = some (isListD d || isTupD d) := by
  refine kitAny_cons (kit_list d) (fun h => ?_) (fun h => by rw [h]; rfl)
  refine kitAny_cons (kit_tuple d) (fun h2 => ?_) (fun h2 => by rw [h, h2]; rfl)
  rw [h, h2]
  rfl
theorem NoSeq.ty {K : PySem.W.Frag} {H : Hp} {v : V} (h : NoSeq K H v) : ∃ t, TyX K H v t ∧ PySem.W.kitAny K t [.type "list", .type "tuple"] = some false := by
  rcases h with ⟨d, hd, h1, h2⟩ | ⟨p, rfl, h⟩
  · exact ⟨_, dp_ty hd, by rw [kit_seq, h1, h2]; rfl⟩
  · have k : PySem.W.kitAny K (.type "dict") [.type "list", .type "tuple"] = some false := kitAny_cons kitDL (fun _ => kitAny_cons kitDT (fun _ => rfl) (fun z => nomatch z)) (fun z => nomatch z)
    rcases h with ⟨kvs, h⟩ | ⟨kvs, h⟩
    · exact ⟨_, .base (.dK h), k⟩
    · exact ⟨_, .base (.dT h), k⟩
theorem Seq.ty {K : PySem.W.Frag} {H : Hp} {p : Addr} {us : List V} (h : Seq K H p us) : ∃ t, TyX K H (.ref p) t ∧ PySem.W.kitAny K t [.type "list", .type "tuple"] = some true := by
  have kl : PySem.W.kitAny K (.type "list") [.type "list", .type "tuple"] = some true := kit_seq (K := K) (.list [])
  have kt : PySem.W.kitAny K (.type "tuple") [.type "list", .type "tuple"] = some true := kit_seq (K := K) (.tuple [])
  rcases h with h | h
  · rcases h with (h | ⟨o, h⟩) | ⟨o, its, n, h1, h2, _⟩
    · exact ⟨_, .base (.lst h), kl⟩
    · exact ⟨_, .base (.frz h), kl⟩
    · exact ⟨_, .kList h1 h2, kl⟩
  · rcases h with (h | ⟨o, h⟩) | ⟨o, its, n, h1, h2, _⟩
    · exact ⟨_, .base (.tup h), kt⟩
    · exact ⟨_, .fTuple h, kt⟩
    · exact ⟨_, .kTuple h1 h2, kt⟩
theorem seq_go {K : PySem.W.Frag} {t : TE} {a : Addr} {xs : List V} {σ : L2.St} {H : Hp} {R : It → Hp → Prop} (ht : ∀ Q : VK, Q (.ref a) H → t σ H Q) (h : Seq K H a xs)
    (hR : ∀ (J : It) (G : Hp → Prop), L2.Walk J xs.length G (YAt xs) → (∀ H', Ex H H' → G H') → R J H) : iList K t σ H R ∨ iTup K t σ H R := by
  rcases h with h | h
  · exact .inl (ht _ ⟨a, rfl, ⟨_, h⟩, hR _ _ walk_list fun _ e => ex_l e h⟩)
  · exact .inr (ht _ ⟨a, rfl, ⟨_, h⟩, hR _ _ walk_tup fun _ e => ex_t e h⟩)
def Good (H : Hp) (ls : List Lit) (Q : VK) : Prop := ∀ (u : Addr) (us' : List V) (ls' : List Lit) H', Ex H H' → H' u = some (.tup us') → Lits H' us' ls' → (∀ l, l ∈ ls' ↔ l ∈ ls) → AscL ls' → Q (.ref u) H'
def spClause (K : PySem.W.Frag) (cL cC : Addr) : Sp := fun vs H Q E => ∃ v, vs = [v] ∧
  ((∃ p us ls, v = .ref p ∧ Seq K H p us ∧ Lits H us ls ∧ (∀ l ∈ ls, LitOk l) ∧ ls.length < 63 ∧ Good H ls Q) ∨
   (∃ p us ls i bad, v = .ref p ∧ Seq K H p us ∧ us[i]? = some bad ∧ AnyV K H bad false ∧ Lits H (us.take i) ls ∧ (∀ l ∈ ls, LitOk l) ∧ Raised cL "value" bad H E) ∨
   (NoSeq K H v ∧ Raised cC "value" v H E))
section
variable {P : Program} {w : World} {K : PySem.W.Frag} {mg : Str → Option Value} {base : Heap} {a : Ad} {d : Fd} {fL fC fW : Addr}
theorem ok_check_literal (T : TX K mg a) (D : FDS K a d) (R : ER K mg P a fL fC fW) : FnOk P w K mg base (L2N.CX P w) 4 a.a_check_literal d.a_check_literal ["value"] (spChk K a.cL) := by
  have G_is_literal : FnOk P w K mg base CX0 3 a.a_is_literal d.a_is_literal ["value"] (fun vs H Q E => spIsLitD K vs H Q E ∨ spOdd (.bl false) vs H Q E) := ok_is_literal T D
  refine NX.okX D.F_check_literal sc_check_literal (fun vs H Q E h => ?_) (fun cdv A outer s H vs Q E hr h => ?_)
  · obtain ⟨v, b, rfl, _⟩ := h
    rfl
  · obtain ⟨v, b, rfl, hv, q1, q2⟩ := h
    refine ⟨_, (pss_one (ps_if (pt_not (pt_val (pe_call G_is_literal (hr.mono (by decide)) rfl T.f_is_literal T.k_is_literal D.B_is_literal .nil pass0 (pa_cons (pv 0) pa_nil)))) (pss_one (NX.ps_raiseSup rfl R.eL hr (L2N.takes_of rfl rfl rfl rfl) (by exact (pa_cons (pv 0) pa_nil)))) pss_nil)), ?_⟩
    rcases hv with ⟨d, hd, sz, rfl⟩ | ⟨rfl, ho⟩
    · refine ⟨_, rfl, .inl ⟨v, d, rfl, hd, sz, fun H1 e1 => ⟨_, rfl, ?_⟩⟩⟩
      cases hb : isLitD d with
      | true => exact iteF' rfl (q1 hb H1 e1)
      | false => exact iteT' rfl ⟨_, rfl, _, rfl, fun dd hdd => q2 hb dd _ (e1.trans (Ex.new hdd)) (fresh_back e1 hdd) upd_same⟩
    · exact ⟨_, rfl, .inr ⟨v, rfl, ho, fun H1 e1 => ⟨_, rfl, iteT' rfl ⟨_, rfl, _, rfl, fun dd hdd => q2 rfl dd _ (e1.trans (Ex.new hdd)) (fresh_back e1 hdd) upd_same⟩⟩⟩⟩
theorem ok_clause_of (T : TX K mg a) (D : FDS K a d) (R : ER K mg P a fL fC fW) : FnOk P w K mg base (L2N.CX P w) 5 a.a_clause_of d.a_clause_of ["literals"] (spClause K a.cL a.cC) := by
  have G_check_literal : FnOk P w K mg base (L2N.CX P w) 4 a.a_check_literal d.a_check_literal ["value"] (spChk K a.cL) := ok_check_literal T D R
  have G_normal_form : FnOk P w K mg base CX0 1 a.a_normal_form d.a_normal_form ["literals"] (spNormal K) := ok_normal_form T D
  refine NX.okX D.F_clause_of sc_clause_of (fun vs H Q E h => ?_) (fun cdv A outer s H vs Q E hr h => ?_)
  · obtain ⟨v, rfl, _⟩ := h
    rfl
  · obtain ⟨v, rfl, h⟩ := h
    refine ⟨_, (pss_cons (ps_if (pt_not (pt_val (pe_callB call_isiT (by rfl) T.b_isinstance (by decide +kernel) (pa_cons (pv 0) (pa_cons (pe_tup (pa_cons (pe_bltn (v := .ty "list") (by rfl) T.b_list (by decide +kernel) rfl) (pa_cons (pe_bltn (v := .ty "tuple") (by rfl) T.b_tuple (by decide +kernel) rfl) pa_nil))) pa_nil))))) (pss_one (NX.ps_raiseSup rfl R.eC hr (L2N.takes_of rfl rfl rfl rfl) (by exact (pa_cons (pv 0) pa_nil)))) pss_nil)
        (pss_cons (ps_for PassesOwn.leaving rfl (pi_or (pi_list (pv 0)) (pi_tup (pv 0))) (pg_name (i := 1) sc_clause_of.nd rfl (Or.inl rfl)) (pss_one (ps_expr (pe_call G_check_literal (hr.mono (by decide)) rfl T.f_check_literal T.k_check_literal D.B_check_literal .nil (L2N.passes_call (L2N.takes_of rfl rfl rfl rfl) (fun _ _ _ _ h => h)) (pa_cons (pv 1) pa_nil)))))
        (pss_one (ps_ret (pe_call G_normal_form (hr.mono (by decide)) rfl T.f_normal_form T.k_normal_form D.B_normal_form .nil pass0 (pa_cons (pv 0) pa_nil)))))), ?_⟩
    have big : 1000 ≤ sizeLine := by decide
    refine ⟨_, rfl, (by show 2 ≤ sizeLine; decide), fun tp htp => ?_⟩
    have xt := Ex.new (o := .tup [.ty "list", .ty "tuple"]) htp
    have pc : Paired ClsV [V.ty "list", .ty "tuple"] [.type "list", .type "tuple"] := .cons (.ty _) (.cons (.ty _) .nil)
    rcases h with ⟨p, us, ls, rfl, hs, L, ok, few, fin⟩ | ⟨p, us, ls, i, bad, rfl, hs, hb, hv, L, ok, fin⟩ | ⟨hn, fin⟩
    · have hs1 := hs.ex xt
      obtain ⟨t, ty, kit⟩ := hs1.ty
      refine ⟨_, tp, _, t, _, true, rfl, upd_same, pc, ty, kit, _, rfl, iteF' rfl ?_⟩
      have L1 := L.ex xt
      generalize upd H tp (.tup [.ty "list", .ty "tuple"]) = H1 at *
      refine seq_go (fun Q q => ⟨_, rfl, q⟩) hs1 fun J G wk hG => for_it wk (fun i σ H' => ∃ o, σ = [some (.ref p), o] ∧ Ex H1 H') ⟨none, rfl, Ex.refl _⟩ (fun i σ H' _ ⟨_, _, e⟩ => hG H' e) ?_ ?_
      · rintro i x σ H2 H2' hi ⟨o, rfl, e2⟩ ⟨rfl, hx⟩
        obtain ⟨t, l, rfl, hl, ht⟩ := L1.get hx
        have okl := ok l (List.mem_of_getElem? hl)
        exact ⟨_, rfl, _, true, rfl, .inl ⟨litD l, lit_dp (SqT.of (e2 _ _ ht)), lit_sz okl, lit_is okl⟩, fun _ H3 e3 => ⟨_, rfl, e2.trans e3⟩, fun z => nomatch z⟩
      · rintro σ H2 ⟨o, rfl, e2⟩
        exact ⟨_, rfl, p, us, ls, rfl, hs1.ex e2, L1.ex e2, few, fun u us' ls' H' e hu LL m nd => fin u us' ls' H' (xt.trans (e2.trans e)) hu LL m nd⟩
    · have hs1 := hs.ex xt
      obtain ⟨t, ty, kit⟩ := hs1.ty
      refine ⟨_, tp, _, t, _, true, rfl, upd_same, pc, ty, kit, _, rfl, iteF' rfl ?_⟩
      have L1 := L.ex xt
      have hv1 := hv.ex xt
      have fin1 := fin.ex xt
      have hil := (List.getElem?_eq_some_iff.mp hb).1
      generalize upd H tp (.tup [.ty "list", .ty "tuple"]) = H1 at *
      refine seq_go (fun Q q => ⟨_, rfl, q⟩) hs1 fun J G wk hG => for_it wk (fun j σ H' => ∃ o, σ = [some (.ref p), o] ∧ Ex H1 H' ∧ j ≤ i) ⟨none, rfl, Ex.refl _, Nat.zero_le _⟩ (fun i σ H' _ ⟨_, _, e, _⟩ => hG H' e) ?_ ?_
      · rintro j x σ H2 H2' hj ⟨o, rfl, e2, lj⟩ ⟨rfl, hx⟩
        rcases Nat.lt_or_eq_of_le lj with lt | rfl
        · obtain ⟨t, l, rfl, hl, ht⟩ := L1.get (i := j) (v := x) (by rw [List.getElem?_take, if_pos lt]; exact hx)
          have okl := ok l (List.mem_of_getElem? hl)
          exact ⟨_, rfl, _, true, rfl, .inl ⟨litD l, lit_dp (SqT.of (e2 _ _ ht)), lit_sz okl, lit_is okl⟩, fun _ H3 e3 => ⟨_, rfl, e2.trans e3, lt⟩, fun z => nomatch z⟩
        · rw [hb] at hx
          obtain rfl := Option.some.inj hx
          exact ⟨_, rfl, _, false, rfl, hv1.ex e2, fun (z : false = true) => absurd z Bool.false_ne_true, fun _ => fin1.ex e2⟩
      · rintro σ H2 ⟨o, rfl, e2, lj⟩
        omega
    · have hn1 := hn.ex xt
      obtain ⟨t, ty, kit⟩ := hn1.ty
      refine ⟨v, tp, _, t, _, false, rfl, upd_same, pc, ty, kit, _, rfl, iteT' rfl ⟨_, rfl, _, rfl, fun dd hdd => fin dd _ (xt.trans (Ex.new hdd)) (fresh_back xt hdd) upd_same⟩⟩
end
end M6
set_option maxRecDepth 100000
set_option maxHeartbeats 8000000
namespace M6
open PySem L2 Evl GP HR SC SetM SetH

def spOpp : Sp := fun vs H Q _ => ∃ (p : Addr) (l : Lit), vs = [.ref p] ∧ H p = some (.tup (litV l)) ∧ LitOk l ∧ ∀ (q : Addr) H', Ex H H' → H q = none → H' q = some (.tup (litV (oppL l))) → Q (.ref q) H'
section
variable {P : Program} {w : World} {K : PySem.W.Frag} {mg : Str → Option Value} {base : Heap} {a : Ad} {d : Fd} {fL fC fW : Addr}
theorem ok_opposite (T : TX K mg a) (D : FDS K a d) : FnOk P w K mg base CX0 1 a.a_opposite d.a_opposite ["literal"] spOpp := by
  refine D.F_opposite.ok sc_opposite (fun vs H Q E h => ?_) (fun cdv A outer s H vs Q E hr h => ?_)
  · obtain ⟨p, l, rfl, _⟩ := h
    rfl
  · obtain ⟨p, l, rfl, hp, ok, fin⟩ := h
    refine ⟨_, (pss_cons (ps_if (pt_cmpR op_eq (pe_ix ix_tup (pv 0) pe_int (fun _ _ => rfl)) pe_str (nomark _)) (pss_cons (ps_asg (pv 0) (pg_tup rfl (pgs_cons (pg_name (i := 1) sc_opposite.nd rfl (Or.inl rfl)) (pgs_cons (pg_name (i := 2) sc_opposite.nd rfl (Or.inl rfl)) (pgs_cons (pg_name (i := 3) sc_opposite.nd rfl (Or.inl rfl)) (pgs_cons (pg_name (i := 4) sc_opposite.nd rfl (Or.inl rfl)) pgs_nil))))))
        (pss_one (ps_ret (pe_tup (pa_cons pe_str (pa_cons (pv 3) (pa_cons (pv 2) (pa_cons (pe_op op_sub (pe_un un_neg (pv 4)) pe_int) pa_nil)))))))) pss_nil)
        (pss_cons (ps_asg (pv 0) (pg_tup rfl (pgs_cons (pg_name (i := 5) sc_opposite.nd rfl (Or.inl rfl)) (pgs_cons (pg_name (i := 6) sc_opposite.nd rfl (Or.inl rfl)) pgs_nil))))
        (pss_one (ps_ret (pe_ifExp (pt_cmpR op_eq (pv 5) pe_str (nomark _)) (pe_tup (pa_cons pe_str (pa_cons (pv 6) pa_nil))) (pe_tup (pa_cons pe_str (pa_cons (pv 6) pa_nil)))))))), ?_⟩
    cases l with
    | most x y k =>
      refine ⟨_, rfl, p, _, 0, _, rfl, rfl, SqT.of hp, rfl, rfl, _, rfl, iteT' (by decide +kernel) ?_⟩
      refine ⟨_, rfl, p, _, rfl, SqT.of hp, rfl, _, _, rfl, _, _, rfl, _, _, rfl, _, _, rfl, rfl, ?_⟩
      exact ⟨_, rfl, _, rfl, _, rfl, k, rfl, -k, 1, rfl, rfl, (by show 4 ≤ sizeLine; decide), fun t ht => fin t _ (Ex.new ht) ht upd_same⟩
    | yn b x =>
      refine ⟨_, rfl, p, _, 0, _, rfl, rfl, SqT.of hp, rfl, rfl, _, rfl, iteF' (by cases b <;> decide +kernel) ?_⟩
      refine ⟨_, rfl, p, _, rfl, SqT.of hp, rfl, _, _, rfl, _, _, rfl, rfl, ?_⟩
      cases b with
      | true =>
        refine ⟨_, rfl, rfl, ?_⟩
        dsimp only
        rw [show decide (V.str (ynS true) = V.str "yes") = true by decide +kernel]
        refine ⟨_, rfl, ?_⟩
        rw [if_pos rfl]
        exact ⟨_, rfl, (by show 2 ≤ sizeLine; decide), fun t ht => fin t _ (Ex.new ht) ht upd_same⟩
      | false =>
        refine ⟨_, rfl, rfl, ?_⟩
        dsimp only
        rw [show decide (V.str (ynS false) = V.str "yes") = false by decide +kernel]
        refine ⟨_, rfl, ?_⟩
        rw [if_neg (by decide)]
        exact ⟨_, rfl, (by show 2 ≤ sizeLine; decide), fun t ht => fin t _ (Ex.new ht) ht upd_same⟩
end
end M6
set_option maxRecDepth 100000
set_option maxHeartbeats 4000000
/-! a set whose elements are found by any kind of key that stands on the heap -/
namespace SetG
open PySem PySem.Spec PyProof.Rows L2
variable {P : Program} {w : World} {κ : Type} [DecidableEq κ]
/-- what of a kind is asked for sets -/
structure SK (knd : HeapKind P w κ) : Prop where
  noClass : ∀ {A : Around} {E : Value → Shared → Prop} {s : Shared} {k : κ} {b : Addr} {Q : Bool → Shared → Prop}, knd.is s.heap k b → Q false s → wpAny (model P w) A (ofAClassStatement 8 (.ref b)) Q E s
  valued : ∀ {A : Around} {E : Value → Shared → Prop} {s : Shared} {k : κ} {b : Addr} {Q : Bool → Shared → Prop}, knd.is s.heap k b → (∀ v, Q v s) → wpAny (model P w) A (hashByValue 8 (.ref b)) Q E s
  apart : ∀ {h h' : Heap} {k : κ} {a b : Addr} {o : Obj} {es : Array (Int × Value)} {ep : Nat} {t : SetTable}, knd.is h k b → h.get? a = some o → o.data = .set es ep t → Heap.SameBut a h h' → knd.is h' k b
  keep : ∀ {h h' : Heap} {k : κ} {b : Addr}, knd.is h k b → (∀ c o, h.get? c = some o → h'.get? c = some o) → knd.is h' k b
  lies : ∀ {h : Heap} {k : κ} {b : Addr}, knd.is h k b → b < h.objs.size
section
variable {knd : HeapKind P w κ} {A : Around} {E : Value → Shared → Prop} {s : Shared}
/-- while a search goes on among such keys nothing is shown -/
theorem unseen (S : SK knd) {k : κ} {b : Addr} {Q : Bool → Shared → Prop} (hk : knd.is s.heap k b) {ys : List Value} (hy : ∀ y ∈ ys, ∃ k' c, y = Value.ref c ∧ knd.is s.heap k' c) (h : Q false s) :
    wpAny (model P w) A (searchCouldBeSeen (.ref b) ys) Q E s := by
  unfold searchCouldBeSeen
  refine wpAny_bind (wpAny_forIn_list _ (fun todo r s1 => r.1 = none ∧ s1 = s ∧ ∀ y ∈ todo, ∃ k' c, y = Value.ref c ∧ knd.is s.heap k' c) _ ?_ ?_ _ _ ⟨rfl, rfl, hy⟩)
  · rintro v todo ⟨r1, r2⟩ s1 ⟨e1, e2, all⟩
    dsimp only at e1
    subst e1 e2
    obtain ⟨k', c, rfl, hc⟩ := all v List.mem_cons_self
    have more : ∀ y ∈ todo, ∃ k' c, y = Value.ref c ∧ knd.is s1.heap k' c := fun y hm => all y (List.mem_cons_of_mem _ hm)
    dsimp only
    by_cases hv : (b == c || (carriedByValue (.ref b) && carriedByValue (.ref c))) = true
    · exact wp_if_pos hv (wpAny_pure ⟨rfl, rfl, more⟩)
    · refine wp_if_neg hv (wpAny_bind (knd.quiet hk ?_))
      simp only [Bool.not_true, Bool.false_eq_true, if_false]
      refine wpAny_bind (knd.quiet hc ?_)
      simp only [Bool.not_true, Bool.false_eq_true, if_false]
      refine wpAny_bind (S.noClass hk ?_)
      simp only [Bool.false_eq_true, if_false]
      refine wpAny_bind (S.noClass hc ?_)
      simp only [Bool.false_eq_true, if_false]
      exact wpAny_pure ⟨rfl, rfl, more⟩
  · rintro ⟨r1, r2⟩ s1 ⟨e1, e2, _⟩
    dsimp only at e1
    subst e1 e2
    exact wpAny_pure h
/-- the rows of the table, in the order in which they lie -/
def row (knd : HeapKind P w κ) (p : Addr × κ) : Int × Value := (knd.hash p.2, .ref p.1)
structure Held (knd : HeapKind P w κ) (h : Heap) (a : Addr) (L : List (Addr × κ)) (es : Array (Int × Value)) (ep : Nat) (t : SetTable) : Prop where
  at_ : ∃ o, h.get? a = some o ∧ o.ExactSet ∧ o.data = .set es ep t
  rows : es.toList = L.map (row knd)
  tab : TabOk t (L.map fun p => knd.hash p.2)
  nd : (L.map Prod.snd).Nodup
  own : ∀ p ∈ L, knd.is h p.2 p.1
  led : w.params.followText "set-order" = true ∨ t.led = true
  wide : L.length * 5 < t.mask * 3
  few : L.length < 64
variable {a : Addr} {L : List (Addr × κ)} {es : Array (Int × Value)} {ep : Nat} {t : SetTable}
theorem rows_size (hr : es.toList = L.map (row knd)) : es.size = L.length := by
  rw [← Array.length_toList, hr, List.length_map]
theorem rows_at (hr : es.toList = L.map (row knd)) {i : Nat} {p : Addr × κ} (h : L[i]? = some p) : es[i]? = some (knd.hash p.2, .ref p.1) := by
  rw [← Array.getElem?_toList, hr, List.getElem?_map, h]
  rfl
theorem Held.tsize {h : Heap} (R : Held knd h a L es ep t) : t.place.size = L.length := by
  have := R.tab.sz
  rwa [List.length_map] at this
theorem Held.fits {h : Heap} (R : Held knd h a L es ep t) : t.fits es.size = true := by
  have h1 := R.tsize
  have h2 := rows_size R.rows
  have h3 := R.wide
  unfold SetTable.fits SetTable.fill
  rw [R.tab.dm, Bool.and_eq_true, beq_iff_eq, decide_eq_true_eq]
  exact ⟨h1.trans h2.symm, by show t.place.size + 0 ≤ t.mask; omega⟩
/-- the c-th step of the way of hh -/
def stp (t : SetTable) (hh : Int) (c : Nat) : SetTable.Probe := nth t.mask (runAt t.mask (SetTable.bits hh % (t.mask + 1)) (SetTable.bits hh)) c
theorem stp_clear (t : SetTable) (hh : Int) (c : Nat) : (stp t hh c).dummy = none := by
  have all : ∀ (n : Nat) (p : SetTable.Probe), p.dummy = none → (nth t.mask p n).dummy = none := by
    intro n
    induction n with
    | zero => exact fun p h => h
    | succ n ih =>
      intro p h
      have h1 : (adv t.mask p).dummy = none := by unfold adv; split <;> exact h
      exact ih (adv t.mask p) h1
  exact all c _ rfl
theorem stp_on (t : SetTable) (hh : Int) (c q : Nat) : nth t.mask (stp t hh c) q = stp t hh (c + q) := (nth_add t.mask c _ q).symm
theorem even_no {m : Nat} {t : SetTable} (h : t.mask = m) (hm : MaskOk m) : ¬ t.gaveWay = true := by
  unfold SetTable.gaveWay
  rw [h, mask_odd hm]
  decide
/-- from any step of the way on, n steps ahead of the free slot -/
theorem seek (S : SK knd) (R : Held knd s.heap a L es ep t) {x : Addr} {k : κ} (hx : knd.is s.heap k x) (hu : knd.room A) {K : Nat} (hf : K < 10 * SetTable.turns t.mask) (hK : way t.mask (knd.hash k) K ∉ t.place.toList)
    (hb : ∀ c, c < K → way t.mask (knd.hash k) c ∈ t.place.toList) {Q : SetFound → Shared → Prop} (yes : k ∈ L.map Prod.snd → Q (.there none) s) (no : k ∉ L.map Prod.snd → Q (.free (way t.mask (knd.hash k) K) false) s) :
    ∀ (n fuel c : Nat) (st : Option SetTable.Probe), c + n = K → n < fuel → st.getD (t.probeStart (knd.hash k)) = stp t (knd.hash k) c →
      (∀ (i : Nat) p, L[i]? = some p → p.2 = k → ∃ c', c ≤ c' ∧ c' < K ∧ t.place.toList[i]? = some (way t.mask (knd.hash k) c')) →
      wpAny (model P w) A (setSearchFrom a (.ref x) (knd.hash k) true fuel st) Q E s := by
  intro n
  induction n using Nat.strongRecOn with
  | _ n ih =>
    intro fuel c st hc hfu hst ahead
    obtain ⟨fuel, rfl⟩ : ∃ f, fuel = f + 1 := ⟨fuel - 1, by omega⟩
    obtain ⟨o, ho, hex, hd⟩ := R.at_
    rw [setSearchFrom_succ]
    refine wpAny_bind (wpAny_setState_of ho hd R.fits ?_)
    dsimp only
    refine wp_if_neg (even_no rfl R.tab.mok) ?_
    try refine wpAny_bind (wpAny_pure ?_)
    have jw : ∀ q, (nth t.mask (stp t (knd.hash k) c) q).j = way t.mask (knd.hash k) (c + q) := fun q => congrArg SetTable.Probe.j (stp_on t _ c q)
    have hashed : ∀ (i : Nat) p, L[i]? = some p → (es[i]?.map Prod.fst).getD 0 = knd.hash p.2 := fun i p hp => by rw [rows_at R.rows hp]; rfl
    have out := go_spec t R.tab.ris R.tab.dm (fun i => (es[i]?.map (·.1)).getD 0) (knd.hash k) (10 * SetTable.turns t.mask) n (stp t (knd.hash k) c) (stp_clear t _ c) (by omega) (fun q hq => by rw [jw]; exact hb _ (by omega)) (by rw [jw, hc]; exact hK)
    rcases out with ⟨q, i, hq, hi, hh, first, hp⟩ | ⟨none_, hp⟩
    · have hp' : t.probe (fun i => (es[i]?.map (·.1)).getD 0) (knd.hash k) (st.getD (t.probeStart (knd.hash k))) = some (.candidate (way t.mask (knd.hash k) (c + q)) i (stp t (knd.hash k) (c + (q + 1)))) := by
        rw [hst, ← jw, ← stp_on]
        exact hp
      rw [hp']
      dsimp only
      rw [jw] at hi
      have hil : i < L.length := by
        have := (List.getElem?_eq_some_iff.mp hi).1
        rw [Array.length_toList, R.tsize] at this
        exact this
      obtain ⟨p, hpi⟩ : ∃ p, L[i]? = some p := ⟨L[i], List.getElem?_eq_getElem hil⟩
      have hpm := List.mem_of_getElem? hpi
      have hpk := R.own p hpm
      have go : wpAny (model P w) A (searchRest a (.ref x) (knd.hash k) true fuel es t (way t.mask (knd.hash k) (c + q)) i (stp t (knd.hash k) (c + (q + 1)))) Q E s := by
        unfold searchRest
        rw [rows_at R.rows hpi]
        dsimp only
        refine wpAny_bind (wpAny_holding (knd.eqBool hu hpk hx (wpAny_bind (wpAny_setState_of ho hd R.fits ?_))))
        dsimp only
        by_cases same : p.2 = k
        · exact wp_if_pos (by simp [same]) (wpAny_pure (yes (List.mem_map.mpr ⟨p, hpm, same⟩)))
        · refine wp_if_neg (by simp [same]) ?_
          try refine wpAny_bind (wpAny_pure ?_)
          rw [sameMem]
          dsimp only
          have live : t.slot (way t.mask (knd.hash k) (c + q)) = .live i := slot_live R.tab.ris hi
          simp only [if_true, live, rows_at R.rows hpi]
          refine wpAny_bind (wpAny_isSame_ref_self (wpAny_bind (wpAny_pure ?_)))
          simp only [if_true]
          refine wp_if_neg (by simp [same]) ?_
          refine ih (n - (q + 1)) (by omega) fuel (c + (q + 1)) _ (by omega) (by omega) rfl fun i0 p0 h0 k0 => ?_
          obtain ⟨c', l1, l2, l3⟩ := ahead i0 p0 h0 k0
          refine ⟨c', ?_, l2, l3⟩
          by_cases lt : c' < c + q
          · exact absurd ((hashed i0 p0 h0).trans (congrArg knd.hash k0)) (first (c' - c) i0 (by omega) (by rw [jw, show c + (c' - c) = c' by omega]; exact l3))
          · by_cases eq : c' = c + q
            · subst eq
              have l4 := slot_live R.tab.ris l3
              rw [live] at l4
              obtain rfl : i = i0 := by injection l4
              rw [hpi] at h0
              obtain rfl := Option.some.inj h0
              exact absurd k0 same
            · omega
      by_cases hl : t.led = true
      · refine wp_if_neg (by simp [hl]) ?_
        try refine wpAny_bind (wpAny_pure ?_)
        exact go
      · refine wp_if_pos (by simp [hl]) (wpAny_bind (unseen S hx (fun y hy => ?_) ?_))
        · obtain ⟨e, he, rfl⟩ := List.mem_map.mp hy
          have he2 : e ∈ es.toList := by
            have : e ∈ es ∧ e.1 = knd.hash k := by simpa using he
            simpa using this.1
          rw [R.rows] at he2
          obtain ⟨p2, hm2, rfl⟩ := List.mem_map.mp he2
          exact ⟨p2.2, p2.1, rfl, R.own p2 hm2⟩
        · refine wp_if_neg (by decide) ?_
          try refine wpAny_bind (wpAny_pure ?_)
          exact go
    · have hp' : t.probe (fun i => (es[i]?.map (·.1)).getD 0) (knd.hash k) (st.getD (t.probeStart (knd.hash k))) = some (.empty (way t.mask (knd.hash k) K) none) := by
        have e := jw n
        rw [hc] at e
        rw [hst, ← e]
        exact hp
      rw [hp']
      dsimp only
      refine wpAny_pure (no fun hm => ?_)
      obtain ⟨p0, hm0, k0⟩ := List.mem_map.mp hm
      obtain ⟨i0, h0⟩ := List.getElem?_of_mem hm0
      obtain ⟨c', l1, l2, l3⟩ := ahead i0 p0 h0 k0
      exact none_ (c' - c) i0 (by omega) (by rw [jw, show c + (c' - c) = c' by omega]; exact l3) ((hashed i0 p0 h0).trans (congrArg knd.hash k0))
/-- the search of an add -/
theorem sought (S : SK knd) (R : Held knd s.heap a L es ep t) {x : Addr} {k : κ} (hx : knd.is s.heap k x) (hu : knd.room A) {Q : SetFound → Shared → Prop} (yes : k ∈ L.map Prod.snd → Q (.there none) s)
    (no : ∀ K, k ∉ L.map Prod.snd → way t.mask (knd.hash k) K ∉ t.place.toList → (∀ c, c < K → way t.mask (knd.hash k) c ∈ t.place.toList) → Q (.free (way t.mask (knd.hash k) K) false) s) :
    wpAny (model P w) A (setSearch a (.ref x) (knd.hash k) true) Q E s := by
  have wd := R.wide
  obtain ⟨K, hf, hK, hb⟩ := R.tab.first (by rw [List.length_map]; omega) (knd.hash k)
  have turns : 10 * SetTable.turns t.mask ≤ 1420 := by
    unfold SetTable.turns
    rcases R.tab.mok with e | e | e <;> omega
  unfold setSearch
  refine seek S R hx hu hf hK hb yes (fun hn => no K hn hK hb) K 100000 0 none (Nat.zero_add K) (by omega) rfl fun i p hp hk => ?_
  have h1 : (L.map fun p => knd.hash p.2)[i]? = some (knd.hash k) := by rw [List.getElem?_map, hp, ← hk]; rfl
  have h2 : i < t.place.toList.length := by
    rw [Array.length_toList, R.tsize]
    exact (List.getElem?_eq_some_iff.mp hp).1
  obtain ⟨c, hc, e⟩ := R.tab.before hK h1 (List.getElem?_eq_getElem h2)
  exact ⟨c, Nat.zero_le _, hc, by rw [List.getElem?_eq_getElem h2, e]⟩
/-- the elements in a new order -/
theorem range_all {α : Type} : ∀ l : List α, (List.range l.length).filterMap (fun i => l[i]?) = l
  | [] => rfl
  | x :: l => by
    have e : (fun i => (x :: l)[i]?) 0 = some x := rfl
    rw [List.length_cons, List.range_succ_eq_map, List.filterMap_cons_some e, List.filterMap_map]
    exact congrArg (x :: ·) (range_all l)
theorem turned (hr : es.toList = L.map (row knd)) {order : Array Nat} (hp : order.toList.Perm (List.range L.length)) :
    ∃ Lm : List (Addr × κ), (order.filterMap (es[·]?)).toList = Lm.map (row knd) ∧ Lm.Perm L ∧ (Lm.map fun p => knd.hash p.2) = order.toList.map fun i => (es.map (·.1)).getD i 0 := by
  have low : ∀ i ∈ order.toList, i < L.length := fun i hi => List.mem_range.mp (hp.mem_iff.mp hi)
  have each : ∀ l : List Nat, (∀ i ∈ l, i < L.length) → l.filterMap (fun i => es[i]?) = (l.filterMap fun i => L[i]?).map (row knd) ∧ ((l.filterMap fun i => L[i]?).map fun p => knd.hash p.2) = l.map fun i => (es.map (·.1)).getD i 0 := by
    intro l
    induction l with
    | nil => exact fun _ => ⟨rfl, rfl⟩
    | cons i l ih =>
      intro hl
      have hi := hl i List.mem_cons_self
      obtain ⟨e1, e2⟩ := ih fun j hj => hl j (List.mem_cons_of_mem _ hj)
      have hL : L[i]? = some L[i] := List.getElem?_eq_getElem hi
      have hE := rows_at hr hL
      have hG : (es.map (·.1)).getD i 0 = knd.hash L[i].2 := by
        have h0 : (es.map (·.1))[i]? = some (knd.hash L[i].2) := by rw [Array.getElem?_map, hE]; rfl
        rw [Array.getD_eq_getD_getElem?, h0]
        rfl
      rw [List.filterMap_cons_some hE, List.filterMap_cons_some hL, List.map_cons, List.map_cons, List.map_cons, e1, e2, hG]
      exact ⟨rfl, rfl⟩
  obtain ⟨e1, e2⟩ := each order.toList low
  refine ⟨_, by rw [Array.toList_filterMap]; exact e1, ?_, e2⟩
  have h := hp.filterMap fun i => L[i]?
  rwa [range_all] at h
theorem fits_of {h : Heap} (hs : t.place.size = es.size) (dm : t.dummies = #[]) (hl : es.size ≤ t.mask) : t.fits es.size = true := by
  unfold SetTable.fits SetTable.fill
  rw [dm, Bool.and_eq_true, beq_iff_eq, decide_eq_true_eq]
  exact ⟨hs, by show t.place.size + 0 ≤ t.mask; omega⟩
/-- all laid anew in a larger table -/
theorem relay (S : SK knd) {o : Obj} (ho : s.heap.get? a = some o) (hex : o.ExactSet) (hd : o.data = .set es ep t) (hr : es.toList = L.map (row knd)) (hs : t.place.size = L.length) (dm : t.dummies = #[]) (hl : L.length ≤ t.mask) (nd : (L.map Prod.snd).Nodup)
    (own : ∀ p ∈ L, knd.is s.heap p.2 p.1) (ld : w.params.followText "set-order" = true ∨ t.led = true) (few : L.length < 64) {want M : Nat} (hw : SetTable.sizeAbove want - 1 = M) (hM : MaskOk M) (h128 : SetTable.sizeAbove want ≤ 128) (hn : L.length * 5 < M * 3)
    {Q : Unit → Shared → Prop} (hQ : ∀ h' L' es' ep' t', Heap.SameBut a s.heap h' → Held knd h' a L' es' ep' t' → L'.Perm L → Q () { s with heap := h' }) : wpAny (model P w) A (setRelay a want) Q E s := by
  have sz := rows_size hr
  obtain ⟨t', order, er, hp, T, tm, tl, tp, td⟩ := relaid_ok t (hs := es.map (·.1)) (wanted := want) hw hM (by rw [Array.size_map, sz]; omega)
  rw [Array.size_map, sz] at hp
  obtain ⟨Lm, r1, r2, r3⟩ := turned hr hp
  rw [← r3] at T
  have sz2 : (order.filterMap (es[·]?)).size = es.size := by rw [rows_size r1, r2.length_eq, sz]
  rw [setRelay_eq]
  refine wpAny_bind (wpAny_setState_of ho hd (fits_of (h := s.heap) (hs.trans sz.symm) dm (by omega)) ?_)
  dsimp only
  refine wp_if_neg (by rw [sizeLine_eq]; omega) ?_
  try refine wpAny_bind (wpAny_pure ?_)
  rw [er]
  dsimp only
  refine wpAny_bind (wp_if_neg (by rw [sz2]; simp) ?_)
  try refine wpAny_bind (wpAny_pure ?_)
  refine wpAny_pure ?_
  dsimp only
  refine wpAny_storeSet_of ho hd ?_ (by rw [sz2, sz, sizeLine_eq]; omega)
  have sb : Heap.SameBut a s.heap (s.heap.update a (Obj.putSet (order.filterMap (es[·]?)) t')) := Heap.SameBut.update ..
  exact hQ _ Lm _ (ep + 1) t' sb ⟨⟨_, store_at ho hd, ⟨hex.1, hex.2.1, hex.2.2⟩, rfl⟩, r1, T, (r2.map Prod.snd).nodup_iff.mpr nd, fun p hm => S.apart (own p (r2.mem_iff.mp hm)) ho hd sb, by rw [tl]; exact ld, by rw [r2.length_eq, tm]; exact hn, by rw [r2.length_eq]; exact few⟩ r2
/-- an element added -/
theorem added (S : SK knd) (R : Held knd s.heap a L es ep t) {x : Addr} {k : κ} (hx : knd.is s.heap k x) (hu : knd.room A) (few : L.length + 1 < 64) {Q : Bool → Shared → Prop}
    (hQ : ∀ b h' L' es' ep' t', Heap.SameBut a s.heap h' → Held knd h' a L' es' ep' t' → (k ∈ L.map Prod.snd → L' = L) → (k ∉ L.map Prod.snd → L'.Perm ((x, k) :: L)) → Q b { s with heap := h' }) :
    wpAny (model P w) A (setAddHashed a (.ref x) (knd.hash k)) Q E s := by
  obtain ⟨o, ho, hex, hd⟩ := R.at_
  have sz := rows_size R.rows
  have wd := R.wide
  unfold setAddHashed
  rw [show (100000 : Nat) = 99999 + 1 from rfl, setAddHashedIn_succ]
  refine wpAny_holding (wpAny_bind (wpAny_setState_of ho hd R.fits ?_))
  dsimp only
  refine wp_if_neg (by simp [byScan, Value.scannable]) ?_
  try refine wpAny_bind (wpAny_pure ?_)
  refine wpAny_bind (sought S R hx hu (fun hm => wpAny_pure (hQ false s.heap L es ep t (Heap.SameBut.refl a s.heap) R (fun _ => rfl) fun z => absurd hm z)) fun K hm hK hb => ?_)
  dsimp only
  refine wpAny_bind (wpAny_setState_of ho hd R.fits ?_)
  dsimp only
  obtain ⟨q1, q2, q3, q4, q5, _, _, _, q9⟩ := R.tab.put hK hb
  generalize hj : SetTable.below t.place (way t.mask (knd.hash k) K) = j at q1 q2 q3
  generalize hpt : t.put (way t.mask (knd.hash k) K) = pt at q1 q3 q4 q5 q9 ⊢
  obtain ⟨t0, j'⟩ := pt
  dsimp only at q1 q3 q4 q5 q9 ⊢
  subst q1
  suffices tail : ∀ t1 : SetTable, TabOk t1 ((L.map fun p => knd.hash p.2).take j' ++ knd.hash k :: (L.map fun p => knd.hash p.2).drop j') → t1.mask = t.mask → t1.led = t.led → t1.fill = (L.map fun p => knd.hash p.2).length + 1 → wpAny (model P w) A (do
      storeSet a (SetTable.insertAt es j' (knd.hash k, Value.ref x)) t1
      if (!false && t1.tooFull) = true then do
          setRelay a (SetTable.grown (es.size + 1))
          pure true
        else pure true) Q E s by
    have t9 := tail t0 q3 q4 q5 q9
    have t8 := tail { t0 with plain := false } ⟨q3.ris, q3.dm, q3.sz, q3.mok, q3.bd, q3.reach⟩ q4 q5 q9
    by_cases hp : t0.plain = true
    · refine wp_if_pos hp (wpAny_bind (S.valued hx fun v => ?_))
      cases v with
      | true => simpa using t9
      | false => simpa using t8
    · refine wp_if_neg hp ?_
      first
        | exact t9
        | simpa using t9
  intro t1 q3 q4 q5 q9
  have pm : (L.take j' ++ (x, k) :: L.drop j').Perm ((x, k) :: L) := put_perm L j' (x, k)
  have r1 : (SetTable.insertAt es j' (knd.hash k, Value.ref x)).toList = (L.take j' ++ (x, k) :: L.drop j').map (row knd) := by
    rw [SetTable.toList_insertAt, R.rows, List.map_append, List.map_cons, List.map_take, List.map_drop]
    rfl
  have hh : (L.take j' ++ (x, k) :: L.drop j').map (fun p => knd.hash p.2) = (L.map fun p => knd.hash p.2).take j' ++ knd.hash k :: (L.map fun p => knd.hash p.2).drop j' := by
    rw [List.map_append, List.map_cons, List.map_take, List.map_drop]
  rw [← hh] at q3
  generalize L.take j' ++ (x, k) :: L.drop j' = L1 at pm r1 q3
  have sz1 := rows_size r1
  have l1 : L1.length = L.length + 1 := pm.length_eq
  generalize SetTable.insertAt es j' (knd.hash k, Value.ref x) = es1 at r1 sz1 ⊢
  have nd1 : (L1.map Prod.snd).Nodup := (pm.map Prod.snd).nodup_iff.mpr (List.nodup_cons.mpr ⟨hm, R.nd⟩)
  have ts1 : t1.place.size = L1.length := by
    have := q3.sz
    rwa [List.length_map] at this
  refine wpAny_bind (wpAny_storeSet_of ho hd ?_ (by rw [sz1, l1, sizeLine_eq]; omega))
  have sb : Heap.SameBut a s.heap (s.heap.update a (Obj.putSet es1 t1)) := Heap.SameBut.update ..
  have ho1 := store_at (es' := es1) (t' := t1) ho hd
  generalize s.heap.update a (Obj.putSet es1 t1) = h1 at sb ho1 ⊢
  have own1 : ∀ p ∈ L1, knd.is h1 p.2 p.1 := fun p hp => by
    rcases List.mem_cons.mp (pm.mem_iff.mp hp) with rfl | hp
    · exact S.apart hx ho hd sb
    · exact S.apart (R.own p hp) ho hd sb
  have led1 : w.params.followText "set-order" = true ∨ t1.led = true := by rw [q5]; exact R.led
  have full : t1.tooFull = decide ((L.length + 1) * 5 ≥ t.mask * 3) := by
    unfold SetTable.tooFull
    rw [q9, q4, List.length_map]
  by_cases hf : t1.tooFull = true
  · rw [full, decide_eq_true_eq] at hf
    have which : (t.mask = 7 ∧ L.length = 4) ∨ (t.mask = 31 ∧ L.length = 18) := by
      rcases R.tab.mok with e | e | e <;> rw [e] at hf wd
      · exact .inl ⟨e, by omega⟩
      · exact .inr ⟨e, by omega⟩
      · omega
    have onto : ∀ M, SetTable.sizeAbove (SetTable.grown (L.length + 1)) - 1 = M → MaskOk M → SetTable.sizeAbove (SetTable.grown (L.length + 1)) ≤ 128 → (L.length + 1) * 5 < M * 3 →
        wpAny (model P w) A (setRelay a (SetTable.grown (L.length + 1))) (fun _ s1 => wpAny (model P w) A (pure true) Q E s1) E { s with heap := h1 } := fun M w1 w2 w3 w4 =>
      relay S (s := { s with heap := h1 }) ho1 ⟨hex.1, hex.2.1, hex.2.2⟩ rfl r1 ts1 q3.dm (by rw [l1, q4]; rcases which with ⟨e, e2⟩ | ⟨e, e2⟩ <;> omega) nd1 own1 led1 (by rw [l1]; exact few) w1 w2 w3 (by rw [l1]; exact w4)
        fun h2 Lm es2 ep2 t2 sb2 R2 pm2 => wpAny_pure (hQ true h2 Lm es2 ep2 t2 (sb.trans sb2) R2 (fun z => absurd z hm) fun _ => pm2.trans pm)
    have hf1 : (!false && t1.tooFull) = true := by rw [full, decide_eq_true hf]; rfl
    rw [sz]
    first
      | refine wp_if_pos hf1 (wpAny_bind ?_)
      | refine wpAny_bind (wp_if_pos hf1 ?_)
    rcases which with ⟨_, e2⟩ | ⟨_, e2⟩
    · exact onto 31 (by rw [e2, size_20]) (.inr (.inl rfl)) (by rw [e2, size_20]; decide) (by omega)
    · exact onto 127 (by rw [e2, size_76]) (.inr (.inr rfl)) (by rw [e2, size_76]; decide) (by omega)
  · have hf1 : ¬ (!false && t1.tooFull) = true := fun z => hf (by simpa using z)
    refine wp_if_neg hf1 (wpAny_pure (hQ true h1 L1 es1 (ep + 1) t1 sb ⟨⟨_, ho1, ⟨hex.1, hex.2.1, hex.2.2⟩, rfl⟩, r1, q3, nd1, own1, led1, ?_, by rw [l1]; exact few⟩ (fun z => absurd z hm) fun _ => pm))
    rw [full, decide_eq_true_eq] at hf
    rw [l1, q4]
    omega
theorem Held.move {h h' : Heap} (R : Held knd h a L es ep t) (k0 : ∀ o, h.get? a = some o → h'.get? a = some o) (k1 : ∀ p ∈ L, knd.is h' p.2 p.1) : Held knd h' a L es ep t :=
  { R with at_ := let ⟨o, ho, r⟩ := R.at_; ⟨o, k0 o ho, r⟩, own := k1 }
theorem Held.fresh {h : Heap} (ho : h.get? a = some (TSet.freshSet w)) : Held knd h a [] #[] 0 (.fresh 0 0 (!w.params.followText "set-order")) where
  at_ := ⟨_, ho, ⟨rfl, rfl, rfl⟩, rfl⟩
  rows := rfl
  tab := (setTR_fresh (P := P) (w := w) ho).tab
  nd := List.nodup_nil
  own := fun p hp => absurd hp List.not_mem_nil
  led := (setTR_fresh (P := P) (w := w) ho).led
  wide := by show 0 * 5 < 7 * 3; decide
  few := by show 0 < 64; decide
/-- what a set has taken from the first of the keys -/
structure Took (ks : List (Addr × κ)) (L : List (Addr × κ)) : Prop where
  from_ : ∀ p ∈ L, p ∈ ks
  got : ∀ q ∈ ks, q.2 ∈ L.map Prod.snd
  le : L.length ≤ ks.length
theorem Took.next {ks L L' : List (Addr × κ)} {q : Addr × κ} (T : Took ks L) (h1 : q.2 ∈ L.map Prod.snd → L' = L) (h2 : q.2 ∉ L.map Prod.snd → L'.Perm (q :: L)) : Took (ks ++ [q]) L' := by
  by_cases h : q.2 ∈ L.map Prod.snd
  · rw [h1 h]
    refine ⟨fun p hp => List.mem_append_left _ (T.from_ p hp), fun r hr => ?_, Nat.le_trans T.le (by simp)⟩
    rcases List.mem_append.mp hr with hr | hr
    · exact T.got r hr
    · rw [List.mem_singleton.mp hr]; exact h
  · have pm := h2 h
    refine ⟨fun p hp => ?_, fun r hr => ?_, by rw [pm.length_eq, List.length_cons, List.length_append]; exact Nat.succ_le_succ T.le⟩
    · rcases List.mem_cons.mp (pm.mem_iff.mp hp) with rfl | hp
      · exact List.mem_append_right _ (List.mem_singleton.mpr rfl)
      · exact List.mem_append_left _ (T.from_ p hp)
    · rw [(pm.map Prod.snd).mem_iff, List.map_cons]
      rcases List.mem_append.mp hr with hr | hr
      · exact List.mem_cons_of_mem _ (T.got r hr)
      · rw [List.mem_singleton.mp hr]; exact List.mem_cons_self
/-- set(a list) -/
theorem set_list (S : SK knd) {l : Addr} {items : Array Value} (ks : List (Addr × κ)) {Q : Value → Shared → Prop} (hh : A.handled = none) (hl : s.heap.IsList l items) (hi : items.toList = ks.map fun p => Value.ref p.1) (hk : ∀ p ∈ ks, knd.is s.heap p.2 p.1) (few : ks.length < 63)
    (hu : ∀ B : Around, B.units ≤ A.units + 3 → knd.room B)
    (k : ∀ (h' : Heap) (tk : Nat) L es ep t, Held knd h' s.heap.objs.size L es ep t → Took ks L → (∀ b o, s.heap.get? b = some o → h'.get? b = some o) → Q (.ref s.heap.objs.size) { s with heap := h', toks := tk }) :
    wpAny (model P w) A (call (.type "set") [.ref l]) Q E s := by
  have len : items.size = ks.length := by rw [← Array.length_toList, hi, List.length_map]
  have low : ∀ p ∈ ks, p.1 < s.heap.objs.size := fun p hp => S.lies (hk p hp)
  refine TSet.made_any hh hl (fun i h => (∃ L es ep t, Held knd h s.heap.objs.size L es ep t ∧ Took (ks.take i) L) ∧ ∀ c o, s.heap.get? c = some o → h.get? c = some o) ?_ ?_ ?_ ?_
  · rintro i h h' ⟨⟨L, es, ep, t, R, T⟩, kp⟩ e
    have kp' : ∀ c o, s.heap.get? c = some o → h'.get? c = some o := fun c o g => e _ o (Nat.ne_of_lt (Nat.lt_succ_of_lt (Heap.lt_size g))) (kp c o g)
    exact ⟨⟨L, es, ep, t, R.move (fun o => e _ o (Nat.ne_of_lt (Nat.lt_succ_self _))) (fun p hp => S.keep (hk p (List.mem_of_mem_take (T.from_ p hp))) kp'), T⟩, kp'⟩
  · exact fun h e kp => ⟨⟨[], _, _, _, Held.fresh e, fun _ h => absurd h List.not_mem_nil, fun _ h => absurd h List.not_mem_nil, Nat.le_refl _⟩, fun c o g => kp _ o g⟩
  · rintro B i v s1 E1 Q1 hB hv ⟨⟨L, es, ep, t, R, T⟩, kp⟩ q
    have hv2 : items.toList[i]? = some v := by rw [Array.getElem?_toList]; exact hv
    rw [hi, List.getElem?_map] at hv2
    obtain ⟨p, hp, rfl⟩ := Option.map_eq_some_iff.mp hv2
    have hpm := List.mem_of_getElem? hp
    have hx : knd.is s1.heap p.2 p.1 := S.keep (hk p hpm) kp
    have room := hu B hB
    have tk : ks.take (i + 1) = ks.take i ++ [p] := by rw [List.take_add_one, hp]; rfl
    unfold setAdd
    refine wpAny_holding (wpAny_bind (knd.pyHash room hx ?_))
    refine added (s := { s1 with toks := s1.toks + knd.draws p.2 }) S R hx room (by have := T.le; rw [List.length_take] at this; omega) fun b h' L' es' ep' t' sb R' n1 n2 => ?_
    refine q b h' (s1.toks + knd.draws p.2) (Nat.le_add_right _ _) sb ⟨⟨L', es', ep', t', R', by rw [tk]; exact T.next n1 n2⟩, fun c o g => ?_⟩
    rw [sb.2 c (Nat.ne_of_lt (Heap.lt_size g))]
    exact kp c o g
  · rintro h' tk ⟨⟨L, es, ep, t, R, T⟩, _⟩ keep
    rw [len, List.take_length] at T
    exact k h' tk L es ep t R T keep
end
end SetG
set_option maxRecDepth 100000
set_option maxHeartbeats 4000000
/-! set(a tuple), the keys of any depth -/
namespace SetG
open PySem PySem.Spec PyProof.Rows L2 TSet
variable {P : Program} {w : World} {κ : Type} [DecidableEq κ]
section
variable {knd : HeapKind P w κ} {A : Around} {E : Value → Shared → Prop} {s : Shared}
/-- set(a tuple) -/
theorem set_tup (S : SK knd) {l : Addr} {items : Array Value} (ks : List (Addr × κ)) {Q : Value → Shared → Prop} (hh : A.handled = none) (hl : s.heap.IsTuple l items) (hi : items.toList = ks.map fun p => Value.ref p.1) (hk : ∀ p ∈ ks, knd.is s.heap p.2 p.1) (few : ks.length < 63)
    (hu : ∀ B : Around, B.units ≤ A.units + 3 → knd.room B)
    (k : ∀ (h' : Heap) (tk : Nat) L es ep t, Held knd h' s.heap.objs.size L es ep t → Took ks L → (∀ b o, s.heap.get? b = some o → h'.get? b = some o) → Q (.ref s.heap.objs.size) { s with heap := h', toks := tk }) :
    wpAny (model P w) A (call (.type "set") [.ref l]) Q E s := by
  have len : items.size = ks.length := by rw [← Array.length_toList, hi, List.length_map]
  have low : ∀ p ∈ ks, p.1 < s.heap.objs.size := fun p hp => S.lies (hk p hp)
  refine SetH.made_tup hh hl (fun i h => (∃ L es ep t, Held knd h s.heap.objs.size L es ep t ∧ Took (ks.take i) L) ∧ ∀ c o, s.heap.get? c = some o → h.get? c = some o) ?_ ?_ ?_ ?_
  · rintro i h h' ⟨⟨L, es, ep, t, R, T⟩, kp⟩ e
    have kp' : ∀ c o, s.heap.get? c = some o → h'.get? c = some o := fun c o g => e _ o (Nat.ne_of_lt (Nat.lt_succ_of_lt (Heap.lt_size g))) (kp c o g)
    exact ⟨⟨L, es, ep, t, R.move (fun o => e _ o (Nat.ne_of_lt (Nat.lt_succ_self _))) (fun p hp => S.keep (hk p (List.mem_of_mem_take (T.from_ p hp))) kp'), T⟩, kp'⟩
  · exact fun h e kp => ⟨⟨[], _, _, _, Held.fresh e, fun _ h => absurd h List.not_mem_nil, fun _ h => absurd h List.not_mem_nil, Nat.le_refl _⟩, fun c o g => kp _ o g⟩
  · rintro B i v s1 E1 Q1 hB hv ⟨⟨L, es, ep, t, R, T⟩, kp⟩ q
    have hv2 : items.toList[i]? = some v := by rw [Array.getElem?_toList]; exact hv
    rw [hi, List.getElem?_map] at hv2
    obtain ⟨p, hp, rfl⟩ := Option.map_eq_some_iff.mp hv2
    have hpm := List.mem_of_getElem? hp
    have hx : knd.is s1.heap p.2 p.1 := S.keep (hk p hpm) kp
    have room := hu B hB
    have tk : ks.take (i + 1) = ks.take i ++ [p] := by rw [List.take_add_one, hp]; rfl
    unfold setAdd
    refine wpAny_holding (wpAny_bind (knd.pyHash room hx ?_))
    refine added (s := { s1 with toks := s1.toks + knd.draws p.2 }) S R hx room (by have := T.le; rw [List.length_take] at this; omega) fun b h' L' es' ep' t' sb R' n1 n2 => ?_
    refine q b h' (s1.toks + knd.draws p.2) (Nat.le_add_right _ _) sb ⟨⟨L', es', ep', t', R', by rw [tk]; exact T.next n1 n2⟩, fun c o g => ?_⟩
    rw [sb.2 c (Nat.ne_of_lt (Heap.lt_size g))]
    exact kp c o g
  · rintro h' tk ⟨⟨L, es, ep, t, R, T⟩, _⟩ keep
    rw [len, List.take_length] at T
    exact k h' tk L es ep t R T keep
end
end SetG
set_option maxRecDepth 100000
set_option maxHeartbeats 4000000
/-! sets of tuples of any depth, and sorted of them -/
namespace SetN
open PySem PySem.Spec PyProof.Rows L2 SetG
section
variable {P : Program} {w : World} {A : Around} {E : Value → Shared → Prop} {s : Shared}
theorem all_in {h : Heap} {ks : List NestedKey} {vs : List Value} (a : NestedAll h ks vs) : ∀ v ∈ vs, ∃ k, NestedIs h k v ∧ k.depth ≤ NestedKey.depthAll ks := by
  revert ks
  induction vs with
  | nil => exact fun _ v hv => absurd hv List.not_mem_nil
  | cons u vs ih =>
    intro ks a v hv
    cases a with
    | cons h1 h2 =>
      simp only [NestedKey.depthAll]
      rcases List.mem_cons.mp hv with rfl | hv
      · exact ⟨_, h1, Nat.le_max_left _ _⟩
      · obtain ⟨k, g1, g2⟩ := ih h2 v hv
        exact ⟨k, g1, Nat.le_trans g2 (Nat.le_max_right _ _)⟩
theorem class_no : ∀ (n : Nat) {k : NestedKey} {v : Value} {A : Around} {E : Value → Shared → Prop} {s : Shared} {Q : Bool → Shared → Prop}, NestedIs s.heap k v → k.depth ≤ n → Q false s → wpAny (model P w) A (ofAClassStatement n v) Q E s := by
  intro n
  induction n with
  | zero =>
    intro k v A E s Q hk hd h
    cases hk with
    | none => exact wpAny_pure h
    | bool e => exact wpAny_pure h
    | int i t => exact wpAny_pure h
    | text x t => exact wpAny_pure h
    | tup h1 h2 h3 h4 => simp [NestedKey.depth] at hd
  | succ n ih =>
    intro k v A E s Q hk hd h
    cases hk with
    | none => exact wpAny_pure h
    | bool e => exact wpAny_pure h
    | int i t => exact wpAny_pure h
    | text x t => exact wpAny_pure h
    | @tup a o vs m ks ho hc hdt hall =>
      have ty : s.TypeIs (.ref a) "tuple" := ⟨o, ho, hc⟩
      simp only [NestedKey.depth] at hd
      unfold ofAClassStatement
      refine wpAny_bind (wpAny_typeOf ty ?_)
      dsimp only
      simp only [show (("tuple" : String) == "tuple") = true by decide, if_true, Bool.not_true, Bool.false_eq_true, if_false]
      try refine wpAny_bind (wpAny_pure ?_)
      try simp only [Bool.not_true, Bool.false_eq_true, if_false]
      refine wpAny_bind (wpAny_seqItems ho hdt ?_)
      dsimp only
      rw [← Array.forIn_toList]
      refine wpAny_bind (wpAny_forIn_list _ (fun todo r s1 => r.1 = none ∧ s1 = s ∧ ∀ v ∈ todo, ∃ k, NestedIs s.heap k v ∧ k.depth ≤ n) _ ?_ ?_ _ _ ⟨rfl, rfl, fun v hv => ?_⟩)
      · rintro v todo ⟨r1, r2⟩ s1 ⟨e1, e2, all⟩
        dsimp only at e1
        subst e1 e2
        obtain ⟨q, hq, hdq⟩ := all v List.mem_cons_self
        refine wpAny_bind (ih hq hdq ?_)
        simp only [Bool.false_eq_true, if_false]
        exact wpAny_pure ⟨rfl, rfl, fun u hu => all u (List.mem_cons_of_mem _ hu)⟩
      · rintro ⟨r1, r2⟩ s1 ⟨e1, e2, _⟩
        dsimp only at e1
        subst e1 e2
        exact wpAny_pure h
      · obtain ⟨q, h1, h2⟩ := all_in hall v hv
        exact ⟨q, h1, by omega⟩
theorem hash_some : ∀ (n : Nat) {k : NestedKey} {v : Value} {A : Around} {E : Value → Shared → Prop} {s : Shared} {Q : Bool → Shared → Prop}, NestedIs s.heap k v → (∀ b, Q b s) → wpAny (model P w) A (hashByValue n v) Q E s := by
  intro n
  induction n with
  | zero =>
    intro k v A E s Q hk h
    cases hk with
    | none => exact wpAny_pure (h _)
    | bool e => exact wpAny_pure (h _)
    | int i t => exact wpAny_pure (h _)
    | text x t => exact wpAny_pure (h _)
    | tup h1 h2 h3 h4 => exact wpAny_pure (h _)
  | succ n ih =>
    intro k v A E s Q hk h
    cases hk with
    | none => exact wpAny_pure (h _)
    | bool e => exact wpAny_pure (h _)
    | int i t => exact wpAny_pure (h _)
    | text x t => exact wpAny_pure (h _)
    | @tup a o vs m ks ho hc hdt hall =>
      have ty : s.TypeIs (.ref a) "tuple" := ⟨o, ho, hc⟩
      unfold hashByValue
      refine wpAny_bind (wpAny_specialOf ty F.slot_tuple_hash.lookup ?_)
      refine wpAny_bind (wpAny_seqItems ho hdt ?_)
      dsimp only
      rw [← Array.forIn_toList]
      refine wpAny_bind (wpAny_forIn_list _ (fun todo r s1 => r.1 = none ∧ s1 = s ∧ ∀ v ∈ todo, ∃ k, NestedIs s.heap k v) _ ?_ ?_ _ _ ⟨rfl, rfl, fun v hv => ?_⟩)
      · rintro v todo ⟨r1, r2⟩ s1 ⟨e1, e2, all⟩
        dsimp only at e1
        subst e1 e2
        obtain ⟨q, hq⟩ := all v List.mem_cons_self
        refine wpAny_bind (ih hq fun c => ?_)
        cases c with
        | true =>
          simp only [Bool.not_true, Bool.false_eq_true, if_false]
          exact wpAny_pure ⟨rfl, rfl, fun u hu => all u (List.mem_cons_of_mem _ hu)⟩
        | false =>
          simp only [Bool.not_false, if_true]
          exact wpAny_pure (wpAny_pure (h _))
      · rintro ⟨r1, r2⟩ s1 ⟨e1, e2, _⟩
        dsimp only at e1
        subst e1 e2
        exact wpAny_pure (h _)
      · obtain ⟨q, h1, _⟩ := all_in hall v hv
        exact ⟨q, h1⟩
theorem kinds : SK (nestedKind P w) where
  noClass := fun hk h => class_no 8 hk.1 hk.2 h
  valued := fun hk h => hash_some 8 hk.1 h
  apart := fun {h h' k a b o es ep t} hk ho hd sb => ⟨NestedIs.at (fun c oc vs n hc hdc => by
    refine (sb.2 c fun z => ?_).trans hc
    rw [z, ho] at hc
    cases hc
    rw [hd] at hdc
    cases hdc) _ _ hk.1, hk.2⟩
  keep := fun hk kp => ⟨NestedIs.at (fun c oc vs n hc _ => kp c oc hc) _ _ hk.1, hk.2⟩
  lies := fun {h k b} hk => by
    obtain ⟨hk, _⟩ := hk
    cases hk with
    | tup h1 _ _ _ => exact Heap.lt_size h1
end
mutual
theorem reads_key {h : Heap} : ∀ (k : NestedKey) (v : Value) (as : List Addr), Reads h v k.data as → NestedIs h k v
  | .none, _, _, r => by cases r; exact .none
  | .num i, _, _, r => by cases r; exact .int _ _
  | .text x, _, _, r => by cases r; exact .text _ _
  | .tup ks, _, _, r => by
    cases r with
    | tuple h1 h2 h3 h4 => exact .tup h1 h2 h3 (reads_keys ks _ _ h4)
theorem reads_keys {h : Heap} : ∀ (ks : List NestedKey) (vs : List Value) (as : List Addr), ReadsAll h vs (NestedKey.datas ks) as → NestedAll h ks vs
  | [], _, _, r => by cases r; exact .nil
  | k :: ks, _, _, r => by
    cases r with
    | cons h1 h2 => exact .cons (reads_key k _ _ h1) (reads_keys ks _ _ h2)
end
def enN (p : Addr × NestedKey) : V × PyData := (.ref p.1, p.2.data)
theorem fits_own {P : Program} {w : World} {L : List (Addr × NestedKey)} {es : Array (Int × Value)} {t : SetTable} (rows : es.toList = L.map (row (nestedKind P w))) (tab : TabOk t (L.map fun p => (nestedKind P w).hash p.2)) (wide : L.length * 5 < t.mask * 3) : t.fits es.size = true := by
  have h1 := tab.sz
  rw [List.length_map] at h1
  have h2 := rows_size rows
  unfold SetTable.fits SetTable.fill
  rw [tab.dm, Bool.and_eq_true, beq_iff_eq, decide_eq_true_eq]
  exact ⟨h1.trans h2.symm, by show t.place.size + 0 ≤ t.mask; omega⟩
/-- at a a set of the tuples L -/
def SetNO (P : Program) (w : World) (a : Addr) (L : List (Addr × NestedKey)) : HO := .ext fun h => ∃ es ep t, (∃ o, h.get? a = some o ∧ o.ExactSet ∧ o.data = .set es ep t) ∧ es.toList = L.map (row (nestedKind P w)) ∧ TabOk t (L.map fun p => (nestedKind P w).hash p.2) ∧ (L.map Prod.snd).Nodup ∧ (w.params.followText "set-order" = true ∨ t.led = true) ∧ L.length * 5 < t.mask * 3 ∧ L.length < 64
theorem setNO_new {P : Program} {w : World} {H : Hp} {h : Heap} {a : Addr} {L : List (Addr × NestedKey)} {es : Array (Int × Value)} {ep : Nat} {t : SetTable} (R : Held (nestedKind P w) h a L es ep t) : ObjOk P w H h a (SetNO P w a L) := by
  obtain ⟨⟨o, ho, hex, hd⟩, rows, tab, nd, own, led, wide, few⟩ := R
  exact ⟨⟨es, ep, t, ⟨o, ho, hex, hd⟩, rows, tab, nd, led, wide, few⟩, ⟨o, ho⟩, fun h1 h2 ⟨es2, ep2, t2, ⟨o2, ho2, r⟩, r2⟩ keep => ⟨es2, ep2, t2, ⟨o2, keep _ ho2, r⟩, r2⟩⟩
section
variable {X : Cx}
theorem dp_key {pins : List (Addr × Obj)} {σ : L2.St} {H : Hp} {s : Shared} (I : Inv X pins σ H s) {b : Addr} {k : NestedKey} (h : Dp X.K H (.ref b) k.data) (d : k.depth ≤ 8) : (nestedKind X.prog X.w).is s.heap k b := by
  obtain ⟨as, r⟩ := Dp.reads I k.data (.ref b) (.ref b) h rfl
  exact ⟨reads_key k _ _ r, d⟩
theorem refs_are : ∀ {ks : List (Addr × NestedKey)} {us : List Value}, Vals (ks.map fun p => V.ref p.1) us → us = ks.map fun p => Value.ref p.1
  | [], _, .nil => rfl
  | _ :: _, _, .cons h r => by
    rw [List.map_cons, ← refs_are r]
    exact congrArg (· :: _) h
def rSetN (K : PySem.W.Frag) (P : Program) (w : World) : List V → Hp → VK → Prop := fun xs H Q => ∃ (l : Addr) (ks : List (Addr × NestedKey)), xs = [V.ref l] ∧ (SqL K H l (ks.map fun p => V.ref p.1) ∨ SqT K H l (ks.map fun p => V.ref p.1)) ∧ (∀ p ∈ ks, Dp K H (.ref p.1) p.2.data ∧ p.2.depth ≤ 8) ∧ ks.length < 63 ∧
  ∀ (L : List (Addr × NestedKey)) (p : Addr), Took ks L → (L.map Prod.snd).Nodup → H p = none → Q (.ref p) (upd H p (SetNO P w p L))
theorem cr_setN {K : PySem.W.Frag} {P : Program} {w : World} (hc : X.calm = true) (hu : X.A.units + 64 < cLine) (hK : X.K = K := by rfl) (hP : X.prog = P := by rfl) (hw : X.w = w := by rfl) : CallR X (.type "set") (rSetN K P w) := by
  subst hK hP hw
  intro pins s σ H xs us Q I r h
  obtain ⟨l, ks, rfl, hs, hk, few, q⟩ := h
  rw [Vals.ref1 r]
  have own : ∀ p ∈ ks, (nestedKind X.prog X.w).is s.heap p.2 p.1 := fun p hp => dp_key I (hk p hp).1 (hk p hp).2
  have room : ∀ B : Around, B.units ≤ X.A.units + 3 → (nestedKind X.prog X.w).room B := fun B hB => by show B.units + 8 < cLine; omega
  have fin : ∀ (h' : Heap) (tk : Nat) L es ep t, Held (nestedKind X.prog X.w) h' s.heap.objs.size L es ep t → Took ks L → (∀ b o, s.heap.get? b = some o → h'.get? b = some o) → EP X pins σ Q (.ref s.heap.objs.size) { s with heap := h', toks := tk } := fun h' tk L es ep t R T keep =>
    ⟨.ref _, upd H s.heap.objs.size (SetNO X.prog X.w s.heap.objs.size L), I.laid (t' := tk) keep (Nat.le_refl _) (setNO_new R), rfl, q L _ T R.nd (I.hok.fresh (Nat.le_refl _))⟩
  rcases hs with hs | hs
  · obtain ⟨its, rv, hl, _⟩ := I.list hs
    exact set_list kinds ks (I.ok.hd hc) hl.isList (refs_are rv) own few room fin
  · obtain ⟨its, rv, ht, _⟩ := I.tuple hs
    exact set_tup kinds ks (I.ok.hd hc) ht (refs_are rv) own few room fin
def rSortedN (K : PySem.W.Frag) (P : Program) (w : World) : List V → Hp → VK → Prop := fun vs H Q => ∃ (a : Addr) (L : List (Addr × NestedKey)), vs = [V.ref a] ∧ H a = some (SetNO P w a L) ∧ (∀ p ∈ L, Dp K H (.ref p.1) (NestedKey.data p.2) ∧ (NestedKey.data p.2).depth ≤ 50) ∧ PySem.W.AllAlike (L.map fun p => NestedKey.data p.2) ∧ PySem.W.Sortable (L.map fun p => NestedKey.data p.2) ∧
  ∀ (bs : List (V × PyData)) (p : Addr), bs.Perm (L.map enN) → H p = none → Q (.ref p) (upd H p (.lst ((SD.sortedD bs).map Prod.fst)))
theorem cr_sortedN {K : PySem.W.Frag} {P : Program} {w : World} (hc : X.calm = true) (hu : X.A.units + 64 < cLine) (hK : X.K = K := by rfl) (hP : X.prog = P := by rfl) (hw : X.w = w := by rfl) : CallR X (.builtin "sorted") (rSortedN K P w) := by
  subst hK hP hw
  intro pins s σ H vs us Q I r h
  obtain ⟨a, L, rfl, at_, hd, hal, hk, q⟩ := h
  obtain ⟨es, ep, t, ⟨o, ho, hex, hdt⟩, rows, tab, nd, led, wide, few⟩ := (I.hok a _ at_).1
  have ris := tab.ris
  have fits : t.fits es.size = true := fits_own rows tab wide
  rw [Vals.ref1 r]
  have sz : es.size = L.length := rows_size rows
  have e0 : PySem.W.EachIs (fun (u : Value) (b : V × PyData) => RelV b.1 u) (es.toList.map (·.2)) (L.map enN) := by
    rw [rows]
    have : ∀ L : List (Addr × NestedKey), PySem.W.EachIs (fun (u : Value) (b : V × PyData) => RelV b.1 u) ((L.map (row (nestedKind X.prog X.w))).map (·.2)) (L.map enN) := fun L => by
      induction L with
      | nil => exact .nil
      | cons p L ih => exact .cons rfl ih
    exact this L
  have eL : (L.map enN).map Prod.snd = L.map fun p => NestedKey.data p.2 := by rw [List.map_map]; rfl
  refine SetM.sorted_set (R := fun (u : Value) (b : V × PyData) => RelV b.1 u) (enc := fun b : V × PyData => b.2) ho hex hdt fits (by omega) ris led (I.ok.hd hc) e0 (fun v b hb hv => ?_) (by show PySem.W.AllAlike ((L.map enN).map Prod.snd); rw [eL]; exact hal) (by show PySem.W.Sortable ((L.map enN).map Prod.snd); rw [eL]; exact hk) (fun b hb => ?_)
    fun s' p out c bs keep g o hp hc' pm he => ?_
  · obtain ⟨p, hp, rfl⟩ := List.mem_map.mp hb
    exact Dp.reads I _ _ _ (hd p hp).1 hv
  · obtain ⟨p, hp, rfl⟩ := List.mem_map.mp hb
    have := (hd p hp).2
    show X.A.units + 4 + (NestedKey.data p.2).depth < cLine
    omega
  · have hn : H p = none := I.hok.fresh hp
    have len : ((SD.sortedD bs).map Prod.fst).length ≤ sizeLine := by
      rw [List.length_map, (SD.sorted_perm bs).length_eq, pm.length_eq, List.length_map, sizeLine_eq]
      omega
    have J : Inv X pins σ (upd H p (.lst ((SD.sortedD bs).map Prod.fst))) { s with heap := s'.heap, gens := s'.gens, drawn := s'.drawn, toks := s'.toks } :=
      I.call (ch := []) (Un.laid keep hp hn) (I.hok.laid keep hp ⟨len, out.toList, c, SD.each_vals he, hc'⟩) (by rw [g]; exact I.bare) (fun _ z => nomatch z)
    have es' : s' = { s with heap := s'.heap, gens := s'.gens, drawn := s'.drawn, toks := s'.toks } := by
      cases s'
      cases s
      cases o
      rfl
    rw [es']
    exact ⟨.ref p, _, J, rfl, q bs p pm hn⟩
end
end SetN
set_option maxRecDepth 100000
set_option maxHeartbeats 4000000
/-! {elt for .. in .. if ..}: one clause; sets of texts, sets of tuples -/
namespace SC
open PySem PySem.Spec PyProof.Rows L2 TSet
section
variable {prog : Program} {w : World} {A : Around} {R : Result → Shared → Prop} {s : Shared} {elt t0 i0 : Expr} {ifs0 : List Expr} {scope : Scope} {pos : Pos} {it acc : Value} {env : Env}
theorem turn_one : compTurn (.SetComp elt [⟨t0, i0, ifs0, 0⟩] scope pos) 0 it acc env =
    (standAt i0.pos >>= fun _ => pyNext it >>= fun r => match r with
      | none => pure (Fin.done Flow.next)
      | some v => letOwnedTupleGo t0 it v >>= fun _ => assign t0 env v >>= fun _ => tests ifs0 env >>= fun ok =>
        if ok = true then (eval elt env >>= fun v => standAt elt.pos >>= fun _ => call (.builtin "set.add") [acc, v] >>= fun _ => pure ()) >>= fun _ => PySem.again (.compLoop (.SetComp elt [⟨t0, i0, ifs0, 0⟩] scope pos) 0 it acc env)
        else PySem.again (.compLoop (.SetComp elt [⟨t0, i0, ifs0, 0⟩] scope pos) 0 it acc env)) := rfl
theorem loop_one (I : Nat → Shared → Prop) (hyp : ∀ n s, I n s → wpAny (model prog w) A (pyNext it) (fun r s1 => match r with
      | none => R (.ok .next) s1
      | some v => wpAny (model prog w) A (letOwnedTupleGo t0 it v) (fun _ s2 => wpAny (model prog w) A (assign t0 env v) (fun _ s3 => wpAny (model prog w) A (tests ifs0 env) (fun ok s4 =>
          if ok = true then wpAny (model prog w) A (eval elt env) (fun x s5 => wpAny (model prog w) A (call (.builtin "set.add") [acc, x]) (fun _ s6 => ∃ m, m < n ∧ I m s6) (fun _ _ => False) s5) (fun _ _ => False) s4
          else ∃ m, m < n ∧ I m s4) (fun _ _ => False) s3) (fun _ _ => False) s2) (fun _ _ => False) s1) (fun _ _ => False) s) (n : Nat) (hI : I n s) :
    codeAny (model prog w) A (.compLoop (.SetComp elt [⟨t0, i0, ifs0, 0⟩] scope pos) 0 it acc env) R s := by
  refine codeAny_loop rfl I (fun n s hI => ?_) n hI
  show wpAny _ _ ((compTurn (.SetComp elt [⟨t0, i0, ifs0, 0⟩] scope pos) 0 it acc env).onRaise _) _ _ _
  refine wpAny_onRaise ?_
  rw [turn_one]
  refine wpAny_bind (wpAny_standAt ?_)
  refine wpAny_bind (thnF (hyp n s hI) fun r s1 h1 => ?_)
  cases r with
  | none => exact wpAny_pure h1
  | some v =>
    refine wpAny_bind (thnF h1 fun _ s2 h2 => ?_)
    refine wpAny_bind (thnF h2 fun _ s3 h3 => ?_)
    refine wpAny_bind (thnF h3 fun ok s4 h4 => ?_)
    cases ok with
    | false => exact wpAny_pure ⟨rfl, h4⟩
    | true =>
      refine wpAny_bind (wpAny_bind (thnF h4 fun x s5 h5 => ?_))
      refine wpAny_bind (wpAny_standAt ?_)
      refine wpAny_bind (thnF h5 fun _ s6 h6 => ?_)
      exact wpAny_pure (wpAny_pure ⟨rfl, h6⟩)
theorem start_one
    (h : codeAny (model prog w) A (.compLoop (.SetComp elt [⟨t0, i0, ifs0, 0⟩] scope pos) 0 it acc env) R s)
    (h2 : wpAny (model prog w) A (pyIter it) (fun it' s' => codeAny (model prog w) A (.compLoop (.SetComp elt [⟨t0, i0, ifs0, 0⟩] scope pos) 0 it' acc env) R s') (fun _ _ => False) s) :
    codeAny (model prog w) A (.compStart (.SetComp elt [⟨t0, i0, ifs0, 0⟩] scope pos) 0 it acc env) R s := by
  refine codeAny_of_tree ?_
  show wpAny _ _ ((compStart (.SetComp elt [⟨t0, i0, ifs0, 0⟩] scope pos) 0 it acc env).onRaise _) _ _ _
  refine wpAny_onRaise ?_
  unfold compStart
  rw [show ((clausesOf (.SetComp elt [⟨t0, i0, ifs0, 0⟩] scope pos))[0]?.elim false fun x => x.is_async != 0) = false from rfl, if_neg Bool.false_ne_true]
  refine wpAny_bind (wpAny_askSetting ?_)
  by_cases g : (model prog w).w.params.followText "comprehension-iter-twice" = true
  · rw [if_pos g]
    exact wpAny_pure ⟨rfl, h⟩
  · rw [if_neg g]
    refine wpAny_bind (wpAny_rule ?_)
    cases hg : (clausesOf (.SetComp elt [⟨t0, i0, ifs0, 0⟩] scope pos))[0]? with
    | none => exact wpAny_bind (thnF h2 fun it' s' h3 => wpAny_pure ⟨rfl, h3⟩)
    | some g => exact wpAny_bind (wpAny_standAt (wpAny_bind (thnF h2 fun it' s' h3 => wpAny_pure ⟨rfl, h3⟩)))
end
/-- how an item is put into a set that stands at an address -/
abbrev Adder := Addr → V → Hp → (Hp → Prop) → Prop
/-- {elt for target in iter if ..} -/
def tScG (Z : Addr → HO) (ad : Adder) (wi : TI) (g : TG) (tt : TT) (te : TE) (vs : List Nat) : TE := fun σ H Q => wi σ H fun J H1 => ∀ D, H1 D = none → ∃ W : Nat → Nat → Hp → Prop, (∃ m, W 0 m (upd H1 D (Z D))) ∧ ∀ i m H, W i m H →
  (J.stop i H ∧ Q (.ref D) H) ∨ (J.go i H ∧ ∃ Nx : Hp → Prop, (∀ H', Nx H' → ∃ m', m' < m ∧ W (i + 1) m' H') ∧ ∀ x H', J.yld i H x H' → g x (wipe σ vs) H' fun σ2 H2 => wipe σ2 vs = wipe σ vs ∧ tt σ2 H2 fun b H3 =>
    if b = true then te σ2 H3 fun y H4 => ad D y H4 Nx else Nx H3)
/-- what is asked of the way of putting -/
structure SetKind (P : Program) (w : World) (K : PySem.W.Frag) (Z : Addr → HO) (ad : Adder) : Prop where
  new : ∀ {H : Hp} {h : Heap} {D : Addr}, h.get? D = some (freshSet w) → ObjOk P w H h D (Z D)
  add : ∀ {Y : Cx} {pins : List (Addr × Obj)} {σ : L2.St} {H : Hp} {s : Shared} {D : Addr} {y : V} {v : Value} {Nx : Hp → Prop}, Y.K = K → Y.prog = P → Y.w = w → Y.A.units + 70 < cLine → Inv Y pins σ H s → RelV y v → ad D y H Nx →
    wpAny (model P w) Y.A (call (.builtin "set.add") [.ref D, v]) (fun _ s' => ∃ H', Inv Y pins σ H' s' ∧ Nx H') (fun _ _ => False) s
section
variable {X : Cx} {elt tg iter : Expr} {ifs : List Expr} {scope : Scope} {own : List (Str × Nat)} {wi : TI} {g : TG} {tt : TT} {te : TE} {Z : Addr → HO} {ad : Adder}
theorem pe_scG {pos : Pos} (SS : SetKind X.prog X.w X.K Z ad) (room : X.A.units + 70 < cLine) (calm : X.calm = true) (diff : X.N.Nodup) (walk : PI X tg iter wi) (blk : BlkOk X.N X.env.scope scope own)
    (aim : ∀ (sh : Shared) (G : Hp) (C : Addr) (cl : List (Str × Addr)) (feet : List Addr), PG (X.blk sh G scope (compEnvC scope cl C X.env) feet) tg g)
    (tests : ∀ (sh : Shared) (G : Hp) (C : Addr) (cl : List (Str × Addr)) (feet : List Addr), PTs (X.blk sh G scope (compEnvC scope cl C X.env) feet) ifs tt)
    (elts : ∀ (sh : Shared) (G : Hp) (C : Addr) (cl : List (Str × Addr)) (feet : List Addr), PE (X.blk sh G scope (compEnvC scope cl C X.env) feet) elt te)
    (plain : ∀ x, foldedSetIterable iter X.env x = pure x := by intro _; rfl) :
    PE X (.SetComp elt [⟨tg, iter, ifs, 0⟩] scope pos) (tScG Z ad wi g tt te (own.map (·.2))) := by
  refine ⟨fun pp sh0 st G0 Q I0 ask => ?_⟩
  rw [arm_eval_SetComp]
  have frees : ∀ y ∈ scope.names, y.2 = .free → ∃ c, X.env.cells.lookup y.1 = some c := fun y hy e => (blk.free y hy e).elim (fun k => I0.ok.has _ (.inl k)) fun k => I0.ok.has _ (.inr k)
  refine wpAny_comprehension_free (use := none) rfl plain (closure_ok frees) blk.kind (fun y hy e => by rw [blk.uniq y hy, e]) (thn (walk.run pp sh0 st G0 _ I0 ask) fun xv sh1 came => thn came fun itv sh2 more => ?_)
  obtain ⟨it, feet, ten, J, G2, rfl, I2, T, at0, free2, turn⟩ := more
  refine new_set (newEnv_comp ?_)
  have new : G2 sh2.heap.objs.size = none := I2.hok.fresh (Nat.le_refl _)
  obtain ⟨W, ⟨m0, w0⟩, step⟩ := turn _ new
  obtain ⟨G3, eG3⟩ : ∃ G3, G3 = upd G2 sh2.heap.objs.size (Z sh2.heap.objs.size) := ⟨_, rfl⟩
  rw [← eG3] at w0
  obtain ⟨sh3, e3⟩ : ∃ sh3 : Shared, sh3 = { sh2 with heap := sh2.heap.push (freshSet X.w) } := ⟨_, rfl⟩
  have I3 : Inv X pp st G3 sh3 := by
    rw [e3, eG3]
    exact I2.laid (t' := sh2.toks) (fun b o q => Heap.get?_push_of_some _ q) (Nat.le_refl _) (SS.new (Heap.get?_push_size _ rfl))
  have heap3 : sh3.heap = sh2.heap.push (freshSet X.w) := by rw [e3]
  have low : ∀ b ∈ feet, b < sh2.heap.objs.size := fun b hb => Heap.lt_size (T.obj _ _ at0 b hb).choose_spec.1
  have free3 : ∀ b ∈ feet, FpOk X pp G3 b ∧ b < sh3.heap.objs.size := fun b hb => ⟨⟨by rw [eG3, upd_ne (Nat.ne_of_lt (low b hb))]; exact (free2 b hb).1, (free2 b hb).2⟩, by rw [heap3, Heap.size_push]; exact Nat.lt_succ_of_lt (low b hb)⟩
  have at3 : ten 0 sh3.heap := T.keep _ _ _ at0 fun b _ o q => by rw [heap3]; exact Heap.get?_push_of_some _ q
  have I4 := block_start I3 blk diff free3
  obtain ⟨C, eC⟩ : ∃ C, C = sh3.heap.objs.size := ⟨_, rfl⟩
  obtain ⟨cl, ecl⟩ : ∃ cl, cl = cellsFrom (sh3.heap.objs.size + 1) scope.names (cloFrom X.env.cells scope.names []) := ⟨_, rfl⟩
  obtain ⟨sh4, e4⟩ : ∃ sh4 : Shared, sh4 = { sh3 with heap := pushCells (sh3.heap.push { cls := .type "dict", data := .dict #[] }) scope.names } := ⟨_, rfl⟩
  rw [← ecl, ← eC, ← e4] at I4
  have at4 : ten 0 sh4.heap := T.keep _ _ _ at3 fun b _ o q => by rw [e4]; exact pushCells_keeps _ _ _ _ (Heap.get?_push_of_some _ q)
  have none3 : ∀ b ∈ feet, G3 b = none := fun b hb => (free3 b hb).1.1
  obtain ⟨Y, eY⟩ : ∃ Y, Y = X.blk sh3 G3 scope (compEnvC scope cl C X.env) feet := ⟨_, rfl⟩
  rw [← eY] at I4
  have held : ∀ {st' : L2.St} {G' : Hp} {sh' : Shared}, Inv Y [] st' G' sh' → (∀ b ∈ feet, G' b = none) → ∀ b ∈ feet, FpOk Y [] G' b := by
    subst eY
    exact fun {_ _ _} I' no b hb => ⟨no b hb, (I'.ok.exf b hb).1, I'.ok.exfs b hb, .inl hb, fun x c q => (I'.ok.exf b hb).2 x c q, fun p hp => absurd (show p ∈ ([] : List (Addr × Obj)) ++ [] from hp) (by simp)⟩
  have loop : codeAny (model X.prog X.w) X.A (.compLoop (.SetComp elt [⟨tg, iter, ifs, 0⟩] scope pos) 0 (.ref it) (.ref sh2.heap.objs.size) (compEnvC scope cl C X.env)) (compPost (model X.prog X.w) X.A X.xe none (EP X pp st Q) (.ref sh2.heap.objs.size) C) sh4 := by
    subst eY
    refine loop_one (fun left sh => ∃ i G, Inv (X.blk sh3 G3 scope (compEnvC scope cl C X.env) feet) [] (wipe st (own.map (·.2))) G sh ∧ ten i sh.heap ∧ (∀ b ∈ feet, G b = none) ∧ W i left G) ?_ m0 ⟨0, G3, I4, at4, none3, w0⟩
    rintro left sh5 ⟨i, G5, I5, at5, no5, w5⟩
    rcases step i left G5 w5 with ⟨over, good⟩ | ⟨on, Nx, fewer, go⟩
    · -- the walk is over
      refine thnF (T.done (X.blk sh3 G3 scope (compEnvC scope cl C X.env) feet) rfl rfl rfl calm i [] sh5 _ G5 (fun _ _ => False) I5 (held I5 no5) at5 over) fun r sh6 ⟨er, I6⟩ => ?_
      subst er
      have I7 : Inv X pp st G5 sh6 := I3.call' (ch := feet) I6.os I6.base I6.hok I6.bare fun b hb => let f := (free3 b hb).1.2; ⟨f.2.2.1, f.1, f.2.2.2.1, f.2.2.2.2⟩
      have noC : G5 C = none := I6.free
      obtain ⟨m, names, _⟩ := I6.loc
      obtain ⟨f0, f1, f2, f3, f4, f5⟩ := I3.fpOk (Nat.le_of_eq eC.symm) noC
      exact ⟨m, names, fun h'' sb => ⟨.ref sh2.heap.objs.size, G5, I7.turned (t' := sh6.toks) (fun b o hb q => (sb.2 b hb).trans q) f0 f1 f3 f4 f5, rfl, good⟩⟩
    · -- one turn
      refine thnF (T.item (X.blk sh3 G3 scope (compEnvC scope cl C X.env) feet) rfl rfl rfl calm i [] sh5 _ G5 (fun _ _ => False) I5 (held I5 no5) at5 on) fun r sh6 ⟨u, er, rest⟩ => ?_
      subst er
      refine thnF rest fun _ sh7 ⟨x, G7, I7, rx, y7, at7, no7⟩ => ?_
      have P7 := I7.pinned (held I7 no7) (T.obj _ _ at7)
      refine thnF ((aim sh3 G3 C cl feet).run _ sh7 _ G7 x u _ P7 rx (go x G7 y7)) fun _ sh8 ⟨st8, G8, I8, same8, q8⟩ => ?_
      refine thnF ((tests sh3 G3 C cl feet).run _ sh8 st8 G8 _ I8 q8) fun yes sh9 ⟨G9, I9, q9⟩ => ?_
      have back : ∀ {sh' : Shared} {G' : Hp}, Inv (X.blk sh3 G3 scope (compEnvC scope cl C X.env) feet) ([] ++ pinsAt feet sh7.heap) st8 G' sh' → Nx G' →
          ∃ m, m < left ∧ ∃ i G, Inv (X.blk sh3 G3 scope (compEnvC scope cl C X.env) feet) [] (wipe st (own.map (·.2))) G sh' ∧ ten i sh'.heap ∧ (∀ b ∈ feet, G b = none) ∧ W i m G := by
        intro sh' G' I' nx
        obtain ⟨m', less, w'⟩ := fewer G' nx
        have pin : ∀ b ∈ feet, ∀ o, sh7.heap.get? b = some o → sh'.heap.get? b = some o ∧ G' b = none := fun b hb o q => by
          have z := I'.pin (b, o) (List.mem_append_right _ (List.mem_append_right _ (mem_pinsAt hb q)))
          exact ⟨z.1, z.2.1⟩
        have len : (wipe st (own.map (·.2))).length = st8.length := by rw [← same8, wipe_length]
        refine ⟨m', less, i + 1, G', (I'.unpinned (pins := [])).weak len (fun j v q => ?_), T.keep _ _ _ at7 fun b hb o q => (pin b hb o q).1, fun b hb => ?_, w'⟩
        · rw [← same8] at q
          exact (wipe_some q).1
        · obtain ⟨o, q, _⟩ := T.obj _ _ at7 b hb
          exact (pin b hb o q).2
      cases yes with
      | false => exact back I9 q9
      | true =>
        refine thnF ((elts sh3 G3 C cl feet).run _ sh9 st8 G9 _ I9 q9) fun ku sh17 ⟨yk, G17, I17, rk, nx⟩ => ?_
        exact thnF (SS.add (Y := X.blk sh3 G3 scope (compEnvC scope cl C X.env) feet) rfl rfl rfl room I17 rk nx) fun _ sh18 ⟨G18, I18, n18⟩ => back I18 n18
  show codeAny _ _ (.compStart (.SetComp elt [⟨tg, iter, ifs, 0⟩] scope pos) 0 (.ref it) (.ref sh2.heap.objs.size) (compEnvC scope (cellsFrom (sh2.heap.push (freshSet X.w)).objs.size.succ scope.names (cloFrom X.env.cells scope.names [])) (sh2.heap.push (freshSet X.w)).objs.size X.env)) _ _
  rw [heap3] at eC ecl
  subst e3
  subst e4 ecl eC
  exact start_one loop (T.self X.A 0 _ _ _ at4 loop)
end
/-! ### texts, tuples -/
def adX (P : Program) (w : World) : Adder := fun D y H Nx => ∃ l z, y = .str z ∧ H D = some (SetX P w D l) ∧ l.length < 64 ∧ ∀ l' : List Str, l'.Nodup → (∀ q, q ∈ l' ↔ q = z ∨ q ∈ l) → l'.length ≤ l.length + 1 → Nx (upd H D (SetX P w D l'))
theorem kindX {P : Program} {w : World} {K : PySem.W.Frag} : SetKind P w K (fun D => SetX P w D []) (adX P w) where
  new := fun h => setX_new ⟨(#[], 0, .fresh 0 0 (!w.params.followText "set-order")), h, Txs.fresh⟩
  add := by
    rintro Y pins σ H s D y v Nx rfl rfl rfl room I r ⟨l, z, rfl, hD, few, nx⟩
    obtain ⟨tk, rfl⟩ := r
    obtain ⟨DD, e, F⟩ := (I.hok _ _ hD).1
    exact set_add_txt e F (by unfold scanBound; omega) fun h' tk' D' l' same a2 f2 m2 n2 => ⟨_, d_write (t' := tk') I (by rw [hD]; exact True.intro) same ⟨_, a2⟩ (setX_new ⟨D', a2, f2⟩), nx l' f2.nd m2 n2⟩
end SC
set_option maxRecDepth 100000
set_option maxHeartbeats 4000000
/-! set.add of a tuple of any depth; {tuple for .. in .. if ..} -/
namespace SC
open PySem PySem.Spec PyProof.Rows L2 TSet SetG SetN
section
variable {P : Program} {w : World} {A : Around} {E : Value → Shared → Prop} {s : Shared}
theorem set_add_key {a b : Addr} {k : NestedKey} {L : List (Addr × NestedKey)} {es : Array (Int × Value)} {ep : Nat} {t : SetTable} {Q : Value → Shared → Prop} (R : Held (nestedKind P w) s.heap a L es ep t) (hx : (nestedKind P w).is s.heap k b) (room : A.units + 70 < cLine) (few : L.length + 1 < 64)
    (h : ∀ h' tk L' es' ep' t', Heap.SameBut a s.heap h' → Held (nestedKind P w) h' a L' es' ep' t' → (k ∈ L.map Prod.snd → L' = L) → (k ∉ L.map Prod.snd → L'.Perm ((b, k) :: L)) → Q .none { s with heap := h', toks := tk }) :
    wpAny (model P w) A (call (.builtin "set.add") [.ref a, .ref b]) Q E s := by
  obtain ⟨o, ho, hex, hd⟩ := R.at_
  refine call_meetsIn (S := fun A R' s => A.units + 70 < cLine ∧ (nestedKind P w).is s.heap k b ∧ Held (nestedKind P w) s.heap a L es ep t ∧ ∀ h' tk L' es' ep' t', Heap.SameBut a s.heap h' → Held (nestedKind P w) h' a L' es' ep' t' → (k ∈ L.map Prod.snd → L' = L) → (k ∉ L.map Prod.snd → L'.Perm ((b, k) :: L)) → R' (.ok (.ret .none)) { s with heap := h', toks := tk }) F.slot_set_add ⟨_, ho, hex.1⟩ F.entry_set_add (F.args_set_add_2 _ _) (fun A R' s ⟨rm, hx, R, q⟩ => ?_) ⟨room, hx, R, fun h' tk L' es' ep' t' a b c d => h h' tk L' es' ep' t' a b c d⟩
  unfold Builtin.«set.add» Builtin.Frozenset.oneOther
  have add_ : ∀ {E' : Value → Shared → Prop} {Q' : Bool → Shared → Prop}, (∀ b' h' tk L' es' ep' t', Heap.SameBut a s.heap h' → Held (nestedKind P w) h' a L' es' ep' t' → (k ∈ L.map Prod.snd → L' = L) → (k ∉ L.map Prod.snd → L'.Perm ((b, k) :: L)) → Q' b' { s with heap := h', toks := tk }) → wpAny (model P w) A.in1 (setAdd a (.ref b)) Q' E' s := fun q' => by
    have rm1 : A.in1.units + 8 < cLine := by show A.units + 1 + 8 < cLine; omega
    unfold setAdd
    refine wpAny_holding (wpAny_bind ((nestedKind P w).pyHash (k := k) rm1 hx ?_))
    exact added (s := { s with toks := s.toks + (nestedKind P w).draws k }) kinds R hx rm1 few fun b' h' L' es' ep' t' c d e f => q' b' h' _ L' es' ep' t' c d e f
  wp_walk using add_
  exact fun b' h' tk L' es' ep' t' c d e f => wpAny_pure (q h' tk L' es' ep' t' c d e f)
end
def adN (K : PySem.W.Frag) (P : Program) (w : World) : Adder := fun D y H Nx => ∃ q k L, y = .ref q ∧ Dp K H (.ref q) (NestedKey.data k) ∧ k.depth ≤ 8 ∧ H D = some (SetNO P w D L) ∧ (∀ p ∈ L, Dp K H (.ref p.1) (NestedKey.data p.2) ∧ p.2.depth ≤ 8) ∧ L.length < 62 ∧
  ∀ L' : List (Addr × NestedKey), (k ∈ L.map Prod.snd → L' = L) → (k ∉ L.map Prod.snd → L'.Perm ((q, k) :: L)) → Nx (upd H D (SetNO P w D L'))
theorem kindN {P : Program} {w : World} {K : PySem.W.Frag} : SetKind P w K (fun D => SetNO P w D []) (adN K P w) where
  new := fun h => setNO_new (Held.fresh h)
  add := by
    rintro Y pins σ H s D y v Nx rfl rfl rfl room I r ⟨q, k, L, rfl, hq, dk, hD, all, few, nx⟩
    cases r
    obtain ⟨es, ep, t, at_, rows, tab, nd, led, wide, few'⟩ := (I.hok _ _ hD).1
    have R : Held (nestedKind Y.prog Y.w) s.heap D L es ep t := ⟨at_, rows, tab, nd, fun p hp => dp_key I (all p hp).1 (all p hp).2, led, wide, few'⟩
    exact set_add_key R (dp_key I hq dk) room (by omega) fun h' tk' L' es' ep' t' same R' n1 n2 => by
      obtain ⟨o, ho, _⟩ := R'.at_
      exact ⟨_, d_write (t' := tk') I (by rw [hD]; exact True.intro) same ⟨_, ho⟩ (setNO_new R'), nx L' n1 n2⟩
end SC
set_option maxRecDepth 100000
set_option maxHeartbeats 4000000
/-! {elt for .. in ..} where the item's expression may raise: the error leaves the comprehension -/
namespace SCE
open PySem PySem.Spec PyProof.Rows L2 TSet SC
/-! ### heaps that differ at one address -/
theorem ff_but {h h2 B B2 : Heap} {C : Addr} (hC : B.get? C ≠ none) (b2 : ∀ b, b ≠ C → B2.get? b = B.get? b) (e : ∀ b, b ≠ C → h2.get? b = h.get? b) : ∀ {l : List Env}, h.FunFrames B l → h2.FunFrames B2 l
  | [], _ => trivial
  | _ :: _, ⟨k, ⟨L, o, hf, n, ho, hd⟩, t⟩ =>
    have ne : L ≠ C := fun z => hC (z ▸ n)
    ⟨k, ⟨L, o, hf, (b2 L ne).trans n, (e L ne).trans ho, hd⟩, ff_but hC b2 e t⟩
theorem held_but {h h2 B B2 : Heap} {C a L : Addr} {l : List Env} {Z : Obj → Prop} (hC : B.get? C ≠ none) (nC : B2.get? C = none) (b2 : ∀ b, b ≠ C → B2.get? b = B.get? b) (e : ∀ b, b ≠ C → h2.get? b = h.get? b)
    (x : HandSPX.HeldZ B l a Z L h) : HandSPX.HeldZ B2 l a Z L h2 := by
  obtain ⟨st, na, ff, oe, vs, T, oT, ts, he, hz, hd, h1, hnT, hTe, hT, hdT, h3⟩ := x
  have aC : a ≠ C := fun z => hC (z ▸ na)
  have tC : T ≠ C := fun z => hC (z ▸ hnT)
  refine ⟨fun b o q => ?_, (b2 a aC).trans na, ff_but hC b2 e ff, oe, vs, T, oT, ts, (e a aC).trans he, hz, hd, h1, (b2 T tC).trans hnT, hTe, (e T tC).trans hT, hdT, h3⟩
  have ne : b ≠ C := fun z => by rw [z, nC] at q; cases q
  rw [b2 b ne] at q
  exact (e b ne).trans (st b o q)
theorem note_same {e : Value} {a b : Env} (h : a.frame = b.frame) : noteFrame e a = noteFrame e b := by
  unfold noteFrame PySem.frameOf
  rw [h]
section
variable {X : Cx} {pp pins : List (Addr × Obj)} {st σ : L2.St} {G3 G5 : Hp} {sh3 s5 s' : Shared} {scope : Scope} {cenv : Env} {feet : List Addr} {W : WX} {Ek : XK} {u : Value}
theorem err_out {E : Value → Shared → Prop} (hs : X.stack = X.env :: X.outer) (hf : X.env.frame = some X.env.locals) (tk : L2N.Takes X W) (I3 : Inv X pp st G3 sh3)
    (free3 : ∀ b ∈ feet, FpOk X pp G3 b ∧ b < sh3.heap.objs.size) (cf : cenv.frame = X.env.frame) (big : sh3.heap.objs.size ≤ cenv.locals)
    (I5 : Inv (X.blk sh3 G3 scope cenv feet) pins σ G5 s5) (hW : ∀ c d H', Ek c d H' → W c d st H') (c : L2N.CX X.prog X.w X.stack G5 s5 Ek u s') :
    wpAny (model X.prog X.w) X.A (noteFrame u cenv) (fun _ s1 => ∃ m, s1.heap.Ns cenv.locals m ∧ ∀ h2, Heap.SameBut cenv.locals s1.heap h2 →
      wpAny (model X.prog X.w) X.A (passOn "comprehension.variables-let-go" u cenv : Sem Value) (fun _ _ => False) X.xe { s1 with heap := h2 }) E s' := by
  obtain ⟨a, B, H', cls, d, rfl, fl, hok, ub, na, os, ag, hE⟩ := c
  have hfr : X.A.frames = some (X.env :: X.outer) := by rw [I3.ok.frames, hs]
  have nfr : cenv.locals ∉ frs X.stack := fun hm => by
    obtain ⟨_, o, ho, _⟩ := I3.stack.mem hm
    exact absurd (Nat.lt_of_lt_of_le (Heap.lt_size ho) big) (Nat.lt_irrefl _)
  obtain ⟨m, ⟨oC, es, ep, hoC, rC⟩, _⟩ := I5.loc
  have bC : B.get? cenv.locals = some oC := ub.keep _ _ hoC I5.free nfr
  have H'C : H' cenv.locals = none := ub.free _ _ hoC I5.free
  rw [note_same cf]
  have fl' : HandSPX.FlyingZ B (X.env :: X.outer) a (L2N.Zn cls d) s'.heap := by rw [← hs]; exact fl
  refine PXN.looks_onZ L2N.Zn.steady hfr hf fl' fun h1 hh up => ?_
  refine ⟨m, ⟨oC, es, ep, hh.1 _ _ bC, rC⟩, fun h2 sb => ?_⟩
  obtain ⟨B2, g1, g2⟩ := restrict B fun b => decide (b ≠ cenv.locals)
  have b2 : ∀ b, b ≠ cenv.locals → B2.get? b = B.get? b := fun b hb => g1 b (decide_eq_true hb)
  have nC : B2.get? cenv.locals = none := g2 _ (by simp)
  have hB : B.get? cenv.locals ≠ none := by rw [bC]; exact fun z => nomatch z
  have hh2 := held_but hB nC b2 (fun b hb => sb.2 b hb) hh
  obtain ⟨oe, vs, T, oT, ts, he, hz, hd, h1', hr⟩ := id hh2.2.2.2
  unfold PySem.passOn
  refine wpAny_bind (wpAny_field he hd h1' ?_)
  rw [if_neg (show ¬ ((Value.ref T == Value.none) = true) from by simp)]
  have fin : wpAny (model X.prog X.w) X.A (setFlight (.ref a) cenv.frame) (fun _ s4 => wpAny (model X.prog X.w) X.A (throw (.ref a) : Sem Value) (fun _ _ => False) X.xe s4) X.xe { s' with heap := h2 } := by
    rw [cf, hf]
    refine HandSPX.setFlight_onZ hh2 fun h4 hh4 up4 => wpAny_throw (tk _ _ ?_)
    have hok2 : HOk X.prog X.w H' B2 := fun b o q => (hok b o q).stay (fun c u hc r => by
      rw [b2 c fun z => ?_]
      · exact r
      · rcases hc with hc | hc
        · rw [← hc, z, H'C] at q; cases q
        · rw [z, H'C] at hc; cases hc) (fun _ r => r) fun _ _ r => r
    obtain ⟨G, k1, k2⟩ := restrict h4 fun b => (B2.get? b).isSome || decide (b ∈ frs X.stack)
    have gB : ∀ b o, B2.get? b = some o → G.get? b = some o := fun b o e => by
      rw [k1 b (by simp [e])]
      exact hh4.1 b o e
    have gF : ∀ b, b ∈ frs X.stack → G.get? b = h4.get? b := fun b hb => k1 b (by simp [hb])
    have og : ∀ b o, G.get? b = some o → h4.get? b = some o ∧ ((B2.get? b).isSome = true ∨ b ∈ frs X.stack) := fun b o e => by
      cases q : ((B2.get? b).isSome || decide (b ∈ frs X.stack)) with
      | false => rw [k2 b q] at e; cases e
      | true =>
        rw [k1 b q] at e
        exact ⟨e, by simpa [Bool.or_eq_true] using q⟩
    have low : ∀ b o, sh3.heap.get? b = some o → b ≠ cenv.locals := fun b o e z => absurd (Nat.lt_of_lt_of_le (Heap.lt_size e) (z ▸ big)) (Nat.lt_irrefl _)
    have fl5 : ∀ b o, sh3.heap.get? b = some o → b ∈ frs X.stack → b ∉ feet → ∃ sl, G.get? b = some { o with slots := sl } := fun b o e hb hx => by
      obtain ⟨_, o₀, e₀, hnf⟩ := I3.stack.mem hb
      rw [e] at e₀; cases e₀
      obtain ⟨sl, e1⟩ := I5.base.slot b o e (I3.stkFree b hb) hb hx
      obtain ⟨sl1, e2⟩ := ub.slot b _ e1 hb
      obtain ⟨sl2, e3⟩ := up b _ e2 hnf
      have e4 : h2.get? b = _ := (sb.2 b (low b o e)).trans e3
      obtain ⟨sl3, e5⟩ := up4 b _ e4 hnf
      exact ⟨sl3, (gF b hb).trans e5⟩
    refine ⟨a, B2, { s' with heap := G }, pp, st, H', cls, d, rfl, ?_, fun b o e hb => ?_, Heap.UpToSlots.of_keeps fun b o e => (og b o e).1, .inr (.inr (by rw [hs]; exact hh4)), na, rfl, ag, hW _ _ _ hE⟩
    · refine I3.call' (ch := feet) (os.trans I5.os) ⟨fun b o e n hb hx => ?_, fun b o e n hb hx => fl5 b o e hb hx, fun b o e n hx => ?_, fun b o e hx => ?_, fun b xs e => ub.tups b xs (I5.base.tups b xs e), fun b o u e => ub.frzs b o u (I5.base.frzs b o u e), fun b ps e => ?_⟩ (hok2.kept gB) ag fun b hb => let f := (free3 b hb).1.2; ⟨f.2.2.1, f.1, f.2.2.2.1, f.2.2.2.2⟩
      · have e1 := I5.base.keep b o e n hb hx
        have n1 := I5.base.free b o e n hx
        exact gB b o ((b2 b (low b o e)).trans (ub.keep b o e1 n1 hb))
      · obtain ⟨sl, e1⟩ := I5.base.any e n hx
        exact ub.free b _ e1 (I5.base.free b o e n hx)
      · by_cases hb : b ∈ frs X.stack
        · obtain ⟨sl, q⟩ := fl5 b o e hb hx
          exact ⟨_, q⟩
        · obtain ⟨o', e1⟩ := I5.base.there b o e hx
          obtain ⟨o2, e2⟩ := ub.there b o' e1 hb
          exact ⟨o2, gB b o2 ((b2 b (low b o e)).trans e2)⟩
      · obtain ⟨more, e1⟩ := I5.base.tbls b ps e
        obtain ⟨more2, e2⟩ := ub.tbls b _ e1
        exact ⟨more ++ more2, by rw [e2, Array.append_assoc]⟩
    · obtain ⟨e', h⟩ := og b o e
      rcases h with h | h
      · obtain ⟨o', q⟩ := Option.isSome_iff_exists.mp h
        have z := hh4.1 b o' q
        rw [e'] at z; cases z
        exact q
      · exact absurd h hb
  first
    | exact wpAny_bind (wpAny_pure (wpAny_bind fin))
    | exact wpAny_bind fin
end
/-! ### the comprehension -/
/-- what is asked once the block has run: the value, or the error that goes on -/
def Behind (M : Model) (A : Around) (E Q : Value → Shared → Prop) (acc : Value) (C : Addr) (cenv : Env) (r : Result) (s' : Shared) : Prop :=
  ∃ m, s'.heap.Ns C m ∧ ∀ h', Heap.SameBut C s'.heap h' → match r with
    | .ok _ => Q acc { s' with heap := h' }
    | .error x => wpAny M A (passOn "comprehension.variables-let-go" x cenv : Sem Value) (fun _ _ => False) E { s' with heap := h' }
section
variable {M : Model} {A : Around} {E Q : Value → Shared → Prop} {s : Shared} {env : Env}
theorem comp_behind {e : Expr} {scope : Scope} {pos : Pos} {newAcc first : Sem Value} {g : Comprehension} {gs : List Comprehension} {cl : List (Str × Addr)}
    (c1 : clausesOf e = g :: gs) (c2 : ∀ x, foldedSetIterable g.iter env x = pure x) (c3 : closureFor scope env = pure cl) (fn : scope.kind = .function) (lc : ∀ x ∈ scope.names, x.2 = .local → scope.names.lookup x.1 = some .local)
    (h : wpAny M A first (fun x s1 => wpAny M A (pyIter x) (fun it s2 => wpAny M A newAcc (fun acc s3 => wpAny M A (newFunctionEnv scope env.globals cl [] env.qual none .none (some env)) (fun cenv s4 =>
      codeAny M A (.compStart e 0 it acc { cenv with scope := relabel scope env }) (Behind M A E Q acc cenv.locals { cenv with scope := relabel scope env }) s4) E s3) E s2) E s1) E s) :
    wpAny M A (comprehension e scope env pos newAcc false first none) Q E s := by
  unfold comprehension
  rw [c3, c1]
  refine wpAny_bind (thn h fun x s1 h1 => wpAny_bind (wpAny_standAt (wpAny_bind (wpAny_of_eq (c2 x) (wpAny_bind (wpAny_holding (thn h1 fun it s2 h2 => ?_)))))))
  refine wpAny_standIf (wpAny_bind (thn h2 fun acc s3 h3 => wpAny_bind (wpAny_pure (wpAny_bind (thn h3 fun cenv s4 h4 => ?_)))))
  dsimp only
  have vs : ∀ x ∈ (scope.names.filter fun x => (x.2 == .local || x.2 == .cell) && x.1 != (".0" : Str)).reverse, x.2 = .local → Env.kindOf { cenv with scope := relabel scope env } x.1 = some .local :=
    fun x hx hl => lookup_relabel_local (lc x (List.mem_filter.mp (List.mem_reverse.mp hx)).1 hl)
  refine wpAny_holding (wpAny_bind (wpAny_attempt (wpAny_holding (wpAny_run (codeAny_mono h4 fun r s' ⟨m, hn, hr⟩ => ?_)))))
  cases r with
  | ok f => exact wpAny_bind (wpAny_holding (wpAny_comp_letGo (cenv := { cenv with scope := relabel scope env }) fn _ s' m vs hn fun h' _ _ sb => wpAny_pure (hr h' sb)))
  | error x => exact wpAny_bind (wpAny_holding (wpAny_comp_letGo (cenv := { cenv with scope := relabel scope env }) fn _ s' m vs hn fun h' _ _ sb => wpAny_mono (hr h' sb) (fun _ _ f => f.elim) fun _ _ y => y))
end
section
variable {prog : Program} {w : World} {A : Around} {R : Result → Shared → Prop} {s : Shared} {elt t0 i0 : Expr} {ifs0 : List Expr} {scope : Scope} {pos : Pos} {it acc : Value} {env : Env}
theorem loop_err (I : Nat → Shared → Prop) (hyp : ∀ n s, I n s → wpAny (model prog w) A (pyNext it) (fun r s1 => match r with
      | none => R (.ok .next) s1
      | some v => wpAny (model prog w) A (letOwnedTupleGo t0 it v) (fun _ s2 => wpAny (model prog w) A (assign t0 env v) (fun _ s3 => wpAny (model prog w) A (tests ifs0 env) (fun ok s4 =>
          if ok = true then wpAny (model prog w) A (eval elt env) (fun x s5 => wpAny (model prog w) A (call (.builtin "set.add") [acc, x]) (fun _ s6 => ∃ m, m < n ∧ I m s6) (fun _ _ => False) s5) (notedBy (model prog w) A env (fun e s' => R (.error e) s')) s4
          else ∃ m, m < n ∧ I m s4) (fun _ _ => False) s3) (fun _ _ => False) s2) (fun _ _ => False) s1) (fun _ _ => False) s) (n : Nat) (hI : I n s) :
    codeAny (model prog w) A (.compLoop (.SetComp elt [⟨t0, i0, ifs0, 0⟩] scope pos) 0 it acc env) R s := by
  refine codeAny_loop rfl I (fun n s hI => ?_) n hI
  show wpAny _ _ ((compTurn (.SetComp elt [⟨t0, i0, ifs0, 0⟩] scope pos) 0 it acc env).onRaise _) _ _ _
  refine wpAny_noted ?_
  rw [turn_one]
  refine wpAny_bind (wpAny_standAt ?_)
  refine wpAny_bind (thnF (hyp n s hI) fun r s1 h1 => ?_)
  cases r with
  | none => exact wpAny_pure h1
  | some v =>
    refine wpAny_bind (thnF h1 fun _ s2 h2 => ?_)
    refine wpAny_bind (thnF h2 fun _ s3 h3 => ?_)
    refine wpAny_bind (thnF h3 fun ok s4 h4 => ?_)
    cases ok with
    | false => exact wpAny_pure ⟨rfl, h4⟩
    | true =>
      refine wpAny_bind (wpAny_bind (thn h4 fun x s5 h5 => ?_))
      refine wpAny_bind (wpAny_standAt ?_)
      refine wpAny_bind (thnF h5 fun _ s6 h6 => ?_)
      exact wpAny_pure (wpAny_pure ⟨rfl, h6⟩)
end
/-- the block, with a wish about what leaves it -/
abbrev blkE (X : Cx) (s : Shared) (H : Hp) (scope : Scope) (cenv : Env) (fp : List Addr) (xe : Value → Shared → Prop) : Cx := { X.blk s H scope cenv fp with xe := xe }
theorem inv_xe {Y : Cx} {xe : Value → Shared → Prop} {p : List (Addr × Obj)} {σ : L2.St} {H : Hp} {s : Shared} (I : Inv Y p σ H s) : Inv { Y with xe := xe } p σ H s :=
  let ⟨ok, a1, a2, a3, a4, a5, a6, a7, a8, a9, a10⟩ := I
  let ⟨b1, b2, b3, b4, b5, b6, b7, b8, b9, b10, b11, b12, b13, b14, b15, b16, b17, b18⟩ := ok
  ⟨⟨b1, b2, b3, b4, b5, b6, b7, b8, b9, b10, b11, b12, b13, b14, b15, b16, b17, b18⟩, a1, a2, a3, a4, a5, a6, a7, a8, a9, a10⟩
theorem inv_un {X : Cx} {s : Shared} {H : Hp} {scope : Scope} {cenv : Env} {fp : List Addr} {xe : Value → Shared → Prop} {p : List (Addr × Obj)} {σ : L2.St} {G : Hp} {sh : Shared} (I : Inv (blkE X s H scope cenv fp xe) p σ G sh) : Inv (X.blk s H scope cenv fp) p σ G sh :=
  inv_xe (Y := blkE X s H scope cenv fp xe) (xe := fun _ _ => False) I
/-- as tScG; te: the item's term, by what is asked of an error -/
def tScE (Z : Addr → HO) (ad : Adder) (wi : TI) (g : TG) (tt : TT) (te : XK → TE) (W : WX) (vs : List Nat) : TE := fun σ H Q => tScG Z ad wi g tt (te fun c d H' => W c d σ H') vs σ H Q
section
variable {X : Cx} {elt tg iter : Expr} {ifs : List Expr} {scope : Scope} {own : List (Str × Nat)} {wi : TI} {g : TG} {tt : TT} {te : XK → TE} {Z : Addr → HO} {ad : Adder} {W : WX}
theorem pe_scE {pos : Pos} (SS : SetKind X.prog X.w X.K Z ad) (room : X.A.units + 70 < cLine) (calm : X.calm = true) (diff : X.N.Nodup) (walk : PI X tg iter wi) (blk : BlkOk X.N X.env.scope scope own)
    (hs : X.stack = X.env :: X.outer) (hf : X.env.frame = some X.env.locals) (tk : L2N.Takes X W)
    (aim : ∀ (sh : Shared) (G : Hp) (C : Addr) (cl : List (Str × Addr)) (feet : List Addr), PG (X.blk sh G scope (compEnvC scope cl C X.env) feet) tg g)
    (tests : ∀ (sh : Shared) (G : Hp) (C : Addr) (cl : List (Str × Addr)) (feet : List Addr), PTs (X.blk sh G scope (compEnvC scope cl C X.env) feet) ifs tt)
    (elts : ∀ (Ek : XK) (sh : Shared) (G : Hp) (C : Addr) (cl : List (Str × Addr)) (feet : List Addr) (xe : Value → Shared → Prop),
      Passes (L2N.CX X.prog X.w) (blkE X sh G scope (compEnvC scope cl C X.env) feet xe) Ek → PE (blkE X sh G scope (compEnvC scope cl C X.env) feet xe) elt (te Ek))
    (plain : ∀ x, foldedSetIterable iter X.env x = pure x := by intro _; rfl) :
    PE X (.SetComp elt [⟨tg, iter, ifs, 0⟩] scope pos) (tScE Z ad wi g tt te W (own.map (·.2))) := by
  refine ⟨fun pp sh0 st G0 Q I0 ask => ?_⟩
  rw [arm_eval_SetComp]
  have frees : ∀ y ∈ scope.names, y.2 = .free → ∃ c, X.env.cells.lookup y.1 = some c := fun y hy e => (blk.free y hy e).elim (fun k => I0.ok.has _ (.inl k)) fun k => I0.ok.has _ (.inr k)
  refine comp_behind rfl plain (closure_ok frees) blk.kind (fun y hy e => by rw [blk.uniq y hy, e]) (thn (walk.run pp sh0 st G0 _ I0 ask) fun xv sh1 came => thn came fun itv sh2 more => ?_)
  obtain ⟨it, feet, ten, J, G2, rfl, I2, T, at0, free2, turn⟩ := more
  refine new_set (newEnv_comp ?_)
  have new : G2 sh2.heap.objs.size = none := I2.hok.fresh (Nat.le_refl _)
  obtain ⟨V, ⟨m0, w0⟩, step⟩ := turn _ new
  obtain ⟨G3, eG3⟩ : ∃ G3, G3 = upd G2 sh2.heap.objs.size (Z sh2.heap.objs.size) := ⟨_, rfl⟩
  rw [← eG3] at w0
  obtain ⟨sh3, e3⟩ : ∃ sh3 : Shared, sh3 = { sh2 with heap := sh2.heap.push (freshSet X.w) } := ⟨_, rfl⟩
  have I3 : Inv X pp st G3 sh3 := by
    rw [e3, eG3]
    exact I2.laid (t' := sh2.toks) (fun b o q => Heap.get?_push_of_some _ q) (Nat.le_refl _) (SS.new (Heap.get?_push_size _ rfl))
  have heap3 : sh3.heap = sh2.heap.push (freshSet X.w) := by rw [e3]
  have low : ∀ b ∈ feet, b < sh2.heap.objs.size := fun b hb => Heap.lt_size (T.obj _ _ at0 b hb).choose_spec.1
  have free3 : ∀ b ∈ feet, FpOk X pp G3 b ∧ b < sh3.heap.objs.size := fun b hb => ⟨⟨by rw [eG3, upd_ne (Nat.ne_of_lt (low b hb))]; exact (free2 b hb).1, (free2 b hb).2⟩, by rw [heap3, Heap.size_push]; exact Nat.lt_succ_of_lt (low b hb)⟩
  have at3 : ten 0 sh3.heap := T.keep _ _ _ at0 fun b _ o q => by rw [heap3]; exact Heap.get?_push_of_some _ q
  have I4 := block_start I3 blk diff free3
  obtain ⟨C, eC⟩ : ∃ C, C = sh3.heap.objs.size := ⟨_, rfl⟩
  obtain ⟨cl, ecl⟩ : ∃ cl, cl = cellsFrom (sh3.heap.objs.size + 1) scope.names (cloFrom X.env.cells scope.names []) := ⟨_, rfl⟩
  obtain ⟨sh4, e4⟩ : ∃ sh4 : Shared, sh4 = { sh3 with heap := pushCells (sh3.heap.push { cls := .type "dict", data := .dict #[] }) scope.names } := ⟨_, rfl⟩
  rw [← ecl, ← eC, ← e4] at I4
  have at4 : ten 0 sh4.heap := T.keep _ _ _ at3 fun b _ o q => by rw [e4]; exact pushCells_keeps _ _ _ _ (Heap.get?_push_of_some _ q)
  have none3 : ∀ b ∈ feet, G3 b = none := fun b hb => (free3 b hb).1.1
  obtain ⟨Ek, eEk⟩ : ∃ Ek : XK, Ek = fun c d H' => W c d st H' := ⟨_, rfl⟩
  rw [← eEk] at step
  obtain ⟨xe, exe⟩ : ∃ xe : Value → Shared → Prop, xe = fun u s' => ∃ pins σ G s, Inv (X.blk sh3 G3 scope (compEnvC scope cl C X.env) feet) pins σ G s ∧ L2N.CX X.prog X.w X.stack G s Ek u s' := ⟨_, rfl⟩
  obtain ⟨Y, eY⟩ : ∃ Y, Y = blkE X sh3 G3 scope (compEnvC scope cl C X.env) feet xe := ⟨_, rfl⟩
  have I4 : Inv Y [] (wipe st (own.map (·.2))) G3 sh4 := by rw [eY]; exact inv_xe I4
  have held : ∀ {st' : L2.St} {G' : Hp} {sh' : Shared}, Inv Y [] st' G' sh' → (∀ b ∈ feet, G' b = none) → ∀ b ∈ feet, FpOk Y [] G' b := by
    subst eY
    exact fun {_ _ _} I' no b hb => ⟨no b hb, (I'.ok.exf b hb).1, I'.ok.exfs b hb, .inl hb, fun x c q => (I'.ok.exf b hb).2 x c q, fun p hp => absurd (show p ∈ ([] : List (Addr × Obj)) ++ [] from hp) (by simp)⟩
  have loop : codeAny (model X.prog X.w) X.A (.compLoop (.SetComp elt [⟨tg, iter, ifs, 0⟩] scope pos) 0 (.ref it) (.ref sh2.heap.objs.size) (compEnvC scope cl C X.env))
      (Behind (model X.prog X.w) X.A X.xe (EP X pp st Q) (.ref sh2.heap.objs.size) C (compEnvC scope cl C X.env)) sh4 := by
    subst eY
    refine loop_err (fun left sh => ∃ i G, Inv (blkE X sh3 G3 scope (compEnvC scope cl C X.env) feet xe) [] (wipe st (own.map (·.2))) G sh ∧ ten i sh.heap ∧ (∀ b ∈ feet, G b = none) ∧ V i left G) ?_ m0 ⟨0, G3, I4, at4, none3, w0⟩
    rintro left sh5 ⟨i, G5, I5, at5, no5, w5⟩
    rcases step i left G5 w5 with ⟨over, good⟩ | ⟨on, Nx, fewer, go⟩
    · -- the walk is over
      refine thnF (T.done (blkE X sh3 G3 scope (compEnvC scope cl C X.env) feet xe) rfl rfl rfl calm i [] sh5 _ G5 (fun _ _ => False) I5 (held I5 no5) at5 over) fun r sh6 ⟨er, I6⟩ => ?_
      subst er
      have I7 : Inv X pp st G5 sh6 := I3.call' (ch := feet) I6.os I6.base I6.hok I6.bare fun b hb => let f := (free3 b hb).1.2; ⟨f.2.2.1, f.1, f.2.2.2.1, f.2.2.2.2⟩
      have noC : G5 C = none := I6.free
      obtain ⟨m, names, _⟩ := I6.loc
      obtain ⟨f0, f1, f2, f3, f4, f5⟩ := I3.fpOk (Nat.le_of_eq eC.symm) noC
      exact ⟨m, names, fun h'' sb => ⟨.ref sh2.heap.objs.size, G5, I7.turned (t' := sh6.toks) (fun b o hb q => (sb.2 b hb).trans q) f0 f1 f3 f4 f5, rfl, good⟩⟩
    · -- one turn
      refine thnF (T.item (blkE X sh3 G3 scope (compEnvC scope cl C X.env) feet xe) rfl rfl rfl calm i [] sh5 _ G5 (fun _ _ => False) I5 (held I5 no5) at5 on) fun r sh6 ⟨u, er, rest⟩ => ?_
      subst er
      refine thnF rest fun _ sh7 ⟨x, G7, I7, rx, y7, at7, no7⟩ => ?_
      have P7 := I7.pinned (held I7 no7) (T.obj _ _ at7)
      refine thnF ((aim sh3 G3 C cl feet).run _ sh7 _ G7 x u _ (inv_un P7) rx (go x G7 y7)) fun _ sh8 ⟨st8, G8, I8, same8, q8⟩ => ?_
      refine thnF ((tests sh3 G3 C cl feet).run _ sh8 st8 G8 _ I8 q8) fun yes sh9 ⟨G9, I9, q9⟩ => ?_
      have I9 : Inv (blkE X sh3 G3 scope (compEnvC scope cl C X.env) feet xe) ([] ++ pinsAt feet sh7.heap) st8 G9 sh9 := inv_xe I9
      have back : ∀ {sh' : Shared} {G' : Hp}, Inv (blkE X sh3 G3 scope (compEnvC scope cl C X.env) feet xe) ([] ++ pinsAt feet sh7.heap) st8 G' sh' → Nx G' →
          ∃ m, m < left ∧ ∃ i G, Inv (blkE X sh3 G3 scope (compEnvC scope cl C X.env) feet xe) [] (wipe st (own.map (·.2))) G sh' ∧ ten i sh'.heap ∧ (∀ b ∈ feet, G b = none) ∧ V i m G := by
        intro sh' G' I' nx
        obtain ⟨m', less, w'⟩ := fewer G' nx
        have pin : ∀ b ∈ feet, ∀ o, sh7.heap.get? b = some o → sh'.heap.get? b = some o ∧ G' b = none := fun b hb o q => by
          have z := I'.pin (b, o) (List.mem_append_right _ (List.mem_append_right _ (mem_pinsAt hb q)))
          exact ⟨z.1, z.2.1⟩
        have len : (wipe st (own.map (·.2))).length = st8.length := by rw [← same8, wipe_length]
        refine ⟨m', less, i + 1, G', (I'.unpinned (pins := [])).weak len (fun j v q => ?_), T.keep _ _ _ at7 fun b hb o q => (pin b hb o q).1, fun b hb => ?_, w'⟩
        · rw [← same8] at q
          exact (wipe_some q).1
        · obtain ⟨o, q, _⟩ := T.obj _ _ at7 b hb
          exact (pin b hb o q).2
      cases yes with
      | false => exact back I9 q9
      | true =>
        have pass : Passes (L2N.CX X.prog X.w) (blkE X sh3 G3 scope (compEnvC scope cl C X.env) feet xe) Ek := fun pins σ H s e s' I c => by
          show xe e s'
          rw [exe]
          exact ⟨pins, σ, H, s, inv_un I, c⟩
        show wpAny _ _ _ _ _ _
        refine wpAny_mono ((elts Ek sh3 G3 C cl feet xe pass).run _ sh9 st8 G9 _ I9 q9) (fun ku sh17 ⟨yk, G17, I17, rk, nx⟩ => ?_) fun u s' he => ?_
        · exact thnF (SS.add (Y := blkE X sh3 G3 scope (compEnvC scope cl C X.env) feet xe) rfl rfl rfl room I17 rk nx) fun _ sh18 ⟨G18, I18, n18⟩ => back I18 n18
        · have he : xe u s' := he
          rw [exe] at he
          obtain ⟨pins, σ, G, s, I, c⟩ := he
          exact err_out hs hf tk I3 free3 rfl (Nat.le_of_eq eC.symm) I (fun c d H' h => by rw [eEk] at h; exact h) c
  show codeAny _ _ (.compStart (.SetComp elt [⟨tg, iter, ifs, 0⟩] scope pos) 0 (.ref it) (.ref sh2.heap.objs.size) (compEnvC scope (cellsFrom (sh2.heap.push (freshSet X.w)).objs.size.succ scope.names (cloFrom X.env.cells scope.names [])) (sh2.heap.push (freshSet X.w)).objs.size X.env)) _ _
  rw [heap3] at eC ecl
  subst e3
  subst e4 ecl eC
  exact start_one loop (T.self X.A 0 _ _ _ at4 loop)
end
end SCE
set_option maxRecDepth 100000
set_option maxHeartbeats 8000000
namespace M6
open PySem L2 Evl GP HR SC SetM SetH RQ
theorem hu70 {k : Nat} {A : Around} (r : Room k A) : A.units + 70 < cLine := by have := r.un; omega
def spAtom (K : PySem.W.Frag) (cL : Addr) : Sp := fun vs H Q E => ∃ x, vs = [x] ∧
  ((∃ p l, x = .ref p ∧ H p = some (.tup (litV l)) ∧ LitOk l ∧ ∀ (q : Addr) H', Ex H H' → H' q = some (.tup (litV (atomL l))) → Q (.ref q) H') ∨ (AnyV K H x false ∧ Raised cL "value" x H E))
section
variable {P : Program} {w : World} {K : PySem.W.Frag} {mg : Str → Option Value} {base : Heap} {a : Ad} {d : Fd} {fL fC fW : Addr}
theorem ok_atom_of (T : TX K mg a) (D : FDS K a d) (R : ER K mg P a fL fC fW) : FnOk P w K mg base (L2N.CX P w) 5 a.a_atom_of d.a_atom_of ["literal"] (spAtom K a.cL) := by
  have G_check_literal : FnOk P w K mg base (L2N.CX P w) 4 a.a_check_literal d.a_check_literal ["value"] (spChk K a.cL) := ok_check_literal T D R
  have G_opposite : FnOk P w K mg base CX0 1 a.a_opposite d.a_opposite ["literal"] spOpp := ok_opposite T D
  refine NX.okX D.F_atom_of sc_atom_of (fun vs H Q E h => ?_) (fun cdv A outer s H vs Q E hr h => ?_)
  · obtain ⟨x, rfl, _⟩ := h
    rfl
  · obtain ⟨x, rfl, h⟩ := h
    refine ⟨_, (pss_cons (ps_expr (pe_call G_check_literal (hr.mono (by decide)) rfl T.f_check_literal T.k_check_literal D.B_check_literal .nil (L2N.passes_call (L2N.takes_of rfl rfl rfl rfl) (fun _ _ _ _ h => h)) (pa_cons (pv 0) pa_nil)))
        (pss_cons (ps_set (i := 1) sc_atom_of.nd rfl (Or.inl rfl) (pe_call G_opposite (hr.mono (by decide)) rfl T.f_opposite T.k_opposite D.B_opposite .nil pass0 (pa_cons (pv 0) pa_nil)))
        (pss_cons (ps_if (pt_cmpR op_eq (pe_ix ix_tup (pv 0) pe_int (fun _ _ => rfl)) pe_str (nomark _)) (pss_one (ps_ret (pe_ifExp (pt_cmpR op_lt_str (pe_ix ix_tup (pv 0) pe_int (fun _ _ => rfl)) (pe_ix ix_tup (pv 0) pe_int (fun _ _ => rfl)) (nomark _)) (pv 0) (pv 1)))) pss_nil)
        (pss_one (ps_ret (pe_ifExp (pt_cmpR op_eq (pe_ix ix_tup (pv 0) pe_int (fun _ _ => rfl)) pe_str (nomark _)) (pv 0) (pv 1))))))), ?_⟩
    rcases h with ⟨p, l, rfl, hp, ok, q⟩ | ⟨hv, fin⟩
    · refine ⟨_, rfl, _, true, rfl, .inl ⟨litD l, lit_dp (SqT.of hp), lit_sz ok, lit_is ok⟩, fun _ H1 e1 => ?_, (fun z => nomatch z)⟩
      refine ⟨_, rfl, p, l, rfl, e1 _ _ hp, ok, fun u H2 e2 _ hu => ?_⟩
      have e12 := e1.trans e2
      have h2 := e12 _ _ hp
      cases l with
      | most x y k =>
        refine ⟨_, rfl, p, _, 0, _, rfl, rfl, SqT.of h2, at_lit (n := 0) rfl rfl, rfl, _, rfl, iteT' (decide_eq_true rfl) ?_⟩
        refine ⟨_, rfl, p, _, 1, _, rfl, rfl, SqT.of h2, at_lit (n := 1) rfl rfl, _, rfl, p, _, 2, _, rfl, rfl, SqT.of h2, at_lit (n := 2) rfl rfl, x, y, rfl, rfl, _, rfl, ?_⟩
        show (if ltS x y = true then _ else _)
        refine ite2 (fun g => ?_) (fun g => ?_)
        · exact ⟨_, rfl, q p H2 e12 (by show H2 p = some (.tup (litV (if ltS x y = true then .most x y k else .most y x (-k - 1)))); rw [if_pos g]; exact h2)⟩
        · exact ⟨_, rfl, q u H2 e12 (by show H2 u = some (.tup (litV (if ltS x y = true then .most x y k else .most y x (-k - 1)))); rw [if_neg g]; exact hu)⟩
      | yn b x =>
        have nm : decide (V.str (ynS b) = V.str ("most" : Str)) = false := by cases b <;> decide +kernel
        refine ⟨_, rfl, p, _, 0, _, rfl, rfl, SqT.of h2, at_lit (n := 0) rfl rfl, rfl, _, rfl, iteF' nm ?_⟩
        refine ⟨_, rfl, p, _, 0, _, rfl, rfl, SqT.of h2, at_lit (n := 0) rfl rfl, rfl, _, rfl, ?_⟩
        cases b with
        | true => exact iteT' (decide_eq_true rfl) ⟨_, rfl, q p H2 e12 h2⟩
        | false => exact iteF' (by decide +kernel) ⟨_, rfl, q u H2 e12 hu⟩
    · exact ⟨_, rfl, _, false, rfl, hv, (fun z => nomatch z), fun _ => fin⟩
end
/-! ### atoms_of -/
open SetG SetN SCE
theorem sg_it {J : It} {n : Nat} {G : Hp → Prop} {Y : Nat → Hp → V → Hp → Prop} (wk : L2.Walk J n G Y) {Z : Addr → HO} {ad : Adder} {g : TG} {tt : TT} {te : TE} {vs : List Nat} {σ : L2.St} {H1 : Hp} {D : Addr} {Qd : Hp → Prop} (Pv : Nat → Hp → Prop) (h0 : Pv 0 (upd H1 D (Z D))) (hG : ∀ i H, Pv i H → G H)
    (hs : ∀ i x H H', i < n → Pv i H → Y i H x H' → g x (wipe σ vs) H' fun σ2 H2 => wipe σ2 vs = wipe σ vs ∧ tt σ2 H2 fun b H3 => if b = true then te σ2 H3 fun y H4 => ad D y H4 (Pv (i + 1)) else Pv (i + 1) H3) (hd : ∀ H, Pv n H → Qd H) :
    ∃ W : Nat → Nat → Hp → Prop, (∃ m, W 0 m (upd H1 D (Z D))) ∧ ∀ i m H, W i m H →
      (J.stop i H ∧ Qd H) ∨ (J.go i H ∧ ∃ Nx : Hp → Prop, (∀ H', Nx H' → ∃ m', m' < m ∧ W (i + 1) m' H') ∧ ∀ x H', J.yld i H x H' → g x (wipe σ vs) H' fun σ2 H2 => wipe σ2 vs = wipe σ vs ∧ tt σ2 H2 fun b H3 => if b = true then te σ2 H3 fun y H4 => ad D y H4 Nx else Nx H3) := by
  refine ⟨fun i m H => m = n - i ∧ i ≤ n ∧ Pv i H, ⟨n, by simp, Nat.zero_le _, h0⟩, ?_⟩
  rintro i m H ⟨rfl, hi, p⟩
  have q := hG i H p
  rcases Nat.lt_or_eq_of_le hi with hlt | e
  · exact .inr ⟨wk.goes i H hlt q, Pv (i + 1), fun H' p' => ⟨n - (i + 1), by omega, rfl, hlt, p'⟩, fun x H' y => hs i x H H' hlt p (wk.yields i H x H' hlt q y)⟩
  · rw [e] at p ⊢
    exact .inl ⟨wk.stops H q, hd H p⟩
/-- a literal as a key of a set -/
def litN : Lit → NestedKey
  | .yn b x => .tup [.text (ynS b), .text x]
  | .most x y k => .tup [.text "most", .text x, .text y, .num k]
theorem litN_D (l : Lit) : (litN l).data = litD l := by cases l <;> rfl
theorem litN_depth (l : Lit) : (litN l).depth ≤ 8 := by cases l <;> simp [litN, NestedKey.depth, NestedKey.depthAll]
theorem litN_inj {l m : Lit} (h : litN l = litN m) : l = m := by
  have := congrArg (fun k => litOfD (NestedKey.data k)) h
  rwa [litN_D, litN_D, litOf, litOf] at this
def GoodA (H : Hp) (ls : List Lit) (Q : VK) : Prop := ∀ (u : Addr) (us' : List V) (ls' : List Lit) H', Ex H H' → H' u = some (.tup us') → Lits H' us' ls' → (∀ z, z ∈ ls' ↔ z ∈ ls.map atomL) → AscL ls' → Q (.ref u) H'
def spAtoms (K : PySem.W.Frag) (cL : Addr) : Sp := fun vs H Q E => ∃ p us, vs = [.ref p] ∧ Seq K H p us ∧
  ((∃ (ls S : List Lit), Lits H us ls ∧ (∀ l ∈ ls, LitOk l) ∧ S.length ≤ 50 ∧ (∀ l ∈ ls, atomL l ∈ S) ∧ GoodA H ls Q) ∨
   (∃ (ls S : List Lit) (i : Nat) (bad : V), S.length ≤ 50 ∧ (∀ l ∈ ls, atomL l ∈ S) ∧ us[i]? = some bad ∧ AnyV K H bad false ∧ Lits H (us.take i) ls ∧ (∀ l ∈ ls, LitOk l) ∧ Raised cL "value" bad H E))
theorem sub_lenA {α : Type} : ∀ {l m : List α}, l.Nodup → (∀ z ∈ l, z ∈ m) → l.length ≤ m.length
  | [], _, _, _ => Nat.zero_le _
  | x :: l, m, nd, h => by
    obtain ⟨s, t, rfl⟩ := List.append_of_mem (h x List.mem_cons_self)
    obtain ⟨n1, n2⟩ := List.nodup_cons.mp nd
    have := sub_lenA (m := s ++ t) n2 fun z hz => by
      rcases List.mem_append.mp (h z (List.mem_cons_of_mem _ hz)) with g | g
      · exact List.mem_append_left _ g
      · rcases List.mem_cons.mp g with rfl | g
        · exact absurd hz n1
        · exact List.mem_append_right _ g
    simp only [List.length_cons, List.length_append] at this ⊢
    omega
/-- what stands in the set when i items were read -/
structure AtI (P : Program) (w : World) (H1 : Hp) (D : Addr) (ls : List Lit) (i : Nat) (H : Hp) : Prop where
  e : Ex H1 H
  s : ∃ L, H D = some (SetNO P w D L) ∧ (∀ q ∈ L, ∃ l ∈ ls.take i, q.2 = litN (atomL l) ∧ H q.1 = some (.tup (litV (atomL l)))) ∧ (∀ l ∈ ls.take i, litN (atomL l) ∈ L.map Prod.snd) ∧ (L.map Prod.snd).Nodup
theorem at_few {L : List (Addr × NestedKey)} {ls S : List Lit} {H : Hp} (each : ∀ q ∈ L, ∃ l ∈ ls, q.2 = litN (atomL l) ∧ H q.1 = some (.tup (litV (atomL l)))) (nd : (L.map Prod.snd).Nodup) (sub : ∀ l ∈ ls, atomL l ∈ S) (few : S.length ≤ 50) : L.length ≤ 50 := by
  have := sub_lenA (m := S.map litN) nd fun z hz => by
    obtain ⟨q, hq, rfl⟩ := List.mem_map.mp hz
    obtain ⟨l, hl, e, _⟩ := each q hq
    rw [e]
    exact List.mem_map_of_mem (sub l hl)
  rw [List.length_map, List.length_map] at this
  omega
section
variable {P : Program} {w : World} {K : PySem.W.Frag} {mg : Str → Option Value} {base : Heap} {a : Ad} {d : Fd} {fL fC fW : Addr}
theorem at_next {H1 H4 : Hp} {D q : Addr} {ls : List Lit} {i : Nat} {l : Lit} {L : List (Addr × NestedKey)} (hD : H1 D = none) (A4 : Ex H1 H4) (hL : H4 D = some (SetNO P w D L)) (each : ∀ q ∈ L, ∃ l ∈ ls.take i, q.2 = litN (atomL l) ∧ H4 q.1 = some (.tup (litV (atomL l)))) (got : ∀ l ∈ ls.take i, litN (atomL l) ∈ L.map Prod.snd) (nd : (L.map Prod.snd).Nodup) (few : L.length ≤ 50)
    (hl : ls[i]? = some l) (hq : H4 q = some (.tup (litV (atomL l)))) : adN K P w D (.ref q) H4 (AtI P w H1 D ls (i + 1)) := by
  have tk : ls.take (i + 1) = ls.take i ++ [l] := by rw [List.take_add_one, hl]; rfl
  have nt : ∀ t ws, H4 t = some (.tup ws) → t ≠ D := fun t ws h z => by rw [z, hL] at h; cases h
  refine ⟨q, litN (atomL l), L, rfl, by rw [litN_D]; exact lit_dp (SqT.of hq), litN_depth _, hL, fun p hp => ?_, by omega, fun L' h1 h2 => ⟨Ex.mut A4 hD, L', upd_same, ?_⟩⟩
  · obtain ⟨m, _, e, h⟩ := each p hp
    rw [e, litN_D]
    exact ⟨lit_dp (SqT.of h), litN_depth _⟩
  · by_cases g : litN (atomL l) ∈ L.map Prod.snd
    · rw [h1 g]
      refine ⟨fun p hp => ?_, fun m hm => ?_, nd⟩
      · obtain ⟨m, hm, e, h⟩ := each p hp
        exact ⟨m, by rw [tk]; exact List.mem_append_left _ hm, e, by rw [upd_ne (nt _ _ h)]; exact h⟩
      · rw [tk] at hm
        rcases List.mem_append.mp hm with hm | hm
        · exact got m hm
        · rw [List.mem_singleton.mp hm]; exact g
    · have pm := h2 g
      refine ⟨fun p hp => ?_, fun m hm => ?_, ?_⟩
      · rcases List.mem_cons.mp (pm.mem_iff.mp hp) with rfl | hp
        · exact ⟨l, by rw [tk]; exact List.mem_append_right _ (List.mem_singleton.mpr rfl), rfl, by rw [upd_ne (nt _ _ hq)]; exact hq⟩
        · obtain ⟨m, hm, e, h⟩ := each p hp
          exact ⟨m, by rw [tk]; exact List.mem_append_left _ hm, e, by rw [upd_ne (nt _ _ h)]; exact h⟩
      · rw [(pm.map Prod.snd).mem_iff, List.map_cons]
        rw [tk] at hm
        rcases List.mem_append.mp hm with hm | hm
        · exact List.mem_cons_of_mem _ (got m hm)
        · rw [List.mem_singleton.mp hm]; exact List.mem_cons_self
      · rw [(pm.map Prod.snd).nodup_iff, List.map_cons]
        exact List.nodup_cons.mpr ⟨g, nd⟩
theorem ok_atoms_of (T : TX K mg a) (D : FDS K a d) (R : ER K mg P a fL fC fW) : FnOk P w K mg base (L2N.CX P w) 6 a.a_atoms_of d.a_atoms_of ["literals"] (spAtoms K a.cL) := by
  have G_atom_of : FnOk P w K mg base (L2N.CX P w) 5 a.a_atom_of d.a_atom_of ["literal"] (spAtom K a.cL) := ok_atom_of T D R
  refine NX.okX D.F_atoms_of sc_atoms_of (fun vs H Q E h => ?_) (fun cdv A outer s H vs Q E hr h => ?_)
  · obtain ⟨p, us, rfl, _⟩ := h
    rfl
  · obtain ⟨p, us, rfl, hs, h⟩ := h
    have hr5 : Room 5 _ := hr.mono (by decide)
    refine ⟨_, pss_one (ps_ret (pe_callTy call_tuple_of (by rfl) T.b_tuple (by decide +kernel) (pa_cons (pe_callB (SetN.cr_sortedN (K := K) (P := P) (w := w) rfl hr.units) (by rfl) T.b_sorted (by decide +kernel) (pa_cons
      (SCE.pe_scE (own := [("literal", 1)]) (g := gName 1) (tt := tYes) (te := fun Ek => tCall (spAtom K a.cL) [] Ek (tCons (tVar 1) tNil)) (SC.kindN (K := K) (P := P) (w := w)) (hu70 hr) rfl sc_atoms_of.nd (pi_or (pi_list (pv 0)) (pi_tup (pv 0))) (blkOk_by (N := ["literals", "literal"]) (sc := defScope s_atoms_of) (by decide +kernel)) rfl rfl (L2N.takes_of rfl rfl rfl rfl)
        (fun _ _ _ _ _ => pg_name (i := 1) sc_atoms_of.nd rfl (Or.inl rfl)) (fun _ _ _ _ _ => pts_nil) (fun Ek _ _ _ _ _ _ pass => pe_call G_atom_of hr5 rfl T.f_atom_of T.k_atom_of D.B_atom_of .nil pass (pa_cons (pv 1) pa_nil))) pa_nil)) pa_nil))), ?_⟩
    have start : ∀ {ls : List Lit} {S : Addr}, H S = none → AtI P w H S ls 0 (upd H S (SetNO P w S [])) := fun hS => ⟨Ex.new hS, [], upd_same, fun _ h => absurd h List.not_mem_nil, fun _ h => absurd h List.not_mem_nil, List.nodup_nil⟩
    rcases h with ⟨ls, S0, L, ok, few, sub, fin⟩ | ⟨ls, S0, i0, bad, few, sub, hb, hv, L, ok, fin⟩
    · refine seq_go (fun Q q => ⟨_, rfl, q⟩) hs fun J G wk hG => fun S hS => sg_it wk (Z := fun D => SetNO P w D []) (ad := adN K P w) (D := S) (fun i H' => AtI P w H S ls i H') (start hS) (fun i H' A => hG H' A.e) ?_ fun H2 A2 => ?_
      · rintro i x H2 H2' hi A2 ⟨rfl, hx⟩
        obtain ⟨e2, M, hM, each, got, nd⟩ := A2
        obtain ⟨t, l, rfl, hl, ht⟩ := (L.ex e2).get hx
        have okl := ok l (List.mem_of_getElem? hl)
        unfold gName
        dsimp only
        refine ⟨rfl, _, rfl, _, rfl, .inl ⟨t, l, rfl, ht, okl, fun q H4 e4 hq => ?_⟩⟩
        refine at_next hS (e2.trans e4) (e4 _ _ hM) (fun p hp => ?_) got nd (at_few each nd (fun l h => sub l (List.mem_of_mem_take h)) few) hl hq
        obtain ⟨m, hm, e, h⟩ := each p hp
        exact ⟨m, hm, e, e4 _ _ h⟩
      · obtain ⟨e2, M, hM, each, got, nd⟩ := A2
        have lu := L.len
        rw [lu, List.take_length] at each got
        refine ⟨S, M, rfl, hM, fun q hq => ?_, ?_, ?_, fun bs r pm hR => ⟨r, _, rfl, .inl ⟨SqL.of upd_same, fun u hu => ?_⟩⟩⟩
        · obtain ⟨l, _, e, ht⟩ := each q hq
          rw [e, litN_D]
          exact ⟨lit_dp (SqT.of ht), lit_depth _⟩
        · intro x hx y hy
          obtain ⟨q, hq, rfl⟩ := List.mem_map.mp hx
          obtain ⟨r, hr, rfl⟩ := List.mem_map.mp hy
          obtain ⟨l, _, e, _⟩ := each q hq
          obtain ⟨m, _, e2, _⟩ := each r hr
          rw [e, e2, litN_D, litN_D]
          exact lit_alike _ _
        · refine .inl fun x hx => ?_
          obtain ⟨q, hq, rfl⟩ := List.mem_map.mp hx
          obtain ⟨l, _, e, _⟩ := each q hq
          rw [e, litN_D]
          cases atomL l <;> exact ⟨_, _, rfl⟩
        · have x2 := Ex.new (o := .lst ((SD.sortedD bs).map Prod.fst)) hR
          have x3 := Ex.new (o := .tup ((SD.sortedD bs).map Prod.fst)) hu
          have pm2 := (SD.sorted_perm bs).trans pm
          have so0 := sortedD_pw bs
          generalize SD.sortedD bs = cs at *
          have each2 : ∀ b ∈ cs, ∃ t l, b.1 = .ref t ∧ b.2 = litD l ∧ H2 t = some (.tup (litV l)) ∧ l ∈ ls.map atomL := fun b hb => by
            obtain ⟨q, hq, rfl⟩ := List.mem_map.mp (pm2.mem_iff.mp hb)
            obtain ⟨l, hl, e, ht⟩ := each q hq
            exact ⟨q.1, atomL l, rfl, by show NestedKey.data q.2 = _; rw [e, litN_D], ht, List.mem_map_of_mem hl⟩
          have LL : Lits H2 (cs.map Prod.fst) (cs.map fun b => litOfD b.2) := Lits.of_each fun b hb => by
            obtain ⟨t, l, e1, e2, h, _⟩ := each2 b hb
            exact ⟨t, l, e1, e2, h⟩
          refine fin u _ _ _ (e2.trans (x2.trans x3)) upd_same (LL.ex (x2.trans x3)) (fun l => ⟨fun h => ?_, fun h => ?_⟩) (asc_lits ?_ ?_)
          · obtain ⟨b, hb, rfl⟩ := List.mem_map.mp h
            obtain ⟨t, l, e1, e2, _, hl⟩ := each2 b hb
            rw [e2, litOf]
            exact hl
          · obtain ⟨m, hm, rfl⟩ := List.mem_map.mp h
            obtain ⟨r, hr, e2⟩ := List.mem_map.mp (got m hm)
            refine List.mem_map.mpr ⟨SetN.enN r, pm2.mem_iff.mpr (List.mem_map_of_mem hr), ?_⟩
            show litOfD (NestedKey.data r.2) = _
            rw [e2, litN_D, litOf]
          · refine List.pairwise_map.mpr (so0.imp_of_mem fun {p q} hp hq z => ?_)
            obtain ⟨_, l, _, e1, _⟩ := each2 p hp
            obtain ⟨_, m, _, e2, _⟩ := each2 q hq
            rw [e1, e2, litOf, litOf, ← e1, ← e2]
            exact z
          · have e : (cs.map fun b => litOfD b.2).Perm (M.map fun q => litOfD (NestedKey.data q.2)) := by
              have := pm2.map fun b : V × PyData => litOfD b.2
              rwa [List.map_map] at this
            rw [e.nodup_iff]
            have nd2 : M.Pairwise fun q r => q.2 ≠ r.2 := List.pairwise_map.mp nd
            refine List.pairwise_map.mpr (List.Pairwise.imp_of_mem (fun {q r} hq hr n z => n ?_) nd2)
            obtain ⟨l, _, e1, _⟩ := each q hq
            obtain ⟨m, _, e2, _⟩ := each r hr
            rw [e1, e2, litN_D, litN_D, litOf, litOf] at z
            rw [e1, e2, z]
    · have hil := (List.getElem?_eq_some_iff.mp hb).1
      refine seq_go (fun Q q => ⟨_, rfl, q⟩) hs fun J G wk hG => fun S hS => sg_it wk (Z := fun D => SetNO P w D []) (ad := adN K P w) (D := S) (fun i H' => AtI P w H S ls i H' ∧ i ≤ i0) ⟨start hS, Nat.zero_le _⟩ (fun i H' A => hG H' A.1.e) ?_ fun H2 A2 => absurd A2.2 (by omega)
      rintro i x H2 H2' hi ⟨A2, li⟩ ⟨rfl, hx⟩
      obtain ⟨e2, M, hM, each, got, nd⟩ := A2
      unfold gName
      dsimp only
      refine ⟨rfl, _, rfl, ?_⟩
      rcases Nat.lt_or_eq_of_le li with lt | rfl
      · obtain ⟨t, l, rfl, hl, ht⟩ := (L.ex e2).get (i := i) (v := x) (by rw [List.getElem?_take, if_pos lt]; exact hx)
        have okl := ok l (List.mem_of_getElem? hl)
        refine ⟨_, rfl, .inl ⟨t, l, rfl, ht, okl, fun q H4 e4 hq => ?_⟩⟩
        have := at_next (P := P) (w := w) (K := K) hS (e2.trans e4) (e4 _ _ hM) (fun p hp => by obtain ⟨m, hm, e, h⟩ := each p hp; exact ⟨m, hm, e, e4 _ _ h⟩) got nd (at_few each nd (fun l h => sub l (List.mem_of_mem_take h)) few) hl hq
        obtain ⟨q', k, M', h1, h2, h3, h4, h5, h6, h7⟩ := this
        exact ⟨q', k, M', h1, h2, h3, h4, h5, h6, fun L' a b => ⟨h7 L' a b, lt⟩⟩
      · rw [hb] at hx
        obtain rfl := Option.some.inj hx
        exact ⟨_, rfl, .inr ⟨hv.ex e2, fun dd H' e' n h => (fin.ex e2) dd H' e' n h⟩⟩
end
end M6
set_option maxRecDepth 100000
set_option maxHeartbeats 8000000
namespace M6
open PySem L2 Evl GP HR SC
/-- all but b is as it was -/
structure Kp (b : Addr) (H H' : Hp) : Prop where
  k : ∀ a o, a ≠ b → H a = some o → H' a = some o
theorem Kp.refl (b : Addr) (H : Hp) : Kp b H H := ⟨fun _ _ _ h => h⟩
theorem Kp.trans {b : Addr} {H H1 H2 : Hp} (x : Kp b H H1) (y : Kp b H1 H2) : Kp b H H2 := ⟨fun a o n h => y.k a o n (x.k a o n h)⟩
theorem Kp.ex {b : Addr} {H H1 : Hp} (x : Ex H H1) : Kp b H H1 := ⟨fun a o _ h => x a o h⟩
theorem Kp.mut {b l : Addr} {H H' : Hp} {o : HO} (x : Kp b H H') (hl : H l = none) : Kp b H (upd H' l o) := ⟨fun a u n h => by
  rw [upd_ne (ne_of_none h hl)]
  exact x.k a u n h⟩
theorem Kp.box {b : Addr} {H : Hp} {o : HO} : Kp b H (upd H b o) := ⟨fun a u n h => by rw [upd_ne n]; exact h⟩
def Bx (b : Addr) (H : Hp) : Prop := ∃ (c n : Int) (f : Bool), H b = some (.lst [.int c, .int n, .bl f]) ∧ 0 ≤ c
theorem Bx.ex {b : Addr} {H H1 : Hp} (x : Bx b H) (e : Ex H H1) : Bx b H1 := by
  obtain ⟨r, m, q, h, r0⟩ := x
  exact ⟨r, m, q, e _ _ h, r0⟩
theorem Bx.ne {b l : Addr} {H : Hp} (x : Bx b H) (hl : H l = none) : l ≠ b := by
  obtain ⟨r, m, q, h, _⟩ := x
  exact (ne_of_none h hl).symm
theorem Bx.upd {b l : Addr} {H : Hp} {o : HO} (x : Bx b H) (n : l ≠ b) : Bx b (upd H l o) := by
  obtain ⟨r, m, q, h, r0⟩ := x
  exact ⟨r, m, q, by rw [upd_ne n.symm]; exact h, r0⟩
theorem Kp.at {b : Addr} {H0 H H' : Hp} (y : Kp b H H') {a : Addr} {o : HO} (X : Bx b H0) (n : H0 a = none) (h : H a = some o) : H' a = some o := y.k a o (X.ne n) h
theorem Kp.back {b : Addr} {H H1 : Hp} {l : Addr} (k : Kp b H H1) (X : Bx b H1) (h : H1 l = none) : H l = none := by
  cases e : H l with
  | none => rfl
  | some o =>
    have := k.k l o (X.ne h) e
    rw [h] at this
    cases this
/-- tuples stay -/
theorem Kp.tup {b : Addr} {H H' : Hp} (k : Kp b H H') (X : Bx b H) {t : Addr} {vs : List V} (h : H t = some (.tup vs)) : H' t = some (.tup vs) := k.k t _ (fun e => by
  obtain ⟨r, m, q, hb, _⟩ := X
  rw [e, hb] at h
  cases h) h

def spBag (K : PySem.W.Frag) : Sp := fun vs H Q _ => ∃ (a : Addr) (ns : List Int) (k : Nat), vs = [.ref a, .int (k : Int)] ∧ SqL K H a (ns.map V.int) ∧ k ≤ 100 ∧ ∀ b H', Ex H H' → H b = none → Bx b H' → Q (.ref b) H'
def spDraw : Sp := fun vs H Q _ => ∃ (b : Addr) (size : Int), vs = [.ref b, .int size] ∧ Bx b H ∧ 0 < size ∧ size < 1073741824 ∧ ∀ (d : Int) H', Kp b H H' → Bx b H' → 0 ≤ d → d < size → Q (.int d) H'
section
variable {P : Program} {w : World} {K : PySem.W.Frag} {mg : Str → Option Value} {base : Heap} {a : Ad} {d : Fd}
theorem ok_law_draw (T : TX K mg a) (D : FDS K a d) : FnOk P w K mg base CX0 1 a.a_law_draw d.a_law_draw ["bag", "size"] spDraw := by
  refine D.F__law_draw.ok sc_law_draw (fun vs H Q E h => ?_) (fun cdv A outer s H vs Q E hr h => ?_)
  · obtain ⟨b, size, rfl, _⟩ := h
    rfl
  · obtain ⟨b, size, rfl, ⟨c, n, f, h1, c0⟩, s0, s9, fin⟩ := h
    refine ⟨_, (pss_cons (ps_if (pt_val (pe_ix (ix_listK (K := K)) (pv 0) pe_int (fun _ _ => rfl))) (pss_cons (ps_set (i := 2) sc_law_draw.nd rfl (Or.inl rfl) (pe_op op_modN (pe_callTy call_int1 (by rfl) T.b_int (by decide +kernel) (pa_cons (pe_ix (ix_listK (K := K)) (pv 0) pe_int (fun _ _ => rfl)) pa_nil)) (pv 1)))
        (pss_cons (ps_asg (pe_op op_fdivN (pe_callTy call_int1 (by rfl) T.b_int (by decide +kernel) (pa_cons (pe_ix (ix_listK (K := K)) (pv 0) pe_int (fun _ _ => rfl)) pa_nil)) (pv 1)) (pg_sub (pv 0) pe_int set_list))
        (pss_one (ps_ret (pv 2))))) pss_nil)
        (pss_cons (ps_asg (pe_op op_add (pe_ix (ix_listK (K := K)) (pv 0) pe_int (fun _ _ => rfl)) pe_int) (pg_sub (pv 0) pe_int set_list))
        (pss_cons (ps_set (i := 3) sc_law_draw.nd rfl (Or.inl rfl) (pe_op op_modN (pe_callTy call_int1 (by rfl) T.b_int (by decide +kernel) (pa_cons (pe_op op_add (pe_op op_add (pe_op op_mul (pe_ix (ix_listK (K := K)) (pv 0) pe_int (fun _ _ => rfl)) pe_int) (pe_op op_mul (pe_ix (ix_listK (K := K)) (pv 0) pe_int (fun _ _ => rfl)) pe_int)) pe_int) pa_nil)) pe_int))
        (pss_cons (ps_set (i := 3) sc_law_draw.nd rfl (Or.inl rfl) (pe_op op_modN (pe_callTy call_int1 (by rfl) T.b_int (by decide +kernel) (pa_cons (pe_op op_add (pe_op op_add (pe_op op_mul (pv 3) (pv 3)) (pe_ix (ix_listK (K := K)) (pv 0) pe_int (fun _ _ => rfl))) (pe_op op_mul (pe_ix (ix_listK (K := K)) (pv 0) pe_int (fun _ _ => rfl)) pe_int)) pa_nil)) pe_int))
        (pss_one (ps_ret (pe_op op_modN (pe_callTy call_int1 (by rfl) T.b_int (by decide +kernel) (pa_cons (pe_op op_fdivN (pv 3) pe_int) pa_nil)) (pv 1)))))))), ?_⟩
    have rng : ∀ z : Int, 0 ≤ Int.fmod z size ∧ Int.fmod z size < size := fun z => by
      rw [Int.fmod_eq_emod_of_nonneg _ (by omega)]
      exact ⟨Int.emod_nonneg _ (by omega), Int.emod_lt_of_pos _ s0⟩
    have fd : ∀ z : Int, 0 ≤ z → 0 ≤ Int.fdiv z size := fun z h => by
      rw [Int.fdiv_eq_ediv_of_nonneg _ (by omega)]
      exact Int.ediv_nonneg h (by omega)
    refine ⟨_, rfl, b, _, 2, _, rfl, rfl, SqL.of h1, at_lit (n := 2) rfl rfl, _, rfl, ?_⟩
    cases f with
    | true =>
      refine iteT' rfl ⟨_, rfl, b, _, 0, _, rfl, rfl, SqL.of h1, at_lit (n := 0) rfl rfl, .inl ⟨_, rfl, _, rfl, _, _, rfl, rfl, by omega, ?_⟩⟩
      dsimp only
      exact ⟨_, rfl, b, _, 0, _, rfl, rfl, SqL.of h1, at_lit (n := 0) rfl rfl, .inl ⟨_, rfl, _, rfl, _, _, rfl, rfl, ⟨by omega, by omega⟩, _, rfl, b, _, 0, 0, rfl, rfl, h1, rfl, _, rfl, fin _ _ Kp.box ⟨_, n, true, upd_same, fd c c0⟩ (rng _).1 (rng _).2⟩⟩
    | false =>
      refine iteF' rfl ⟨_, rfl, b, _, 1, _, rfl, rfl, SqL.of h1, at_lit (n := 1) rfl rfl, _, _, rfl, rfl, _, rfl, b, _, 1, 1, rfl, rfl, h1, rfl, ?_⟩
      generalize hH2 : upd H b _ = H2
      have h2 : H2 b = some (.lst [.int c, .int (n + 1), .bl false]) := by rw [← hH2]; exact upd_same
      have k2 : Kp b H H2 := by rw [← hH2]; exact Kp.box
      refine ⟨_, rfl, b, _, 0, _, rfl, rfl, SqL.of h2, at_lit (n := 0) rfl rfl, _, _, rfl, rfl, .inr (by decide), _, rfl, b, _, 1, _, rfl, rfl, SqL.of h2, at_lit (n := 1) rfl rfl, _, _, rfl, rfl, .inr (by decide), _, _, rfl, rfl, _, _, rfl, rfl, .inl ⟨_, rfl, _, _, rfl, rfl, (by show (2147483647 : Int) ≠ 0; decide), ?_⟩⟩
      dsimp only
      generalize hz : Int.fmod _ 2147483647 = z
      have z0 : 0 ≤ z ∧ z < 2147483647 := by
        rw [← hz, Int.fmod_eq_emod_of_nonneg _ (by decide)]
        exact ⟨Int.emod_nonneg _ (by decide), Int.emod_lt_of_pos _ (by decide)⟩
      refine ⟨_, rfl, _, rfl, _, _, rfl, rfl, .inl (by constructor <;> omega), _, rfl, b, _, 0, _, rfl, rfl, SqL.of h2, at_lit (n := 0) rfl rfl, _, _, rfl, rfl, _, rfl, b, _, 1, _, rfl, rfl, SqL.of h2, at_lit (n := 1) rfl rfl, _, _, rfl, rfl, .inr (by decide), _, _, rfl, rfl, .inl ⟨_, rfl, _, _, rfl, rfl, (by show (998244353 : Int) ≠ 0; decide), ?_⟩⟩
      dsimp only
      generalize Int.fmod _ 998244353 = y
      exact ⟨_, rfl, _, _, rfl, rfl, ⟨by decide, by decide⟩, .inl ⟨_, rfl, _, rfl, _, _, rfl, rfl, by omega, fin _ _ k2 ⟨c, _, false, h2, c0⟩ (rng _).1 (rng _).2⟩⟩
theorem ok_law_bag (T : TX K mg a) (D : FDS K a d) : FnOk P w K mg base CX0 1 a.a_law_bag d.a_law_bag ["script", "k"] (spBag K) := by
  refine D.F__law_bag.ok sc_law_bag (fun vs H Q E h => ?_) (fun cdv A outer s H vs Q E hr h => ?_)
  · obtain ⟨a, ns, k, rfl, _⟩ := h
    rfl
  · obtain ⟨a, ns, k, rfl, ha, k100, fin⟩ := h
    refine ⟨_, (pss_cons (ps_set (i := 2) sc_law_bag.nd rfl (Or.inl rfl) pe_int)
        (Evl.pss_cut (ps_if (pt_cmpR op_lt (pv 1) (pe_callB call_len_seq (by rfl) T.b_len (by decide +kernel) (pa_cons (pv 0) pa_nil)) (nomark _)) (pss_one (ps_set (i := 2) sc_law_bag.nd rfl (Or.inl rfl) (pe_callB call_abs (by rfl) T.b_abs (by decide +kernel) (pa_cons (pe_callTy call_int1 (by rfl) T.b_int (by decide +kernel) (pa_cons (pe_ix (ix_listK (K := K)) (pv 0) (pv 1) (fun _ _ => rfl)) pa_nil)) pa_nil)))) (pss_one (ps_if (pt_cmpR op_gt (pe_callB call_len_seq (by rfl) T.b_len (by decide +kernel) (pa_cons (pv 0) pa_nil)) pe_int (nomark _)) (pss_one (ps_set (i := 2) sc_law_bag.nd rfl (Or.inl rfl) (pe_op op_mul (pe_op op_add (pe_op op_modN (pe_callTy call_int1 (by rfl) T.b_int (by decide +kernel) (pa_cons (pe_callB call_abs (by rfl) T.b_abs (by decide +kernel) (pa_cons (pe_callTy call_int1 (by rfl) T.b_int (by decide +kernel) (pa_cons (pe_ix (ix_listK (K := K)) (pv 0) pe_int (fun _ _ => rfl)) pa_nil)) pa_nil)) pa_nil)) pe_int) pe_int) (pe_op op_add (pv 1) pe_int)))) pss_nil)))
        (pss_one (ps_ret (pe_lst (pa_cons (pv 2) (pa_cons pe_int (pa_cons (pe_or (pe_cmpR op_eq (pv 2) pe_int (nomark _)) (pe_one (pe_cmpR op_ge (pv 2) (pe_op op_pow pe_int pe_int) (nomark _)))) pa_nil)))))))), ?_⟩
    have ab : ∀ i : Int, 0 ≤ (if i < 0 then -i else i) := fun i => by split <;> omega
    refine ⟨fun σ' H' => ∃ c : Int, σ' = [some (.ref a), some (.int (k : Int)), some (.int c)] ∧ H' = H ∧ 0 ≤ c, ?_, ?_⟩
    · refine ⟨_, rfl, _, rfl, a, _, rfl, .inl ha, _, _, rfl, rfl, _, rfl, ite2 (fun g => ?_) (fun g => ?_)⟩
      · have hl := of_decide_eq_true g
        rw [List.length_map] at hl
        have hi : k < ns.length := by omega
        refine ⟨_, rfl, _, rfl, a, _, (k : Int), .int ns[k], rfl, rfl, ha, at_lit (n := k) rfl (by rw [List.getElem?_map, List.getElem?_eq_getElem hi]; rfl), .inl ⟨_, rfl, ?_⟩⟩
        exact ⟨_, rfl, _, rfl, rfl, ab _⟩
      · refine ⟨_, rfl, a, _, rfl, .inl ha, _, _, rfl, rfl, _, rfl, ite2 (fun g2 => ?_) (fun g2 => ⟨0, rfl, rfl, by decide⟩)⟩
        have hl := of_decide_eq_true g2
        rw [List.length_map] at hl
        have hi : 0 < ns.length := by omega
        refine ⟨_, rfl, a, _, 0, .int ns[0], rfl, rfl, ha, at_lit (n := 0) rfl (by rw [List.getElem?_map, List.getElem?_eq_getElem hi]; rfl), .inl ⟨_, rfl, _, rfl, .inl ⟨_, rfl, _, _, rfl, rfl, (by show (1000003 : Int) ≠ 0; decide), ?_⟩⟩⟩
        dsimp only
        generalize hz : Int.fmod _ 1000003 = z
        have z0 : 0 ≤ z ∧ z < 1000003 := by
          rw [← hz, Int.fmod_eq_emod_of_nonneg _ (by decide)]
          exact ⟨Int.emod_nonneg _ (by decide), Int.emod_lt_of_pos _ (by decide)⟩
        exact ⟨_, _, rfl, rfl, _, rfl, _, _, rfl, rfl, _, _, rfl, rfl, .inl (by constructor <;> omega), _, rfl, rfl, Int.mul_nonneg (by omega) (by omega)⟩
    · rintro σ' H' ⟨c, rfl, rfl, c0⟩
      refine ⟨_, rfl, _, rfl, rfl, _, rfl, ?_⟩
      by_cases g : decide (V.int c = V.int 0) = true
      · rw [if_pos g]
        exact ⟨(by show 3 ≤ sizeLine; decide), fun b hb => fin b _ (Ex.new hb) hb ⟨_, _, _, upd_same, c0⟩⟩
      · rw [if_neg g]
        exact ⟨_, rfl, _, _, rfl, rfl, ⟨by decide, by decide, by decide⟩, _, _, rfl, rfl, (by show 3 ≤ sizeLine; decide), fun b hb => fin b _ (Ex.new hb) hb ⟨_, _, _, upd_same, c0⟩⟩
end
end M6
set_option maxRecDepth 100000
set_option maxHeartbeats 8000000
namespace M6
open PySem L2 Evl GP HR SC
theorem log_le {n k : Nat} (h : n < 2 ^ k) : n.log2 ≤ k := by
  rcases Nat.eq_zero_or_pos n with rfl | p
  · exact Nat.zero_le _
  · exact Nat.le_of_lt ((Nat.log2_lt (by omega)).mpr h)
theorem mulW {i j : Int} (h1 : i.natAbs < 2 ^ 250) (h2 : j.natAbs < 2 ^ 250) : CMulW i j := by
  have := log_le h1
  have := log_le h2
  unfold CMulW
  omega
def spInt : Sp := fun vs H Q _ => ∃ b : Addr, vs = [.ref b] ∧ Bx b H ∧ ∀ (i : Int) H', Kp b H H' → Bx b H' → -(2 ^ 210) ≤ i → i < 2 ^ 210 → Q (.int i) H'
theorem nine (d : Int) (h0 : 0 ≤ d) (h1 : d < 9) : ∃ v : Int, atI [V.int 0, V.int 1, V.int (-1), V.int 2, V.int (-2), V.int 3, V.int (-3), V.int 4, V.int (-4)] d = some (.int v) ∧ -4 ≤ v ∧ v ≤ 4 := by
  have : d = 0 ∨ d = 1 ∨ d = 2 ∨ d = 3 ∨ d = 4 ∨ d = 5 ∨ d = 6 ∨ d = 7 ∨ d = 8 := by omega
  rcases this with rfl | rfl | rfl | rfl | rfl | rfl | rfl | rfl | rfl <;> exact ⟨_, rfl, by decide, by decide⟩
section
variable {P : Program} {w : World} {K : PySem.W.Frag} {mg : Str → Option Value} {base : Heap} {a : Ad} {d : Fd}
theorem ok_law_integer (T : TX K mg a) (D : FDS K a d) : FnOk P w K mg base CX0 2 a.a_law_integer d.a_law_integer ["bag"] spInt := by
  have G__law_draw : FnOk P w K mg base CX0 1 a.a_law_draw d.a_law_draw ["bag", "size"] spDraw := ok_law_draw T D
  refine D.F__law_integer.ok sc_law_integer (fun vs H Q E h => ?_) (fun cdv A outer s H vs Q E hr h => ?_)
  · obtain ⟨b, rfl, _⟩ := h
    rfl
  · obtain ⟨b, rfl, X, fin⟩ := h
    refine ⟨_, (pss_cons (ps_if (pt_cmpR op_eq (pe_call G__law_draw (hr.mono (by decide)) rfl T.f__law_draw T.k__law_draw D.B__law_draw .nil pass0 (pa_cons (pv 0) (pa_cons pe_int pa_nil))) pe_int (nomark _)) (pss_cons (ps_set (i := 1) sc_law_integer.nd rfl (Or.inl rfl) pe_int)
        (pss_cons (ps_for PassesOwn.never rfl (pi_range1 rfl T.b_range (pa_cons pe_int pa_nil)) (pg_name (i := 2) sc_law_integer.nd rfl (Or.inl rfl)) (pss_one (ps_set (i := 1) sc_law_integer.nd rfl (Or.inl rfl) (pe_op op_add (pe_op op_mulW (pv 1) pe_int) (pe_call G__law_draw (hr.mono (by decide)) rfl T.f__law_draw T.k__law_draw D.B__law_draw .nil pass0 (pa_cons (pv 0) (pa_cons pe_int pa_nil)))))))
        (pss_one (ps_ret (pe_op op_mulW (pv 1) (pe_op op_sub pe_int (pe_op op_mul pe_int (pe_call G__law_draw (hr.mono (by decide)) rfl T.f__law_draw T.k__law_draw D.B__law_draw .nil pass0 (pa_cons (pv 0) (pa_cons pe_int pa_nil)))))))))) pss_nil)
        (pss_one (ps_ret (pe_ix (ix_listK (K := K)) (pe_lst (pa_cons pe_int (pa_cons pe_int (pa_cons (pe_un un_neg pe_int) (pa_cons pe_int (pa_cons (pe_un un_neg pe_int) (pa_cons pe_int (pa_cons (pe_un un_neg pe_int) (pa_cons pe_int (pa_cons (pe_un un_neg pe_int) pa_nil)))))))))) (pe_call G__law_draw (hr.mono (by decide)) rfl T.f__law_draw T.k__law_draw D.B__law_draw .nil pass0 (pa_cons (pv 0) (pa_cons pe_int pa_nil))) (fun _ _ => rfl))))), ?_⟩
    refine ⟨_, rfl, b, 24, rfl, X, by decide, by decide, fun d1 H1 k1 X1 _ _ => ⟨rfl, _, rfl, ite2 (fun g => ?_) (fun g => ?_)⟩⟩
    · refine ⟨10, rfl, by decide, by decide, for_it (walk_range (lo := 0) (n := 10)) (fun i σ H' => ∃ (g : Int) (o2 : Option V), σ = [some (.ref b), some (.int g), o2] ∧ Kp b H H' ∧ Bx b H' ∧ 0 ≤ g ∧ g < 1000000 ^ i) ⟨0, none, rfl, k1, X1, by decide, by decide⟩ (fun _ _ _ _ _ => trivial) ?_ ?_⟩
      · rintro i v σ H2 H2' hi ⟨g0, o2, rfl, k2, X2, g1, g2⟩ ⟨rfl, hv⟩
        have lim : (1000000 : Int) ^ i ≤ 1000000 ^ 10 := by
          have h0 : (1000000 : Nat) ^ i ≤ 1000000 ^ 10 := Nat.pow_le_pow_right (by decide) (by omega)
          have h1 : ((1000000 ^ i : Nat) : Int) ≤ ((1000000 ^ 10 : Nat) : Int) := Int.ofNat_le.mpr h0
          rw [Int.natCast_pow, Int.natCast_pow] at h1
          exact h1
        have pb : (1000000 : Int) ^ i < 2 ^ 200 := Int.lt_of_le_of_lt lim (by decide)
        rw [Int.pow_succ]
        clear lim
        generalize (1000000 : Int) ^ i = p at *
        refine ⟨_, rfl, _, _, rfl, rfl, mulW (by omega) (by decide), _, rfl, b, 1000000, rfl, X2, by decide, by decide, fun d2 H3 k3 X3 q0 q1 => ⟨_, _, rfl, rfl, _, _, rfl, k2.trans k3, X3, by omega, by omega⟩⟩
      · rintro σ H2 ⟨g0, o2, rfl, k2, X2, g1, g2⟩
        have pb : g0 < 2 ^ 200 := Int.lt_trans g2 (by decide)
        clear g2
        refine ⟨_, rfl, _, rfl, b, 2, rfl, X2, by decide, by decide, fun d2 H3 k3 X3 q0 q1 => ⟨_, _, rfl, rfl, .inl (by constructor <;> omega), _, _, rfl, rfl, _, _, rfl, rfl, mulW (by omega) (by omega), ?_⟩⟩
        have : d2 = 0 ∨ d2 = 1 := by omega
        rcases this with rfl | rfl
        · exact fin _ H3 (k2.trans k3) X3 (by omega) (by omega)
        · exact fin _ H3 (k2.trans k3) X3 (by omega) (by omega)
    · refine ⟨1, rfl, 2, rfl, 3, rfl, 4, rfl, (by show 9 ≤ sizeLine; decide), fun l hl => ⟨_, rfl, b, 9, rfl, X1.ex (Ex.new hl), by decide, by decide, fun d2 H2 k2 X2 q0 q1 => ?_⟩⟩
      obtain ⟨v, hv, v0, v9⟩ := nine d2 q0 q1
      have nl := X1.ne hl
      exact ⟨l, _, d2, .int v, rfl, rfl, SqL.of (k2.k _ _ nl upd_same), hv, fin v H2 ((k1.trans (Kp.ex (Ex.new hl))).trans k2) X2 (by omega) (by omega)⟩
end
end M6
set_option maxRecDepth 100000
set_option maxHeartbeats 8000000
namespace M6
open PySem L2 Evl GP HR SC
theorem str_len (z : Str) : z.cps.toList.length = z.length := by show _ = z.cps.size; simp
theorem str_app (x y : Str) : (x ++ y).cps.toList = x.cps.toList ++ y.cps.toList := by
  show (x.cps ++ y.cps).toList = _
  simp
theorem app_len (x y : Str) : (x ++ y).length = x.length + y.length := by
  show (x.cps ++ y.cps).size = _
  simp
  rfl
theorem lett_sign : ∀ c ∈ letters.cps.toList, c ∈ signs.cps.toList := by decide +kernel
theorem nameS_iff (z : Str) : isNameS z = true ↔ (1 ≤ z.length ∧ z.length ≤ 8) ∧ z.cps.toList.headD 0 ∈ letters.cps.toList ∧ ∀ c ∈ z.cps.toList, c ∈ signs.cps.toList := by
  unfold isNameS
  simp only [Bool.and_eq_true, decide_eq_true_eq, List.all_eq_true]
theorem name_of {z : Str} {l : List Nat} (h : z.cps.toList = l) (h1 : 1 ≤ l.length ∧ l.length ≤ 8) (h2 : l.headD 0 ∈ letters.cps.toList) (h3 : ∀ c ∈ l, c ∈ signs.cps.toList) : isNameS z = true := by
  rw [nameS_iff, h]
  have := str_len z
  rw [h] at this
  exact ⟨by omega, h2, h3⟩
def oneS (c : Nat) : Str := ⟨#[c]⟩
theorem sign_low {k : Nat} (h : k < 26) : ∃ c, signs.cps.toList[k]? = some c ∧ c ∈ letters.cps.toList := by
  have t : signs.cps.toList.take 26 = letters.cps.toList := by decide +kernel
  have l : letters.cps.toList.length = 26 := by decide +kernel
  refine ⟨letters.cps.toList[k]'(by omega), ?_, List.getElem_mem _⟩
  rw [← List.getElem?_eq_getElem (show k < letters.cps.toList.length by omega), ← t, List.getElem?_take_of_lt h]
theorem sign_at {k : Nat} (h : k < 36) : ∃ c, signs.cps.toList[k]? = some c ∧ c ∈ signs.cps.toList := by
  have l : signs.cps.toList.length = 36 := by decide +kernel
  exact ⟨signs.cps.toList[k]'(by omega), by simp, List.getElem_mem _⟩
def Wd (l : List Nat) (i : Nat) (z : Str) : Prop := z.length = i ∧ ∀ c ∈ z.cps.toList, c ∈ l

def spLetters : Sp := fun vs H Q _ => ∃ (b : Addr) (n : Nat), vs = [.ref b, .int (n : Nat)] ∧ Bx b H ∧ n ≤ 8 ∧ ∀ (w : Str) H', Kp b H H' → Bx b H' → Wd signs.cps.toList n w → Q (.str w) H'
section
variable {P : Program} {w : World} {K : PySem.W.Frag} {mg : Str → Option Value} {base : Heap} {a : Ad} {d : Fd}
theorem ok_law_letters (T : TX K mg a) (D : FDS K a d) : FnOk P w K mg base CX0 2 a.a_law_letters d.a_law_letters ["bag", "count"] spLetters := by
  have G__law_draw : FnOk P w K mg base CX0 1 a.a_law_draw d.a_law_draw ["bag", "size"] spDraw := ok_law_draw T D
  refine D.F__law_letters.ok sc_law_letters (fun vs H Q E h => ?_) (fun cdv A outer s H vs Q E hr h => ?_)
  · obtain ⟨b, n, rfl, _⟩ := h
    rfl
  · obtain ⟨b, n, rfl, X, n8, fin⟩ := h
    refine ⟨_, (pss_cons (ps_set (i := 2) sc_law_letters.nd rfl (Or.inl rfl) pe_str)
        (pss_cons (ps_set (i := 3) sc_law_letters.nd rfl (Or.inl rfl) pe_str)
        (pss_cons (ps_for PassesOwn.never rfl (pi_range1 rfl T.b_range (pa_cons (pv 1) pa_nil)) (pg_name (i := 4) sc_law_letters.nd rfl (Or.inl rfl)) (pss_one (ps_set (i := 3) sc_law_letters.nd rfl (Or.inl rfl) (pe_op op_add_str (pv 3) (pe_ix ix_str (pv 2) (pe_call G__law_draw (hr.mono (by decide)) rfl T.f__law_draw T.k__law_draw D.B__law_draw .nil pass0 (pa_cons (pv 0) (pa_cons pe_int pa_nil))) (fun _ _ => rfl))))))
        (pss_one (ps_ret (pv 3)))))), ?_⟩
    refine ⟨_, rfl, n, rfl, by omega, by omega, for_it (walk_range (lo := 0) (n := n)) (fun i σ H' => ∃ (z : Str) (o4 : Option V), σ = [some (.ref b), some (.int (n : Nat)), some (.str signs), some (.str z), o4] ∧ Kp b H H' ∧ Bx b H' ∧ Wd signs.cps.toList i z) ⟨"", none, rfl, Kp.refl _ _, X, rfl, fun c h => absurd h (by decide +revert)⟩ (fun _ _ _ _ _ => trivial) ?_ ?_⟩
    · rintro i v σ H2 H2' hi ⟨z, o4, rfl, k2, X2, W⟩ ⟨rfl, hv⟩
      refine ⟨_, rfl, _, rfl, _, rfl, b, 36, rfl, X2, by decide, by decide, fun d2 H3 k3 X3 q0 q1 => ?_⟩
      obtain ⟨c', hc', hcl'⟩ := sign_at (k := d2.toNat) (by omega)
      have hz := W.1
      refine ⟨signs, d2, c', rfl, rfl, (by decide +kernel), at_lit (n := d2.toNat) (by omega) hc', z, oneS c', rfl, rfl, Nat.le_trans (by rw [hz]; show i + 1 ≤ 100; omega) (by decide : 100 ≤ sizeLine), z ++ oneS c', _, rfl, k2.trans k3, X3, ?_, fun c hc => ?_⟩
      · rw [app_len, hz]
        rfl
      · rw [str_app] at hc
        rcases List.mem_append.mp hc with hc | hc
        · exact W.2 c hc
        · rw [List.mem_singleton.mp hc]
          exact hcl'
    · rintro σ H2 ⟨z, o4, rfl, k2, X2, W⟩
      exact ⟨_, rfl, fin z H2 k2 X2 W⟩
end
end M6
set_option maxRecDepth 100000
set_option maxHeartbeats 8000000
namespace M6
open PySem L2 Evl GP HR SC
/-- what may stand in front: nothing, or a letter and signs -/
def HeadOk (z : Str) : Prop := z.length ≤ 3 ∧ (∀ c ∈ z.cps.toList, c ∈ signs.cps.toList) ∧ (z.cps.toList = [] ∨ z.cps.toList.headD 0 ∈ letters.cps.toList)
def StemOk (z : Str) : Prop := 1 ≤ z.length ∧ z.length ≤ 2 ∧ (∀ c ∈ z.cps.toList, c ∈ signs.cps.toList) ∧ z.cps.toList.headD 0 ∈ letters.cps.toList ∧ z.cps.toList.headD 0 ≠ 48
instance (z : Str) : Decidable (StemOk z) := by unfold StemOk; infer_instance
theorem name_put {h o t : Str} {n : Nat} (a : HeadOk h) (b : StemOk o) (c : Wd signs.cps.toList n t) (n3 : n ≤ 3) : isNameS (h ++ o ++ t) = true := by
  refine name_of (l := h.cps.toList ++ o.cps.toList ++ t.cps.toList) (by rw [str_app, str_app]) ?_ ?_ ?_
  · have h1 := str_len h
    have h2 := str_len o
    have h3 := str_len t
    rw [List.length_append, List.length_append, h1, h2, h3]
    have := a.1
    have := b.1
    have := b.2.1
    have := c.1
    omega
  · rcases a.2.2 with e | e
    · rw [e, List.nil_append]
      cases ho : o.cps.toList with
      | nil => have := b.2.2.2.1; rw [ho] at this; exact absurd this (by decide +kernel)
      | cons x xs => have := b.2.2.2.1; rw [ho] at this; exact this
    · cases hh : h.cps.toList with
      | nil => rw [hh] at e; exact absurd e (by decide +kernel)
      | cons x xs => rw [hh] at e; exact e
  · intro c' hc
    rcases List.mem_append.mp hc with hc | hc
    · rcases List.mem_append.mp hc with hc | hc
      · exact a.2.1 c' hc
      · exact b.2.2.1 c' hc
    · exact c.2 c' hc
theorem name_far {h o t : Str} {n : Nat} (a : HeadOk h) (b : StemOk o) (c : Wd signs.cps.toList n t) (n3 : n ≤ 3) : h ++ o ++ t ≠ "zzz0zzz0" := fun e => by
  have e1 : (h ++ o ++ t).cps.toList = [122, 122, 122, 48, 122, 122, 122, 48] := by rw [e]; decide +kernel
  rw [str_app, str_app] at e1
  have h1 := str_len h
  have h2 := str_len o
  have h3 := str_len t
  have l := congrArg List.length e1
  rw [List.length_append, List.length_append, h1, h2, h3] at l
  have l : h.length + o.length + t.length = 8 := l
  have := a.1
  have := b.2.1
  have := c.1
  have g : (h.cps.toList ++ o.cps.toList ++ t.cps.toList)[3]? = ([122, 122, 122, 48, 122, 122, 122, 48] : List Nat)[3]? := congrArg (fun l => l[3]?) e1
  rw [List.append_assoc, List.getElem?_append_right (by omega), show 3 - h.cps.toList.length = 0 by omega] at g
  have hd := b.2.2.2.2
  cases ho : o.cps.toList with
  | nil => rw [ho] at h2; simp at h2; omega
  | cons x xs =>
    rw [ho] at g hd
    exact hd (Option.some.inj g)
theorem put_inj {h o o' t : Str} (e : h ++ o ++ t = h ++ o' ++ t) : o = o' := by
  have e1 : (h ++ o ++ t).cps.toList = (h ++ o' ++ t).cps.toList := by rw [e]
  rw [str_app, str_app, str_app, str_app] at e1
  have e2 := List.append_cancel_left (List.append_cancel_right e1)
  cases o
  cases o'
  exact congrArg Str.mk (Array.toList_inj.mp e2)
theorem four (d : Int) (h0 : 0 ≤ d) (h1 : d < 4) : ∃ v : Nat, atI [V.int 0, V.int 0, V.int 1, V.int 3] d = some (.int (v : Int)) ∧ v ≤ 3 := by
  have : d = 0 ∨ d = 1 ∨ d = 2 ∨ d = 3 := by omega
  rcases this with rfl | rfl | rfl | rfl
  · exact ⟨0, rfl, by decide⟩
  · exact ⟨0, rfl, by decide⟩
  · exact ⟨1, rfl, by decide⟩
  · exact ⟨3, rfl, by decide⟩
theorem lett_at {k : Nat} (h : k < 26) : ∃ c, letters.cps.toList[k]? = some c ∧ c ∈ letters.cps.toList := by
  have hl : k < letters.cps.toList.length := by
    have : letters.cps.toList.length = 26 := by decide +kernel
    omega
  exact ⟨letters.cps.toList[k], List.getElem?_eq_getElem hl, List.getElem_mem hl⟩
theorem head_none : HeadOk "" := ⟨by decide, fun c h => absurd h (by decide +revert), .inl rfl⟩
theorem head_put {c : Nat} {z : Str} {n : Nat} (hc : c ∈ letters.cps.toList) (h : Wd signs.cps.toList n z) (hn : n ≤ 2) : HeadOk (oneS c ++ z) := by
  refine ⟨by rw [app_len, h.1]; show 1 + n ≤ 3; omega, fun d hd => ?_, .inr ?_⟩
  · rw [str_app] at hd
    rcases List.mem_append.mp hd with hd | hd
    · rw [List.mem_singleton.mp hd]; exact lett_sign c hc
    · exact h.2 d hd
  · rw [str_app]
    exact hc
def spNames : Sp := fun vs H Q _ => ∃ b : Addr, vs = [.ref b] ∧ Bx b H ∧ ∀ (t l1 l2 : Addr) (xs ys : List Str) H', Kp b H H' → Bx b H' → H' t = some (.tup [.ref l1, .ref l2]) → H' l1 = some (.lst (xs.map V.str)) → H' l2 = some (.lst (ys.map V.str)) → l1 ≠ b → l2 ≠ b → xs.length = 3 → ys.length = 5 →
  (∀ z ∈ xs, isNameS z = true) → (∀ z ∈ ys, isNameS z = true ∧ z ≠ "zzz0zzz0") → ys.Nodup → Q (.ref t) H'
section
variable {P : Program} {w : World} {K : PySem.W.Frag} {mg : Str → Option Value} {base : Heap} {a : Ad} {d : Fd}
theorem ok_law_names (T : TX K mg a) (D : FDS K a d) : FnOk P w K mg base CX0 3 a.a_law_names d.a_law_names ["bag"] spNames := by
  have G__law_draw : FnOk P w K mg base CX0 1 a.a_law_draw d.a_law_draw ["bag", "size"] spDraw := ok_law_draw T D
  have G__law_letters : FnOk P w K mg base CX0 2 a.a_law_letters d.a_law_letters ["bag", "count"] spLetters := ok_law_letters T D
  refine D.F__law_names.ok sc_law_names (fun vs H Q E h => ?_) (fun cdv A outer s H vs Q E hr h => ?_)
  · obtain ⟨b, rfl, _⟩ := h
    rfl
  · obtain ⟨b, rfl, X, fin⟩ := h
    refine ⟨_, (pss_cons (ps_set (i := 1) sc_law_names.nd rfl (Or.inl rfl) (pe_ix (ix_listK (K := K)) (pe_lst (pa_cons pe_int (pa_cons pe_int (pa_cons pe_int (pa_cons pe_int pa_nil))))) (pe_call G__law_draw (hr.mono (by decide)) rfl T.f__law_draw T.k__law_draw D.B__law_draw .nil pass0 (pa_cons (pv 0) (pa_cons pe_int pa_nil))) (fun _ _ => rfl)))
        (pss_cons (ps_set (i := 2) sc_law_names.nd rfl (Or.inr rfl) pe_str)
        (Evl.pss_cut (ps_if (pt_cmpR op_gt (pv 1) pe_int (nomark _)) (pss_one (ps_set (i := 2) sc_law_names.nd rfl (Or.inr rfl) (pe_op op_add_str (pe_ix ix_str pe_str (pe_call G__law_draw (hr.mono (by decide)) rfl T.f__law_draw T.k__law_draw D.B__law_draw .nil pass0 (pa_cons (pv 0) (pa_cons pe_int pa_nil))) (fun _ _ => rfl)) (pe_call G__law_letters (hr.mono (by decide)) rfl T.f__law_letters T.k__law_letters D.B__law_letters .nil pass0 (pa_cons (pv 0) (pa_cons (pe_op op_sub (pv 1) pe_int) pa_nil)))))) pss_nil)
        (pss_cons (ps_set (i := 3) sc_law_names.nd rfl (Or.inr rfl) (pe_call G__law_letters (hr.mono (by decide)) rfl T.f__law_letters T.k__law_letters D.B__law_letters .nil pass0 (pa_cons (pv 0) (pa_cons (pe_ix (ix_listK (K := K)) (pe_lst (pa_cons pe_int (pa_cons pe_int (pa_cons pe_int (pa_cons pe_int pa_nil))))) (pe_call G__law_draw (hr.mono (by decide)) rfl T.f__law_draw T.k__law_draw D.B__law_draw .nil pass0 (pa_cons (pv 0) (pa_cons pe_int pa_nil))) (fun _ _ => rfl)) pa_nil))))
        (pss_cons (ps_set (i := 4) sc_law_names.nd rfl (Or.inl rfl) (pe_lst (pa_cons pe_str (pa_cons pe_str (pa_cons pe_str (pa_cons pe_str (pa_cons pe_str pa_nil)))))))
        (Evl.pss_cut (ps_if (pt_cmpR op_eq (pe_call G__law_draw (hr.mono (by decide)) rfl T.f__law_draw T.k__law_draw D.B__law_draw .nil pass0 (pa_cons (pv 0) (pa_cons pe_int pa_nil))) pe_int (nomark _)) (pss_one (ps_set (i := 4) sc_law_names.nd rfl (Or.inl rfl) (pe_lst (pa_cons pe_str (pa_cons pe_str (pa_cons pe_str (pa_cons pe_str (pa_cons pe_str pa_nil)))))))) pss_nil)
        (pss_cons (ps_setLc (i := 5) (own := [("one", 6)]) (g := gName 6) (tt := tYes) rfl sc_law_names.nd rfl rfl (sw_true rfl rfl rfl (by decide +kernel)) (pi_list (pe_lst (pa_cons pe_str (pa_cons pe_str (pa_cons pe_str pa_nil))))) (blkOk_by (N := ["bag", "size", "head", "tail", "stems", "truths", "one"]) (sc := defScope s_law_names) (by decide +kernel)) (fun _ _ _ _ _ => (pg_name (i := 6) sc_law_names.nd rfl (Or.inl rfl))) (fun _ _ _ _ _ => pts_nil) (fun _ _ _ _ _ => (pe_op op_add_str (pe_op op_add_str (pv 2) (pv 6)) (pv 3))))
        (Evl.pss_cut (ps_if (pt_cmpR op_eq (pe_call G__law_draw (hr.mono (by decide)) rfl T.f__law_draw T.k__law_draw D.B__law_draw .nil pass0 (pa_cons (pv 0) (pa_cons pe_int pa_nil))) pe_int (nomark _)) (pss_one (ps_set (i := 5) sc_law_names.nd rfl (Or.inl rfl) (pe_lst (pa_cons pe_str (pa_cons pe_str (pa_cons pe_str pa_nil)))))) pss_nil)
        (pss_one (ps_ret (pe_tup (pa_cons (pv 5) (pa_cons (pe_lc (own := [("one", 6)]) (g := gName 6) (tt := tYes) rfl sc_law_names.nd (pi_list (pv 4)) (blkOk_by (N := ["bag", "size", "head", "tail", "stems", "truths", "one"]) (sc := defScope s_law_names) (by decide +kernel)) (fun _ _ _ _ _ => (pg_name (i := 6) sc_law_names.nd rfl (Or.inl rfl))) (fun _ _ _ _ _ => pts_nil) (fun _ _ _ _ _ => (pe_op op_add_str (pe_op op_add_str (pv 2) (pv 6)) (pv 3)))) pa_nil))))))))))))), ?_⟩
    refine ⟨by show 4 ≤ sizeLine; decide, fun l0 hl0 => ⟨_, rfl, b, 4, rfl, X.ex (Ex.new hl0), by decide, by decide, fun d1 H1 k1 X1 q0 q1 => ?_⟩⟩
    obtain ⟨v, hv, v3⟩ := four d1 q0 q1
    have k01 := (Kp.ex (b := b) (Ex.new (o := .lst [.int 0, .int 0, .int 1, .int 3]) hl0)).trans k1
    refine ⟨l0, _, d1, .int (v : Int), rfl, rfl, SqL.of (k1.k _ _ (X.ne hl0) upd_same), hv, ?_⟩
    refine ⟨fun σ' H' => ∃ z : Str, σ' = [some (.ref b), some (.int (v : Int)), some (.str z), none, none, none, none] ∧ Kp b H H' ∧ Bx b H' ∧ HeadOk z, ?_, ?_⟩
    · refine ⟨_, rfl, _, _, rfl, rfl, _, rfl, ite2 (fun g => ?_) (fun g => ⟨"", rfl, k01, X1, head_none⟩)⟩
      have v0 := of_decide_eq_true g
      refine ⟨_, rfl, b, 26, rfl, X1, by decide, by decide, fun d2 H2 k2 X2 r0 r1 => ?_⟩
      obtain ⟨c, hc, hcl⟩ := lett_at (k := d2.toNat) (by omega)
      have ev : ((v : Int) - 1) = ((v - 1 : Nat) : Int) := by omega
      refine ⟨letters, d2, c, rfl, rfl, (by decide +kernel), at_lit (n := d2.toNat) (by omega) hc, _, rfl, _, rfl, _, _, rfl, rfl, b, v - 1, by show [V.ref b, V.int ((v : Int) - 1)] = _; rw [ev], X2, by omega, fun wd H3 k3 X3 W => ?_⟩
      exact ⟨oneS c, wd, rfl, rfl, Nat.le_trans (by rw [W.1]; show 1 + (v - 1) ≤ 100; omega) (by decide : 100 ≤ sizeLine), oneS c ++ wd, rfl, (k01.trans k2).trans k3, X3, head_put hcl W (by omega)⟩
    · rintro σ' H2 ⟨z, rfl, k2, X2, HZ⟩
      refine ⟨_, rfl, (by show 4 ≤ sizeLine; decide), fun l1 hl1 => ⟨_, rfl, b, 4, rfl, X2.ex (Ex.new hl1), by decide, by decide, fun d3 H3 k3 X3 r0 r1 => ?_⟩⟩
      obtain ⟨v2, hv2, v23⟩ := four d3 r0 r1
      refine ⟨l1, _, d3, .int (v2 : Int), rfl, rfl, SqL.of (k3.k _ _ (X2.ne hl1) upd_same), hv2, b, v2, rfl, X3, by omega, fun tl H4 k4 X4 W4 => ?_⟩
      have k24 := (k2.trans (Kp.ex (b := b) (Ex.new (o := .lst [.int 0, .int 0, .int 1, .int 3]) hl1))).trans (k3.trans k4)
      refine ⟨(by show 5 ≤ sizeLine; decide), fun l2 hl2 => ?_⟩
      have x5 := Ex.new (o := .lst ((["x", "y", "z", "w2", "v"] : List Str).map V.str)) hl2
      refine ⟨fun σ' H' => ∃ (lt : Addr) (ss : List Str), σ' = [some (.ref b), some (.int (v : Int)), some (.str z), some (.str tl), some (.ref lt), none, none] ∧ Kp b H H' ∧ Bx b H' ∧ H' lt = some (.lst (ss.map V.str)) ∧ lt ≠ b ∧ ss.length = 5 ∧ ss.Nodup ∧ ∀ s ∈ ss, StemOk s, ?_, ?_⟩
      · refine ⟨_, rfl, b, 4, rfl, X4.ex x5, by decide, by decide, fun d4 H5 k5 X5 _ _ => ⟨rfl, _, rfl, ite2 (fun g => ?_) (fun g => ?_)⟩⟩
        · refine ⟨(by show 5 ≤ sizeLine; decide), fun l3 hl3 => ⟨l3, ["q", "p", "x", "r1", "t"], rfl, ((k24.trans (Kp.ex x5)).trans k5).mut (((k24.trans (Kp.ex x5)).trans k5).back X5 hl3), X5.upd (X5.ne hl3), upd_same, X5.ne hl3, rfl, by decide +kernel, by decide +kernel⟩⟩
        · exact ⟨l2, ["x", "y", "z", "w2", "v"], rfl, (k24.trans (Kp.ex x5)).trans k5, X5, k5.k _ _ (X4.ne hl2) upd_same, X4.ne hl2, rfl, by decide +kernel, by decide +kernel⟩
      · rintro σ' H5 ⟨lt, ss, rfl, k5, X5, h5, n5, l5, nd5, ok5⟩
        have big : 100 ≤ sizeLine := by decide
        have lz := HZ.1
        have lt3 := W4.1
        have te : ∀ (s : Str), StemOk s → (z.length + s.length ≤ sizeLine) ∧ ((z ++ s).length + tl.length ≤ sizeLine) := fun s h => by
          have := h.2.1
          rw [app_len]
          constructor <;> omega
        have pn : ∀ (s : Str), StemOk s → isNameS (z ++ s ++ tl) = true := fun s h => name_put HZ h W4 (by omega)
        have ok3 : ∀ s ∈ (["p", "q", "r1"] : List Str), StemOk s := by decide +kernel
        refine ⟨(by show 3 ≤ sizeLine; decide), fun l3 hl3 => ⟨l3, rfl, ⟨_, SqL.of (show upd H5 l3 (.lst ((["p", "q", "r1"] : List Str).map V.str)) l3 = some (.lst ((["p", "q", "r1"] : List Str).map V.str)) from upd_same)⟩, fun D1 hD1 => ?_⟩⟩
        have x6 := Ex.new (o := .lst ((["p", "q", "r1"] : List Str).map V.str)) hl3
        refine lcM (walk_list (xs := (["p", "q", "r1"] : List Str).map V.str)) (fun s => V.str (z ++ s ++ tl)) (by decide) (fun H' e => ex_l e (SqL.of upd_same)) (fun _ => rfl) (fun s hs H' e Q q => ⟨_, rfl, _, rfl, z, s, rfl, rfl, (te s (ok3 s hs)).1, _, rfl, _, _, rfl, rfl, (te s (ok3 s hs)).2, q H' (Ex.refl _)⟩) hD1 fun H7 e7 h7 => ?_
        have hl7 : H7 lt = some (.lst (ss.map V.str)) := e7 _ _ (x6 _ _ h5)
        have k7 : Kp b H H7 := (k5.trans (Kp.ex x6)).trans (Kp.ex e7)
        have X7 : Bx b H7 := (X5.ex x6).ex e7
        have nD : D1 ≠ b := (X5.ex x6).ne hD1
        refine ⟨fun σ' H' => ∃ (tt : Addr) (xs : List Str), σ' = [some (.ref b), some (.int (v : Int)), some (.str z), some (.str tl), some (.ref lt), some (.ref tt), none] ∧ Kp b H H' ∧ Bx b H' ∧ H' tt = some (.lst (xs.map V.str)) ∧ tt ≠ b ∧ H' lt = some (.lst (ss.map V.str)) ∧ xs.length = 3 ∧ ∀ s ∈ xs, isNameS s = true, ?_, ?_⟩
        · refine ⟨_, rfl, b, 8, rfl, X7, by decide, by decide, fun d6 H8 k8 X8 _ _ => ⟨rfl, _, rfl, ite2 (fun g => ?_) (fun g => ?_)⟩⟩
          · refine ⟨(by show 3 ≤ sizeLine; decide), fun l6 hl6 => ⟨l6, ["c0l0", "b0x0", "c1l2"], rfl, (k7.trans k8).mut ((k7.trans k8).back X8 hl6), X8.upd (X8.ne hl6), upd_same, X8.ne hl6, ?_, rfl, by decide +kernel⟩⟩
            have := k8.k _ _ n5 hl7
            rw [upd_ne (ne_of_none this hl6)]
            exact this
          · refine ⟨D1, (["p", "q", "r1"] : List Str).map fun s => z ++ s ++ tl, rfl, k7.trans k8, X8, ?_, nD, k8.k _ _ n5 hl7, rfl, fun y hy => ?_⟩
            · rw [List.map_map]
              exact k8.k _ _ nD h7
            · obtain ⟨s, hs, rfl⟩ := List.mem_map.mp hy
              exact pn s (ok3 s hs)
        · rintro σ' H8 ⟨tt, xs, rfl, k8, X8, htt, ntt, hl8, lx, okx⟩
          refine ⟨_, rfl, _, rfl, lt, rfl, ⟨_, SqL.of hl8⟩, fun D2 hD2 => lcM (walk_list (xs := ss.map V.str)) (fun s => V.str (z ++ s ++ tl)) (by omega) (fun H' e => ex_l e (SqL.of hl8)) (fun _ => rfl) (fun s hs H' e Q q => ⟨_, rfl, _, rfl, z, s, rfl, rfl, (te s (ok5 s hs)).1, _, rfl, _, _, rfl, rfl, (te s (ok5 s hs)).2, q H' (Ex.refl _)⟩) hD2 fun H9 e9 h9 => ?_⟩
          refine ⟨(by show 2 ≤ sizeLine; decide), fun t ht => ?_⟩
          have x9 := Ex.new (o := .tup [.ref tt, .ref D2]) ht
          refine fin t tt D2 xs (ss.map fun s => z ++ s ++ tl) _ ((k8.trans (Kp.ex e9)).trans (Kp.ex x9)) ((X8.ex e9).ex x9) upd_same ?_ ?_ ntt (X8.ne hD2) lx (by rw [List.length_map]; exact l5) okx ?_ ?_
          · exact x9 _ _ (e9 _ _ htt)
          · rw [List.map_map]; exact x9 _ _ h9
          · intro y hy
            obtain ⟨s, hs, rfl⟩ := List.mem_map.mp hy
            exact ⟨pn s (ok5 s hs), name_far HZ (ok5 s hs) W4 (by omega)⟩
          · exact List.Pairwise.map _ (fun x y n e => n (put_inj e)) nd5
end
end M6
set_option maxRecDepth 100000
set_option maxHeartbeats 8000000
namespace M6
open PySem L2 Evl GP HR SC
/-- the names that the law draws from -/
structure Wld (b t1 t2 : Addr) (xs ys : List Str) (H : Hp) : Prop where
  l1 : H t1 = some (.lst (xs.map V.str))
  l2 : H t2 = some (.lst (ys.map V.str))
  n1 : t1 ≠ b
  n2 : t2 ≠ b
  x3 : xs.length = 3
  y4 : ys.length = 3
  xn : ∀ z ∈ xs, isNameS z = true
  yn : ∀ z ∈ ys, isNameS z = true
  nd : ys.Nodup
  yz : ∀ z ∈ ys, z ≠ "zzz0zzz0"
theorem Wld.kp {b t1 t2 : Addr} {xs ys : List Str} {H H' : Hp} (W : Wld b t1 t2 xs ys H) (k : Kp b H H') : Wld b t1 t2 xs ys H' := { W with l1 := k.k _ _ W.n1 W.l1, l2 := k.k _ _ W.n2 W.l2 }
theorem Wld.xat {b t1 t2 : Addr} {xs ys : List Str} {H : Hp} (W : Wld b t1 t2 xs ys H) {d : Int} (h0 : 0 ≤ d) (h1 : d < (xs.length : Int)) : ∃ x, atI (xs.map V.str) d = some (.str x) ∧ isNameS x = true := by
  have hi : d.toNat < xs.length := by omega
  exact ⟨xs[d.toNat], at_lit (n := d.toNat) (by omega) (by rw [List.getElem?_map, List.getElem?_eq_getElem hi]; rfl), W.xn _ (List.getElem_mem hi)⟩
theorem Wld.yat {b t1 t2 : Addr} {xs ys : List Str} {H : Hp} (W : Wld b t1 t2 xs ys H) {d : Int} (h0 : 0 ≤ d) (h1 : d < (ys.length : Int)) : ∃ x, atI (ys.map V.str) d = some (.str x) ∧ ys[d.toNat]? = some x ∧ x ∈ ys ∧ isNameS x = true := by
  have hi : d.toNat < ys.length := by omega
  exact ⟨ys[d.toNat], at_lit (n := d.toNat) (by omega) (by rw [List.getElem?_map, List.getElem?_eq_getElem hi]; rfl), List.getElem?_eq_getElem hi, List.getElem_mem hi, W.yn _ (List.getElem_mem hi)⟩
theorem two_apart {one m : Int} (h0 : 0 ≤ one) (h1 : one < 3) (h2 : 0 ≤ m) (h3 : m < 2) : 0 ≤ Int.fmod (one + 1 + m) 3 ∧ Int.fmod (one + 1 + m) 3 < 3 ∧ Int.fmod (one + 1 + m) 3 ≠ one := by
  rw [Int.fmod_eq_emod_of_nonneg _ (by decide)]
  omega
theorem nd_ne {ys : List Str} (nd : ys.Nodup) {i j : Nat} {x y : Str} (h1 : ys[i]? = some x) (h2 : ys[j]? = some y) (n : i ≠ j) : x ≠ y := by
  obtain ⟨a1, b1⟩ := List.getElem?_eq_some_iff.mp h1
  obtain ⟨a2, b2⟩ := List.getElem?_eq_some_iff.mp h2
  have p := List.pairwise_iff_getElem.mp nd
  rw [← b1, ← b2]
  rcases Nat.lt_or_gt_of_ne n with l | l
  · exact p i j a1 a2 l
  · exact (p j i a2 a1 l).symm
theorem yn_at (k : Int) (h0 : 0 ≤ k) (h1 : k < 2) : ∃ f, atI [V.str "yes", V.str "no"] k = some (.str (ynS f)) := by
  have : k = 0 ∨ k = 1 := by omega
  rcases this with rfl | rfl
  · exact ⟨true, rfl⟩
  · exact ⟨false, rfl⟩
theorem small_B {k : Int} (h : k.natAbs ≤ 2 ^ 300) : k.natAbs ≤ B0 + 100 := by
  have : (2 : Nat) ^ 300 ≤ B0 := by unfold B0; exact Nat.pow_le_pow_right (by decide) (by decide)
  omega
/-- a literal whose number is not long -/
def SmL : Lit → Prop
  | .yn _ _ => True
  | .most _ _ k => k.natAbs ≤ 2 ^ 211
def spLiteral : Sp := fun vs H Q _ => ∃ (b t1 t2 : Addr) (xs ys : List Str), vs = [.ref b, .ref t1, .ref t2] ∧ Bx b H ∧ Wld b t1 t2 xs ys H ∧
  ∀ (p : Addr) (l : Lit) H', Kp b H H' → Bx b H' → H' p = some (.tup (litV l)) → LitOk l → SmL l → (∀ z ∈ namesOf l, z ∈ ys) → Q (.ref p) H'
section
variable {P : Program} {w : World} {K : PySem.W.Frag} {mg : Str → Option Value} {base : Heap} {a : Ad} {d : Fd}
theorem ok_law_literal (T : TX K mg a) (D : FDS K a d) : FnOk P w K mg base CX0 3 a.a_law_literal d.a_law_literal ["bag", "truths", "moments"] spLiteral := by
  have G__law_draw : FnOk P w K mg base CX0 1 a.a_law_draw d.a_law_draw ["bag", "size"] spDraw := ok_law_draw T D
  have G__law_integer : FnOk P w K mg base CX0 2 a.a_law_integer d.a_law_integer ["bag"] spInt := ok_law_integer T D
  refine D.F__law_literal.ok sc_law_literal (fun vs H Q E h => ?_) (fun cdv A outer s H vs Q E hr h => ?_)
  · obtain ⟨b, t1, t2, xs, ys, rfl, _⟩ := h
    rfl
  · obtain ⟨b, t1, t2, xs, ys, rfl, X, W, fin⟩ := h
    refine ⟨_, (pss_cons (ps_set (i := 3) sc_law_literal.nd rfl (Or.inl rfl) (pe_call G__law_draw (hr.mono (by decide)) rfl T.f__law_draw T.k__law_draw D.B__law_draw .nil pass0 (pa_cons (pv 0) (pa_cons pe_int pa_nil))))
        (pss_cons (ps_if (pt_cmpR op_lt (pv 3) pe_int (nomark _)) (pss_one (ps_ret (pe_tup (pa_cons (pe_ix (ix_listK (K := K)) (pe_lst (pa_cons pe_str (pa_cons pe_str pa_nil))) (pv 3) (fun _ _ => rfl)) (pa_cons (pe_ix (ix_listK (K := K)) (pv 1) (pe_call G__law_draw (hr.mono (by decide)) rfl T.f__law_draw T.k__law_draw D.B__law_draw .nil pass0 (pa_cons (pv 0) (pa_cons (pe_callB call_len_seq (by rfl) T.b_len (by decide +kernel) (pa_cons (pv 1) pa_nil)) pa_nil))) (fun _ _ => rfl)) pa_nil))))) pss_nil)
        (pss_cons (ps_set (i := 4) sc_law_literal.nd rfl (Or.inl rfl) (pe_call G__law_draw (hr.mono (by decide)) rfl T.f__law_draw T.k__law_draw D.B__law_draw .nil pass0 (pa_cons (pv 0) (pa_cons (pe_callB call_len_seq (by rfl) T.b_len (by decide +kernel) (pa_cons (pv 2) pa_nil)) pa_nil))))
        (pss_cons (ps_set (i := 5) sc_law_literal.nd rfl (Or.inl rfl) (pe_op op_modN (pe_callTy call_int1 (by rfl) T.b_int (by decide +kernel) (pa_cons (pe_op op_add (pe_op op_add (pv 4) pe_int) (pe_call G__law_draw (hr.mono (by decide)) rfl T.f__law_draw T.k__law_draw D.B__law_draw .nil pass0 (pa_cons (pv 0) (pa_cons (pe_op op_sub (pe_callB call_len_seq (by rfl) T.b_len (by decide +kernel) (pa_cons (pv 2) pa_nil)) pe_int) pa_nil)))) pa_nil)) (pe_callB call_len_seq (by rfl) T.b_len (by decide +kernel) (pa_cons (pv 2) pa_nil))))
        (pss_one (ps_ret (pe_tup (pa_cons pe_str (pa_cons (pe_ix (ix_listK (K := K)) (pv 2) (pv 4) (fun _ _ => rfl)) (pa_cons (pe_ix (ix_listK (K := K)) (pv 2) (pv 5) (fun _ _ => rfl)) (pa_cons (pe_call G__law_integer (hr.mono (by decide)) rfl T.f__law_integer T.k__law_integer D.B__law_integer .nil pass0 (pa_cons (pv 0) pa_nil)) pa_nil))))))))))), ?_⟩
    refine ⟨_, rfl, b, 5, rfl, X, by decide, by decide, fun kd H1 k1 X1 q0 q1 => ⟨_, rfl, _, _, rfl, rfl, _, rfl, ite2 (fun g => ?_) (fun g => ?_)⟩⟩
    · have g' := of_decide_eq_true g
      obtain ⟨f, hf⟩ := yn_at kd q0 g'
      refine ⟨(by show 2 ≤ sizeLine; decide), fun l3 hl3 => ⟨_, rfl, l3, _, kd, _, rfl, rfl, SqL.of upd_same, hf, ?_⟩⟩
      have x3 := Ex.new (o := .lst [.str "yes", .str "no"]) hl3
      have W2 := (W.kp k1).kp (Kp.ex x3)
      have lx : (xs.map V.str).length = xs.length := List.length_map _
      refine ⟨_, rfl, _, rfl, _, rfl, t1, _, rfl, .inl (SqL.of W2.l1), b, _, rfl, X1.ex x3, by rw [lx, W.x3]; decide, by rw [lx, W.x3]; decide, fun d2 H2 k2 X2 r0 r1 => ?_⟩
      rw [lx] at r1
      have W3 := W2.kp k2
      obtain ⟨x, hx, nx⟩ := W3.xat r0 r1
      refine ⟨t1, _, d2, _, rfl, rfl, SqL.of W3.l1, hx, (by show 2 ≤ sizeLine; decide), fun t ht => ?_⟩
      exact fin t (.yn f x) _ ((k1.trans (Kp.ex x3)).trans (k2.trans (Kp.ex (Ex.new ht)))) (X2.ex (Ex.new ht)) upd_same nx trivial (fun z h => absurd h List.not_mem_nil)
    · have ly : (ys.map V.str).length = ys.length := List.length_map _
      have W1 := W.kp k1
      refine ⟨_, rfl, _, rfl, t2, _, rfl, .inl (SqL.of W1.l2), b, _, rfl, X1, by rw [ly, W.y4]; decide, by rw [ly, W.y4]; decide, fun one H2 k2 X2 r0 r1 => ?_⟩
      rw [ly] at r1
      have W2 := W1.kp k2
      refine ⟨_, rfl, _, _, rfl, rfl, _, rfl, _, rfl, t2, _, rfl, .inl (SqL.of W2.l2), _, _, rfl, rfl, b, _, rfl, X2, by rw [ly, W.y4]; decide, by rw [ly, W.y4]; decide, fun m H3 k3 X3 s0 s1 => ?_⟩
      rw [ly] at s1
      have W3 := W2.kp k3
      refine ⟨_, _, rfl, rfl, .inl ⟨_, rfl, _, rfl, t2, _, rfl, .inl (SqL.of W3.l2), _, _, rfl, rfl, (by rw [ly, W.y4]; show (3 : Int) ≠ 0; decide), ?_⟩⟩
      rw [ly, W.y4]
      rw [W.y4] at r1 s1
      obtain ⟨m0, m4, mn⟩ := two_apart r0 r1 s0 s1
      obtain ⟨x, hx, hx2, hx3, nx⟩ := W3.yat r0 (by rw [W.y4]; exact r1)
      obtain ⟨y, hy, hy2, hy3, ny⟩ := W3.yat m0 (by rw [W.y4]; exact m4)
      have xy : x ≠ y := nd_ne W.nd hx2 hy2 (by omega)
      refine ⟨_, rfl, _, rfl, t2, _, one, _, rfl, rfl, SqL.of W3.l2, hx, _, rfl, _, rfl, t2, _, _, _, rfl, rfl, SqL.of W3.l2, hy, _, rfl, b, rfl, X3, fun i H4 k4 X4 lo hi => ⟨(by show 4 ≤ sizeLine; decide), fun t ht => ?_⟩⟩
      exact fin t (.most x y i) _ (((k1.trans k2).trans k3).trans (k4.trans (Kp.ex (Ex.new ht)))) (X4.ex (Ex.new ht)) upd_same ⟨nx, ny, xy, small_B (by omega)⟩ (show i.natAbs ≤ 2 ^ 211 by omega) (fun z h => by
        simp only [namesOf, List.mem_cons, List.not_mem_nil, or_false] at h
        rcases h with rfl | rfl
        · exact hx3
        · exact hy3)
end
end M6
set_option maxRecDepth 100000
set_option maxHeartbeats 8000000
namespace M6
open PySem L2 Evl GP HR SC
def holdsL (ns : List Str) (tv : Str → Int) : Lit → Bool
  | .yn b x => decide (decide (x ∈ ns) = b)
  | .most x y k => decide (tv x - tv y ≤ k)
def prK (q : Str × Int) : L2.Key × V := (.inr q.1, .int q.2)
def tvOf (ps : List (Str × Int)) (z : Str) : Int := ((ps.find? fun q => decide (q.1 = z)).map Prod.snd).getD 0
/-- truths and times as they stand -/
structure Val (H : Hp) (v n tm : Addr) (o : Obj) (pa : List Addr) (ns : List Str) (ps : List (Str × Int)) : Prop where
  hv : H v = some (.tup [.ref n, .ref tm])
  hn : H n = some (.tup (ns.map V.str))
  ht : H tm = some (.frz o (.tup (pa.map V.ref)))
  od : o.dict = none
  len : pa.length = ps.length
  at_ : ∀ (i : Nat) (q : Str × Int), ps[i]? = some q → ∃ t, pa[i]? = some t ∧ H t = some (.tup [.str q.1, .int q.2])
  nd : (ps.map Prod.fst).Nodup
  few : ps.length ≤ 60
theorem Val.ex {H H' : Hp} {v n tm : Addr} {o : Obj} {pa : List Addr} {ns : List Str} {ps : List (Str × Int)} (A : Val H v n tm o pa ns ps) (e : Ex H H') : Val H' v n tm o pa ns ps :=
  { A with hv := e _ _ A.hv, hn := e _ _ A.hn, ht := e _ _ A.ht, at_ := fun i q h => let ⟨t, h1, h2⟩ := A.at_ i q h; ⟨t, h1, e _ _ h2⟩ }
theorem pair_at {K : PySem.W.Frag} {H : Hp} : ∀ {pa : List Addr} {ps : List (Str × Int)}, pa.length = ps.length → (∀ (i : Nat) (q : Str × Int), ps[i]? = some q → ∃ t, pa[i]? = some t ∧ H t = some (.tup [.str q.1, .int q.2])) → Paired (fun p kv => SqT K H p [kV kv.1, kv.2]) pa (ps.map prK)
  | [], [], _, _ => .nil
  | [], _ :: _, l, _ => by simp at l
  | _ :: _, [], l, _ => by simp at l
  | a :: pa, q :: ps, l, h => by
    obtain ⟨t, h1, h2⟩ := h 0 q rfl
    obtain rfl : a = t := Option.some.inj h1
    exact .cons (SqT.of h2) (pair_at (by simpa using l) fun i r g => h (i + 1) r g)
theorem val_at : ∀ {ps : List (Str × Int)} {z : Str}, z ∈ ps.map Prod.fst → valV (ps.map prK) (.inr z : L2.Key) = some (.int (tvOf ps z))
  | [], z, h => absurd h List.not_mem_nil
  | q :: ps, z, h => by
    by_cases g : q.1 = z
    · unfold tvOf valV
      rw [List.map_cons, List.find?_cons_of_pos (by simp [prK, g]), List.find?_cons_of_pos (by simp [g])]
      rfl
    · have := val_at (ps := ps) (z := z) (by
        rcases List.mem_cons.mp h with e | h
        · exact absurd e.symm g
        · exact h)
      unfold tvOf valV at this ⊢
      rw [List.map_cons, List.find?_cons_of_neg (by simp [prK, g]), List.find?_cons_of_neg (by simp [g])]
      exact this
theorem val_of {ps : List (Str × Int)} (nd : (ps.map Prod.fst).Nodup) {z : Str} (hz : z ∈ ps.map Prod.fst) : valV (mergeK [] (ps.map prK)) (.inr z : L2.Key) = some (.int (tvOf ps z)) := by
  rw [merge_new (ps.map prK) [] ?_, List.nil_append]
  · exact val_at hz
  · rw [List.nil_append, List.map_map]
    have : (Prod.fst ∘ prK) = (fun z => (Sum.inr z : L2.Key)) ∘ (Prod.fst : Str × Int → Str) := rfl
    rw [this, ← List.map_map]
    exact List.Pairwise.map _ (fun x y n e => n (Sum.inr.inj e)) nd
def spHolds : Sp := fun vs H Q _ => ∃ (p v n tm : Addr) (o : Obj) (pa : List Addr) (l : Lit) (ns : List Str) (ps : List (Str × Int)), vs = [.ref p, .ref v] ∧ H p = some (.tup (litV l)) ∧ Val H v n tm o pa ns ps ∧ (∀ z ∈ namesOf l, z ∈ ps.map Prod.fst) ∧ ∀ H', Ex H H' → Q (.bl (holdsL ns (tvOf ps) l)) H'
section
variable {P : Program} {w : World} {K : PySem.W.Frag} {mg : Str → Option Value} {base : Heap} {a : Ad} {d : Fd}
theorem ok_law_holds (T : TX K mg a) (D : FDS K a d) : FnOk P w K mg base CX0 1 a.a_law_holds d.a_law_holds ["literal", "values"] spHolds := by
  refine D.F__law_holds.ok sc_law_holds (fun vs H Q E h => ?_) (fun cdv A outer s H vs Q E hr h => ?_)
  · obtain ⟨p, v, n, tm, o, pa, l, ns, ps, rfl, _⟩ := h
    rfl
  · obtain ⟨p, v, n, tm, o, pa, l, ns, ps, rfl, hp, VL, sub, fin⟩ := h
    refine ⟨_, (pss_cons (ps_if (pt_cmpR op_eq (pe_ix ix_tup (pv 0) pe_int (fun _ _ => rfl)) pe_str (nomark _)) (pss_one (ps_ret (pe_cmpR op_in_seq (pe_ix ix_tup (pv 0) pe_int (fun _ _ => rfl)) (pe_ix ix_tup (pv 1) pe_int (fun _ _ => rfl)) rfl))) pss_nil)
        (pss_cons (ps_if (pt_cmpR op_eq (pe_ix ix_tup (pv 0) pe_int (fun _ _ => rfl)) pe_str (nomark _)) (pss_one (ps_ret (pe_cmpR op_notIn_seq (pe_ix ix_tup (pv 0) pe_int (fun _ _ => rfl)) (pe_ix ix_tup (pv 1) pe_int (fun _ _ => rfl)) rfl))) pss_nil)
        (pss_cons (ps_set (i := 2) sc_law_holds.nd rfl (Or.inl rfl) (pe_callTy (cr_dictF rfl) (by rfl) T.b_dict (by decide +kernel) (pa_cons (pe_ix ix_tup (pv 1) pe_int (fun _ _ => rfl)) pa_nil)))
        (pss_one (ps_ret (pe_cmpR op_le (pe_op op_sub (pe_dget (hu_of hr) (pv 2) (pe_ix ix_tup (pv 0) pe_int (fun _ _ => rfl)) (fun _ _ => rfl)) (pe_dget (hu_of hr) (pv 2) (pe_ix ix_tup (pv 0) pe_int (fun _ _ => rfl)) (fun _ _ => rfl))) (pe_ix ix_tup (pv 0) pe_int (fun _ _ => rfl)) (nomark _))))))), ?_⟩
    cases l with
    | yn b x =>
      cases b with
      | true =>
        refine ⟨_, rfl, p, _, 0, .str "yes", rfl, rfl, SqT.of hp, rfl, rfl, _, rfl, iteT' (by decide +kernel) ⟨_, rfl, p, _, 1, .str x, rfl, rfl, SqT.of hp, rfl, _, rfl, v, _, 0, .ref n, rfl, rfl, SqT.of VL.hv, rfl, n, _, rfl, .inr (SqT.of VL.hn), rfl, flat_strs, ?_⟩⟩
        rw [if_neg Bool.false_ne_true, inV_strs]
        exact ex_q fin (by show decide (decide (x ∈ ns) = true) = _; cases decide (x ∈ ns) <;> rfl) (Ex.refl _)
      | false =>
        refine ⟨_, rfl, p, _, 0, .str "no", rfl, rfl, SqT.of hp, rfl, rfl, _, rfl, iteF' (by decide +kernel) ⟨_, rfl, p, _, 0, .str "no", rfl, rfl, SqT.of hp, rfl, rfl, _, rfl, iteT' (by decide +kernel) ⟨_, rfl, p, _, 1, .str x, rfl, rfl, SqT.of hp, rfl, _, rfl, v, _, 0, .ref n, rfl, rfl, SqT.of VL.hv, rfl, n, _, rfl, .inr (SqT.of VL.hn), rfl, flat_strs, ?_⟩⟩⟩
        rw [if_pos rfl, inV_strs]
        exact ex_q fin (by show decide (decide (x ∈ ns) = false) = _; cases decide (x ∈ ns) <;> rfl) (Ex.refl _)
    | most x y k =>
      refine ⟨_, rfl, p, _, 0, .str "most", rfl, rfl, SqT.of hp, rfl, rfl, _, rfl, iteF' (by decide +kernel) ⟨_, rfl, p, _, 0, .str "most", rfl, rfl, SqT.of hp, rfl, rfl, _, rfl, iteF' (by decide +kernel) ?_⟩⟩
      refine ⟨_, rfl, v, _, 1, .ref tm, rfl, rfl, SqT.of VL.hv, rfl, tm, o, pa, ps.map prK, rfl, VL.ht, VL.od, pair_at VL.len VL.at_, fun t ht => ?_⟩
      have x1 := Ex.new (o := .dK (mergeK [] (ps.map prK))) ht
      have hp1 := x1 _ _ hp
      have hx := val_of VL.nd (sub x (by simp [namesOf]))
      have hy := val_of VL.nd (sub y (by simp [namesOf]))
      exact ⟨_, rfl, _, rfl, p, _, 1, .str x, rfl, rfl, SqT.of hp1, rfl, t, _, rfl, .inl ⟨_, .inr x, .inl upd_same, rfl, hx.symm⟩, _, rfl, _, rfl, p, _, 2, .str y, rfl, rfl, SqT.of hp1, rfl, t, _, rfl, .inl ⟨_, .inr y, .inl upd_same, rfl, hy.symm⟩, _, _, rfl, rfl, _, rfl, p, _, 3, .int k, rfl, rfl, SqT.of hp1, rfl, _, _, rfl, rfl, fin _ x1⟩
end
end M6
set_option maxRecDepth 100000
set_option maxHeartbeats 4000000
/-! sorting tuples some of which are empty -/
namespace SE
open PySem PySem.Spec PySem.W PyProof.Rows PySem.Calls PySem.SeqAt
section
variable {prog : Program} {w : World} {A : Around} {E : Value → Shared → Prop} {s : Shared}
theorem tup_lt {Q : Value → Shared → Prop} {l b : Addr} {items items2 : Array Value} {e r : Nat → Bool} (hl : s.heap.IsTuple l items) (hb : s.heap.IsTuple b items2) (he : ∀ j (h1 : j < items.size) (h2 : j < items2.size), EqAt A.in1 s items[j] items2[j] (e j))
    (hr : ∀ j (h1 : j < items.size) (h2 : j < items2.size), e j = false → RcLt A.in1 s items[j] items2[j] (r j)) (h : Q (.bool (firstLt e r (decide (items.size < items2.size)) (List.range (min items.size items2.size)))) s) : wpAny (model prog w) A (call (.builtin "tuple.__lt__") [.ref l, .ref b]) Q E s := by
  obtain ⟨⟨_, dd, _, sl⟩, ho, rfl, n, rfl⟩ := id hl
  obtain ⟨⟨_, dd2, _, sl2⟩, ho2, rfl, n2, rfl⟩ := id hb
  exact call_meets PySem.F.slot_tuple_lt ⟨_, ho, rfl⟩ PySem.F.entry_tuple_lt (PySem.F.args_tuple_lt_2 _ _) (SeqAt.tuple_ltAt l b items items2 n n2 dd dd2 sl sl2 e r) ⟨ho, ho2, he, hr, h⟩
theorem one_tuples {xs ys : List PyData} {a b : Value} {as bs : List Addr} {Q : Bool → Shared → Prop} (ra : Reads s.heap a (.tuple xs) as) (rb : Reads s.heap b (.tuple ys) bs) (hal : alikeAll xs ys = true) (hu : A.units + min (PyData.tuple xs).depth (PyData.tuple ys).depth < cLine) (hq : Q (dataLt (.tuple xs) (.tuple ys)) s) : wpAny (model prog w) A (oneLt' true a b) Q E s := by
  cases ra with
  | @tuple l o vs n _ _ h1 h2 h3 h4 =>
    cases rb with
    | @tuple l' o' vs' n' _ _ k1 k2 k3 k4 =>
      have n1 : vs.size = xs.length := by simpa using SeqAt.ReadsAll.length _ _ _ h4
      have n2 : vs'.size = ys.length := by simpa using SeqAt.ReadsAll.length _ _ _ k4
      rw [dataLt_tuple, ← firstLt_toks xs ys hal, ← n1, ← n2] at hq
      rw [oneLt'_eq]
      simp only [if_true]
      refine wpAny_bind (wpAny_cRoomFor (by omega) ?_)
      refine wpAny_bind (wpAny_callSpecialIfBound?_slot (T := "tuple") ⟨_, h1, h2⟩ PySem.F.slot_tuple_lt (tup_lt (e := pairEq xs ys) (r := fun j => dataLt (xs.getD j .none) (ys.getD j .none)) ⟨_, h1, h2, _, h3⟩ ⟨_, k1, k2, _, k3⟩ (fun j j1 j2 => ?_) (fun j j1 j2 hj => ?_) ?_))
      · have := eqAt_alikeAll xs ys A.in1 s vs.toList vs'.toList _ _ h4 k4 hal (SeqAt.room_in hu) j (by simpa using j1) (by simpa using j2)
        simpa using this
      · have := rcLt_alikeAll xs ys A.in1 s vs.toList vs'.toList _ _ h4 k4 hal (SeqAt.room_in hu) j (by simpa using j1) (by simpa using j2) hj
        simpa using this
      · exact wpAny_truthy_bool hq
theorem firsts_any : ∀ {vs : List Value} {ds : List PyData}, EachIs (fun v d => ∃ as, Reads s.heap v d as) vs ds → (∀ d ∈ ds, ∃ xs, d = .tuple xs) → ∃ fs : List (Option Value), fs.length = vs.length ∧ ((∃ d ∈ ds, d = .tuple []) → none ∈ fs) ∧
    ∀ (M : Model) (A : Around) (E : Value → Shared → Prop) (Q : List (Option Value) → Shared → Prop), Q fs s → wpAny M A (vs.mapM firstOfTuple') Q E s
  | _, _, .nil, _ => ⟨[], rfl, fun ⟨_, h, _⟩ => absurd h List.not_mem_nil, fun M A E Q h => by rw [List.mapM_nil]; exact wpAny_pure h⟩
  | v :: vs, d :: ds, .cons ⟨as, r⟩ t, ht => by
    obtain ⟨fs, l, n, f⟩ := firsts_any t fun d hd => ht d (List.mem_cons_of_mem _ hd)
    obtain ⟨xs, rfl⟩ := ht d List.mem_cons_self
    cases r with
    | @tuple a o its m _ _ ho hc hd hr =>
      refine ⟨its[0]? :: fs, by rw [List.length_cons, List.length_cons, l], fun ⟨d, hd, e⟩ => ?_, fun M A E Q h => ?_⟩
      · rcases List.mem_cons.mp hd with z | hd
        · have q : xs = [] := PyData.tuple.inj (z.symm.trans e)
          subst q
          have : its.toList = [] := by
            cases q : its.toList with
            | nil => rfl
            | cons _ _ => rw [q] at hr; cases hr
          have z0 : its[0]? = none := by rw [← Array.getElem?_toList, this]; rfl
          rw [z0]
          exact List.mem_cons_self
        · exact List.mem_cons_of_mem _ (n ⟨d, hd, e⟩)
      · rw [List.mapM_cons]
        refine wpAny_bind ?_
        rw [kas_first_eq]
        refine wpAny_bind (Looks.here (show Looks M s.heap (typeOf (.ref a)) o.cls from (Looks.ld ho).andThen .now) ?_)
        rw [hc, if_neg (by first | decide | simp)]
        refine wpAny_bind (listItems_at ho hd (wpAny_pure ?_))
        exact wpAny_bind (f M A E (fun bs s' => wpAny M A (pure (its[0]? :: bs)) Q E s') (wpAny_pure h))
/-- values that read as alike tuples can be sorted -/
theorem data_tuples {vs : List Value} {ds : List PyData} (e : EachIs (fun v d => ∃ as, Reads s.heap v d as) vs ds) (hal : AllAlike ds) (ht : ∀ d ∈ ds, ∃ xs, d = .tuple xs) (hu : ∀ d, d ∈ ds → A.units + d.depth < cLine) : SortsAt prog w A s (dataKind s.heap ds) vs := by
  by_cases g : ∃ d ∈ ds, d = PyData.tuple []
  · have keys : ∀ v, v ∈ vs → ∃ a, (dataKind s.heap ds).keyOf v = some a := fun v hv => by
      obtain ⟨d, hd, as, r⟩ := e.left v hv
      exact ⟨_, dataKind_some hal hd r⟩
    have room : ∀ {d d' : PyData}, d ∈ ds → A.units + min d.depth d'.depth < cLine := fun {d d'} hd => Nat.lt_of_le_of_lt (Nat.add_le_add_left (Nat.min_le_left _ _) _) (hu d hd)
    obtain ⟨fs, l, n, f⟩ := firsts_any e ht
    have no := n g
    have notAll : (fs.toArray.all fun x => x.isSome) = false := by
      rw [List.all_toArray, List.all_eq_false]
      exact ⟨none, no, by simp⟩
    by_cases z : (fs.toArray[0]?.bind id).isSome = true
    · refine ⟨keys, general', ?_, fun h2 E Q hq => ?_⟩
      · intro E x y a b Q ha hb hq
        obtain ⟨d, as, hd, ra, rfl⟩ := dataKind_inv ha
        obtain ⟨d', as', hd', rb, rfl⟩ := dataKind_inv hb
        show wpAny (model prog w) A (oneLt' false x y) Q E s
        exact oneLt_alike (fun z => nomatch z) ra rb (hal d hd d' hd') (by obtain ⟨xs, rfl⟩ := ht d hd; exact fun z => nomatch z) (room hd) hq
      · rw [kat_kind_eq, List.mapM_toArray, map_eq_pure_bind]
        refine wpAny_bind (wpAny_bind (f _ _ _ _ (wpAny_pure ?_)))
        rw [if_neg (by rw [notAll]; exact Bool.false_ne_true), if_pos z]
        exact wpAny_pure hq
    · refine ⟨keys, oneType', ?_, fun h2 E Q hq => ?_⟩
      · intro E x y a b Q ha hb hq
        obtain ⟨d, as, hd, ra, rfl⟩ := dataKind_inv ha
        obtain ⟨d', as', hd', rb, rfl⟩ := dataKind_inv hb
        have hdd := hal d hd d' hd'
        have hroom := room (d' := d') hd
        obtain ⟨xs, rfl⟩ := ht d hd
        obtain ⟨ys, rfl⟩ := ht d' hd'
        rw [keyLt'_oneType]
        exact one_tuples ra rb (by simpa [alike] using hdd) hroom hq
      · rw [kat_kind_eq, List.mapM_toArray, map_eq_pure_bind]
        refine wpAny_bind (wpAny_bind (f _ _ _ _ (wpAny_pure ?_)))
        rw [if_neg (by rw [notAll]; exact Bool.false_ne_true), if_neg z]
        rw [oneTypeOnly'_eq, List.mapM_toArray, map_eq_pure_bind]
        obtain ⟨v₁, vr, rfl⟩ : ∃ v₁ vr, vs = v₁ :: vr := by
          cases vs with
          | nil => exact absurd h2 (by simp)
          | cons a b => exact ⟨a, b, rfl⟩
        refine wpAny_bind (wpAny_bind (wpAny_bind (kas_mapM (r := Value.type "tuple") _ (fun v hv Q' hq => ?_) (wpAny_pure ?_))))
        · obtain ⟨d, hd, as, r⟩ := e.left v hv
          obtain ⟨xs, rfl⟩ := ht d hd
          exact (looks_reads r).here hq
        · have hall : ((List.map (fun _ => Value.type "tuple") (v₁ :: vr)).toArray.all fun x => x == Value.type "tuple") = true := by simp
          have h0 : (List.map (fun _ => Value.type "tuple") (v₁ :: vr)).toArray[0]? = some (Value.type "tuple") := by simp
          rw [h0]
          simp only [hall, if_true]
          exact wpAny_pure (wpAny_pure hq)
  · exact SortsAt.data e hal (.inl fun d hd => by
      obtain ⟨xs, rfl⟩ := ht d hd
      cases xs with
      | nil => exact absurd ⟨_, hd, rfl⟩ g
      | cons x r => exact ⟨x, r, rfl⟩) hu
end
end SE
set_option maxRecDepth 100000
set_option maxHeartbeats 4000000
/-! sorted of lists and sets of tuples, some empty -/
namespace SetM
open PySem PySem.Spec PyProof.Rows L2 SetH
section
variable {P : Program} {w : World} {A : Around} {E : Value → Shared → Prop} {s : Shared}
theorem sorted_setE {β : Type} {R : Value → β → Prop} {enc : β → PyData} {a : Addr} {o : Obj} {es : Array (Int × Value)} {ep : Nat} {t : SetTable} (ho : s.heap.get? a = some o) (hc : o.ExactSet) (hd : o.data = .set es ep t) (hf : t.fits es.size = true) (few : es.size < 64) (ris : Ris t.place.toList)
    (led : w.params.followText "set-order" = true ∨ t.led = true) (hh : A.handled = none) {bs0 : List β} (e0 : PySem.W.EachIs R (es.toList.map (·.2)) bs0) (rd : ∀ v b, b ∈ bs0 → R v b → ∃ as, Reads s.heap v (enc b) as) (hal : PySem.W.AllAlike (bs0.map enc)) (hk : ∀ b ∈ bs0, ∃ xs, enc b = .tuple xs)
    (hu : ∀ b, b ∈ bs0 → A.units + 4 + (enc b).depth < cLine) {Q : Value → Shared → Prop}
    (k : ∀ s' p (out : Array Value) (c : Nat) (bs : List β), (∀ b o, s.heap.get? b = some o → s'.heap.get? b = some o) → s'.gens = s.gens → s'.os = s.os → s.heap.objs.size ≤ p → s'.heap.get? p = some (seqObj "list" out c) → bs.Perm bs0 → PySem.W.EachIs R out.toList (bs.mergeSort (PySem.W.dataLe false enc)) → Q (.ref p) s') :
    wpAny (model P w) A (call (.builtin "sorted") [.ref a]) Q E s := by
  have sc : es.size < scanBound := by unfold scanBound; omega
  refine Calls.call_function_entry kind_sorted plain_sorted entry_sorted (args_sorted1 _) ?_
  unfold Builtin.«sorted»
  refine wpAny_bind (m := checkCount "sorted" 1 1 _) (wpAny_pure (wpAny_bind ?_))
  refine collect_set (A := A.in1) hh ⟨o, ho, hc.1, hd⟩ hf sc ris led fun s1 vs k1 z1 g1 o1 pm => ?_
  obtain ⟨bs, pb, eb⟩ := each_perm pm e0
  have lv : vs.length = es.size := by rw [pm.length_eq, List.length_map, Array.length_toList]
  refine wpAny_bind (wpAny_newList ?_ (by rw [lv, sizeLine_eq]; omega))
  have oL : (s1.heap.push (seqObj "list" vs.toArray 0)).get? s1.heap.objs.size = some (seqObj "list" vs.toArray 0) := Heap.get?_push_size _ rfl
  have old : ∀ b o, s1.heap.get? b = some o → (PySem.W.sortingHeap (s1.heap.push (seqObj "list" vs.toArray 0)) s1.heap.objs.size vs).get? b = some o := fun b o e => PySem.W.sortingHeap_old (Nat.ne_of_lt (Heap.lt_size e)) (Heap.get?_push_of_some _ e)
  have er : PySem.W.EachIs (fun v b => ∃ as, Reads (PySem.W.sortingHeap (s1.heap.push (seqObj "list" vs.toArray 0)) s1.heap.objs.size vs) v (enc b) as) vs bs := by
    exact (PySem.W.each_mem eb).mono fun v b ⟨h, hb⟩ => by
      obtain ⟨as, r⟩ := rd v b (pb.mem_iff.mp hb) h
      exact ⟨as, PyProof.Rows.Reads.keeps (fun b o e => old b o (k1 b o e)) r⟩
  have hal' := alike_perm pb hal
  refine wpAny_bind (wpAny_holding (wpAny_call_entry slot_list_sort ⟨_, oL, rfl⟩ entry_list_sort
    (PySem.W.list_sort_vals (κ := PySem.W.dataKind (PySem.W.sortingHeap (s1.heap.push (seqObj "list" vs.toArray 0)) s1.heap.objs.size vs) (bs.map enc)) oL
      (SE.data_tuples (PySem.W.each_map (R := fun v d => ∃ as, Reads (PySem.W.sortingHeap (s1.heap.push (seqObj "list" vs.toArray 0)) s1.heap.objs.size vs) v d as) enc er) hal' (fun d hd => by
          obtain ⟨b, hb, rfl⟩ := List.mem_map.mp hd
          exact hk b (pb.mem_iff.mp hb)) fun d hd => ?_) (by rw [lv, sizeLine_eq]; omega) ⟨.none, rfl, ?_⟩) (args_list_sort _)))
  · obtain ⟨b, hb, rfl⟩ := List.mem_map.mp hd
    have := hu b (pb.mem_iff.mp hb)
    show A.units + 1 + 1 + _ < _
    omega
  · obtain ⟨c, hc'⟩ := sortedHeap_at (vs := vs) (out := (PySem.W.sortVals (PySem.W.dataKind (PySem.W.sortingHeap (s1.heap.push (seqObj "list" vs.toArray 0)) s1.heap.objs.size vs) (bs.map enc)) false vs vs).toArray) oL
    refine wpAny_pure ⟨_, rfl, k _ s1.heap.objs.size _ c bs (fun b u e => ?_) g1 o1 z1 hc' pb (by simpa using PySem.W.sortVals_data false eb er hal')⟩
    have q := k1 b u e
    have lt := Heap.lt_size q
    refine (sortedHeap_old (Nat.ne_of_lt lt) (by rw [size_push']; exact Nat.lt_succ_of_lt lt)).trans ?_
    exact Heap.get?_push_of_some _ q
end
end SetM
namespace SE
open PySem PySem.Spec PyProof.Rows L2 TSet SetG SetN SetM
section
variable {X : Cx}
def rSortedNE (K : PySem.W.Frag) (P : Program) (w : World) : List V → Hp → VK → Prop := fun vs H Q => ∃ (a : Addr) (L : List (Addr × NestedKey)), vs = [V.ref a] ∧ H a = some (SetNO P w a L) ∧ (∀ p ∈ L, Dp K H (.ref p.1) (NestedKey.data p.2) ∧ (NestedKey.data p.2).depth ≤ 50) ∧ PySem.W.AllAlike (L.map fun p => NestedKey.data p.2) ∧ (∀ p ∈ L, ∃ xs, NestedKey.data p.2 = .tuple xs) ∧
  ∀ (bs : List (V × PyData)) (p : Addr), bs.Perm (L.map enN) → H p = none → Q (.ref p) (upd H p (.lst ((SD.sortedD bs).map Prod.fst)))
theorem cr_sortedNE {K : PySem.W.Frag} {P : Program} {w : World} (hc : X.calm = true) (hu : X.A.units + 64 < cLine) (hK : X.K = K := by rfl) (hP : X.prog = P := by rfl) (hw : X.w = w := by rfl) : CallR X (.builtin "sorted") (rSortedNE K P w) := by
  subst hK hP hw
  intro pins s σ H vs us Q I r h
  obtain ⟨a, L, rfl, at_, hd, hal, hk, q⟩ := h
  obtain ⟨es, ep, t, ⟨o, ho, hex, hdt⟩, rows, tab, nd, led, wide, few⟩ := (I.hok a _ at_).1
  have ris := tab.ris
  have fits : t.fits es.size = true := fits_own rows tab wide
  rw [Vals.ref1 r]
  have sz : es.size = L.length := rows_size rows
  have e0 : PySem.W.EachIs (fun (u : Value) (b : V × PyData) => RelV b.1 u) (es.toList.map (·.2)) (L.map enN) := by
    rw [rows]
    have : ∀ L : List (Addr × NestedKey), PySem.W.EachIs (fun (u : Value) (b : V × PyData) => RelV b.1 u) ((L.map (row (nestedKind X.prog X.w))).map (·.2)) (L.map enN) := fun L => by
      induction L with
      | nil => exact .nil
      | cons p L ih => exact .cons rfl ih
    exact this L
  have eL : (L.map enN).map Prod.snd = L.map fun p => NestedKey.data p.2 := by rw [List.map_map]; rfl
  refine sorted_setE (R := fun (u : Value) (b : V × PyData) => RelV b.1 u) (enc := fun b : V × PyData => b.2) ho hex hdt fits (by omega) ris led (I.ok.hd hc) e0 (fun v b hb hv => ?_) (by show PySem.W.AllAlike ((L.map enN).map Prod.snd); rw [eL]; exact hal) (fun b hb => by
      obtain ⟨p, hp, rfl⟩ := List.mem_map.mp hb
      exact hk p hp) (fun b hb => ?_)
    fun s' p out c bs keep g o hp hc' pm he => ?_
  · obtain ⟨p, hp, rfl⟩ := List.mem_map.mp hb
    exact Dp.reads I _ _ _ (hd p hp).1 hv
  · obtain ⟨p, hp, rfl⟩ := List.mem_map.mp hb
    have := (hd p hp).2
    show X.A.units + 4 + (NestedKey.data p.2).depth < cLine
    omega
  · have hn : H p = none := I.hok.fresh hp
    have len : ((SD.sortedD bs).map Prod.fst).length ≤ sizeLine := by
      rw [List.length_map, (SD.sorted_perm bs).length_eq, pm.length_eq, List.length_map, sizeLine_eq]
      omega
    have J : Inv X pins σ (upd H p (.lst ((SD.sortedD bs).map Prod.fst))) { s with heap := s'.heap, gens := s'.gens, drawn := s'.drawn, toks := s'.toks } :=
      I.call (ch := []) (Un.laid keep hp hn) (I.hok.laid keep hp ⟨len, out.toList, c, SD.each_vals he, hc'⟩) (by rw [g]; exact I.bare) (fun _ z => nomatch z)
    have es' : s' = { s with heap := s'.heap, gens := s'.gens, drawn := s'.drawn, toks := s'.toks } := by
      cases s'
      cases s
      cases o
      rfl
    rw [es']
    exact ⟨.ref p, _, J, rfl, q bs p pm hn⟩
def rSortedDE (K : PySem.W.Frag) : List V → Hp → VK → Prop := fun vs H Q => ∃ (a : Addr) (bs : List (V × PyData)), vs = [.ref a] ∧ SqL K H a (bs.map Prod.fst) ∧ (∀ b ∈ bs, Dp K H b.1 b.2 ∧ b.2.depth ≤ 60) ∧ PySem.W.AllAlike (bs.map Prod.snd) ∧ (∀ b ∈ bs, ∃ xs, b.2 = .tuple xs) ∧
  ∀ p, H p = none → Q (.ref p) (upd H p (.lst ((SD.sortedD bs).map Prod.fst)))
theorem cr_sortedDE (hu : X.A.units + 64 < cLine) : CallR X (.builtin "sorted") (rSortedDE X.K) := by
  intro pins s σ H vs us Q I r h
  obtain ⟨a, bs, rfl, hs, hd, hal, hk, q⟩ := h
  obtain ⟨its, rv, hl, hz⟩ := I.list hs
  obtain ⟨u, rfl, ru⟩ := vals1 r
  obtain rfl : u = Value.ref a := ru
  have hlen : bs.length ≤ sizeLine := by rw [List.length_map] at hz; exact hz
  have er : PySem.W.EachIs (fun v b => ∃ as, Reads (PySem.W.sortingHeap (PySem.W.copyHeap s.heap its) (s.heap.objs.size + 1) its) v b.2 as) its bs := (SD.each_reads I (SD.vals_each rv) fun b hb => (hd b hb).1).mono fun _ _ ⟨as, r⟩ => ⟨as, PyProof.Rows.Reads.keeps (fun _ _ => PySem.W.sorting_copy_old) r⟩
  refine PySem.W.sorted_vals hl.isList (SE.data_tuples (s := { s with heap := PySem.W.sortingHeap (PySem.W.copyHeap s.heap its) (s.heap.objs.size + 1) its }) (PySem.W.each_map (R := fun v d => ∃ as, Reads (PySem.W.sortingHeap (PySem.W.copyHeap s.heap its) (s.heap.objs.size + 1) its) v d as) (fun b : V × PyData => b.2) er) hal (fun d hd' => by
    obtain ⟨b, hb, rfl⟩ := List.mem_map.mp hd'
    exact hk b hb) (fun d hd' => by
    obtain ⟨b, hb, rfl⟩ := List.mem_map.mp hd'
    have := (hd b hb).2
    show X.A.units + 2 + _ < _
    omega)) (by rw [(SD.vals_each rv).length]; exact hlen) ?_
  have he := PySem.W.sortVals_data false (enc := fun b : V × PyData => b.2) (SD.vals_each rv) er hal
  generalize PySem.W.sortVals _ _ _ _ = out at *
  obtain ⟨c, hc⟩ := sortedAll_at s.heap its out.toArray
  have fr : H (s.heap.objs.size + 1) = none := I.hok.fresh (Nat.le_succ _)
  refine ⟨.ref (s.heap.objs.size + 1), upd H (s.heap.objs.size + 1) (.lst ((SD.sortedD bs).map Prod.fst)), I.laid (t' := s.toks) (fun _ _ => sortedAll_old) (Nat.le_succ _) ⟨?_, out, c, SD.each_vals he, hc⟩, rfl, q _ fr⟩
  rw [List.length_map, (SD.sorted_perm bs).length_eq]
  exact hlen
end
end SE
set_option maxRecDepth 100000
set_option maxHeartbeats 8000000
namespace M6
open PySem L2 Evl GP HR SC SetM SetH RQ SetN
/-! clauses as data and as keys -/
def clD (c : List Lit) : PyData := .tuple (c.map litD)
def clN (c : List Lit) : NestedKey := .tup (c.map litN)
theorem datas_map : ∀ c : List Lit, NestedKey.datas (c.map litN) = c.map litD
  | [] => rfl
  | l :: c => by rw [List.map_cons, List.map_cons, NestedKey.datas, litN_D, datas_map c]
theorem clN_D (c : List Lit) : (clN c).data = clD c := by
  show NestedKey.data (.tup (c.map litN)) = _
  rw [NestedKey.data, datas_map]
  rfl
theorem depth_lits : ∀ c : List Lit, NestedKey.depthAll (c.map litN) ≤ 7
  | [] => by simp [NestedKey.depthAll]
  | l :: c => by
    have h1 : (litN l).depth ≤ 7 := by cases l <;> simp [litN, NestedKey.depth, NestedKey.depthAll]
    have h2 := depth_lits c
    simp only [List.map_cons, NestedKey.depthAll]
    omega
theorem clN_depth (c : List Lit) : (clN c).depth ≤ 8 := by
  have := depth_lits c
  simp only [clN, NestedKey.depth]
  omega
theorem litD_inj {l m : Lit} (h : litD l = litD m) : l = m := by
  have := congrArg litOfD h
  rwa [litOf, litOf] at this
theorem map_inj {α β : Type} {f : α → β} (hf : ∀ a b, f a = f b → a = b) : ∀ {xs ys : List α}, xs.map f = ys.map f → xs = ys
  | [], [], _ => rfl
  | [], _ :: _, h => by simp at h
  | _ :: _, [], h => by simp at h
  | x :: xs, y :: ys, h => by
    rw [List.map_cons, List.map_cons] at h
    obtain ⟨h1, h2⟩ := List.cons.inj h
    rw [hf _ _ h1, map_inj hf h2]
theorem clD_inj {c e : List Lit} (h : clD c = clD e) : c = e := map_inj (fun _ _ => litD_inj) (PyData.tuple.inj h)
theorem clN_inj {c e : List Lit} (h : clN c = clN e) : c = e := clD_inj (by rw [← clN_D, ← clN_D, h])
theorem alike_lits : ∀ c e : List Lit, PySem.W.alikeAll (c.map litD) (e.map litD) = true
  | [], [] => by simp [PySem.W.alikeAll]
  | [], _ :: _ => by simp [PySem.W.alikeAll]
  | _ :: _, [] => by simp [PySem.W.alikeAll]
  | l :: c, m :: e => by
    simp only [List.map_cons, PySem.W.alikeAll]
    rw [lit_alike, alike_lits c e]
    rfl
theorem cl_alike (c e : List Lit) : PySem.W.alike (clD c) (clD e) = true := by
  show PySem.W.alike (.tuple (c.map litD)) (.tuple (e.map litD)) = true
  simp only [PySem.W.alike]
  exact alike_lits c e
theorem cl_depth (c : List Lit) : (clD c).depth ≤ 50 := by
  have : ∀ c : List Lit, PyData.depthAll (c.map litD) ≤ 40 := by
    intro c
    induction c with
    | nil => simp [PyData.depthAll]
    | cons l c ih =>
      have : (litD l).depth ≤ 40 := by cases l <;> simp [litD, PyData.depth, PyData.depthAll]
      simp only [List.map_cons, PyData.depthAll]
      omega
  have := this c
  simp only [clD, PyData.depth]
  omega
theorem asc_nodup {ls : List Lit} (h : AscL ls) : ls.Nodup := h.imp fun {a b} q e => by
  subst e
  rw [show PySem.W.dataLt (litD a) (litD a) = false from PyProof.Rows.lex_irrefl _] at q
  cases q
theorem asc_len {xs ys : List Lit} (h : AscL xs) (m : ∀ l, l ∈ xs ↔ l ∈ ys) : xs.length ≤ ys.length := sub_lenA (asc_nodup h) fun z hz => (m z).mp hz
theorem hu65 {k : Nat} {A : Around} (r : Room k A) : A.units + 65 < cLine := by have := r.un; omega
theorem op_eqDK {X : Cx} {K : PySem.W.Frag} (hK : X.K = K) (hu : X.A.units + 64 < cLine) : OpR X (compareOp .Eq) (rEqD K) := hK ▸ op_eqD hu
theorem op_neDK {X : Cx} {K : PySem.W.Frag} (hK : X.K = K) (hu : X.A.units + 64 < cLine) : OpR X (compareOp .NotEq) (rNeD K) := hK ▸ op_neD hu
theorem yn_injB : ∀ b c : Bool, decide (ynS b = ynS c) = decide (b = c) := by decide +kernel
theorem eqv_lit (a b : Lit) : PyData.eqv (litD a) (litD b) = decide (a = b) := by
  cases a with
  | yn f x =>
    cases b with
    | yn g y =>
      show PyData.eqv (.tuple [.str (ynS f), .str x]) (.tuple [.str (ynS g), .str y]) = _
      simp only [PyData.eqv, PyData.eqvAll, Bool.and_true]
      have := yn_injB f g
      by_cases h1 : f = g <;> by_cases h2 : x = y <;> simp [h1, h2] at this ⊢
      exact this
    | most y z k =>
      show PyData.eqv (.tuple [.str (ynS f), .str x]) (.tuple [.str "most", .str y, .str z, .int k]) = _
      simp [PyData.eqv, PyData.eqvAll]
  | most x y k =>
    cases b with
    | yn g z =>
      show PyData.eqv (.tuple [.str "most", .str x, .str y, .int k]) (.tuple [.str (ynS g), .str z]) = _
      simp [PyData.eqv, PyData.eqvAll]
    | most z w m =>
      show PyData.eqv (.tuple [.str "most", .str x, .str y, .int k]) (.tuple [.str "most", .str z, .str w, .int m]) = _
      simp only [PyData.eqv, PyData.eqvAll, Bool.and_true]
      by_cases h1 : x = z <;> by_cases h2 : y = w <;> by_cases h3 : k = m <;> simp [h1, h2, h3]
theorem eqv_lits : ∀ c e : List Lit, PyData.eqvAll (c.map litD) (e.map litD) = decide (c = e)
  | [], [] => by simp [PyData.eqvAll]
  | [], _ :: _ => by simp [PyData.eqvAll]
  | _ :: _, [] => by simp [PyData.eqvAll]
  | l :: c, m :: e => by
    simp only [List.map_cons, PyData.eqvAll]
    rw [eqv_lit, eqv_lits c e]
    by_cases h1 : l = m <;> by_cases h2 : c = e <;> simp [h1, h2]
theorem eqv_cl (c e : List Lit) : PyData.eqv (clD c) (clD e) = decide (c = e) := by
  show PyData.eqv (.tuple (c.map litD)) (.tuple (e.map litD)) = _
  simp only [PyData.eqv]
  exact eqv_lits c e
theorem cl_toks {c e : List Lit} (h : PySem.W.keyToks (clD c) = PySem.W.keyToks (clD e)) : c = e := by
  cases g : PyData.eqv (clD c) (clD e) with
  | true =>
    rw [eqv_cl] at g
    exact of_decide_eq_true g
  | false =>
    have z := (PySem.W.toks_eqv _ _ (cl_alike c e)).2 g [.inl 0] [.inl 1]
    rw [h, PySem.W.lex_pre] at z
    have i1 : PyProof.Rows.lexLt PyProof.Rows.itemOrd [Sum.inl 0] [Sum.inl 1] = true := by decide +kernel
    rw [i1, show PyProof.Rows.lexLt PyProof.Rows.itemOrd (PySem.W.keyToks (clD e)) (PySem.W.keyToks (clD e)) = false from PyProof.Rows.lex_irrefl _] at z
    cases z
def AscC (cs : List (List Lit)) : Prop := cs.Pairwise fun a b => PySem.W.dataLt (clD a) (clD b) = true
theorem asc_cls {cs : List (List Lit)} (so : cs.Pairwise fun a b => PySem.W.dataLt (clD b) (clD a) = false) (nd : cs.Nodup) : AscC cs :=
  (so.and nd).imp fun {a b} q => by
    cases g : PySem.W.dataLt (clD a) (clD b) with
    | true => rfl
    | false => exact absurd (cl_toks (PyProof.Rows.lex_total _ _ g q.1)) q.2
theorem ascC_same : ∀ {xs ys : List (List Lit)}, AscC xs → AscC ys → (∀ z, z ∈ xs ↔ z ∈ ys) → xs = ys
  | [], [], _, _, _ => rfl
  | [], y :: ys, _, _, h => absurd ((h y).mpr List.mem_cons_self) List.not_mem_nil
  | x :: xs, [], _, _, h => absurd ((h x).mp List.mem_cons_self) List.not_mem_nil
  | x :: xs, y :: ys, a, b, h => by
    obtain ⟨a1, a2⟩ := List.pairwise_cons.mp a
    obtain ⟨b1, b2⟩ := List.pairwise_cons.mp b
    have irr : ∀ z, ¬ PySem.W.dataLt (clD z) (clD z) = true := fun z q => by
      rw [show PySem.W.dataLt (clD z) (clD z) = false from PyProof.Rows.lex_irrefl _] at q
      cases q
    have e : x = y := by
      rcases List.mem_cons.mp ((h x).mp List.mem_cons_self) with e | e
      · exact e
      · rcases List.mem_cons.mp ((h y).mpr List.mem_cons_self) with g | g
        · exact g.symm
        · have q := dlt_asym (b1 x e)
          rw [a1 y g] at q
          cases q
    subst e
    refine congrArg (x :: ·) (ascC_same a2 b2 fun z => ⟨fun hz => ?_, fun hz => ?_⟩)
    · rcases List.mem_cons.mp ((h z).mp (List.mem_cons_of_mem _ hz)) with e | e
      · exact absurd (a1 z hz) (by rw [e]; exact irr x)
      · exact e
    · rcases List.mem_cons.mp ((h z).mpr (List.mem_cons_of_mem _ hz)) with e | e
      · exact absurd (b1 z hz) (by rw [e]; exact irr x)
      · exact e
/-- clauses as they stand: tuples of tuples -/
structure Cls (H : Hp) (us : List V) (cs : List (List Lit)) : Prop where
  len : us.length = cs.length
  at_ : ∀ (i : Nat) (c : List Lit), cs[i]? = some c → ∃ t vs, us[i]? = some (.ref t) ∧ H t = some (.tup vs) ∧ Lits H vs c
theorem Cls.ex {H H' : Hp} {us : List V} {cs : List (List Lit)} (A : Cls H us cs) (e : Ex H H') : Cls H' us cs := ⟨A.len, fun i c h => let ⟨t, vs, h1, h2, h3⟩ := A.at_ i c h; ⟨t, vs, h1, e _ _ h2, h3.ex e⟩⟩
theorem cl_dp {K : PySem.W.Frag} {H : Hp} {t : Addr} {vs : List V} {c : List Lit} (h : H t = some (.tup vs)) (L : Lits H vs c) : Dp K H (.ref t) (clD c) := .tup (SqT.of h) L.dp
end M6
set_option maxRecDepth 100000
set_option maxHeartbeats 8000000
namespace M6
open PySem L2 Evl GP HR SC SetM SetH RQ SetN
def truthsOf : Lit → List Str
  | .yn _ x => [x]
  | .most _ _ _ => []
def spTruths (K : PySem.W.Frag) : Sp := fun vs H Q _ => ∃ (p : Addr) (us : List V) (ls : List Lit) (pool : List Str), vs = [.ref p] ∧ SqL K H p us ∧ Lits H us ls ∧ (∀ l ∈ ls, LitOk l) ∧ pool.length ≤ 50 ∧ (∀ l ∈ ls, ∀ z ∈ truthsOf l, z ∈ pool) ∧ ∀ u H', Ex H H' → Q (.ref u) H'
section
variable {P : Program} {w : World} {K : PySem.W.Frag} {mg : Str → Option Value} {base : Heap} {a : Ad} {d : Fd} {fL fC fW : Addr}
theorem ok_truths_of (T : TX K mg a) (D : FDS K a d) : FnOk P w K mg base CX0 3 a.a_truths_of d.a_truths_of ["literals"] (spTruths K) := by
  have G_is_bound : FnOk P w K mg base CX0 2 a.a_is_bound d.a_is_bound ["value"] (spIsBound K) := ok_is_bound T D
  refine D.F_truths_of.ok sc_truths_of (fun vs H Q E h => ?_) (fun cdv A outer s H vs Q E hr h => ?_)
  · obtain ⟨p, us, ls, pool, rfl, _⟩ := h
    rfl
  · obtain ⟨p, us, ls, pool, rfl, hs, L, ok, p50, sub, fin⟩ := h
    have hr2 : Room 2 _ := hr.mono (by decide)
    refine ⟨_, pss_one (ps_ret (pe_callTy call_tuple_of (by rfl) T.b_tuple (by decide +kernel) (pa_cons (pe_callB (TSet.cr_sortedX rfl) (by rfl) T.b_sorted (by decide +kernel) (pa_cons
      (SC.pe_scG (own := [("literal", 1)]) (g := gName 1) (SC.kindX (P := P) (w := w) (K := K)) (hu70 hr) rfl sc_truths_of.nd (pi_list (pv 0)) (blkOk_by (N := ["literals", "literal"]) (sc := defScope s_truths_of) (by decide +kernel))
        (fun _ _ _ _ _ => pg_name (i := 1) sc_truths_of.nd rfl (Or.inl rfl)) (fun _ _ _ _ _ => pts_one (pt_not (pt_val (pe_call G_is_bound hr2 rfl T.f_is_bound T.k_is_bound D.B_is_bound .nil pass0 (pa_cons (pv 1) pa_nil))))) (fun _ _ _ _ _ => pe_ix (ix_tupK (K := K)) (pv 1) pe_int (fun _ _ => rfl))) pa_nil)) pa_nil))), ?_⟩
    refine ⟨_, rfl, p, rfl, ⟨_, hs⟩, fun S hS => sg_it (walk_list (xs := us)) (Z := fun D => TSet.SetX P w D []) (ad := SC.adX P w) (D := S) (fun i H' => Ex H H' ∧ ∃ l : List Str, H' S = some (TSet.SetX P w S l) ∧ l.Nodup ∧ ∀ z ∈ l, z ∈ pool) ⟨Ex.new hS, [], upd_same, List.nodup_nil, fun _ h => absurd h List.not_mem_nil⟩ (fun i H' A => ex_l A.1 hs) ?_ fun H2 A2 => ?_⟩
    · rintro i x H2 H2' hi ⟨e2, l, hl, nd, lsub⟩ ⟨rfl, hx⟩
      obtain ⟨t, q, rfl, hq, ht⟩ := (L.ex e2).get hx
      have qm := List.mem_of_getElem? hq
      have okq := ok q qm
      have l50 : l.length ≤ 50 := Nat.le_trans (sub_len nd lsub) p50
      unfold gName
      dsimp only
      refine ⟨rfl, _, rfl, .ref t, litD q, rfl, lit_dp (SqT.of ht), lit_sz okq, fun H4 e4 => ⟨_, rfl, ?_⟩⟩
      rw [bound_lit okq]
      cases q with
      | most x y k => exact iteF' rfl ⟨e2.trans e4, l, e4 _ _ hl, nd, lsub⟩
      | yn b x =>
        refine iteT' rfl ⟨_, rfl, t, _, 1, _, rfl, rfl, SqT.of (e4 _ _ ht), at_lit (n := 1) rfl rfl, l, x, rfl, e4 _ _ hl, by omega, fun l' nd' ml' _ => ⟨Ex.mut (e2.trans e4) hS, l', upd_same, nd', fun z hz => ?_⟩⟩
        rcases (ml' z).mp hz with rfl | h
        · exact sub _ qm _ (List.mem_singleton.mpr rfl)
        · exact lsub z h
    · obtain ⟨e2, l, hl, nd, lsub⟩ := A2
      have l50 : l.length ≤ 50 := Nat.le_trans (sub_len nd lsub) p50
      exact ⟨S, l, rfl, hl, by omega, fun ys r pm so hr => ⟨r, _, rfl, .inl ⟨SqL.of upd_same, fun u hu => fin u _ (e2.trans ((Ex.new hr).trans (Ex.new hu)))⟩⟩⟩
end
end M6
set_option maxRecDepth 100000
set_option maxHeartbeats 4000000
/-! making an instance by a starred __init__: C(), C(*y), C(*y, *z) -/
namespace QS
open PySem PySem.Spec PyProof.Rows L2 StX
section
variable {X : Cx} {CX : CXT} {k : Nat} {f C : Addr} {sp : Sp} {E : XK} {x : Str} {e e2 : Expr} {te te2 : TE} {p pos q1 q2 : Pos}
theorem pe_make0 (M : Mk X.K C f) (F : FnR X.prog X.w X.K X.mg X.base CX k f sp) (hr : Room (k + 1) X.A) (hg : Gl X x) (hm : X.mg x = some (.ref C)) (hx : Passes CX X E) (hdb : (x == ("__debug__" : Str)) = false := by decide) :
    PE X (.Call (.Name x p) [] [] pos) (tMakeR C sp E tNil) := by
  refine ⟨fun pins s σ H Q I h => ?_⟩
  refine wpAny_Call_Name_kw (ld_glob I hg hm ?_ hdb)
  exact PySem.W.callWith_K0 I.kIn M.kp (run_makeR (us := []) M F hr hx I .nil h)
/-- C(*y): its items -/
def tMakeS (K : PySem.W.Frag) (C : Addr) (sp : Sp) (E : XK) (te : TE) : TE := tMakeR C sp E (tStar K te tNil)
theorem pe_make1 (M : Mk X.K C f) (F : FnR X.prog X.w X.K X.mg X.base CX k f sp) (hr : Room (k + 1) X.A) (hg : Gl X x) (hm : X.mg x = some (.ref C)) (hx : Passes CX X E) (he : PE X e te) (hdb : (x == ("__debug__" : Str)) = false := by decide)
    (hst : starEach [.Starred e q1] X.env = [(true, eval e X.env)] := by rfl) :
    PE X (.Call (.Name x p) [.Starred e q1] [] pos) (tMakeS X.K C sp E te) := by
  refine ⟨fun pins s σ H Q I h => ?_⟩
  refine wpAny_Call_Name_kw (ld_glob I hg hm ?_ hdb)
  refine PySem.W.callWith_S (h₀ := X.base) I.ok.mod.kin M.kp (thn (he.run pins s σ H _ I h) fun v s1 ⟨y, H1, I1, ry, a, xs, ey, hxs, q⟩ => ?_) hst
  subst ey
  obtain rfl : v = Value.ref a := ry
  refine star_any I1 hxs fun us s2 I2 rv => ⟨I2.kIn, run_makeR M F hr hx I2 (vs := xs) rv ?_⟩
  have q : ∀ x dx, H1 x = Option.none → H1 dx = Option.none → dx ≠ x → sp (V.ref x :: (xs ++ [])) (upd (upd H1 dx (.own x)) x (.ins C dx [])) (fun v H2 => v = .non ∧ Q (.ref x) H2) E := q
  rw [List.append_nil] at q
  exact q
theorem args_two {M : Model} {A : Around} {E : Value → Shared → Prop} {s : Shared} {fv : Value} {y z : Bool × Sem Value} {r : List (Bool × Sem Value)} {Q : Args → Shared → Prop} (h : wpAny M A (spliced (y :: z :: r)) (fun vs s' => Q ⟨vs, []⟩ s') E s) : wpAny M A (evalArgs fv true (y :: z :: r) []) Q E s := by
  obtain ⟨b, t⟩ := y
  unfold evalArgs
  cases b <;>
  · show wpAny M A (spliced (_ :: z :: r) >>= _) Q E s
    refine wpAny_bind (thn h fun vs s' h' => ?_)
    exact wpAny_holding (wpAny_bind (wpAny_pure (wpAny_bind (wpAny_pure (wpAny_pure h')))))
theorem pe_make2 (M : Mk X.K C f) (F : FnR X.prog X.w X.K X.mg X.base CX k f sp) (hr : Room (k + 1) X.A) (hg : Gl X x) (hm : X.mg x = some (.ref C)) (hx : Passes CX X E) (he : PE X e te) (he2 : PE X e2 te2) (hdb : (x == ("__debug__" : Str)) = false := by decide) :
    PE X (.Call (.Name x p) [.Starred e q1, .Starred e2 q2] [] pos) (tMakeR C sp E (tStar X.K te (tStar X.K te2 tNil))) := by
  refine ⟨fun pins s σ H Q I h => ?_⟩
  refine wpAny_Call_Name_kw (ld_glob I hg hm ?_ hdb)
  have ha : PA X [.Starred e q1, .Starred e2 q2] (tStar X.K te (tStar X.K te2 tNil)) := pa_star he (pa_star he2 pa_nil)
  exact PySem.W.ks_call rfl (PySem.W.keeps_K M.kp) (args_two (thn (ha.run pos pins s σ H _ I h) fun us s1 ⟨vs, H1, I1, r, q⟩ => ⟨I1.kIn, run_makeR M F hr hx I1 r q⟩))
/-- the class in a variable: v(), v(*y) -/
theorem pe_makeV0 {tf : TE} (hf : PE X (.Name x p) tf) (M : Mk X.K C f) (F : FnR X.prog X.w X.K X.mg X.base CX k f sp) (hr : Room (k + 1) X.A) (hx : Passes CX X E) :
    PE X (.Call (.Name x p) [] [] pos) (fun σ H Q => tf σ H fun y H1 => y = .ref C ∧ tMakeR C sp E tNil σ H1 Q) := by
  refine ⟨fun pins s σ H Q I h => wpAny_Call_Name_kw (thn (hf.run pins s σ H _ I h) fun u s1 ⟨y, H1, I1, ry, e, q⟩ => ?_)⟩
  subst e
  obtain rfl : u = Value.ref C := ry
  exact PySem.W.callWith_K0 I1.kIn M.kp (run_makeR (us := []) M F hr hx I1 .nil q)
theorem pe_makeV1 {tf : TE} (hf : PE X (.Name x p) tf) (M : Mk X.K C f) (F : FnR X.prog X.w X.K X.mg X.base CX k f sp) (hr : Room (k + 1) X.A) (hx : Passes CX X E) (he : PE X e te)
    (hst : starEach [.Starred e q1] X.env = [(true, eval e X.env)] := by rfl) :
    PE X (.Call (.Name x p) [.Starred e q1] [] pos) (fun σ H Q => tf σ H fun y H1 => y = .ref C ∧ tMakeS X.K C sp E te σ H1 Q) := by
  refine ⟨fun pins s σ H Q I h => wpAny_Call_Name_kw (thn (hf.run pins s σ H _ I h) fun u s1 ⟨y, H1, I1, ry, ec, h⟩ => ?_)⟩
  subst ec
  obtain rfl : u = Value.ref C := ry
  refine PySem.W.callWith_S (h₀ := X.base) I1.ok.mod.kin M.kp (thn (he.run pins s1 σ H1 _ I1 h) fun v s2 ⟨y, H2, I2, ry, a, xs, ey, hxs, q⟩ => ?_) hst
  subst ey
  obtain rfl : v = Value.ref a := ry
  refine star_any I2 hxs fun us s3 I3 rv => ⟨I3.kIn, run_makeR M F hr hx I3 (vs := xs) rv ?_⟩
  have q : ∀ x dx, H2 x = Option.none → H2 dx = Option.none → dx ≠ x → sp (V.ref x :: (xs ++ [])) (upd (upd H2 dx (.own x)) x (.ins C dx [])) (fun v H3 => v = .non ∧ Q (.ref x) H3) E := q
  rw [List.append_nil] at q
  exact q
end
end QS
set_option maxRecDepth 100000
set_option maxHeartbeats 4000000
/-! two instances of one own class: a op b by its method; a == b by its __eq__ -/
namespace QS
open PySem PySem.Spec PyProof.Rows L2 StX
section
variable {prog : Program} {w : World} {A : Around} {E : Value → Shared → Prop} {s : Shared} {K : PySem.W.Frag} {x y C f : Addr} {ox oy : Obj} {od oe : Option Obj}
theorem bin_same {op : Operator} {Q : Value → Shared → Prop} (X : K.In s.heap) (I : PySem.W.InstAt s.heap x ox C od) (I2 : PySem.W.InstAt s.heap y oy C oe) (hc : PySem.W.selfFirst K C = true)
    (hs : PySem.W.findIn K (.ref C) (PySem.dunder op.info.2) = some (some (.ref f))) (hf : PySem.W.isFn K (.ref f) = true)
    (h : wpAny (model prog w) A (call (.ref f) [.ref x, .ref y]) (PySem.W.CmpBack Q) E s) : wpAny (model prog w) A (binaryOp op (.ref x) (.ref y)) Q E s := by
  obtain ⟨cd, rest, hcd, hm⟩ := PySem.W.ksp_first hc
  have one := PySem.W.ksp_try X I hs hf h
  rcases hi : op.info with ⟨sym, nm'⟩
  rw [hi] at hs one
  dsimp only at hs one
  obtain ⟨hh, g, d, tt, os⟩ := s
  have L1 : PySem.W.Looks (model prog w) hh (typeOf (.ref x)) (.ref C) := I.type
  have L2 : PySem.W.Looks (model prog w) hh (typeOf (.ref y)) (.ref C) := I2.type
  have L3 : PySem.W.Looks (model prog w) hh (fillsNumberSlot (.ref C) nm') true := PySem.W.fills_K X hcd hm hs
  simp only [binaryOp, hi]
  refine wpAny_holding (wpAny_bind ?_)
  unfold binaryOp1
  refine wpAny_bind (L1.at (wpAny_bind (L2.at (wpAny_bind (L3.at ?_)))))
  simp only [beq_self_eq_true, if_true]
  refine wpAny_bind (wpAny_pure ?_)
  simp only [Bool.and_false, Bool.false_and, Bool.false_eq_true, if_false]
  refine wpAny_bind (wpAny_pure ?_)
  simp only [Bool.false_eq_true, if_false, if_true]
  refine wpAny_bind (thn one fun r s' hr' => ?_)
  obtain ⟨v, rfl, hq⟩ := hr'
  refine wpAny_pure ?_
  dsimp only
  exact wpAny_pure hq
theorem back {X : Cx} {pins : List (Addr × Obj)} {σ : L2.St} {Q : VK} {v : Value} {s' : Shared} (h : EP X pins σ Q v s') : PySem.W.CmpBack (EP X pins σ Q) v s' := by
  obtain ⟨u, H, I, r, q⟩ := id h
  cases v with
  | notImplemented => cases u <;> simp [L2.RelV] at r
  | _ => exact h
end
section
variable {X : Cx} {CX : CXT} {k : Nat} {f C : Addr} {sp : Sp} {E : XK} {m : Str}
/-- a op b, both instances of C, by C's method -/
def rOwn2 (C : Addr) (sp : Sp) (E : XK) : R2 := fun x y H Q => ∃ a b dx dy fs gs, x = .ref a ∧ y = .ref b ∧ H a = some (.ins C dx fs) ∧ H b = some (.ins C dy gs) ∧ sp [x, y] H Q E
theorem op_own2 {op : Operator} (hc : PySem.W.selfFirst X.K C = true) (hs : PySem.W.findIn X.K (.ref C) (PySem.dunder op.info.2) = some (some (.ref f))) (hf : PySem.W.isFn X.K (.ref f) = true) (F : FnR X.prog X.w X.K X.mg X.base CX k f sp) (hr : Room k X.A) (hx : Passes CX X E) : OpR X (binaryOp op) (rOwn2 C sp E) := by
  intro pins s σ H x y v u Q I rx ry h
  obtain ⟨a, b, dx, dy, fs, gs, rfl, rfl, ha, hb, q⟩ := h
  obtain rfl : v = Value.ref a := rx
  obtain rfl : u = Value.ref b := ry
  obtain ⟨oa, da, I1, _⟩ := insC_at (X := X) I (.inr ⟨dx, fs, ha⟩)
  obtain ⟨ob, db, I2, _⟩ := insC_at (X := X) I (.inr ⟨dy, gs, hb⟩)
  exact bin_same I.kIn I1 I2 hc hs hf (wpAny_call (codeAny_mono (run_fnR F hr hx I (vs := [.ref a, .ref b]) (.cons rfl (.cons rfl .nil)) q) fun r s' z => by
    cases r with
    | error e => exact z
    | ok fl => cases fl <;> first | exact back z | exact z))
/-- a == b, both instances of C, by C's __eq__ -/
theorem op_eq2 (hc : PySem.W.notFirst X.K C (.ref C) = true) (hs : PySem.W.findIn X.K (.ref C) "__eq__" = some (some (.ref f))) (hf : PySem.W.isFn X.K (.ref f) = true) (F : FnR X.prog X.w X.K X.mg X.base CX k f sp) (hr : Room k X.A) (hx : Passes CX X E) : OpR X (compareOp .Eq) (rOwn2 C sp E) := by
  intro pins s σ H x y v u Q I rx ry h
  obtain ⟨a, b, dx, dy, fs, gs, rfl, rfl, ha, hb, q⟩ := h
  obtain rfl : v = Value.ref a := rx
  obtain rfl : u = Value.ref b := ry
  obtain ⟨oa, da, I1, _⟩ := insC_at (X := X) I (.inr ⟨dx, fs, ha⟩)
  obtain ⟨ob, db, I2, _⟩ := insC_at (X := X) I (.inr ⟨dy, gs, hb⟩)
  obtain ⟨m0, F0⟩ := I.fr
  show wpAny (model X.prog X.w) X.A (richCompare .Eq (.ref a) (.ref b)) (EP X pins σ Q) X.xe s
  exact PySem.W.cmp_K (op := .Eq) (tb := .ref C) hr.units0 F0 I.ok.mod.kin I1 I2.type hc hs hf (wpAny_call (codeAny_mono (run_fnR F hr hx I (vs := [.ref a, .ref b]) (.cons rfl (.cons rfl .nil)) q) fun r s' z => by
    cases r with
    | error e => exact z
    | ok fl => cases fl <;> first | exact back z | exact z))
/-- a call of such a def from within a builtin's frame -/
theorem run_in {B : Around} {pins : List (Addr × Obj)} {σ : L2.St} {H : Hp} {s : Shared} {Q : VK} {us : List Value} {vs : List V} (F : FnR X.prog X.w X.K X.mg X.base CX k f sp) (hr : Room k B) (hx : Passes CX X E) (I : Inv X pins σ H s) (env : Env0 X.prog X.w X.K X.mg X.base B X.stack s H) (r : Vals vs us) (h : sp vs H Q E) :
    wpAny (model X.prog X.w) B (call (.ref f) us) (EP X pins σ Q) X.xe s := wpAny_call (codeAny_mono (F B X.stack s H us vs Q E hr env r h) fun r s' hq => by
  cases r with
  | error e => exact hx pins σ H s e s' I hq
  | ok fl =>
    cases fl with
    | ret u =>
      obtain ⟨v, H', I3, rv, q⟩ := I.after hq
      exact ⟨v, H', I3, rv, q⟩
    | next => exact False.elim hq
    | brk => exact False.elim hq
    | cont => exact False.elim hq)
/-- len(a) by an own __len__ -/
def rLenO (C : Addr) (sp : Sp) (E : XK) : List V → Hp → VK → Prop := fun xs H Q => ∃ a dx fs, xs = [.ref a] ∧ H a = some (.ins C dx fs) ∧ sp [.ref a] H (fun v H' => ∃ n : Nat, v = .int n ∧ n < 2 ^ 63 ∧ Q (.int n) H') E
theorem cr_lenO (hs : PySem.W.findIn X.K (.ref C) "__len__" = some (some (.ref f))) (hf : PySem.W.isFn X.K (.ref f) = true) (F : FnR X.prog X.w X.K X.mg X.base CX k f sp) (hr : Room (k + 1) X.A) (hx : Passes CX X E) : CallR X (.builtin "len") (rLenO C sp E) := by
  intro pins s σ H xs us Q I r h
  obtain ⟨a, dx, fs, rfl, ha, q⟩ := h
  rw [Vals.ref1 r]
  obtain ⟨oa, da, I1, _⟩ := insC_at (X := X) I (.inr ⟨dx, fs, ha⟩)
  obtain ⟨m0, F0⟩ := I.fr
  refine PySem.W.len_K F0 I.ok.mod.kin I1 hs hf (thn (run_in (B := X.A.in1) F hr.in1 hx I I.env0.in1 (vs := [.ref a]) (.cons rfl .nil) q) fun v s' z => ?_)
  obtain ⟨u, H', I', rv, n, rfl, hn, q'⟩ := z
  obtain ⟨t, rfl⟩ := rv
  have I2 : Inv X pins σ H' { s' with toks := s'.toks + 1 } := I'.kept (t' := s'.toks + 1) fun _ _ e => e
  exact ⟨⟨by omega, by omega⟩, .int n, H', I2, ⟨_, rfl⟩, q'⟩
/-- str(a) by an own __str__ -/
def rStrO (C : Addr) (sp : Sp) (E : XK) : List V → Hp → VK → Prop := fun xs H Q => ∃ a dx fs, xs = [.ref a] ∧ H a = some (.ins C dx fs) ∧ sp [.ref a] H (fun v H' => ∃ z : Str, v = .str z ∧ Q (.str z) H') E
theorem cr_strO (hs : PySem.W.findIn X.K (.ref C) "__str__" = some (some (.ref f))) (hf : PySem.W.isFn X.K (.ref f) = true) (F : FnR X.prog X.w X.K X.mg X.base CX k f sp) (hr : Room (k + 2) X.A) (hx : Passes CX X E) : CallR X (.type "str") (rStrO C sp E) := by
  intro pins s σ H xs us Q I r h
  obtain ⟨a, dx, fs, rfl, ha, q⟩ := h
  rw [Vals.ref1 r]
  obtain ⟨oa, da, I1, _⟩ := insC_at (X := X) I (.inr ⟨dx, fs, ha⟩)
  refine PySem.W.kso_call hr.in1.in1.units0 I.kIn I1 hs hf (thn (run_in (B := X.A.in1.in1) F hr.in1.in1 hx I I.env0.in1.in1 (vs := [.ref a]) (.cons rfl .nil) q) fun v s' z => ?_)
  obtain ⟨u, H', I', rv, y, rfl, q'⟩ := z
  obtain ⟨t, rfl⟩ := rv
  exact ⟨.str y, H', I', ⟨t, rfl⟩, q'⟩
/-- v in a by an own __contains__ that answers with a bool -/
def rInO (C : Addr) (sp : Sp) (E : XK) (no : Bool) : R2 := fun x y H Q => ∃ a dx fs, y = .ref a ∧ H a = some (.ins C dx fs) ∧ sp [y, x] H (fun v H' => ∃ b, v = .bl b ∧ Q (.bl (if no = true then !b else b)) H') E
theorem op_inO (hs : PySem.W.findIn X.K (.ref C) "__contains__" = some (some (.ref f))) (hf : PySem.W.isFn X.K (.ref f) = true) (F : FnR X.prog X.w X.K X.mg X.base CX k f sp) (hr : Room k X.A) (hx : Passes CX X E) : OpR X (compareOp .In) (rInO C sp E false) := by
  intro pins s σ H x y v u Q I rx ry h
  obtain ⟨a, dx, fs, rfl, ha, q⟩ := h
  obtain rfl : u = Value.ref a := ry
  obtain ⟨oa, da, I1, _⟩ := insC_at (X := X) I (.inr ⟨dx, fs, ha⟩)
  obtain ⟨m0, F0⟩ := I.fr
  refine PySem.W.in_K F0 I.ok.mod.kin I1 hs hf (thn (run_in (B := X.A) F hr hx I I.env0 (vs := [.ref a, x]) (.cons rfl (.cons rx .nil)) q) fun z s' h => ?_)
  obtain ⟨w, H', I', rv, b, rfl, q'⟩ := h
  obtain rfl : z = Value.bool b := rv
  exact wpAny_pure ⟨.bl b, H', I', rfl, q'⟩
end
end QS
set_option maxRecDepth 100000
set_option maxHeartbeats 4000000
/-! tables of sets of up to 306 elements: one more mask than the hand layer's -/
namespace WT
open PySem PySem.Spec PyProof.Rows L2
def Wd (q : Nat) : Prop := q = 7 ∨ q = 31 ∨ q = 127 ∨ q = 511
theorem Wd.of {q : Nat} (h : MaskOk q) : Wd q := by
  rcases h with z | z | z
  · exact .inl z
  · exact .inr (.inl z)
  · exact .inr (.inr (.inl z))
theorem Wd.odd {q : Nat} (h : Wd q) : q % 2 = 1 := by
  rcases h with z | z | z | z <;> (subst z; rfl)
/-- the places in their order, from x on -/
def orb (q : Nat) : Nat → Nat → List Nat
  | 0, _ => []
  | n + 1, x => x :: orb q n ((x * 5 + 1) % (q + 1))
theorem orb_mem (q j : Nat) : ∀ (n b : Nat), j ∈ orb q n (lcgN q b) → ∃ c, c < b + n ∧ lcgN q c = j
  | 0, _, h => absurd h List.not_mem_nil
  | n + 1, b, h => by
    rcases List.mem_cons.mp h with z | z
    · exact ⟨b, by omega, z.symm⟩
    · obtain ⟨c, lt, z2⟩ := orb_mem q j n (b + 1) z
      exact ⟨c, by omega, z2⟩
theorem orb_by {q : Nat} (h : (List.range (q + 1)).all (fun j => (orb q (q + 1) 0).elem j) = true) (j : Nat) (lj : j ≤ q) : ∃ c, c ≤ q ∧ lcgN q c = j := by
  have z := List.all_eq_true.mp h j (List.mem_range.mpr (by omega))
  obtain ⟨c, lt, z2⟩ := orb_mem q j (q + 1) 0 (List.elem_iff.mp z)
  exact ⟨c, by omega, z2⟩
theorem orb511 : (List.range (511 + 1)).all (fun j => (orb 511 (511 + 1) 0).elem j) = true := by decide +kernel
theorem all_met {q : Nat} (hq : Wd q) {j : Nat} (lj : j ≤ q) : ∃ c, c ≤ q ∧ lcgN q c = j := by
  rcases hq with z | z | z | z
  · exact lcg_all (.inl z) lj
  · exact lcg_all (.inr (.inl z)) lj
  · exact lcg_all (.inr (.inr z)) lj
  · subst z
    exact orb_by orb511 j lj
theorem again511 : lcgN 511 (511 + 1) = 0 := by decide +kernel
theorem again {q : Nat} (hq : Wd q) : ∀ n, lcgN q (q + 1 + n) = lcgN q n
  | 0 => by
    rcases hq with z | z | z | z
    · exact lcg_round (.inl z)
    · exact lcg_round (.inr (.inl z))
    · exact lcg_round (.inr (.inr z))
    · subst z; exact again511
  | n + 1 => congrArg (fun x => (x * 5 + 1) % (q + 1)) (again hq n)
theorem from_all {q : Nat} (hq : Wd q) {x j : Nat} (lx : x ≤ q) (lj : j ≤ q) : ∃ n, n ≤ q ∧ lcgI q x n = j := by
  obtain ⟨c, lc, zc⟩ := all_met hq lx
  obtain ⟨d, ld, zd⟩ := all_met hq lj
  subst zc
  by_cases o : c ≤ d
  · exact ⟨d - c, by omega, by rw [lcgN_add, Nat.add_sub_cancel' o, zd]⟩
  · exact ⟨q + 1 + d - c, by omega, by rw [lcgN_add, Nat.add_sub_cancel' (by omega), again hq, zd]⟩
theorem run_met {q : Nat} (hq : Wd q) (u : Int) {j : Nat} (lj : j ≤ q) : ∃ n, n ≤ q + 12 ∧ runI q (SetTable.bits u) n = j := by
  obtain ⟨n, ln, z⟩ := from_all hq (runI_le q (SetTable.bits u) 12) lj
  exact ⟨12 + n, by omega, (runI_tail (bits_lt u) n).trans z⟩
theorem slot_met {q : Nat} (hq : Wd q) (u : Int) {j : Nat} (lj : j ≤ q) : ∃ n, n < 10 * SetTable.turns q ∧ way q u n = j := by
  obtain ⟨r, lr, z⟩ := run_met hq u lj
  obtain ⟨n, ln, z2⟩ := run_nth q (SetTable.bits u) r
  refine ⟨n, ?_, (congrArg SetTable.Probe.j z2).trans z⟩
  unfold SetTable.turns
  omega
theorem way_in {q : Nat} (u : Int) (n : Nat) : way q u n ≤ q := by
  have l0 : SetTable.bits u % (q + 1) ≤ q := Nat.lt_succ_iff.mp (Nat.mod_lt _ (Nat.succ_pos _))
  have r := runEnd_bd l0
  have z := nth_in (m := q) n (runAt q (SetTable.bits u % (q + 1)) (SetTable.bits u)) (show SetTable.bits u % (q + 1) + (SetTable.runEnd q (SetTable.bits u % (q + 1)) - SetTable.bits u % (q + 1)) ≤ q by omega)
  exact Nat.le_trans (Nat.le_add_right _ _) z
/-- every element is found again on the way of its hash -/
structure TabW (t : SetTable) (us : List Int) : Prop where
  ris : Ris t.place.toList
  dm : t.dummies = #[]
  sz : t.place.size = us.length
  mok : Wd t.mask
  bd : ∀ j ∈ t.place.toList, j ≤ t.mask
  reach : ∀ (i : Nat) (u : Int) (j : Nat), us[i]? = some u → t.place.toList[i]? = some j → ∃ n, way t.mask u n = j ∧ ∀ n', n' < n → way t.mask u n' ∈ t.place.toList
theorem TabW.of {t : SetTable} {us : List Int} (T : TabOk t us) : TabW t us := ⟨T.ris, T.dm, T.sz, .of T.mok, T.bd, T.reach⟩
section
variable {t : SetTable} {us : List Int} (T : TabW t us)
include T
theorem TabW.first (few : us.length ≤ t.mask) (u : Int) : ∃ K, K < 10 * SetTable.turns t.mask ∧ way t.mask u K ∉ t.place.toList ∧ ∀ n, n < K → way t.mask u n ∈ t.place.toList := by
  obtain ⟨j, lj, no⟩ := st_missing t.place.toList (t.mask + 1) (by have := T.sz; rw [Array.length_toList]; omega)
  obtain ⟨n, ln, z⟩ := slot_met T.mok u (Nat.lt_succ_iff.mp lj)
  obtain ⟨K, lK, a, b⟩ := st_least (p := fun n => way t.mask u n ∉ t.place.toList) n (fun c => no (z ▸ c))
  exact ⟨K, Nat.lt_of_le_of_lt lK ln, a, fun n' l' => Classical.byContradiction fun c => b n' l' c⟩
theorem TabW.before {u : Int} {K i j : Nat} (no : way t.mask u K ∉ t.place.toList) (hu : us[i]? = some u) (hj : t.place.toList[i]? = some j) : ∃ n, n < K ∧ way t.mask u n = j := by
  obtain ⟨n, z, b⟩ := T.reach i u j hu hj
  refine ⟨n, Nat.lt_of_not_le fun c => ?_, z⟩
  rcases Nat.lt_or_eq_of_le c with c | c
  · exact no (b K c)
  · exact no (c ▸ z ▸ List.mem_of_getElem? hj)
theorem TabW.put {u : Int} {K : Nat} (no : way t.mask u K ∉ t.place.toList) (on : ∀ n, n < K → way t.mask u n ∈ t.place.toList) :
    (t.put (way t.mask u K)).2 = SetTable.below t.place (way t.mask u K) ∧ SetTable.below t.place (way t.mask u K) ≤ us.length ∧
    TabW (t.put (way t.mask u K)).1 (us.take (SetTable.below t.place (way t.mask u K)) ++ u :: us.drop (SetTable.below t.place (way t.mask u K))) ∧
    (t.put (way t.mask u K)).1.mask = t.mask ∧ (t.put (way t.mask u K)).1.led = t.led ∧ (t.put (way t.mask u K)).1.fill = us.length + 1 := by
  have lw : way t.mask u K ≤ t.mask := way_in u K
  generalize zj : way t.mask u K = j at no lw ⊢
  have lb : SetTable.below t.place j ≤ us.length := T.sz ▸ (below_cut T.ris j).1
  have lb2 : SetTable.below t.place j ≤ t.place.toList.length := by rw [Array.length_toList, T.sz]; exact lb
  have fresh : t.place[SetTable.below t.place j]? ≠ some j := fun c => no (List.mem_of_getElem? (Array.getElem?_toList.trans c))
  have pp := put_place t j
  have old : ∀ x, x ∈ t.place.toList → x ∈ (t.put j).1.place.toList := fun x hx => pp ▸ mem_ins.2 (.inr hx)
  have size : (t.put j).1.place.size = us.length + 1 := by
    rw [← Array.length_toList, pp, len_ins _ lb2, Array.length_toList, T.sz]
  have found : ∀ (i : Nat) (v : Int) (x : Nat), (us.take (SetTable.below t.place j) ++ u :: us.drop (SetTable.below t.place j))[i]? = some v → (t.put j).1.place.toList[i]? = some x → ∃ n, way t.mask v n = x ∧ ∀ n', n' < n → way t.mask v n' ∈ (t.put j).1.place.toList := by
    intro i v x hv hx
    rw [tins_get us lb] at hv
    rw [pp, tins_get _ lb2] at hx
    have carry : ∀ i', us[i']? = some v → t.place.toList[i']? = some x → ∃ n, way t.mask v n = x ∧ ∀ n', n' < n → way t.mask v n' ∈ (t.put j).1.place.toList := fun i' a b => by
      obtain ⟨n, z, c⟩ := T.reach i' v x a b
      exact ⟨n, z, fun n' l => old _ (c n' l)⟩
    split at hv
    · rename_i lt
      rw [if_pos lt] at hx
      exact carry i hv hx
    · rename_i ge
      rw [if_neg ge] at hx
      split at hv
      · rename_i eq
        rw [if_pos eq] at hx
        cases hv
        cases hx
        exact ⟨K, zj, fun n l => old _ (on n l)⟩
      · rename_i ne
        rw [if_neg ne] at hx
        exact carry (i - 1) hv hx
  refine ⟨rfl, lb, ⟨ris_insert T.ris fresh, put_dm T.dm j, ?_, T.mok, fun x hx => ?_, found⟩, rfl, rfl, ?_⟩
  · rw [len_ins _ lb]; exact size
  · rcases mem_ins.1 (pp ▸ hx) with z | z
    · exact z ▸ lw
    · exact T.bd x z
  · show (t.put j).1.place.size + (t.put j).1.dummies.size = _
    rw [size, put_dm T.dm j]
    rfl
end
/-! ### all laid anew -/
theorem free_met {q : Nat} (hq : Wd q) (who : Array (Option Nat)) (u : Int) {j : Nat} (lj : j ≤ q) (no : oAt who j = none) :
    ∃ K, SetTable.layClean.free q who (SetTable.turns q) (SetTable.bits u % (q + 1)) (SetTable.bits u) = some (way q u K) ∧ oAt who (way q u K) = none ∧ ∀ n, n < K → oAt who (way q u n) ≠ none := by
  obtain ⟨r, lr, z⟩ := run_met hq u lj
  have at_ : way q u (off q (SetTable.bits u % (q + 1)) (SetTable.bits u) r) = j := by
    refine (congrArg SetTable.Probe.j (nth_off q r _ _)).trans ?_
    rw [itL_run]
    exact z
  obtain ⟨K, lK, a, b⟩ := st_least (p := fun n => oAt who (way q u n) = none) _ ((congrArg (oAt who) at_).trans no)
  have a2 : oAt who (nth q (runAt q (SetTable.bits u % (q + 1)) (SetTable.bits u)) K).j = none := a
  refine ⟨K, free_spec q who (SetTable.turns q) r _ _ K (by unfold SetTable.turns; omega) lK (fun n ln => ?_) (by rw [a2]; rfl), a, b⟩
  have c := b n ln
  generalize hw : oAt who (nth q (runAt q (SetTable.bits u % (q + 1)) (SetTable.bits u)) n).j = o
  cases o with
  | none => exact absurd hw c
  | some _ => rfl
theorem Own.one {q : Nat} (hq : Wd q) {us : List Int} {who : Array (Option Nat)} (O : Own q us who) (few : us.length ≤ q) (u : Int) :
    ∃ j, SetTable.layClean.free q who (SetTable.turns q) (SetTable.bits u % (q + 1)) (SetTable.bits u) = some j ∧ Own q (us ++ [u]) (who.setIfInBounds j (some us.length)) := by
  obtain ⟨taken, lt, inn⟩ := O.ps
  obtain ⟨x, lx, nx⟩ := st_missing taken (q + 1) (by omega)
  have fx : oAt who x = none := Classical.byContradiction fun c => nx (inn x (Nat.lt_succ_iff.mp lx) c)
  obtain ⟨K, fr, em, occ⟩ := free_met hq who u (Nat.lt_succ_iff.mp lx) fx
  have lw : way q u K ≤ q := way_in u K
  have self := oAt_set_self (some us.length) (show way q u K < who.size by rw [O.sz]; omega)
  have stay : ∀ i, oAt who i ≠ none → oAt (who.setIfInBounds (way q u K) (some us.length)) i ≠ none := fun i hi => by
    rcases Classical.em (i = way q u K) with z | z
    · rw [z, self]; simp
    · rw [oAt_set_ne _ z]; exact hi
  refine ⟨_, fr, ?_, ?_, ?_, way q u K :: taken, ?_, ?_⟩
  · rw [Array.size_setIfInBounds, O.sz]
  · intro j k lj e
    rcases Classical.em (j = way q u K) with z | z
    · rw [z, self] at e
      cases e
      exact ⟨u, K, List.getElem?_concat_length, z.symm, fun n ln => stay _ (occ n ln)⟩
    · rw [oAt_set_ne _ z] at e
      obtain ⟨v, n, a, b, c⟩ := O.at_ j k lj e
      have lk : k < us.length := (List.getElem?_eq_some_iff.mp a).1
      exact ⟨v, n, (List.getElem?_append_left lk).trans a, b, fun n' l' => stay _ (c n' l')⟩
  · intro k lk
    rw [List.length_append, List.length_singleton] at lk
    rcases Nat.lt_or_ge k us.length with l | l
    · obtain ⟨j, lj, e⟩ := O.all k l
      refine ⟨j, lj, (oAt_set_ne _ fun z => ?_).trans e⟩
      rw [z, em] at e
      cases e
    · obtain rfl : k = us.length := by omega
      exact ⟨_, lw, self⟩
  · rw [List.length_cons, lt, List.length_append]; rfl
  · intro j lj e
    rcases Classical.em (j = way q u K) with z | z
    · exact z ▸ List.mem_cons_self
    · rw [oAt_set_ne _ z] at e
      exact List.mem_cons_of_mem _ (inn j lj e)
theorem all_laid {q : Nat} (hq : Wd q) : ∀ (more us : List Int) (who : Array (Option Nat)), Own q us who → us.length + more.length ≤ q → ∃ who', more.foldl (stepF q) (some (who, us.length)) = some (who', (us ++ more).length) ∧ Own q (us ++ more) who'
  | [], us, who, O, _ => ⟨who, by simp, by simpa using O⟩
  | u :: more, us, who, O, few => by
    have few' : us.length + (more.length + 1) ≤ q := few
    obtain ⟨j, fr, O1⟩ := Own.one hq O (by omega) u
    have l1 : (us ++ [u]).length = us.length + 1 := by simp
    obtain ⟨who', f, O2⟩ := all_laid hq more (us ++ [u]) _ O1 (by omega)
    rw [l1, List.append_assoc] at f
    rw [List.append_assoc] at O2
    exact ⟨who', (congrArg (fun a => more.foldl (stepF q) a) (stepF_some fr)).trans f, O2⟩
theorem laid_clean {q : Nat} (hq : Wd q) {hs : Array Int} (few : hs.size ≤ q) : ∃ who, SetTable.layClean q hs = some who ∧ Own q hs.toList who := by
  obtain ⟨who, f, O⟩ := all_laid hq hs.toList [] _ (Own.init q) (by simpa using few)
  refine ⟨who, ?_, O⟩
  have f2 : hs.toList.foldl (stepF q) (some (Array.replicate (q + 1) none, 0)) = some (who, hs.toList.length) := f
  rw [layClean_eq, f2]
  rfl
theorem relaid_w (t : SetTable) {hs : Array Int} {want M : Nat} (hw : SetTable.sizeAbove want - 1 = M) (hM : Wd M) (few : hs.size ≤ M) :
    ∃ t' order, t.relaid hs want = some (t', order) ∧ order.toList.Perm (List.range hs.size) ∧ TabW t' (order.toList.map fun i => hs.getD i 0) ∧ t'.mask = M ∧ t'.led = t.led := by
  obtain ⟨who, cl, O⟩ := laid_clean hM few
  have out : t.relaid hs want = some (tabOf t M who, ((liveOf M who).map (·.2)).toArray) := by
    rw [relaid_eq, hw, cl]
    rfl
  obtain ⟨asc, inr⟩ := ris_live (fun j => who.getD j none) (List.range (M + 1)) (by unfold Ris; exact List.pairwise_lt_range)
  have asc : Ris ((liveOf M who).map (·.1)) := asc
  have inr : ∀ x ∈ (liveOf M who).map (·.1), x ∈ List.range (M + 1) := inr
  have l1 : (liveOf M who).length ≤ hs.size := by
    obtain ⟨taken, lt, inn⟩ := O.ps
    have nd : ((liveOf M who).map (·.1)).Nodup := List.Pairwise.imp (fun c => Nat.ne_of_lt c) asc
    have z := nat_nodup_len ((liveOf M who).map (·.1)) taken nd fun x hx => by
      obtain ⟨⟨y, k⟩, hy, rfl⟩ := List.mem_map.mp hx
      obtain ⟨a, b⟩ := (mem_live O.sz).1 hy
      exact inn _ a (by rw [b]; simp)
    rw [List.length_map, lt, Array.length_toList] at z
    exact z
  have each : ∀ k, k < hs.size → k ∈ (liveOf M who).map (·.2) := fun k lk => by
    obtain ⟨j, a, b⟩ := O.all k (by rw [Array.length_toList]; exact lk)
    exact List.mem_map.mpr ⟨(j, k), (mem_live O.sz).2 ⟨a, b⟩, rfl⟩
  have l2 : hs.size ≤ (liveOf M who).length := by
    have z := nat_nodup_len (List.range hs.size) ((liveOf M who).map (·.2)) List.nodup_range fun k hk => each k (List.mem_range.mp hk)
    rwa [List.length_range, List.length_map] at z
  refine ⟨_, _, out, perm_range _ _ ?_ each, ⟨asc, rfl, ?_, hM, fun x hx => Nat.lt_succ_iff.mp (List.mem_range.mp (inr x hx)), ?_⟩, rfl, rfl⟩
  · show ((liveOf M who).map (·.2)).length = _
    rw [List.length_map]; omega
  · show ((liveOf M who).map (·.1)).toArray.size = (((liveOf M who).map (·.2)).map _).length
    simp
  · intro i u j hu hj
    have hu2 : (((liveOf M who).map (·.2)).map fun i => hs.getD i 0)[i]? = some u := hu
    have hj2 : ((liveOf M who).map (·.1))[i]? = some j := hj
    obtain ⟨⟨y, k⟩, hy, zy⟩ : ∃ p, (liveOf M who)[i]? = some p ∧ p.1 = j := by
      rw [List.getElem?_map] at hj2
      exact Option.map_eq_some_iff.mp hj2
    rw [List.getElem?_map, List.getElem?_map, hy] at hu2
    obtain ⟨a, b⟩ := (mem_live O.sz).1 (List.mem_of_getElem? hy)
    obtain ⟨v, n, c, d, e⟩ := O.at_ y k a b
    have zv : v = u := by
      have q2 : hs.getD k 0 = v := by rw [Array.getD_eq_getD_getElem?, ← Array.getElem?_toList, c]; rfl
      exact q2.symm.trans (Option.some.inj hu2)
    refine ⟨n, by rw [← zv]; exact d.trans zy, fun n' l' => ?_⟩
    rw [← zv]
    have occ := e n' l'
    obtain ⟨o, ho⟩ := Option.ne_none_iff_exists'.mp occ
    exact List.mem_map.mpr ⟨_, (mem_live O.sz).2 ⟨way_in v n', ho⟩, rfl⟩
theorem size_w : SetTable.sizeAbove (SetTable.grown 77) = 512 := by decide +kernel
end WT
set_option maxRecDepth 100000
set_option maxHeartbeats 4000000
/-! sets of up to 298 different tuples of any depth: set(list or tuple), sorted(set) -/
namespace SetW
open PySem PySem.Spec PyProof.Rows L2 SetG WT
section
variable {P : Program} {w : World} {κ : Type} [DecidableEq κ]
section
variable {knd : HeapKind P w κ} {A : Around} {E : Value → Shared → Prop} {s : Shared}
structure Held (knd : HeapKind P w κ) (h : Heap) (a : Addr) (L : List (Addr × κ)) (es : Array (Int × Value)) (ep : Nat) (t : SetTable) : Prop where
  at_ : ∃ o, h.get? a = some o ∧ o.ExactSet ∧ o.data = .set es ep t
  rows : es.toList = L.map (row knd)
  tab : TabW t (L.map fun p => knd.hash p.2)
  nd : (L.map Prod.snd).Nodup
  own : ∀ p ∈ L, knd.is h p.2 p.1
  led : w.params.followText "set-order" = true ∨ t.led = true
  wide : L.length * 5 < t.mask * 3
  few : L.length < 300
variable {a : Addr} {L : List (Addr × κ)} {es : Array (Int × Value)} {ep : Nat} {t : SetTable}
theorem Held.tsize {h : Heap} (R : Held knd h a L es ep t) : t.place.size = L.length := by
  have := R.tab.sz
  rwa [List.length_map] at this
theorem Held.fits {h : Heap} (R : Held knd h a L es ep t) : t.fits es.size = true := by
  have h1 := R.tsize
  have h2 := rows_size R.rows
  have h3 := R.wide
  unfold SetTable.fits SetTable.fill
  rw [R.tab.dm, Bool.and_eq_true, beq_iff_eq, decide_eq_true_eq]
  exact ⟨h1.trans h2.symm, by show t.place.size + 0 ≤ t.mask; omega⟩
theorem even_no {m : Nat} {t : SetTable} (h : t.mask = m) (hm : Wd m) : ¬ t.gaveWay = true := by
  unfold SetTable.gaveWay
  rw [h, hm.odd]
  decide
/-- from any step of the way on, n steps ahead of the free slot -/
theorem seek (S : SK knd) (R : Held knd s.heap a L es ep t) {x : Addr} {k : κ} (hx : knd.is s.heap k x) (hu : knd.room A) {K : Nat} (hf : K < 10 * SetTable.turns t.mask) (hK : way t.mask (knd.hash k) K ∉ t.place.toList)
    (hb : ∀ c, c < K → way t.mask (knd.hash k) c ∈ t.place.toList) {Q : SetFound → Shared → Prop} (yes : k ∈ L.map Prod.snd → Q (.there none) s) (no : k ∉ L.map Prod.snd → Q (.free (way t.mask (knd.hash k) K) false) s) :
    ∀ (n fuel c : Nat) (st : Option SetTable.Probe), c + n = K → n < fuel → st.getD (t.probeStart (knd.hash k)) = stp t (knd.hash k) c →
      (∀ (i : Nat) p, L[i]? = some p → p.2 = k → ∃ c', c ≤ c' ∧ c' < K ∧ t.place.toList[i]? = some (way t.mask (knd.hash k) c')) →
      wpAny (model P w) A (setSearchFrom a (.ref x) (knd.hash k) true fuel st) Q E s := by
  intro n
  induction n using Nat.strongRecOn with
  | _ n ih =>
    intro fuel c st hc hfu hst ahead
    obtain ⟨fuel, rfl⟩ : ∃ f, fuel = f + 1 := ⟨fuel - 1, by omega⟩
    obtain ⟨o, ho, hex, hd⟩ := R.at_
    rw [setSearchFrom_succ]
    refine wpAny_bind (wpAny_setState_of ho hd R.fits ?_)
    dsimp only
    refine wp_if_neg (even_no rfl R.tab.mok) ?_
    try refine wpAny_bind (wpAny_pure ?_)
    have jw : ∀ q, (nth t.mask (stp t (knd.hash k) c) q).j = way t.mask (knd.hash k) (c + q) := fun q => congrArg SetTable.Probe.j (stp_on t _ c q)
    have hashed : ∀ (i : Nat) p, L[i]? = some p → (es[i]?.map Prod.fst).getD 0 = knd.hash p.2 := fun i p hp => by rw [rows_at R.rows hp]; rfl
    have out := go_spec t R.tab.ris R.tab.dm (fun i => (es[i]?.map (·.1)).getD 0) (knd.hash k) (10 * SetTable.turns t.mask) n (stp t (knd.hash k) c) (stp_clear t _ c) (by omega) (fun q hq => by rw [jw]; exact hb _ (by omega)) (by rw [jw, hc]; exact hK)
    rcases out with ⟨q, i, hq, hi, hh, first, hp⟩ | ⟨none_, hp⟩
    · have hp' : t.probe (fun i => (es[i]?.map (·.1)).getD 0) (knd.hash k) (st.getD (t.probeStart (knd.hash k))) = some (.candidate (way t.mask (knd.hash k) (c + q)) i (stp t (knd.hash k) (c + (q + 1)))) := by
        rw [hst, ← jw, ← stp_on]
        exact hp
      rw [hp']
      dsimp only
      rw [jw] at hi
      have hil : i < L.length := by
        have := (List.getElem?_eq_some_iff.mp hi).1
        rw [Array.length_toList, R.tsize] at this
        exact this
      obtain ⟨p, hpi⟩ : ∃ p, L[i]? = some p := ⟨L[i], List.getElem?_eq_getElem hil⟩
      have hpm := List.mem_of_getElem? hpi
      have hpk := R.own p hpm
      have go : wpAny (model P w) A (searchRest a (.ref x) (knd.hash k) true fuel es t (way t.mask (knd.hash k) (c + q)) i (stp t (knd.hash k) (c + (q + 1)))) Q E s := by
        unfold searchRest
        rw [rows_at R.rows hpi]
        dsimp only
        refine wpAny_bind (wpAny_holding (knd.eqBool hu hpk hx (wpAny_bind (wpAny_setState_of ho hd R.fits ?_))))
        dsimp only
        by_cases same : p.2 = k
        · exact wp_if_pos (by simp [same]) (wpAny_pure (yes (List.mem_map.mpr ⟨p, hpm, same⟩)))
        · refine wp_if_neg (by simp [same]) ?_
          try refine wpAny_bind (wpAny_pure ?_)
          rw [sameMem]
          dsimp only
          have live : t.slot (way t.mask (knd.hash k) (c + q)) = .live i := slot_live R.tab.ris hi
          simp only [if_true, live, rows_at R.rows hpi]
          refine wpAny_bind (wpAny_isSame_ref_self (wpAny_bind (wpAny_pure ?_)))
          simp only [if_true]
          refine wp_if_neg (by simp [same]) ?_
          refine ih (n - (q + 1)) (by omega) fuel (c + (q + 1)) _ (by omega) (by omega) rfl fun i0 p0 h0 k0 => ?_
          obtain ⟨c', l1, l2, l3⟩ := ahead i0 p0 h0 k0
          refine ⟨c', ?_, l2, l3⟩
          by_cases lt : c' < c + q
          · exact absurd ((hashed i0 p0 h0).trans (congrArg knd.hash k0)) (first (c' - c) i0 (by omega) (by rw [jw, show c + (c' - c) = c' by omega]; exact l3))
          · by_cases eq : c' = c + q
            · subst eq
              have l4 := slot_live R.tab.ris l3
              rw [live] at l4
              obtain rfl : i = i0 := by injection l4
              rw [hpi] at h0
              obtain rfl := Option.some.inj h0
              exact absurd k0 same
            · omega
      by_cases hl : t.led = true
      · refine wp_if_neg (by simp [hl]) ?_
        try refine wpAny_bind (wpAny_pure ?_)
        exact go
      · refine wp_if_pos (by simp [hl]) (wpAny_bind (unseen S hx (fun y hy => ?_) ?_))
        · obtain ⟨e, he, rfl⟩ := List.mem_map.mp hy
          have he2 : e ∈ es.toList := by
            have : e ∈ es ∧ e.1 = knd.hash k := by simpa using he
            simpa using this.1
          rw [R.rows] at he2
          obtain ⟨p2, hm2, rfl⟩ := List.mem_map.mp he2
          exact ⟨p2.2, p2.1, rfl, R.own p2 hm2⟩
        · refine wp_if_neg (by decide) ?_
          try refine wpAny_bind (wpAny_pure ?_)
          exact go
    · have hp' : t.probe (fun i => (es[i]?.map (·.1)).getD 0) (knd.hash k) (st.getD (t.probeStart (knd.hash k))) = some (.empty (way t.mask (knd.hash k) K) none) := by
        have e := jw n
        rw [hc] at e
        rw [hst, ← e]
        exact hp
      rw [hp']
      dsimp only
      refine wpAny_pure (no fun hm => ?_)
      obtain ⟨p0, hm0, k0⟩ := List.mem_map.mp hm
      obtain ⟨i0, h0⟩ := List.getElem?_of_mem hm0
      obtain ⟨c', l1, l2, l3⟩ := ahead i0 p0 h0 k0
      exact none_ (c' - c) i0 (by omega) (by rw [jw, show c + (c' - c) = c' by omega]; exact l3) ((hashed i0 p0 h0).trans (congrArg knd.hash k0))
/-- the search of an add -/
theorem sought (S : SK knd) (R : Held knd s.heap a L es ep t) {x : Addr} {k : κ} (hx : knd.is s.heap k x) (hu : knd.room A) {Q : SetFound → Shared → Prop} (yes : k ∈ L.map Prod.snd → Q (.there none) s)
    (no : ∀ K, k ∉ L.map Prod.snd → way t.mask (knd.hash k) K ∉ t.place.toList → (∀ c, c < K → way t.mask (knd.hash k) c ∈ t.place.toList) → Q (.free (way t.mask (knd.hash k) K) false) s) :
    wpAny (model P w) A (setSearch a (.ref x) (knd.hash k) true) Q E s := by
  have wd := R.wide
  obtain ⟨K, hf, hK, hb⟩ := R.tab.first (by rw [List.length_map]; omega) (knd.hash k)
  have turns : 10 * SetTable.turns t.mask ≤ 5260 := by
    unfold SetTable.turns
    rcases R.tab.mok with e | e | e | e <;> omega
  unfold setSearch
  refine seek S R hx hu hf hK hb yes (fun hn => no K hn hK hb) K 100000 0 none (Nat.zero_add K) (by omega) rfl fun i p hp hk => ?_
  have h1 : (L.map fun p => knd.hash p.2)[i]? = some (knd.hash k) := by rw [List.getElem?_map, hp, ← hk]; rfl
  have h2 : i < t.place.toList.length := by
    rw [Array.length_toList, R.tsize]
    exact (List.getElem?_eq_some_iff.mp hp).1
  obtain ⟨c, hc, e⟩ := R.tab.before hK h1 (List.getElem?_eq_getElem h2)
  exact ⟨c, Nat.zero_le _, hc, by rw [List.getElem?_eq_getElem h2, e]⟩
/-- all laid anew in a larger table -/
theorem relay (S : SK knd) {o : Obj} (ho : s.heap.get? a = some o) (hex : o.ExactSet) (hd : o.data = .set es ep t) (hr : es.toList = L.map (row knd)) (hs : t.place.size = L.length) (dm : t.dummies = #[]) (hl : L.length ≤ t.mask) (nd : (L.map Prod.snd).Nodup)
    (own : ∀ p ∈ L, knd.is s.heap p.2 p.1) (ld : w.params.followText "set-order" = true ∨ t.led = true) (few : L.length < 300) {want M : Nat} (hw : SetTable.sizeAbove want - 1 = M) (hM : Wd M) (h128 : SetTable.sizeAbove want ≤ 512) (hn : L.length * 5 < M * 3)
    {Q : Unit → Shared → Prop} (hQ : ∀ h' L' es' ep' t', Heap.SameBut a s.heap h' → Held knd h' a L' es' ep' t' → L'.Perm L → Q () { s with heap := h' }) : wpAny (model P w) A (setRelay a want) Q E s := by
  have sz := rows_size hr
  obtain ⟨t', order, er, hp, T, tm, tl⟩ := relaid_w t (hs := es.map (·.1)) (want := want) hw hM (by rw [Array.size_map, sz]; omega)
  rw [Array.size_map, sz] at hp
  obtain ⟨Lm, r1, r2, r3⟩ := turned hr hp
  rw [← r3] at T
  have sz2 : (order.filterMap (es[·]?)).size = es.size := by rw [rows_size r1, r2.length_eq, sz]
  rw [setRelay_eq]
  refine wpAny_bind (wpAny_setState_of ho hd (fits_of (h := s.heap) (hs.trans sz.symm) dm (by omega)) ?_)
  dsimp only
  refine wp_if_neg (by rw [sizeLine_eq]; omega) ?_
  try refine wpAny_bind (wpAny_pure ?_)
  rw [er]
  dsimp only
  refine wpAny_bind (wp_if_neg (by rw [sz2]; simp) ?_)
  try refine wpAny_bind (wpAny_pure ?_)
  refine wpAny_pure ?_
  dsimp only
  refine wpAny_storeSet_of ho hd ?_ (by rw [sz2, sz, sizeLine_eq]; omega)
  have sb : Heap.SameBut a s.heap (s.heap.update a (Obj.putSet (order.filterMap (es[·]?)) t')) := Heap.SameBut.update ..
  exact hQ _ Lm _ (ep + 1) t' sb ⟨⟨_, store_at ho hd, ⟨hex.1, hex.2.1, hex.2.2⟩, rfl⟩, r1, T, (r2.map Prod.snd).nodup_iff.mpr nd, fun p hm => S.apart (own p (r2.mem_iff.mp hm)) ho hd sb, by rw [tl]; exact ld, by rw [r2.length_eq, tm]; exact hn, by rw [r2.length_eq]; exact few⟩ r2
/-- an element added -/
theorem added (S : SK knd) (R : Held knd s.heap a L es ep t) {x : Addr} {k : κ} (hx : knd.is s.heap k x) (hu : knd.room A) (few : L.length + 1 < 300) {Q : Bool → Shared → Prop}
    (hQ : ∀ b h' L' es' ep' t', Heap.SameBut a s.heap h' → Held knd h' a L' es' ep' t' → (k ∈ L.map Prod.snd → L' = L) → (k ∉ L.map Prod.snd → L'.Perm ((x, k) :: L)) → Q b { s with heap := h' }) :
    wpAny (model P w) A (setAddHashed a (.ref x) (knd.hash k)) Q E s := by
  obtain ⟨o, ho, hex, hd⟩ := R.at_
  have sz := rows_size R.rows
  have wd := R.wide
  unfold setAddHashed
  rw [show (100000 : Nat) = 99999 + 1 from rfl, setAddHashedIn_succ]
  refine wpAny_holding (wpAny_bind (wpAny_setState_of ho hd R.fits ?_))
  dsimp only
  refine wp_if_neg (by simp [byScan, Value.scannable]) ?_
  try refine wpAny_bind (wpAny_pure ?_)
  refine wpAny_bind (sought S R hx hu (fun hm => wpAny_pure (hQ false s.heap L es ep t (Heap.SameBut.refl a s.heap) R (fun _ => rfl) fun z => absurd hm z)) fun K hm hK hb => ?_)
  dsimp only
  refine wpAny_bind (wpAny_setState_of ho hd R.fits ?_)
  dsimp only
  obtain ⟨q1, q2, q3, q4, q5, q9⟩ := R.tab.put hK hb
  generalize hj : SetTable.below t.place (way t.mask (knd.hash k) K) = j at q1 q2 q3
  generalize hpt : t.put (way t.mask (knd.hash k) K) = pt at q1 q3 q4 q5 q9 ⊢
  obtain ⟨t0, j'⟩ := pt
  dsimp only at q1 q3 q4 q5 q9 ⊢
  subst q1
  suffices tail : ∀ t1 : SetTable, TabW t1 ((L.map fun p => knd.hash p.2).take j' ++ knd.hash k :: (L.map fun p => knd.hash p.2).drop j') → t1.mask = t.mask → t1.led = t.led → t1.fill = (L.map fun p => knd.hash p.2).length + 1 → wpAny (model P w) A (do
      storeSet a (SetTable.insertAt es j' (knd.hash k, Value.ref x)) t1
      if (!false && t1.tooFull) = true then do
          setRelay a (SetTable.grown (es.size + 1))
          pure true
        else pure true) Q E s by
    have t9 := tail t0 q3 q4 q5 q9
    have t8 := tail { t0 with plain := false } ⟨q3.ris, q3.dm, q3.sz, q3.mok, q3.bd, q3.reach⟩ q4 q5 q9
    by_cases hp : t0.plain = true
    · refine wp_if_pos hp (wpAny_bind (S.valued hx fun v => ?_))
      cases v with
      | true => simpa using t9
      | false => simpa using t8
    · refine wp_if_neg hp ?_
      first
        | exact t9
        | simpa using t9
  intro t1 q3 q4 q5 q9
  have pm : (L.take j' ++ (x, k) :: L.drop j').Perm ((x, k) :: L) := put_perm L j' (x, k)
  have r1 : (SetTable.insertAt es j' (knd.hash k, Value.ref x)).toList = (L.take j' ++ (x, k) :: L.drop j').map (row knd) := by
    rw [SetTable.toList_insertAt, R.rows, List.map_append, List.map_cons, List.map_take, List.map_drop]
    rfl
  have hh : (L.take j' ++ (x, k) :: L.drop j').map (fun p => knd.hash p.2) = (L.map fun p => knd.hash p.2).take j' ++ knd.hash k :: (L.map fun p => knd.hash p.2).drop j' := by
    rw [List.map_append, List.map_cons, List.map_take, List.map_drop]
  rw [← hh] at q3
  generalize L.take j' ++ (x, k) :: L.drop j' = L1 at pm r1 q3
  have sz1 := rows_size r1
  have l1 : L1.length = L.length + 1 := pm.length_eq
  generalize SetTable.insertAt es j' (knd.hash k, Value.ref x) = es1 at r1 sz1 ⊢
  have nd1 : (L1.map Prod.snd).Nodup := (pm.map Prod.snd).nodup_iff.mpr (List.nodup_cons.mpr ⟨hm, R.nd⟩)
  have ts1 : t1.place.size = L1.length := by
    have := q3.sz
    rwa [List.length_map] at this
  refine wpAny_bind (wpAny_storeSet_of ho hd ?_ (by rw [sz1, l1, sizeLine_eq]; omega))
  have sb : Heap.SameBut a s.heap (s.heap.update a (Obj.putSet es1 t1)) := Heap.SameBut.update ..
  have ho1 := store_at (es' := es1) (t' := t1) ho hd
  generalize s.heap.update a (Obj.putSet es1 t1) = h1 at sb ho1 ⊢
  have own1 : ∀ p ∈ L1, knd.is h1 p.2 p.1 := fun p hp => by
    rcases List.mem_cons.mp (pm.mem_iff.mp hp) with rfl | hp
    · exact S.apart hx ho hd sb
    · exact S.apart (R.own p hp) ho hd sb
  have led1 : w.params.followText "set-order" = true ∨ t1.led = true := by rw [q5]; exact R.led
  have full : t1.tooFull = decide ((L.length + 1) * 5 ≥ t.mask * 3) := by
    unfold SetTable.tooFull
    rw [q9, q4, List.length_map]
  by_cases hf : t1.tooFull = true
  · rw [full, decide_eq_true_eq] at hf
    have which : (t.mask = 7 ∧ L.length = 4) ∨ (t.mask = 31 ∧ L.length = 18) ∨ (t.mask = 127 ∧ L.length = 76) := by
      rcases R.tab.mok with e | e | e | e <;> rw [e] at hf wd
      · exact .inl ⟨e, by omega⟩
      · exact .inr (.inl ⟨e, by omega⟩)
      · exact .inr (.inr ⟨e, by omega⟩)
      · omega
    have onto : ∀ M, SetTable.sizeAbove (SetTable.grown (L.length + 1)) - 1 = M → Wd M → SetTable.sizeAbove (SetTable.grown (L.length + 1)) ≤ 512 → (L.length + 1) * 5 < M * 3 →
        wpAny (model P w) A (setRelay a (SetTable.grown (L.length + 1))) (fun _ s1 => wpAny (model P w) A (pure true) Q E s1) E { s with heap := h1 } := fun M w1 w2 w3 w4 =>
      relay S (s := { s with heap := h1 }) ho1 ⟨hex.1, hex.2.1, hex.2.2⟩ rfl r1 ts1 q3.dm (by rw [l1, q4]; rcases which with ⟨e, e2⟩ | ⟨e, e2⟩ | ⟨e, e2⟩ <;> omega) nd1 own1 led1 (by rw [l1]; exact few) w1 w2 w3 (by rw [l1]; exact w4)
        fun h2 Lm es2 ep2 t2 sb2 R2 pm2 => wpAny_pure (hQ true h2 Lm es2 ep2 t2 (sb.trans sb2) R2 (fun z => absurd z hm) fun _ => pm2.trans pm)
    have hf1 : (!false && t1.tooFull) = true := by rw [full, decide_eq_true hf]; rfl
    rw [sz]
    first
      | refine wp_if_pos hf1 (wpAny_bind ?_)
      | refine wpAny_bind (wp_if_pos hf1 ?_)
    rcases which with ⟨_, e2⟩ | ⟨_, e2⟩ | ⟨_, e2⟩
    · exact onto 31 (by rw [e2, size_20]) (.inr (.inl rfl)) (by rw [e2, size_20]; decide) (by omega)
    · exact onto 127 (by rw [e2, size_76]) (.inr (.inr (.inl rfl))) (by rw [e2, size_76]; decide) (by omega)
    · exact onto 511 (by rw [e2, size_w]) (.inr (.inr (.inr rfl))) (by rw [e2, size_w]; decide) (by omega)
  · have hf1 : ¬ (!false && t1.tooFull) = true := fun z => hf (by simpa using z)
    refine wp_if_neg hf1 (wpAny_pure (hQ true h1 L1 es1 (ep + 1) t1 sb ⟨⟨_, ho1, ⟨hex.1, hex.2.1, hex.2.2⟩, rfl⟩, r1, q3, nd1, own1, led1, ?_, by rw [l1]; exact few⟩ (fun z => absurd z hm) fun _ => pm))
    rw [full, decide_eq_true_eq] at hf
    rw [l1, q4]
    omega
theorem Held.move {h h' : Heap} (R : Held knd h a L es ep t) (k0 : ∀ o, h.get? a = some o → h'.get? a = some o) (k1 : ∀ p ∈ L, knd.is h' p.2 p.1) : Held knd h' a L es ep t :=
  { R with at_ := let ⟨o, ho, r⟩ := R.at_; ⟨o, k0 o ho, r⟩, own := k1 }
theorem Held.fresh {h : Heap} (ho : h.get? a = some (TSet.freshSet w)) : Held knd h a [] #[] 0 (.fresh 0 0 (!w.params.followText "set-order")) where
  at_ := ⟨_, ho, ⟨rfl, rfl, rfl⟩, rfl⟩
  rows := rfl
  tab := .of (setTR_fresh (P := P) (w := w) ho).tab
  nd := List.nodup_nil
  own := fun p hp => absurd hp List.not_mem_nil
  led := (setTR_fresh (P := P) (w := w) ho).led
  wide := by show 0 * 5 < 7 * 3; decide
  few := by show 0 < 300; decide
/-- set(a list) -/
theorem set_list (S : SK knd) {l : Addr} {items : Array Value} (ks : List (Addr × κ)) {Q : Value → Shared → Prop} (hh : A.handled = none) (hl : s.heap.IsList l items) (hi : items.toList = ks.map fun p => Value.ref p.1) (hk : ∀ p ∈ ks, knd.is s.heap p.2 p.1) (few : ks.length < 299)
    (hu : ∀ B : Around, B.units ≤ A.units + 3 → knd.room B)
    (k : ∀ (h' : Heap) (tk : Nat) L es ep t, Held knd h' s.heap.objs.size L es ep t → Took ks L → (∀ b o, s.heap.get? b = some o → h'.get? b = some o) → Q (.ref s.heap.objs.size) { s with heap := h', toks := tk }) :
    wpAny (model P w) A (call (.type "set") [.ref l]) Q E s := by
  have len : items.size = ks.length := by rw [← Array.length_toList, hi, List.length_map]
  have low : ∀ p ∈ ks, p.1 < s.heap.objs.size := fun p hp => S.lies (hk p hp)
  refine TSet.made_any hh hl (fun i h => (∃ L es ep t, Held knd h s.heap.objs.size L es ep t ∧ Took (ks.take i) L) ∧ ∀ c o, s.heap.get? c = some o → h.get? c = some o) ?_ ?_ ?_ ?_
  · rintro i h h' ⟨⟨L, es, ep, t, R, T⟩, kp⟩ e
    have kp' : ∀ c o, s.heap.get? c = some o → h'.get? c = some o := fun c o g => e _ o (Nat.ne_of_lt (Nat.lt_succ_of_lt (Heap.lt_size g))) (kp c o g)
    exact ⟨⟨L, es, ep, t, R.move (fun o => e _ o (Nat.ne_of_lt (Nat.lt_succ_self _))) (fun p hp => S.keep (hk p (List.mem_of_mem_take (T.from_ p hp))) kp'), T⟩, kp'⟩
  · exact fun h e kp => ⟨⟨[], _, _, _, Held.fresh e, fun _ h => absurd h List.not_mem_nil, fun _ h => absurd h List.not_mem_nil, Nat.le_refl _⟩, fun c o g => kp _ o g⟩
  · rintro B i v s1 E1 Q1 hB hv ⟨⟨L, es, ep, t, R, T⟩, kp⟩ q
    have hv2 : items.toList[i]? = some v := by rw [Array.getElem?_toList]; exact hv
    rw [hi, List.getElem?_map] at hv2
    obtain ⟨p, hp, rfl⟩ := Option.map_eq_some_iff.mp hv2
    have hpm := List.mem_of_getElem? hp
    have hx : knd.is s1.heap p.2 p.1 := S.keep (hk p hpm) kp
    have room := hu B hB
    have tk : ks.take (i + 1) = ks.take i ++ [p] := by rw [List.take_add_one, hp]; rfl
    unfold setAdd
    refine wpAny_holding (wpAny_bind (knd.pyHash room hx ?_))
    refine added (s := { s1 with toks := s1.toks + knd.draws p.2 }) S R hx room (by have := T.le; rw [List.length_take] at this; omega) fun b h' L' es' ep' t' sb R' n1 n2 => ?_
    refine q b h' (s1.toks + knd.draws p.2) (Nat.le_add_right _ _) sb ⟨⟨L', es', ep', t', R', by rw [tk]; exact T.next n1 n2⟩, fun c o g => ?_⟩
    rw [sb.2 c (Nat.ne_of_lt (Heap.lt_size g))]
    exact kp c o g
  · rintro h' tk ⟨⟨L, es, ep, t, R, T⟩, _⟩ keep
    rw [len, List.take_length] at T
    exact k h' tk L es ep t R T keep
theorem set_tup (S : SK knd) {l : Addr} {items : Array Value} (ks : List (Addr × κ)) {Q : Value → Shared → Prop} (hh : A.handled = none) (hl : s.heap.IsTuple l items) (hi : items.toList = ks.map fun p => Value.ref p.1) (hk : ∀ p ∈ ks, knd.is s.heap p.2 p.1) (few : ks.length < 299)
    (hu : ∀ B : Around, B.units ≤ A.units + 3 → knd.room B)
    (k : ∀ (h' : Heap) (tk : Nat) L es ep t, Held knd h' s.heap.objs.size L es ep t → Took ks L → (∀ b o, s.heap.get? b = some o → h'.get? b = some o) → Q (.ref s.heap.objs.size) { s with heap := h', toks := tk }) :
    wpAny (model P w) A (call (.type "set") [.ref l]) Q E s := by
  have len : items.size = ks.length := by rw [← Array.length_toList, hi, List.length_map]
  have low : ∀ p ∈ ks, p.1 < s.heap.objs.size := fun p hp => S.lies (hk p hp)
  refine SetH.made_tup hh hl (fun i h => (∃ L es ep t, Held knd h s.heap.objs.size L es ep t ∧ Took (ks.take i) L) ∧ ∀ c o, s.heap.get? c = some o → h.get? c = some o) ?_ ?_ ?_ ?_
  · rintro i h h' ⟨⟨L, es, ep, t, R, T⟩, kp⟩ e
    have kp' : ∀ c o, s.heap.get? c = some o → h'.get? c = some o := fun c o g => e _ o (Nat.ne_of_lt (Nat.lt_succ_of_lt (Heap.lt_size g))) (kp c o g)
    exact ⟨⟨L, es, ep, t, R.move (fun o => e _ o (Nat.ne_of_lt (Nat.lt_succ_self _))) (fun p hp => S.keep (hk p (List.mem_of_mem_take (T.from_ p hp))) kp'), T⟩, kp'⟩
  · exact fun h e kp => ⟨⟨[], _, _, _, Held.fresh e, fun _ h => absurd h List.not_mem_nil, fun _ h => absurd h List.not_mem_nil, Nat.le_refl _⟩, fun c o g => kp _ o g⟩
  · rintro B i v s1 E1 Q1 hB hv ⟨⟨L, es, ep, t, R, T⟩, kp⟩ q
    have hv2 : items.toList[i]? = some v := by rw [Array.getElem?_toList]; exact hv
    rw [hi, List.getElem?_map] at hv2
    obtain ⟨p, hp, rfl⟩ := Option.map_eq_some_iff.mp hv2
    have hpm := List.mem_of_getElem? hp
    have hx : knd.is s1.heap p.2 p.1 := S.keep (hk p hpm) kp
    have room := hu B hB
    have tk : ks.take (i + 1) = ks.take i ++ [p] := by rw [List.take_add_one, hp]; rfl
    unfold setAdd
    refine wpAny_holding (wpAny_bind (knd.pyHash room hx ?_))
    refine added (s := { s1 with toks := s1.toks + knd.draws p.2 }) S R hx room (by have := T.le; rw [List.length_take] at this; omega) fun b h' L' es' ep' t' sb R' n1 n2 => ?_
    refine q b h' (s1.toks + knd.draws p.2) (Nat.le_add_right _ _) sb ⟨⟨L', es', ep', t', R', by rw [tk]; exact T.next n1 n2⟩, fun c o g => ?_⟩
    rw [sb.2 c (Nat.ne_of_lt (Heap.lt_size g))]
    exact kp c o g
  · rintro h' tk ⟨⟨L, es, ep, t, R, T⟩, _⟩ keep
    rw [len, List.take_length] at T
    exact k h' tk L es ep t R T keep
end
end
section
open SetM
variable {P : Program} {w : World} {A : Around} {E : Value → Shared → Prop} {s : Shared}
theorem sorted_setW {β : Type} {R : Value → β → Prop} {enc : β → PyData} {a : Addr} {o : Obj} {es : Array (Int × Value)} {ep : Nat} {t : SetTable} (ho : s.heap.get? a = some o) (hc : o.ExactSet) (hd : o.data = .set es ep t) (hf : t.fits es.size = true) (few : es.size < 300) (ris : Ris t.place.toList)
    (led : w.params.followText "set-order" = true ∨ t.led = true) (hh : A.handled = none) {bs0 : List β} (e0 : PySem.W.EachIs R (es.toList.map (·.2)) bs0) (rd : ∀ v b, b ∈ bs0 → R v b → ∃ as, Reads s.heap v (enc b) as) (hal : PySem.W.AllAlike (bs0.map enc)) (hk : ∀ b ∈ bs0, ∃ xs, enc b = .tuple xs)
    (hu : ∀ b, b ∈ bs0 → A.units + 4 + (enc b).depth < cLine) {Q : Value → Shared → Prop}
    (k : ∀ s' p (out : Array Value) (c : Nat) (bs : List β), (∀ b o, s.heap.get? b = some o → s'.heap.get? b = some o) → s'.gens = s.gens → s'.os = s.os → s.heap.objs.size ≤ p → s'.heap.get? p = some (seqObj "list" out c) → bs.Perm bs0 → PySem.W.EachIs R out.toList (bs.mergeSort (PySem.W.dataLe false enc)) → Q (.ref p) s') :
    wpAny (model P w) A (call (.builtin "sorted") [.ref a]) Q E s := by
  have sc : es.size < scanBound := by unfold scanBound; omega
  refine Calls.call_function_entry kind_sorted plain_sorted entry_sorted (args_sorted1 _) ?_
  unfold Builtin.«sorted»
  refine wpAny_bind (m := checkCount "sorted" 1 1 _) (wpAny_pure (wpAny_bind ?_))
  refine collect_set (A := A.in1) hh ⟨o, ho, hc.1, hd⟩ hf sc ris led fun s1 vs k1 z1 g1 o1 pm => ?_
  obtain ⟨bs, pb, eb⟩ := each_perm pm e0
  have lv : vs.length = es.size := by rw [pm.length_eq, List.length_map, Array.length_toList]
  refine wpAny_bind (wpAny_newList ?_ (by rw [lv, sizeLine_eq]; omega))
  have oL : (s1.heap.push (seqObj "list" vs.toArray 0)).get? s1.heap.objs.size = some (seqObj "list" vs.toArray 0) := Heap.get?_push_size _ rfl
  have old : ∀ b o, s1.heap.get? b = some o → (PySem.W.sortingHeap (s1.heap.push (seqObj "list" vs.toArray 0)) s1.heap.objs.size vs).get? b = some o := fun b o e => PySem.W.sortingHeap_old (Nat.ne_of_lt (Heap.lt_size e)) (Heap.get?_push_of_some _ e)
  have er : PySem.W.EachIs (fun v b => ∃ as, Reads (PySem.W.sortingHeap (s1.heap.push (seqObj "list" vs.toArray 0)) s1.heap.objs.size vs) v (enc b) as) vs bs := by
    exact (PySem.W.each_mem eb).mono fun v b ⟨h, hb⟩ => by
      obtain ⟨as, r⟩ := rd v b (pb.mem_iff.mp hb) h
      exact ⟨as, PyProof.Rows.Reads.keeps (fun b o e => old b o (k1 b o e)) r⟩
  have hal' := alike_perm pb hal
  refine wpAny_bind (wpAny_holding (wpAny_call_entry slot_list_sort ⟨_, oL, rfl⟩ entry_list_sort
    (PySem.W.list_sort_vals (κ := PySem.W.dataKind (PySem.W.sortingHeap (s1.heap.push (seqObj "list" vs.toArray 0)) s1.heap.objs.size vs) (bs.map enc)) oL
      (SE.data_tuples (PySem.W.each_map (R := fun v d => ∃ as, Reads (PySem.W.sortingHeap (s1.heap.push (seqObj "list" vs.toArray 0)) s1.heap.objs.size vs) v d as) enc er) hal' (fun d hd => by
          obtain ⟨b, hb, rfl⟩ := List.mem_map.mp hd
          exact hk b (pb.mem_iff.mp hb)) fun d hd => ?_) (by rw [lv, sizeLine_eq]; omega) ⟨.none, rfl, ?_⟩) (args_list_sort _)))
  · obtain ⟨b, hb, rfl⟩ := List.mem_map.mp hd
    have := hu b (pb.mem_iff.mp hb)
    show A.units + 1 + 1 + _ < _
    omega
  · obtain ⟨c, hc'⟩ := sortedHeap_at (vs := vs) (out := (PySem.W.sortVals (PySem.W.dataKind (PySem.W.sortingHeap (s1.heap.push (seqObj "list" vs.toArray 0)) s1.heap.objs.size vs) (bs.map enc)) false vs vs).toArray) oL
    refine wpAny_pure ⟨_, rfl, k _ s1.heap.objs.size _ c bs (fun b u e => ?_) g1 o1 z1 hc' pb (by simpa using PySem.W.sortVals_data false eb er hal')⟩
    have q := k1 b u e
    have lt := Heap.lt_size q
    refine (sortedHeap_old (Nat.ne_of_lt lt) (by rw [size_push']; exact Nat.lt_succ_of_lt lt)).trans ?_
    exact Heap.get?_push_of_some _ q
end
section
open SetN SE
theorem fits_own {P : Program} {w : World} {L : List (Addr × NestedKey)} {es : Array (Int × Value)} {t : SetTable} (rows : es.toList = L.map (row (nestedKind P w))) (tab : TabW t (L.map fun p => (nestedKind P w).hash p.2)) (wide : L.length * 5 < t.mask * 3) : t.fits es.size = true := by
  have h1 := tab.sz
  rw [List.length_map] at h1
  have h2 := rows_size rows
  unfold SetTable.fits SetTable.fill
  rw [tab.dm, Bool.and_eq_true, beq_iff_eq, decide_eq_true_eq]
  exact ⟨h1.trans h2.symm, by show t.place.size + 0 ≤ t.mask; omega⟩
/-- at a a set of the tuples L -/
def SetNOW (P : Program) (w : World) (a : Addr) (L : List (Addr × NestedKey)) : HO := .ext fun h => ∃ es ep t, (∃ o, h.get? a = some o ∧ o.ExactSet ∧ o.data = .set es ep t) ∧ es.toList = L.map (row (nestedKind P w)) ∧ TabW t (L.map fun p => (nestedKind P w).hash p.2) ∧ (L.map Prod.snd).Nodup ∧ (w.params.followText "set-order" = true ∨ t.led = true) ∧ L.length * 5 < t.mask * 3 ∧ L.length < 300
theorem setNOW_new {P : Program} {w : World} {H : Hp} {h : Heap} {a : Addr} {L : List (Addr × NestedKey)} {es : Array (Int × Value)} {ep : Nat} {t : SetTable} (R : Held (nestedKind P w) h a L es ep t) : ObjOk P w H h a (SetNOW P w a L) := by
  obtain ⟨⟨o, ho, hex, hd⟩, rows, tab, nd, own, led, wide, few⟩ := R
  exact ⟨⟨es, ep, t, ⟨o, ho, hex, hd⟩, rows, tab, nd, led, wide, few⟩, ⟨o, ho⟩, fun h1 h2 ⟨es2, ep2, t2, ⟨o2, ho2, r⟩, r2⟩ keep => ⟨es2, ep2, t2, ⟨o2, keep _ ho2, r⟩, r2⟩⟩
section
variable {X : Cx}
def rSetNW (K : PySem.W.Frag) (P : Program) (w : World) : List V → Hp → VK → Prop := fun xs H Q => ∃ (l : Addr) (ks : List (Addr × NestedKey)), xs = [V.ref l] ∧ (SqL K H l (ks.map fun p => V.ref p.1) ∨ SqT K H l (ks.map fun p => V.ref p.1)) ∧ (∀ p ∈ ks, Dp K H (.ref p.1) p.2.data ∧ p.2.depth ≤ 8) ∧ ks.length < 299 ∧
  ∀ (L : List (Addr × NestedKey)) (p : Addr), Took ks L → (L.map Prod.snd).Nodup → H p = none → Q (.ref p) (upd H p (SetNOW P w p L))
theorem cr_setNW {K : PySem.W.Frag} {P : Program} {w : World} (hc : X.calm = true) (hu : X.A.units + 64 < cLine) (hK : X.K = K := by rfl) (hP : X.prog = P := by rfl) (hw : X.w = w := by rfl) : CallR X (.type "set") (rSetNW K P w) := by
  subst hK hP hw
  intro pins s σ H xs us Q I r h
  obtain ⟨l, ks, rfl, hs, hk, few, q⟩ := h
  rw [Vals.ref1 r]
  have own : ∀ p ∈ ks, (nestedKind X.prog X.w).is s.heap p.2 p.1 := fun p hp => dp_key I (hk p hp).1 (hk p hp).2
  have room : ∀ B : Around, B.units ≤ X.A.units + 3 → (nestedKind X.prog X.w).room B := fun B hB => by show B.units + 8 < cLine; omega
  have fin : ∀ (h' : Heap) (tk : Nat) L es ep t, Held (nestedKind X.prog X.w) h' s.heap.objs.size L es ep t → Took ks L → (∀ b o, s.heap.get? b = some o → h'.get? b = some o) → EP X pins σ Q (.ref s.heap.objs.size) { s with heap := h', toks := tk } := fun h' tk L es ep t R T keep =>
    ⟨.ref _, upd H s.heap.objs.size (SetNOW X.prog X.w s.heap.objs.size L), I.laid (t' := tk) keep (Nat.le_refl _) (setNOW_new R), rfl, q L _ T R.nd (I.hok.fresh (Nat.le_refl _))⟩
  rcases hs with hs | hs
  · obtain ⟨its, rv, hl, _⟩ := I.list hs
    exact set_list kinds ks (I.ok.hd hc) hl.isList (refs_are rv) own few room fin
  · obtain ⟨its, rv, ht, _⟩ := I.tuple hs
    exact set_tup kinds ks (I.ok.hd hc) ht (refs_are rv) own few room fin
def rSortedNW (K : PySem.W.Frag) (P : Program) (w : World) : List V → Hp → VK → Prop := fun vs H Q => ∃ (a : Addr) (L : List (Addr × NestedKey)), vs = [V.ref a] ∧ H a = some (SetNOW P w a L) ∧ (∀ p ∈ L, Dp K H (.ref p.1) (NestedKey.data p.2) ∧ (NestedKey.data p.2).depth ≤ 50) ∧ PySem.W.AllAlike (L.map fun p => NestedKey.data p.2) ∧ (∀ p ∈ L, ∃ xs, NestedKey.data p.2 = .tuple xs) ∧
  ∀ (bs : List (V × PyData)) (p : Addr), bs.Perm (L.map enN) → H p = none → Q (.ref p) (upd H p (.lst ((SD.sortedD bs).map Prod.fst)))
theorem cr_sortedNW {K : PySem.W.Frag} {P : Program} {w : World} (hc : X.calm = true) (hu : X.A.units + 64 < cLine) (hK : X.K = K := by rfl) (hP : X.prog = P := by rfl) (hw : X.w = w := by rfl) : CallR X (.builtin "sorted") (rSortedNW K P w) := by
  subst hK hP hw
  intro pins s σ H vs us Q I r h
  obtain ⟨a, L, rfl, at_, hd, hal, hk, q⟩ := h
  obtain ⟨es, ep, t, ⟨o, ho, hex, hdt⟩, rows, tab, nd, led, wide, few⟩ := (I.hok a _ at_).1
  have ris := tab.ris
  have fits : t.fits es.size = true := fits_own rows tab wide
  rw [Vals.ref1 r]
  have sz : es.size = L.length := rows_size rows
  have e0 : PySem.W.EachIs (fun (u : Value) (b : V × PyData) => RelV b.1 u) (es.toList.map (·.2)) (L.map enN) := by
    rw [rows]
    have : ∀ L : List (Addr × NestedKey), PySem.W.EachIs (fun (u : Value) (b : V × PyData) => RelV b.1 u) ((L.map (row (nestedKind X.prog X.w))).map (·.2)) (L.map enN) := fun L => by
      induction L with
      | nil => exact .nil
      | cons p L ih => exact .cons rfl ih
    exact this L
  have eL : (L.map enN).map Prod.snd = L.map fun p => NestedKey.data p.2 := by rw [List.map_map]; rfl
  refine sorted_setW (R := fun (u : Value) (b : V × PyData) => RelV b.1 u) (enc := fun b : V × PyData => b.2) ho hex hdt fits (by omega) ris led (I.ok.hd hc) e0 (fun v b hb hv => ?_) (by show PySem.W.AllAlike ((L.map enN).map Prod.snd); rw [eL]; exact hal) (fun b hb => by
      obtain ⟨p, hp, rfl⟩ := List.mem_map.mp hb
      exact hk p hp) (fun b hb => ?_)
    fun s' p out c bs keep g o hp hc' pm he => ?_
  · obtain ⟨p, hp, rfl⟩ := List.mem_map.mp hb
    exact Dp.reads I _ _ _ (hd p hp).1 hv
  · obtain ⟨p, hp, rfl⟩ := List.mem_map.mp hb
    have := (hd p hp).2
    show X.A.units + 4 + (NestedKey.data p.2).depth < cLine
    omega
  · have hn : H p = none := I.hok.fresh hp
    have len : ((SD.sortedD bs).map Prod.fst).length ≤ sizeLine := by
      rw [List.length_map, (SD.sorted_perm bs).length_eq, pm.length_eq, List.length_map, sizeLine_eq]
      omega
    have J : Inv X pins σ (upd H p (.lst ((SD.sortedD bs).map Prod.fst))) { s with heap := s'.heap, gens := s'.gens, drawn := s'.drawn, toks := s'.toks } :=
      I.call (ch := []) (Un.laid keep hp hn) (I.hok.laid keep hp ⟨len, out.toList, c, SD.each_vals he, hc'⟩) (by rw [g]; exact I.bare) (fun _ z => nomatch z)
    have es' : s' = { s with heap := s'.heap, gens := s'.gens, drawn := s'.drawn, toks := s'.toks } := by
      cases s'
      cases s
      cases o
      rfl
    rw [es']
    exact ⟨.ref p, _, J, rfl, q bs p pm hn⟩
end
end
end SetW
set_option maxRecDepth 100000
set_option maxHeartbeats 4000000
/-! the loops of [elt for .. in .. for .. in ..] -/
namespace SC
open PySem PySem.Spec PyProof.Rows L2
section
variable {J J1 : It} {n n1 : Nat} {G G1 : Hp → Prop} {Y Y1 : Nat → Hp → V → Hp → Prop} {g g1 : TG} {tt tt1 : TT} {wi1 : TI} {te : TE} {vs vs1 : List Nat} {σ : L2.St} {H1 : Hp} {D : Addr} {Qd Nx : Hp → Prop}
/-- the inner loop, over J1 -/
theorem lc2_in (wk : L2.Walk J1 n1 G1 Y1) (Pv : Nat → Hp → Prop) (h0 : Pv 0 H1) (hG : ∀ i H, Pv i H → G1 H)
    (hs : ∀ i x H H', i < n1 → Pv i H → Y1 i H x H' → g1 x (wipe σ vs1) H' fun σ3 H5 => wipe σ3 vs1 = wipe σ vs1 ∧ tt1 σ3 H5 fun b H6 => if b = true then te σ3 H6 fun y H7 => ∃ acc, H7 D = some (.lst acc) ∧ acc.length < sizeLine ∧ Pv (i + 1) (upd H7 D (.lst (acc ++ [y]))) else Pv (i + 1) H6) (hd : ∀ H, Pv n1 H → Nx H) :
    ∃ W1 : Nat → Nat → Hp → Prop, (∃ m, W1 0 m H1) ∧ ∀ j k H, W1 j k H →
      (J1.stop j H ∧ Nx H) ∨ (J1.go j H ∧ ∃ Nx1 : Hp → Prop, (∀ H', Nx1 H' → ∃ k', k' < k ∧ W1 (j + 1) k' H') ∧ ∀ x H', J1.yld j H x H' → g1 x (wipe σ vs1) H' fun σ3 H5 => wipe σ3 vs1 = wipe σ vs1 ∧ tt1 σ3 H5 fun b H6 =>
        if b = true then te σ3 H6 fun y H7 => ∃ acc, H7 D = some (.lst acc) ∧ acc.length < sizeLine ∧ Nx1 (upd H7 D (.lst (acc ++ [y]))) else Nx1 H6) := by
  refine ⟨fun i m H => m = n1 - i ∧ i ≤ n1 ∧ Pv i H, ⟨n1, by simp, Nat.zero_le _, h0⟩, ?_⟩
  rintro i m H ⟨rfl, hi, p⟩
  have q := hG i H p
  rcases Nat.lt_or_eq_of_le hi with hlt | e
  · exact .inr ⟨wk.goes i H hlt q, Pv (i + 1), fun H' p' => ⟨n1 - (i + 1), by omega, rfl, hlt, p'⟩, fun x H' y => hs i x H H' hlt p (wk.yields i H x H' hlt q y)⟩
  · rw [e] at p ⊢
    exact .inl ⟨wk.stops H q, hd H p⟩
/-- the outer loop -/
theorem lc2_out (wk : L2.Walk J n G Y) (Pv : Nat → Hp → Prop) (h0 : Pv 0 (upd H1 D (.lst []))) (hG : ∀ i H, Pv i H → G H)
    (hs : ∀ i x H H', i < n → Pv i H → Y i H x H' → g x (wipe σ vs) H' fun σ2 H2 => wipe σ2 vs = wipe σ vs ∧ tt σ2 H2 fun b H3 =>
      if b = true then wi1 σ2 H3 fun J1 H4 => ∃ W1 : Nat → Nat → Hp → Prop, (∃ m, W1 0 m H4) ∧ ∀ j k H, W1 j k H →
        (J1.stop j H ∧ Pv (i + 1) H) ∨ (J1.go j H ∧ ∃ Nx1 : Hp → Prop, (∀ H', Nx1 H' → ∃ k', k' < k ∧ W1 (j + 1) k' H') ∧ ∀ x H', J1.yld j H x H' → g1 x (wipe σ2 vs1) H' fun σ3 H5 => wipe σ3 vs1 = wipe σ2 vs1 ∧ tt1 σ3 H5 fun b H6 =>
          if b = true then te σ3 H6 fun y H7 => ∃ acc, H7 D = some (.lst acc) ∧ acc.length < sizeLine ∧ Nx1 (upd H7 D (.lst (acc ++ [y]))) else Nx1 H6)
      else Pv (i + 1) H3) (hd : ∀ H, Pv n H → Qd H) :
    ∃ W : Nat → Nat → Hp → Prop, (∃ m, W 0 m (upd H1 D (.lst []))) ∧ ∀ i m H, W i m H →
      (J.stop i H ∧ Qd H) ∨ (J.go i H ∧ ∃ Nx : Hp → Prop, (∀ H', Nx H' → ∃ m', m' < m ∧ W (i + 1) m' H') ∧ ∀ x H', J.yld i H x H' → g x (wipe σ vs) H' fun σ2 H2 => wipe σ2 vs = wipe σ vs ∧ tt σ2 H2 fun b H3 =>
        if b = true then wi1 σ2 H3 fun J1 H4 => ∃ W1 : Nat → Nat → Hp → Prop, (∃ m, W1 0 m H4) ∧ ∀ j k H, W1 j k H →
          (J1.stop j H ∧ Nx H) ∨ (J1.go j H ∧ ∃ Nx1 : Hp → Prop, (∀ H', Nx1 H' → ∃ k', k' < k ∧ W1 (j + 1) k' H') ∧ ∀ x H', J1.yld j H x H' → g1 x (wipe σ2 vs1) H' fun σ3 H5 => wipe σ3 vs1 = wipe σ2 vs1 ∧ tt1 σ3 H5 fun b H6 =>
            if b = true then te σ3 H6 fun y H7 => ∃ acc, H7 D = some (.lst acc) ∧ acc.length < sizeLine ∧ Nx1 (upd H7 D (.lst (acc ++ [y]))) else Nx1 H6)
        else Nx H3) := by
  refine ⟨fun i m H => m = n - i ∧ i ≤ n ∧ Pv i H, ⟨n, by simp, Nat.zero_le _, h0⟩, ?_⟩
  rintro i m H ⟨rfl, hi, p⟩
  have q := hG i H p
  rcases Nat.lt_or_eq_of_le hi with hlt | e
  · exact .inr ⟨wk.goes i H hlt q, Pv (i + 1), fun H' p' => ⟨n - (i + 1), by omega, rfl, hlt, p'⟩, fun x H' y => hs i x H H' hlt p (wk.yields i H x H' hlt q y)⟩
  · rw [e] at p ⊢
    exact .inl ⟨wk.stops H q, hd H p⟩
end
end SC
set_option maxRecDepth 100000
set_option maxHeartbeats 8000000
namespace M6
open PySem L2 Evl GP HR SC SetM SetH RQ SetN
theorem tup_put {H : Hp} {rl t : Addr} {us ws : List V} {o : HO} (h : H rl = some (.lst us)) (ht : H t = some (.tup ws)) : upd H rl o t = some (.tup ws) := by
  rw [upd_ne fun e => by rw [e, h] at ht; cases ht]
  exact ht
theorem Lits.put {H : Hp} {rl : Addr} {us vs : List V} {o : HO} {ls : List Lit} (A : Lits H vs ls) (h : H rl = some (.lst us)) : Lits (upd H rl o) vs ls := ⟨A.len, fun i q g => by
  obtain ⟨t, h1, h2⟩ := A.at_ i q g
  exact ⟨t, h1, tup_put h h2⟩⟩
theorem Lits.snoc {H : Hp} {vs : List V} {ls : List Lit} {q : Lit} {t : Addr} (A : Lits H vs ls) (h : H t = some (.tup (litV q))) : Lits H (vs ++ [.ref t]) (ls ++ [q]) := ⟨by simp [A.len], fun i r g => by
  have lu := A.len
  by_cases hj : i < ls.length
  · rw [List.getElem?_append_left hj] at g
    obtain ⟨t, h1, h2⟩ := A.at_ i r g
    exact ⟨t, by rw [List.getElem?_append_left (by omega)]; exact h1, h2⟩
  · rw [List.getElem?_append_right (by omega)] at g
    have e0 : i - ls.length = 0 := by
      by_cases z : i - ls.length = 0
      · exact z
      · rw [List.getElem?_eq_none (by simp; omega)] at g
        cases g
    rw [e0] at g
    obtain rfl : q = r := Option.some.inj g
    exact ⟨t, by rw [List.getElem?_append_right (by omega), show i - vs.length = 0 by omega]; rfl, h⟩⟩
abbrev s_Question_init : Stmt := inClass (top 43) 0
theorem sc_Question_init : FnScope ["self", "clauses", "rows", "literals", "clause", "literal"] ["self", "clauses"] (defScope s_Question_init) := ⟨rfl, rfl, rfl, by decide +kernel, rfl, by decide +kernel, by decide +kernel⟩
theorem passN {X : Cx} : Passes (L2N.CX X.prog X.w) X (fun _ _ _ => False) := L2N.passes_call (W := fun _ _ _ _ => False) NX.takes0 fun _ _ _ _ h => h
/-- the class of questions: its __init__ -/
structure MC (K : PySem.W.Frag) (mg : Str → Option Value) (C fI : Addr) (dI : FuncData) : Prop where
  cl : L2.Cls K C
  n1 : NoAttr K C "clauses"
  n2 : NoAttr K C "atoms"
  n3 : NoAttr K C "truths"
  n4 : NoAttr K C "moments"
  gC : mg "Question" = some (.ref C)
  mkr : Mk K C fI
  FI : Fun K "__init__" "Question.__init__" s_Question_init fI dI
/-- c' is c in normal form -/
def NF (c c' : List Lit) : Prop := AscL c' ∧ ∀ l, l ∈ c' ↔ l ∈ c
/-- the moments that a question lists -/
def MoQ (H : Hp) (fs : List (Str × V)) (cs : List (List Lit)) : Prop := ∃ ua ub m, ∃ ms : List Str, fs = ([("atoms", .ref ua), ("truths", .ref ub), ("moments", .ref m)] : List (Str × V)) ∧ H m = some (.tup (ms.map V.str)) ∧ ∀ z ∈ ms, ∃ c ∈ cs, ∃ l ∈ c, z ∈ namesOf l
/-- a question with these clauses -/
def QAt (C : Addr) (H : Hp) (q : Addr) (us : List V) (cs : List (List Lit)) : Prop := ∃ dx t fs, H q = some (.ins C dx (("clauses", .ref t) :: fs)) ∧ H t = some (.tup us) ∧ Cls H us cs ∧ AscC cs ∧ MoQ H fs cs
structure Args (K : PySem.W.Frag) (H : Hp) (us : List V) (cs : List (List Lit)) (B : List Lit) : Prop where
  len : us.length = cs.length
  at_ : ∀ (i : Nat) (c : List Lit), cs[i]? = some c → ∃ t ws, us[i]? = some (.ref t) ∧ Seq K H t ws ∧ Lits H ws c
  ok : ∀ c ∈ cs, (∀ l ∈ c, LitOk l) ∧ c.length < 63 ∧ ∀ l ∈ c, atomL l ∈ B
  few : cs.length < 298
  pool : B.length ≤ 50
  pooln : (B.flatMap namesOf).length ≤ 50
def spInit (K : PySem.W.Frag) (C : Addr) : Sp := fun vs H Q _ => ∃ (q dx p : Addr) (us : List V) (cs : List (List Lit)) (B : List Lit), vs = [.ref q, .ref p] ∧ H q = some (.ins C dx []) ∧ H p = some (.tup us) ∧ Args K H us cs B ∧
  ∀ (vs' : List V) (ds : List (List Lit)) H', (∀ a o, a ≠ q → H a = some o → H' a = some o) → QAt C H' q vs' ds → (∀ d, d ∈ ds ↔ ∃ c ∈ cs, NF c d) → Q .non H'
theorem Cls.put {H : Hp} {F : Addr} {vs us : List V} {o : HO} {cs : List (List Lit)} (A : Cls H us cs) (h : H F = some (.lst vs)) : Cls (upd H F o) us cs := ⟨A.len, fun i c g => by
  obtain ⟨t, ws, h1, h2, h3⟩ := A.at_ i c g
  exact ⟨t, ws, h1, tup_put h h2, h3.put h⟩⟩
theorem Cls.snoc {H : Hp} {t : Addr} {vs us : List V} {c : List Lit} {cs : List (List Lit)} (A : Cls H us cs) (h : H t = some (.tup vs)) (L : Lits H vs c) : Cls H (us ++ [.ref t]) (cs ++ [c]) := ⟨by rw [List.length_append, List.length_append, A.len]; rfl, fun i e g => by
  by_cases hi : i < cs.length
  · rw [List.getElem?_append_left hi] at g
    obtain ⟨t', ws, h1, h2, h3⟩ := A.at_ i e g
    exact ⟨t', ws, by rw [List.getElem?_append_left (by rw [A.len]; exact hi)]; exact h1, h2, h3⟩
  · rw [List.getElem?_append_right (by omega)] at g
    have e0 : i - cs.length = 0 := by
      by_cases z : i - cs.length = 0
      · exact z
      · rw [List.getElem?_eq_none (by simp; omega)] at g
        cases g
    rw [e0] at g
    obtain rfl : c = e := Option.some.inj g
    exact ⟨t, vs, by rw [List.getElem?_append_right (by rw [A.len]; omega), A.len, e0]; rfl, h, L⟩⟩
theorem Cls.nil {H : Hp} : Cls H [] [] := ⟨rfl, fun i c g => by simp at g⟩
def Kq (q : Addr) (H H' : Hp) : Prop := ∀ a o, a ≠ q → H a = some o → H' a = some o
theorem Kq.ex {q : Addr} {H H' : Hp} (e : Ex H H') : Kq q H H' := fun a o _ h => e a o h
theorem Kq.trans {q : Addr} {H H1 H2 : Hp} (a : Kq q H H1) (b : Kq q H1 H2) : Kq q H H2 := fun x o n h => b x o n (a x o n h)
theorem Kq.put {q : Addr} {H : Hp} {o : HO} : Kq q H (upd H q o) := fun a u n h => by rw [upd_ne n]; exact h
theorem tup_putI {H : Hp} {q t C dx : Addr} {fs : List (Str × V)} {ws : List V} {o : HO} (h : H q = some (.ins C dx fs)) (ht : H t = some (.tup ws)) : upd H q o t = some (.tup ws) := by
  rw [upd_ne fun e => by rw [e, h] at ht; cases ht]
  exact ht
theorem Lits.putI {H : Hp} {q C dx : Addr} {fs : List (Str × V)} {vs : List V} {o : HO} {ls : List Lit} (A : Lits H vs ls) (h : H q = some (.ins C dx fs)) : Lits (upd H q o) vs ls := ⟨A.len, fun i l g => let ⟨t, h1, h2⟩ := A.at_ i l g; ⟨t, h1, tup_putI h h2⟩⟩
theorem Cls.putI {H : Hp} {q C dx : Addr} {fs : List (Str × V)} {us : List V} {o : HO} {cs : List (List Lit)} (A : Cls H us cs) (h : H q = some (.ins C dx fs)) : Cls (upd H q o) us cs := ⟨A.len, fun i c g => let ⟨t, vs, h1, h2, h3⟩ := A.at_ i c g; ⟨t, vs, h1, tup_putI h h2, h3.putI h⟩⟩
theorem truths_at {l : Lit} {z : Str} (h : z ∈ truthsOf l) : z ∈ truthsOf (atomL l) := by
  cases l with
  | yn b x => exact h
  | most x y k => exact absurd h List.not_mem_nil
theorem names_at {l : Lit} {z : Str} (h : z ∈ namesOf l) : z ∈ namesOf (atomL l) := by
  cases l with
  | yn b x => exact absurd h List.not_mem_nil
  | most x y k =>
    show z ∈ namesOf (if ltS x y = true then Lit.most x y k else Lit.most y x (-k - 1))
    simp only [namesOf, List.mem_cons, List.not_mem_nil, or_false] at h
    by_cases g : ltS x y = true
    · rw [if_pos g]; simp only [namesOf, List.mem_cons, List.not_mem_nil, or_false]; exact h
    · rw [if_neg g]; simp only [namesOf, List.mem_cons, List.not_mem_nil, or_false]; exact h.symm
theorem flat_len {f : Lit → List Str} {n : Nat} (h : ∀ l, (f l).length ≤ n) : ∀ B : List Lit, (B.flatMap f).length ≤ n * B.length
  | [] => Nat.zero_le _
  | l :: B => by
    have h1 := h l
    have h2 := flat_len h B
    rw [List.flatMap_cons, List.length_append, List.length_cons, Nat.mul_add, Nat.mul_one]
    omega
def clOfD : PyData → List Lit
  | .tuple ds => ds.map litOfD
  | _ => []
theorem clOf (c : List Lit) : clOfD (clD c) = c := by
  show (c.map litD).map litOfD = c
  rw [List.map_map]
  exact (List.map_congr_left fun l _ => litOf l).trans (List.map_id c)
theorem Cls.keys {H : Hp} : ∀ {us : List V} {cs : List (List Lit)}, Cls H us cs → ∃ ks : List (Addr × NestedKey), us = ks.map (fun p => V.ref p.1) ∧ ks.map Prod.snd = cs.map clN ∧ ∀ p ∈ ks, ∃ c ∈ cs, p.2 = clN c ∧ ∃ vs, H p.1 = some (.tup vs) ∧ Lits H vs c
  | [], [], _ => ⟨[], rfl, rfl, fun _ h => absurd h List.not_mem_nil⟩
  | [], _ :: _, A => by have := A.len; simp at this
  | _ :: _, [], A => by have := A.len; simp at this
  | v :: us, c :: cs, A => by
    obtain ⟨t, vs, h1, h2, h3⟩ := A.at_ 0 c rfl
    obtain rfl : v = .ref t := Option.some.inj h1
    obtain ⟨ks, e1, e2, hk⟩ := Cls.keys (us := us) (cs := cs) ⟨by have := A.len; simpa using this, fun i r h => A.at_ (i + 1) r h⟩
    refine ⟨(t, clN c) :: ks, by rw [e1]; rfl, by rw [List.map_cons, e2]; rfl, fun p hp => ?_⟩
    rcases List.mem_cons.mp hp with rfl | hp
    · exact ⟨c, List.mem_cons_self, rfl, vs, h2, h3⟩
    · obtain ⟨m, hm, r⟩ := hk p hp
      exact ⟨m, List.mem_cons_of_mem _ hm, r⟩
theorem Cls.of_each {H : Hp} {bs : List (V × PyData)} (h : ∀ b ∈ bs, ∃ t c vs, b.1 = .ref t ∧ b.2 = clD c ∧ H t = some (.tup vs) ∧ Lits H vs c) : Cls H (bs.map Prod.fst) (bs.map fun b => clOfD b.2) := ⟨by rw [List.length_map, List.length_map], fun i c hl => by
  rw [List.getElem?_map] at hl
  obtain ⟨b, hb, rfl⟩ := Option.map_eq_some_iff.mp hl
  obtain ⟨t, c, vs, e1, e2, ht, L⟩ := h b (List.mem_of_getElem? hb)
  exact ⟨t, vs, by rw [List.getElem?_map, hb, ← e1]; rfl, ht, by rw [e2, clOf]; exact L⟩⟩
theorem sort_cls {H : Hp} {L : List (Addr × NestedKey)} {ds : List (List Lit)} {bs : List (V × PyData)} (each : ∀ q ∈ L, ∃ c ∈ ds, q.2 = clN c ∧ ∃ vs, H q.1 = some (.tup vs) ∧ Lits H vs c) (got : ∀ c ∈ ds, clN c ∈ L.map Prod.snd) (nd : (L.map Prod.snd).Nodup) (pm : bs.Perm (L.map SetN.enN)) :
    ∃ es, Cls H ((SD.sortedD bs).map Prod.fst) es ∧ AscC es ∧ ∀ c, c ∈ es ↔ c ∈ ds := by
  have pm2 := (SD.sorted_perm bs).trans pm
  have so0 := sortedD_pw bs
  generalize SD.sortedD bs = xs at *
  have each2 : ∀ b ∈ xs, ∃ t c vs, b.1 = .ref t ∧ b.2 = clD c ∧ H t = some (.tup vs) ∧ Lits H vs c ∧ c ∈ ds := fun b hb => by
    obtain ⟨q, hq, rfl⟩ := List.mem_map.mp (pm2.mem_iff.mp hb)
    obtain ⟨c, hc, e, vs, ht, L'⟩ := each q hq
    exact ⟨q.1, c, vs, rfl, by show NestedKey.data q.2 = _; rw [e, clN_D], ht, L', hc⟩
  refine ⟨xs.map fun b => clOfD b.2, Cls.of_each fun b hb => ?_, asc_cls ?_ ?_, fun c => ⟨fun h => ?_, fun h => ?_⟩⟩
  · obtain ⟨t, c, vs, h1, h2, h3, h4, _⟩ := each2 b hb
    exact ⟨t, c, vs, h1, h2, h3, h4⟩
  · refine List.pairwise_map.mpr (so0.imp_of_mem fun {p q} hp hq z => ?_)
    obtain ⟨_, l, _, _, e1, _⟩ := each2 p hp
    obtain ⟨_, m, _, _, e2, _⟩ := each2 q hq
    rw [e1, e2, clOf, clOf, ← e1, ← e2]
    exact z
  · have e : (xs.map fun b => clOfD b.2).Perm (L.map fun q => clOfD (NestedKey.data q.2)) := by
      have := pm2.map fun b : V × PyData => clOfD b.2
      rwa [List.map_map] at this
    rw [e.nodup_iff]
    have nd2 : L.Pairwise fun q r => q.2 ≠ r.2 := List.pairwise_map.mp nd
    refine List.pairwise_map.mpr (List.Pairwise.imp_of_mem (fun {q r} hq hr n z => n ?_) nd2)
    obtain ⟨l, _, e1, _⟩ := each q hq
    obtain ⟨m, _, e2, _⟩ := each r hr
    rw [e1, e2, clN_D, clN_D, clOf, clOf] at z
    rw [e1, e2, z]
  · obtain ⟨b, hb, rfl⟩ := List.mem_map.mp h
    obtain ⟨t, l, vs, e1, e2, _, _, hl⟩ := each2 b hb
    rw [e2, clOf]
    exact hl
  · obtain ⟨r, hr, e2⟩ := List.mem_map.mp (got c h)
    refine List.mem_map.mpr ⟨SetN.enN r, pm2.mem_iff.mpr (List.mem_map_of_mem hr), ?_⟩
    show clOfD (NestedKey.data r.2) = c
    rw [e2, clN_D, clOf]
theorem Args.ex {K : PySem.W.Frag} {H H' : Hp} {us : List V} {cs : List (List Lit)} {B : List Lit} (A : Args K H us cs B) (e : Ex H H') : Args K H' us cs B := { A with at_ := fun i c h => let ⟨t, ws, h1, h2, h3⟩ := A.at_ i c h; ⟨t, ws, h1, h2.ex e, h3.ex e⟩ }
section
variable {P : Program} {w : World} {K : PySem.W.Frag} {mg : Str → Option Value} {base : Heap} {a : Ad} {d : Fd} {fL fC fW C fI : Addr} {dI : FuncData}
theorem ok_init (T : TX K mg a) (D : FDS K a d) (R : ER K mg P a fL fC fW) (M : MC K mg C fI dI) : FnR P w K mg base CX0 7 fI (fun vs H Q E => ∃ ws rest, vs = ws ++ rest ∧ ws.length = ["self"].length ∧ rest.length ≤ sizeLine ∧ ∀ p, H p = Option.none → spInit K C (ws ++ [V.ref p]) (upd H p (.tup rest)) Q E) := by
  have G_clause_of : FnOk P w K mg base (L2N.CX P w) 5 a.a_clause_of d.a_clause_of ["literals"] (spClause K a.cL a.cC) := ok_clause_of T D R
  have G_atoms_of : FnOk P w K mg base (L2N.CX P w) 6 a.a_atoms_of d.a_atoms_of ["literals"] (spAtoms K a.cL) := ok_atoms_of T D R
  have G_truths_of : FnOk P w K mg base CX0 3 a.a_truths_of d.a_truths_of ["literals"] (spTruths K) := ok_truths_of T D
  have G_moments_of : FnOk P w K mg base CX0 3 a.a_moments_of d.a_moments_of ["literals"] (spMoments K) := ok_moments_of T D
  obtain ⟨oc, od, kV, doc, pm, an, cdv, ct, osl, rfl, lk, hcd⟩ := M.FI.ex
  refine StX.fn_star (ps := ["self"]) (pv := "clauses") (sp := spInit K C) lk hcd sc_Question_init StX.cxUp_none (fun us rest hl => match us, rest, hl with | [_], [], _ => rfl | [_], _ :: _, _ => rfl) (fun A outer s H vs Q E hr h => ?_)
  obtain ⟨q, dx, p, us, cs, B, rfl, hq, hp, AR, fin⟩ := h
  have hr5 : Room 5 _ := hr.mono (by decide)
  have hr6 : Room 6 _ := hr.mono (by decide)
  have hr3 : Room 3 _ := hr.mono (by decide)
  refine ⟨_, (pss_cons (ps_setLc (i := 2) (own := [("clause", 4)]) (g := gName 4) (tt := tYes) rfl sc_Question_init.nd rfl rfl (sw_true rfl rfl rfl (by decide +kernel)) (pi_tup (pv 1)) (blkOk_by (N := ["self", "clauses", "rows", "literals", "clause", "literal"]) (sc := defScope s_Question_init) (by decide +kernel)) (fun _ _ _ _ _ => (pg_name (i := 4) sc_Question_init.nd rfl (Or.inl rfl))) (fun _ _ _ _ _ => pts_nil) (fun _ _ _ _ _ => (pe_call G_clause_of hr5 rfl T.f_clause_of T.k_clause_of D.B_clause_of .nil passN (pa_cons (pv 4) pa_nil))))
    (pss_cons (ps_fld (pv 0) (pe_callTy call_tuple_of (by rfl) T.b_tuple (by decide +kernel) (pa_cons (pe_callB (SetW.cr_sortedNW (K := K) (P := P) (w := w) rfl hr.units) (by rfl) T.b_sorted (by decide +kernel) (pa_cons (pe_callTy (SetW.cr_setNW (K := K) (P := P) (w := w) rfl hr.units) (by rfl) T.b_set (by decide +kernel) (pa_cons (pv 2) pa_nil)) pa_nil)) pa_nil)) rfl)
    (pss_cons (ps_setLc2 (i := 3) (own := [("clause", 4), ("literal", 5)]) (vs1 := [5]) (g := gName 4) (g1 := gName 5) (tt := tYes) (tt1 := tYes) rfl sc_Question_init.nd rfl rfl (sw_true rfl rfl rfl (by decide +kernel)) (pi_tup (pe_fld (pv 0) rfl)) (blkOk_by (N := ["self", "clauses", "rows", "literals", "clause", "literal"]) (sc := defScope s_Question_init) (by decide +kernel)) (by decide) (fun _ _ _ _ _ => (pg_name (i := 4) sc_Question_init.nd rfl (Or.inl rfl))) (fun _ _ _ _ _ => pts_nil) (fun _ _ _ _ _ => (pi_tupK (K := K) (pv 4))) (fun _ _ _ _ _ => (pg_name (i := 5) sc_Question_init.nd rfl (Or.inl rfl))) (fun _ _ _ _ _ => pts_nil) (fun _ _ _ _ _ => (pv 5)))
    (pss_cons (ps_fld (pv 0) (pe_call G_atoms_of hr6 rfl T.f_atoms_of T.k_atoms_of D.B_atoms_of .nil passN (pa_cons (pv 3) pa_nil)) rfl)
    (pss_cons (ps_fld (pv 0) (pe_call G_truths_of hr3 rfl T.f_truths_of T.k_truths_of D.B_truths_of .nil pass0 (pa_cons (pv 3) pa_nil)) rfl)
    (pss_one (ps_fld (pv 0) (pe_call G_moments_of hr3 rfl T.f_moments_of T.k_moments_of D.B_moments_of .nil pass0 (pa_cons (pv 3) pa_nil)) rfl))))))), ?_⟩
  have big : 1000 ≤ sizeLine := by decide
  have c63 := AR.few
  have lu := AR.len
  refine ⟨_, rfl, p, rfl, ⟨_, SqT.of hp⟩, fun F hF => lc_it (H1 := H) (walk_tup (xs := us)) (fun i H' => Ex H H' ∧ ∃ rs ds, H' F = some (.lst rs) ∧ Cls H' rs ds ∧ rs.length = i ∧ ∀ j c, j < i → cs[j]? = some c → ∃ d, ds[j]? = some d ∧ NF c d) ⟨Ex.new hF, [], [], upd_same, Cls.nil, rfl, fun j c h => absurd h (Nat.not_lt_zero _)⟩ (fun i H' _ h => SqT.of (h.1 _ _ hp)) ?_ (fun H2 h => ?_)⟩
  · rintro i x H2 H2' hi ⟨e2, rs, ds, hF2, CL, lr, each⟩ ⟨rfl, hx⟩
    obtain ⟨c, hc⟩ : ∃ c, cs[i]? = some c := ⟨cs[i]'(by omega), List.getElem?_eq_getElem _⟩
    obtain ⟨t, ws, h1, sq, LW⟩ := (AR.ex e2).at_ i c hc
    obtain rfl : x = .ref t := Option.some.inj (hx.symm.trans h1)
    have okc := AR.ok c (List.mem_of_getElem? hc)
    unfold gName
    dsimp only
    refine ⟨rfl, _, rfl, .ref t, rfl, .inl ⟨t, ws, c, rfl, sq, LW, okc.1, okc.2.1, fun u us' c' H3 e3 hu L' mem asc => ⟨rs, e3 _ _ hF2, by omega, Ex.mut (e2.trans e3) hF, rs ++ [.ref u], ds ++ [c'], upd_same, ?_, by rw [List.length_append, lr]; rfl, fun j c2 hj h2 => ?_⟩⟩⟩
    · exact ((CL.ex e3).put (e3 _ _ hF2)).snoc (tup_put (e3 _ _ hF2) hu) (L'.put (e3 _ _ hF2))
    · have ld : ds.length = i := by rw [← CL.len, lr]
      by_cases g : j < i
      · obtain ⟨d', h3, h4⟩ := each j c2 g h2
        exact ⟨d', by rw [List.getElem?_append_left (by omega)]; exact h3, h4⟩
      · have e : j = i := by omega
        rw [e] at h2 ⊢
        rw [hc] at h2
        obtain rfl := Option.some.inj h2
        exact ⟨c', by rw [List.getElem?_append_right (by omega), ld, Nat.sub_self]; rfl, asc, mem⟩
  · obtain ⟨e2, rs, ds, hF2, CL, lr, each⟩ := h
    have ldd : ds.length = cs.length := by rw [← CL.len, lr, lu]
    obtain ⟨ks, eks, esn, hk⟩ := CL.keys
    have lks : ks.length = cs.length := by rw [← List.length_map (f := Prod.snd), esn, List.length_map, ldd]
    have hq2 := e2 _ _ hq
    refine ⟨_, rfl, F, ks, rfl, .inl (SqL.of (by rw [← eks]; exact hF2)), fun p hp => ?_, by omega, fun L S took nd hS => ?_⟩
    · obtain ⟨c, _, e, vs, h1, h2⟩ := hk p hp
      rw [e, clN_D]
      exact ⟨cl_dp h1 h2, clN_depth c⟩
    have x3 := Ex.new (o := SetW.SetNOW P w S L) hS
    have eachL : ∀ q ∈ L, ∃ c ∈ ds, q.2 = clN c ∧ ∃ vs, upd H2 S (SetW.SetNOW P w S L) q.1 = some (.tup vs) ∧ Lits (upd H2 S (SetW.SetNOW P w S L)) vs c := fun q hq => by
      obtain ⟨c, hc, e, vs, h1, h2⟩ := hk q (took.from_ q hq)
      exact ⟨c, hc, e, vs, x3 _ _ h1, h2.ex x3⟩
    have hS3 : upd H2 S (SetW.SetNOW P w S L) S = some (SetW.SetNOW P w S L) := upd_same
    have gotL : ∀ c ∈ ds, clN c ∈ L.map Prod.snd := fun c hc => by
      have : clN c ∈ ks.map Prod.snd := by rw [esn]; exact List.mem_map_of_mem hc
      obtain ⟨r, hr, e⟩ := List.mem_map.mp this
      rw [← e]
      exact took.got r hr
    generalize upd H2 S (SetW.SetNOW P w S L) = H3 at *
    refine ⟨S, L, rfl, hS3, fun q hq => ?_, ?_, fun q hq => ?_, fun bs r pm hr => ⟨r, _, rfl, .inl ⟨SqL.of upd_same, fun t ht => ?_⟩⟩⟩
    · obtain ⟨c, _, e, vs, h1, h2⟩ := eachL q hq
      rw [e, clN_D]
      exact ⟨cl_dp h1 h2, cl_depth c⟩
    · intro x hx y hy
      obtain ⟨q, hq, rfl⟩ := List.mem_map.mp hx
      obtain ⟨r, hr, rfl⟩ := List.mem_map.mp hy
      obtain ⟨c, _, e, _⟩ := eachL q hq
      obtain ⟨m, _, e2, _⟩ := eachL r hr
      rw [e, e2, clN_D, clN_D]
      exact cl_alike _ _
    · obtain ⟨c, _, e, _⟩ := eachL q hq
      rw [e, clN_D]
      exact ⟨_, rfl⟩
    -- self.clauses
    obtain ⟨es, ES3, ascE, memE⟩ := sort_cls eachL gotL nd pm
    generalize (SD.sortedD bs).map Prod.fst = ys at *
    have x4 := (Ex.new (o := .lst ys) hr).trans (Ex.new (o := .tup ys) ht)
    have ht4 : upd (upd H3 r (.lst ys)) t (.tup ys) t = some (.tup ys) := upd_same
    have ES4 := ES3.ex x4
    have e04 := e2.trans (x3.trans x4)
    have hq4 := e04 _ _ hq
    generalize upd (upd H3 r (.lst ys)) t (.tup ys) = H4 at *
    have memN : ∀ c', c' ∈ es ↔ ∃ c ∈ cs, NF c c' := fun c' => by
      rw [memE c']
      constructor
      · intro h
        obtain ⟨j, hj⟩ := List.mem_iff_getElem?.mp h
        have jl : j < cs.length := by have := (List.getElem?_eq_some_iff.mp hj).1; omega
        obtain ⟨d', h3, h4⟩ := each j cs[j] (by omega) (List.getElem?_eq_getElem jl)
        rw [hj] at h3
        obtain rfl := Option.some.inj h3
        exact ⟨_, List.getElem_mem jl, h4⟩
      · rintro ⟨c, hc, nf⟩
        obtain ⟨j, hj⟩ := List.mem_iff_getElem?.mp hc
        obtain ⟨d', h3, h4⟩ := each j c (by have := (List.getElem?_eq_some_iff.mp hj).1; omega) hj
        obtain rfl : c' = d' := ascL_same nf.1 h4.1 fun z => (nf.2 z).trans (h4.2 z).symm
        exact List.mem_of_getElem? h3
    have eok : ∀ c ∈ es, (∀ l ∈ c, LitOk l) ∧ c.length ≤ 63 ∧ ∀ l ∈ c, atomL l ∈ B := fun c hc => by
      obtain ⟨c0, h0, nf⟩ := (memN c).mp hc
      obtain ⟨o1, o2, o3⟩ := AR.ok c0 h0
      have := sub_lenA (asc_nodup nf.1) fun z hz => (nf.2 z).mp hz
      exact ⟨fun l hl => o1 l ((nf.2 l).mp hl), by omega, fun l hl => o3 l ((nf.2 l).mp hl)⟩
    have esl : es.length ≤ 298 := by
      have h1 := ES4.len
      have nde : es.Nodup := ascE.imp fun {a b} h e => by
        rw [e, show PySem.W.dataLt (clD b) (clD b) = false from PyProof.Rows.lex_irrefl _] at h
        cases h
      have := sub_lenA nde fun z hz => (memE z).mp hz
      omega
    have ne4 : ∀ b ws, H4 b = some (.tup ws) → b ≠ q := fun b ws h z => by rw [z, hq4] at h; cases h
    refine ⟨_, rfl, q, C, dx, [], rfl, hq4, M.cl, M.n1, (by show 0 < 1000; decide), ?_⟩
    have keep5 : ∀ b o, b ≠ q → H4 b = some o → upd H4 q (.ins C dx (putF "clauses" (.ref t) [])) b = some o := fun b o n h => by rw [upd_ne n]; exact h
    have hq5 : upd H4 q (.ins C dx (putF "clauses" (.ref t) [])) q = some (.ins C dx [("clauses", .ref t)]) := upd_same
    have ht5 := keep5 _ _ (ne4 _ _ ht4) ht4
    have ES5 : Cls (upd H4 q (.ins C dx (putF "clauses" (.ref t) []))) ys es := ⟨ES4.len, fun i c g => by
      obtain ⟨u, vs, h1, h2, h3⟩ := ES4.at_ i c g
      exact ⟨u, vs, h1, keep5 _ _ (ne4 _ _ h2) h2, ⟨h3.len, fun j l gl => let ⟨t', g1, g2⟩ := h3.at_ j l gl; ⟨t', g1, keep5 _ _ (ne4 _ _ g2) g2⟩⟩⟩⟩
    generalize upd H4 q (.ins C dx (putF "clauses" (.ref t) [])) = H5 at *
    -- the literals
    refine ⟨_, rfl, q, C, dx, _, _, rfl, hq5, M.cl, M.n1, rfl, t, rfl, ⟨_, SqT.of ht5⟩, fun G hG => SC.lc2_out (walk_tup (xs := ys)) (fun i H' => Ex H5 H' ∧ ∃ ls vs, H' G = some (.lst vs) ∧ Lits H' vs ls ∧ vs.length ≤ 63 * i ∧ ∀ l ∈ ls, ∃ c ∈ es, l ∈ c) ⟨Ex.new hG, [], [], upd_same, Lits.nil, Nat.le_refl _, fun _ h => absurd h List.not_mem_nil⟩ (fun i H' h => SqT.of (h.1 _ _ ht5)) ?_ (fun H6 h => ?_)⟩
    · rintro i x H6 H6' hi ⟨e6, ls, vs, hG6, LS, lv, lsub⟩ ⟨rfl, hx⟩
      have hie : i < es.length := by rw [← ES5.len]; exact hi
      obtain ⟨u, ws, h1, h2, h3⟩ := (ES5.ex e6).at_ i es[i] (List.getElem?_eq_getElem hie)
      obtain rfl : x = .ref u := Option.some.inj (hx.symm.trans h1)
      have cm : es[i] ∈ es := List.getElem_mem hie
      generalize es[i] = c at *
      have okc := eok c cm
      have lw := h3.len
      unfold gName
      dsimp only
      refine ⟨rfl, _, rfl, u, rfl, ⟨_, SqT.of h2⟩, ?_⟩
      refine SC.lc2_in (D := G) (g1 := gName 5) (tt1 := tYes) (te := tVar 5) (vs1 := [5]) (Nx := fun H' => Ex H5 H' ∧ ∃ ls vs, H' G = some (.lst vs) ∧ Lits H' vs ls ∧ vs.length ≤ 63 * (i + 1) ∧ ∀ l ∈ ls, ∃ c ∈ es, l ∈ c) (walk_tup (xs := ws)) (fun j H' => Ex H5 H' ∧ H' u = some (.tup ws) ∧ Lits H' ws c ∧ ∃ ls vs, H' G = some (.lst vs) ∧ Lits H' vs ls ∧ vs.length ≤ 63 * i + j ∧ ∀ l ∈ ls, ∃ c ∈ es, l ∈ c) ⟨e6, h2, h3, ls, vs, hG6, LS, by omega, lsub⟩ (fun j H' h => SqT.of h.2.1) ?_ (fun H7 ⟨e7, _, _, ls, vs, g1, g2, g3, g4⟩ => ⟨e7, ls, vs, g1, g2, by omega, g4⟩)
      rintro j y H7 H7' hj ⟨e7, hu7, LC, ls, vs, g1, g2, g3, g4⟩ ⟨rfl, hy⟩
      obtain ⟨t', l, rfl, hl, ht'⟩ := LC.get hy
      unfold gName
      dsimp only
      have big4 : 100000 ≤ sizeLine := by decide
      refine ⟨rfl, _, rfl, vs, g1, by omega, Ex.mut e7 hG, tup_put g1 hu7, LC.put g1, ls ++ [l], vs ++ [.ref t'], upd_same, (g2.put g1).snoc (tup_put g1 ht'), by rw [List.length_append, List.length_singleton]; omega, fun m hm => ?_⟩
      rcases List.mem_append.mp hm with hm | hm
      · exact g4 m hm
      · rw [List.mem_singleton.mp hm]
        exact ⟨c, cm, List.mem_of_getElem? hl⟩
    · obtain ⟨e6, ls, vs, hG6, LS, lv, lsub⟩ := h
      have hq6 := e6 _ _ hq5
      have ht6 := e6 _ _ ht5
      have ES6 := ES5.ex e6
      have k06 : Kq q H H6 := (Kq.ex e04).trans (Kq.trans (fun b o n h => keep5 b o n h) (Kq.ex e6))
      have okls : ∀ l ∈ ls, LitOk l := fun l hl => let ⟨c, hc, h⟩ := lsub l hl; (eok c hc).1 l h
      have atls : ∀ l ∈ ls, atomL l ∈ B := fun l hl => let ⟨c, hc, h⟩ := lsub l hl; (eok c hc).2.2 l h
      have b25 := AR.pool
      have b26 := AR.pooln
      have hGq : ∀ {H' : Hp}, H' G = some (.lst vs) → ∀ {fs : List (Str × V)}, H' q = some (.ins C dx fs) → G ≠ q := by
        intro H' h1 fs h2 z
        rw [z, h2] at h1
        cases h1
      refine ⟨_, rfl, G, vs, rfl, .inl (SqL.of hG6), .inl ⟨ls, B, LS, okls, by omega, atls, fun ua usa lsa H7 e7 hua _ _ _ => ?_⟩⟩
      have hq7 := e7 _ _ hq6
      have hG7 := e7 _ _ hG6
      refine ⟨_, rfl, q, C, dx, _, rfl, hq7, M.cl, M.n2, (by show 1 < 1000; decide), ?_⟩
      have hq8 : upd H7 q (.ins C dx (putF "atoms" (.ref ua) [("clauses", .ref t)])) q = some (.ins C dx [("clauses", .ref t), ("atoms", .ref ua)]) := upd_same
      have k08 : Kq q H (upd H7 q (.ins C dx (putF "atoms" (.ref ua) [("clauses", .ref t)]))) := (k06.trans (Kq.ex e7)).trans Kq.put
      have hG8 := Kq.put (o := .ins C dx (putF "atoms" (.ref ua) [("clauses", .ref t)])) _ _ (hGq hG7 hq7) hG7
      have ht8 := tup_putI (o := .ins C dx (putF "atoms" (.ref ua) [("clauses", .ref t)])) hq7 (e7 _ _ ht6)
      have LS8 := (LS.ex e7).putI (o := .ins C dx (putF "atoms" (.ref ua) [("clauses", .ref t)])) hq7
      have ES8 := (ES6.ex e7).putI (o := .ins C dx (putF "atoms" (.ref ua) [("clauses", .ref t)])) hq7
      generalize upd H7 q (.ins C dx (putF "atoms" (.ref ua) [("clauses", .ref t)])) = H8 at *
      have tl : (B.flatMap truthsOf).length ≤ 1 * B.length := flat_len (fun l => by cases l <;> simp [truthsOf]) B
      have nl : (B.flatMap namesOf).length ≤ 2 * B.length := flat_len (fun l => by cases l <;> simp [namesOf]) B
      refine ⟨_, rfl, G, vs, ls, B.flatMap truthsOf, rfl, SqL.of hG8, LS8, okls, by omega, fun l hl z hz => List.mem_flatMap.mpr ⟨_, atls l hl, truths_at hz⟩, fun ub H9 e9 => ?_⟩
      have hq9 := e9 _ _ hq8
      have hG9 := e9 _ _ hG8
      refine ⟨_, rfl, q, C, dx, _, rfl, hq9, M.cl, M.n3, (by show 2 < 1000; decide), ?_⟩
      have hq10 : upd H9 q (.ins C dx (putF "truths" (.ref ub) [("clauses", .ref t), ("atoms", .ref ua)])) q = some (.ins C dx [("clauses", .ref t), ("atoms", .ref ua), ("truths", .ref ub)]) := upd_same
      have k10 : Kq q H (upd H9 q (.ins C dx (putF "truths" (.ref ub) [("clauses", .ref t), ("atoms", .ref ua)]))) := (k08.trans (Kq.ex e9)).trans Kq.put
      have hG10 := Kq.put (o := .ins C dx (putF "truths" (.ref ub) [("clauses", .ref t), ("atoms", .ref ua)])) _ _ (hGq hG9 hq9) hG9
      have ht10 := tup_putI (o := .ins C dx (putF "truths" (.ref ub) [("clauses", .ref t), ("atoms", .ref ua)])) hq9 (e9 _ _ ht8)
      have LS10 := (LS8.ex e9).putI (o := .ins C dx (putF "truths" (.ref ub) [("clauses", .ref t), ("atoms", .ref ua)])) hq9
      have ES10 := (ES8.ex e9).putI (o := .ins C dx (putF "truths" (.ref ub) [("clauses", .ref t), ("atoms", .ref ua)])) hq9
      generalize upd H9 q (.ins C dx (putF "truths" (.ref ub) [("clauses", .ref t), ("atoms", .ref ua)])) = H10 at *
      refine ⟨_, rfl, G, vs, ls, B.flatMap namesOf, rfl, SqL.of hG10, LS10, okls, by omega, fun l hl z hz => List.mem_flatMap.mpr ⟨_, atls l hl, names_at hz⟩, fun uc yc H11 e11 huc _ _ memM => ?_⟩
      have hq11 := e11 _ _ hq10
      refine ⟨_, rfl, q, C, dx, _, rfl, hq11, M.cl, M.n4, (by show 3 < 1000; decide), ?_⟩
      exact fin ys es _ ((k10.trans (Kq.ex e11)).trans Kq.put) ⟨dx, t, _, upd_same, tup_putI hq11 (e11 _ _ ht10), (ES10.ex e11).putI hq11, ascE, ua, ub, uc, yc, rfl, tup_putI hq11 huc, fun z hz => let ⟨l, hl, hz'⟩ := (memM z).mp hz; let ⟨c, hc, hlc⟩ := lsub l hl; ⟨c, hc, l, hlc, hz'⟩⟩ memN
end
end M6
set_option maxRecDepth 100000
set_option maxHeartbeats 8000000
namespace M6
open PySem L2 Evl GP HR SC SetM SetH RQ SetN
/-- making a question: its arguments, and what it is then -/
def spNew (K : PySem.W.Frag) (C : Addr) : Sp := fun vs H Q _ => ∃ (q dx : Addr) (us : List V) (cs : List (List Lit)) (B : List Lit), vs = .ref q :: us ∧ H q = some (.ins C dx []) ∧ Args K H us cs B ∧
  ∀ (vs' : List V) (ds : List (List Lit)) H', Kq q H H' → QAt C H' q vs' ds → (∀ d, d ∈ ds ↔ ∃ c ∈ cs, NF c d) → Q .non H'
section
variable {P : Program} {w : World} {K : PySem.W.Frag} {mg : Str → Option Value} {base : Heap} {a : Ad} {d : Fd} {fL fC fW C fI : Addr} {dI : FuncData}
theorem ok_new (T : TX K mg a) (D : FDS K a d) (R : ER K mg P a fL fC fW) (M : MC K mg C fI dI) : FnR P w K mg base CX0 7 fI (spNew K C) := (ok_init T D R M).imp fun vs H Q E h => by
  obtain ⟨q, dx, us, cs, B, rfl, hq, A, fin⟩ := h
  have c63 := A.few
  have lu := A.len
  have big : 1000 ≤ sizeLine := by decide
  refine ⟨[.ref q], us, rfl, rfl, by omega, fun p hp => ?_⟩
  have x1 := Ex.new (o := .tup us) hp
  exact ⟨q, dx, p, us, cs, B, rfl, x1 _ _ hq, upd_same, A.ex x1, fun vs' ds H' k Qa mem => fin vs' ds H' (fun b o n h => k b o n (x1 _ _ h)) Qa mem⟩
theorem make_go {H1 : Hp} {us : List V} {cs : List (List Lit)} {B : List Lit} {Q : VK} {E : XK} (A : Args K H1 us cs B) (fin : ∀ (x : Addr) (vs' : List V) (ds : List (List Lit)) H', Ex H1 H' → H1 x = none → QAt C H' x vs' ds → (∀ d, d ∈ ds ↔ ∃ c ∈ cs, NF c d) → Q (.ref x) H') :
    ∀ x dx, H1 x = Option.none → H1 dx = Option.none → dx ≠ x → spNew K C (V.ref x :: us) (upd (upd H1 dx (.own x)) x (.ins C dx [])) (fun v H2 => v = .non ∧ Q (.ref x) H2) E := fun x dx hx hdx ne => by
  have e : Ex H1 (upd (upd H1 dx (.own x)) x (.ins C dx [])) := fun b o h => by
    rw [upd_ne (fun z => by rw [z, hx] at h; cases h), upd_ne (fun z => by rw [z, hdx] at h; cases h)]
    exact h
  refine ⟨x, dx, us, cs, B, rfl, upd_same, A.ex e, fun vs' ds H' k Qa mem => ⟨rfl, fin x vs' ds H' (fun b o h => k b o (fun z => by rw [z, hx] at h; cases h) (e b o h)) hx Qa mem⟩⟩
end
end M6
set_option maxRecDepth 100000
set_option maxHeartbeats 8000000
namespace M6
open PySem L2 Evl GP HR SC SetM SetH RQ SetN
theorem Lits.zip {H : Hp} : ∀ {vs : List V} {ls : List Lit}, Lits H vs ls → ∃ zs : List (Addr × Lit), vs = zs.map (fun z => V.ref z.1) ∧ ls = zs.map Prod.snd ∧ ∀ z ∈ zs, H z.1 = some (.tup (litV z.2))
  | [], [], _ => ⟨[], rfl, rfl, fun _ h => absurd h List.not_mem_nil⟩
  | [], _ :: _, A => by have := A.len; simp at this
  | _ :: _, [], A => by have := A.len; simp at this
  | v :: vs, l :: ls, A => by
    obtain ⟨t, h1, h2⟩ := A.at_ 0 l rfl
    obtain rfl : v = .ref t := Option.some.inj h1
    obtain ⟨zs, e1, e2, hz⟩ := Lits.zip (vs := vs) (ls := ls) ⟨by have := A.len; simpa using this, fun i r h => A.at_ (i + 1) r h⟩
    refine ⟨(t, l) :: zs, by rw [e1]; rfl, by rw [e2]; rfl, fun z hz' => ?_⟩
    rcases List.mem_cons.mp hz' with rfl | h
    · exact h2
    · exact hz z h
theorem Val.pt {K : PySem.W.Frag} {H : Hp} {v n tm : Addr} {o : Obj} {pa : List Addr} {ns : List Str} {ps : List (Str × Int)} (A : Val H v n tm o pa ns ps) {i : Nat} {q : Str × Int} (h : ps[i]? = some q) : ∃ t, (pa.map V.ref)[i]? = some (.ref t) ∧ SqT K H t [.str q.1, .int q.2] := by
  obtain ⟨t, h1, h2⟩ := A.at_ i q h
  exact ⟨t, by rw [List.getElem?_map, h1]; rfl, SqT.of h2⟩
/-- all these names are listed -/
def spListed0 : Sp := fun vs H Q _ => ∃ (m v n tm : Addr) (o : Obj) (pa : List Addr) (ns : List Str) (ps : List (Str × Int)) (ys : List Str), vs = [.ref m, .ref v] ∧ H m = some (.tup (ys.map V.str)) ∧ Val H v n tm o pa ns ps ∧ (∀ y ∈ ys, y ∈ ps.map Prod.fst) ∧ ∀ H', Ex H H' → Q .non H'
def spStands (K : PySem.W.Frag) : Sp := fun vs H Q _ => ∃ (p n t : Addr) (l : Lit) (ns : List Str) (kvs : List (L2.Key × V)) (tv : Str → Int), vs = [.ref p, .ref n, .ref t] ∧ H p = some (.tup (litV l)) ∧ LitOk l ∧ SqT K H n (ns.map V.str) ∧ H t = some (.dK kvs) ∧ (∀ z ∈ namesOf l, valV kvs (.inr z : L2.Key) = some (.int (tv z))) ∧ ∀ H', Ex H H' → Q (.bl (holdsL ns tv l)) H'
def spStandG : Sp := fun vs H Q _ => ∃ (c v n tm : Addr) (o : Obj) (pa : List Addr) (us : List V) (cs : List (List Lit)) (ns : List Str) (ps : List (Str × Int)), vs = [.ref c, .ref v] ∧ H c = some (.tup us) ∧ Cls H us cs ∧ (∀ c ∈ cs, (∀ l ∈ c, LitOk l) ∧ c.length < 1000) ∧ Val H v n tm o pa ns ps ∧
  (∀ c ∈ cs, ∀ l ∈ c, ∀ z ∈ namesOf l, z ∈ ps.map Prod.fst) ∧ ∀ H', Ex H H' → Q (.bl (cs.all fun c => c.any (holdsL ns (tvOf ps)))) H'
def spMomentsT (K : PySem.W.Frag) : Sp := fun vs H Q _ => ∃ (a : Addr) (us : List V) (ls : List Lit) (pool : List Str), vs = [.ref a] ∧ SqT K H a us ∧ Lits H us ls ∧ (∀ l ∈ ls, LitOk l) ∧ pool.length ≤ 50 ∧ (∀ l ∈ ls, ∀ z ∈ namesOf l, z ∈ pool) ∧
  ∀ u ys H', Ex H H' → H' u = some (.tup (ys.map V.str)) → ys.Nodup → PyProof.Rows.sortedS ys = true → (∀ z, z ∈ ys ↔ ∃ l ∈ ls, z ∈ namesOf l) → Q (.ref u) H'
section
variable {P : Program} {w : World} {K : PySem.W.Frag} {mg : Str → Option Value} {base : Heap} {a : Ad} {d : Fd} {fL fC fW fU C fI fA fE fN fX fZ : Addr} {dI dX dZ : FuncData}
theorem ok_moments_ofT (T : TX K mg a) (D : FDS K a d) : FnOk P w K mg base CX0 3 a.a_moments_of d.a_moments_of ["literals"] (spMomentsT K) := by
  have G_is_bound : FnOk P w K mg base CX0 2 a.a_is_bound d.a_is_bound ["value"] (spIsBound K) := ok_is_bound T D
  refine D.F_moments_of.ok sc_moments_of (fun vs H Q E h => ?_) (fun cdv A outer s H vs Q E hr h => ?_)
  · obtain ⟨a, us, ls, pool, rfl, _⟩ := h
    rfl
  · obtain ⟨a, us, ls, pool, rfl, ha, L, ok, p50, sub, fin⟩ := h
    refine ⟨_, (pss_one (ps_ret (pe_callTy call_tuple_of (by rfl) T.b_tuple (by decide +kernel) (pa_cons (pe_callB (TSet.cr_sortedX rfl) (by rfl) T.b_sorted (by decide +kernel) (pa_cons (SC.pe_sc2 (own := [("literal", 1), ("name", 2)]) (vs1 := [2]) (g := gName 1) (g1 := gName 2) (tt1 := tYes) rfl sc_moments_of.nd (pi_tup (pv 0)) (blkOk_by (N := ["literals", "literal", "name"]) (sc := defScope s_moments_of) (by decide +kernel)) (by decide) (fun _ _ _ _ _ => (pg_name (i := 1) sc_moments_of.nd rfl (Or.inl rfl))) (fun _ _ _ _ _ => (pts_one (pt_val (pe_call G_is_bound (hr.mono (by decide)) rfl T.f_is_bound T.k_is_bound D.B_is_bound .nil pass0 (pa_cons (pv 1) pa_nil))))) (fun _ _ _ _ _ => (pi_tupK (K := K) (pe_slice (sl_tupK (K := K)) (pv 1) (po_some pe_int) (po_some pe_int)))) (fun _ _ _ _ _ => (pg_name (i := 2) sc_moments_of.nd rfl (Or.inl rfl))) (fun _ _ _ _ _ => pts_nil) (fun _ _ _ _ _ => (pv 2))) pa_nil)) pa_nil)))), ?_⟩
    have lu := L.len
    refine ⟨_, rfl, a, rfl, ⟨_, ha⟩, fun D1 hD1 => ⟨fun i m H' => m = us.length - i ∧ i ≤ us.length ∧ Ex H H' ∧ ∃ l : List Str, H' D1 = some (TSet.SetX P w D1 l) ∧ l.Nodup ∧ ∀ z, z ∈ l ↔ ∃ q ∈ ls.take i, z ∈ namesOf q, ⟨_, rfl, Nat.zero_le _, Ex.new hD1, [], upd_same, List.nodup_nil, fun z => by simp⟩, ?_⟩⟩
    rintro i m H2 ⟨rfl, hi, e2, l, hl, nd, ml⟩
    have small : ∀ (l : List Str) (i : Nat), l.Nodup → (∀ z ∈ l, ∃ q ∈ ls, z ∈ namesOf q) → l.length ≤ 50 := fun l i nd h => Nat.le_trans (sub_len nd fun z hz => by
      obtain ⟨q, hq, hz⟩ := h z hz
      exact sub q hq z hz) p50
    rcases Nat.lt_or_eq_of_le hi with lt | rfl
    · refine .inr ⟨walk_tup.goes i H2 lt (ex_t e2 ha), fun H' => Ex H H' ∧ ∃ l : List Str, H' D1 = some (TSet.SetX P w D1 l) ∧ l.Nodup ∧ ∀ z, z ∈ l ↔ ∃ q ∈ ls.take (i + 1), z ∈ namesOf q, fun H' h => ⟨_, by omega, rfl, lt, h⟩, fun v H3 hy => ?_⟩
      obtain ⟨rfl, hv⟩ := walk_tup.yields i H2 v H3 lt (ex_t e2 ha) hy
      obtain ⟨t, q, rfl, hq, ht⟩ := L.get hv
      have okq := ok q (List.mem_of_getElem? hq)
      have tk : ls.take (i + 1) = ls.take i ++ [q] := by rw [List.take_add_one, hq]; rfl
      have mq : ∀ z, (∃ r ∈ ls.take (i + 1), z ∈ namesOf r) ↔ (∃ r ∈ ls.take i, z ∈ namesOf r) ∨ z ∈ namesOf q := fun z => by
        rw [tk]
        constructor
        · rintro ⟨r, hr, h⟩
          rcases List.mem_append.mp hr with hr | hr
          · exact .inl ⟨r, hr, h⟩
          · rw [List.mem_singleton.mp hr] at h
            exact .inr h
        · rintro (⟨r, hr, h⟩ | h)
          · exact ⟨r, List.mem_append_left _ hr, h⟩
          · exact ⟨q, List.mem_append_right _ (List.mem_singleton.mpr rfl), h⟩
      unfold gName
      dsimp only
      refine ⟨rfl, _, rfl, .ref t, litD q, rfl, lit_dp (SqT.of (e2 _ _ ht)), lit_sz okq, fun H4 e4 => ⟨_, rfl, ?_⟩⟩
      rw [bound_lit okq]
      cases q with
      | yn b x => exact iteF' rfl ⟨e2.trans e4, l, e4 _ _ hl, nd, fun z => by rw [mq z, ml z]; simp [namesOf]⟩
      | most x y k =>
        refine iteT' rfl ⟨_, rfl, 1, rfl, 3, rfl, t, _, rfl, SqT.of (e4 _ _ (e2 _ _ ht)), fun z => absurd z.1 (by decide : ¬ (HT.sIx 4 0 (some 1) = 0)), fun _ p2 hp2 => ?_⟩
        have x2 := Ex.new (o := .tup [.str x, .str y]) hp2
        have h2 : upd H4 p2 (.tup (cutV (litV (.most x y k)) (some 1) (some 3))) p2 = some (.tup [.str x, .str y]) := upd_same
        have xx : Ex H (upd H4 p2 (.tup (cutV (litV (.most x y k)) (some 1) (some 3)))) := (e2.trans e4).trans x2
        have hl4 : upd H4 p2 (.tup (cutV (litV (.most x y k)) (some 1) (some 3))) D1 = some (TSet.SetX P w D1 l) := x2 _ _ (e4 _ _ hl)
        generalize upd H4 p2 (.tup (cutV (litV (.most x y k)) (some 1) (some 3))) = H5 at *
        refine ⟨p2, rfl, ⟨_, SqT.of h2⟩, fun j m H' => m = 2 - j ∧ j ≤ 2 ∧ Ex H H' ∧ H' p2 = some (.tup [.str x, .str y]) ∧ ∃ l : List Str, H' D1 = some (TSet.SetX P w D1 l) ∧ l.Nodup ∧ ∀ z, z ∈ l ↔ (∃ q ∈ ls.take i, z ∈ namesOf q) ∨ z ∈ [x, y].take j, ⟨_, rfl, Nat.zero_le _, xx, h2, l, hl4, nd, fun z => by rw [ml z]; simp⟩, ?_⟩
        rintro j m H6 ⟨rfl, hj, e6, g6, l6, hl6, nd6, ml6⟩
        rcases Nat.lt_or_eq_of_le hj with ltj | rfl
        · refine .inr ⟨(walk_tup (xs := [V.str x, V.str y])).goes j H6 ltj (SqT.of g6), fun H' => Ex H H' ∧ H' p2 = some (.tup [.str x, .str y]) ∧ ∃ l : List Str, H' D1 = some (TSet.SetX P w D1 l) ∧ l.Nodup ∧ ∀ z, z ∈ l ↔ (∃ q ∈ ls.take i, z ∈ namesOf q) ∨ z ∈ [x, y].take (j + 1), fun H' h => ⟨_, by omega, rfl, ltj, h⟩, fun v H7 hy => ?_⟩
          obtain ⟨rfl, hv⟩ := (walk_tup (xs := [V.str x, V.str y])).yields j H6 v H7 ltj (SqT.of g6) hy
          obtain ⟨z0, hz0, rfl⟩ : ∃ z0 : Str, [x, y][j]? = some z0 ∧ v = .str z0 := by
            have : j = 0 ∨ j = 1 := by omega
            rcases this with rfl | rfl
            · exact ⟨x, rfl, (Option.some.inj hv).symm⟩
            · exact ⟨y, rfl, (Option.some.inj hv).symm⟩
          unfold tYes
          dsimp only
          refine ⟨rfl, iteT' rfl ⟨_, rfl, l6, z0, rfl, hl6, ?_, fun l' nd' ml' _ => ?_⟩⟩
          · have h50 : l6.length ≤ 50 := Nat.le_trans (sub_len nd6 fun z hz => by
              rcases (ml6 z).mp hz with ⟨r, hr, h⟩ | h
              · exact sub r (List.mem_of_mem_take hr) z h
              · exact sub _ (List.mem_of_getElem? hq) z (List.mem_of_mem_take h)) p50
            omega
          · have nD : p2 ≠ D1 := fun e => by rw [e, hl6] at g6; cases g6
            refine ⟨e6.mut hD1, by rw [upd_ne nD]; exact g6, l', upd_same, nd', fun z => ?_⟩
            rw [ml' z, ml6 z, List.take_add_one, hz0]
            simp only [Option.toList_some, List.mem_append, List.mem_singleton]
            constructor
            · rintro (h | h | h)
              · exact .inr (.inr h)
              · exact .inl h
              · exact .inr (.inl h)
            · rintro (h | h | h)
              · exact .inr (.inl h)
              · exact .inr (.inr h)
              · exact .inl h
        · exact .inl ⟨(walk_tup (xs := [V.str x, V.str y])).stops H6 (SqT.of g6), e6, l6, hl6, nd6, fun z => by rw [ml6 z, mq z]; rfl⟩
    · refine .inl ⟨walk_tup.stops H2 (ex_t e2 ha), D1, l, rfl, hl, ?_, fun ys p pm so hp => ⟨p, _, rfl, .inl ⟨SqL.of upd_same, fun u hu => ?_⟩⟩⟩
      · rw [lu, List.take_length] at ml
        have := small l 0 nd fun z hz => (ml z).mp hz
        omega
      · rw [lu, List.take_length] at ml
        exact fin u ys _ (e2.trans ((Ex.new hp).trans (Ex.new hu))) upd_same (pm.nodup_iff.mpr nd) so fun z => by rw [pm.mem_iff, ml z]
theorem ok_check_listed (T : TX K mg a) (D : FDS K a d) (EU : PySem.Sup.SupTxt K mg P "UnknownMoment" "name" "not a listed moment" a.cU fU) : FnOk P w K mg base (L2N.CX P w) 1 a.a_check_listed d.a_check_listed ["moments", "values"] spListed0 := by
  refine NX.okX D.F_check_listed sc_check_listed (fun vs H Q E h => ?_) (fun cdv A outer s H vs Q E hr h => ?_)
  · obtain ⟨m, v, n, tm, o, pa, ns, ps, ys, rfl, _⟩ := h
    rfl
  · obtain ⟨m, v, n, tm, o, pa, ns, ps, ys, rfl, hm, VL, sub, fin⟩ := h
    refine ⟨_, (pss_cons (ps_setLc (i := 3) (own := [("name", 2), ("_", 4)]) (g := (gTup K 2 (gCons (gName 2) (gCons (gName 4) gNil)))) (tt := tYes) rfl sc_check_listed.nd rfl rfl (sw_true rfl rfl rfl (by decide +kernel)) (pi_tup (pe_ix ix_tup (pv 1) pe_int (fun _ _ => rfl))) (blkOk_by (N := ["moments", "values", "name", "listed", "_"]) (sc := defScope s_check_listed) (by decide +kernel)) (fun _ _ _ _ _ => (pg_tup rfl (pgs_cons (pg_name (i := 2) sc_check_listed.nd rfl (Or.inl rfl)) (pgs_cons (pg_name (i := 4) sc_check_listed.nd rfl (Or.inl rfl)) pgs_nil)))) (fun _ _ _ _ _ => pts_nil) (fun _ _ _ _ _ => (pv 2)))
        (pss_one (ps_for PassesOwn.leaving rfl (pi_tup (pv 0)) (pg_name (i := 2) sc_check_listed.nd rfl (Or.inl rfl)) (pss_one (ps_if (pt_cmpR op_notIn_seq (pv 2) (pv 3) rfl) (pss_one (NX.ps_raiseSup rfl EU hr (L2N.takes_of rfl rfl rfl rfl) (by exact (pa_cons (pv 2) pa_nil)))) pss_nil))))), ?_⟩
    have big : 1000 ≤ sizeLine := by decide
    have p60 := VL.few
    have lpa := VL.len
    have hv : SqT K H v [.ref n, .ref tm] := SqT.of VL.hv
    have ht : SqT K H tm (pa.map V.ref) := .inl (.inr ⟨o, VL.ht⟩)
    refine ⟨_, rfl, v, _, 1, .ref tm, rfl, rfl, hv, rfl, tm, rfl, ⟨_, ht⟩, fun D1 hD1 => lc_it (H1 := H) (walk_tup (xs := pa.map V.ref)) (fun i H' => Ex H H' ∧ H' D1 = some (.lst (((ps.take i).map Prod.fst).map V.str))) ⟨Ex.new hD1, upd_same⟩ (fun i H' _ h => ex_t h.1 ht) ?_ ?_⟩
    · rintro i x H2 H2' hi ⟨e2, hl⟩ ⟨rfl, hx⟩
      have hi2 : i < ps.length := by rw [List.length_map] at hi; omega
      obtain ⟨t, h1, h2⟩ := VL.pt (K := K) (List.getElem?_eq_getElem hi2)
      rw [hx] at h1
      cases h1
      refine ⟨t, _, rfl, ex_t e2 h2, rfl, _, _, rfl, _, _, rfl, rfl, rfl, ?_⟩
      unfold tYes
      dsimp only
      refine iteT' rfl ⟨_, rfl, _, hl, by rw [List.length_map, List.length_map, List.length_take]; omega, Ex.mut e2 hD1, ?_⟩
      rw [upd_same, List.take_add_one, List.getElem?_eq_getElem hi2, List.map_append, List.map_append]
      rfl
    · rintro H2 ⟨e2, hl⟩
      rw [List.length_map, lpa, List.take_length] at hl
      generalize ps.map Prod.fst = zs at *
      refine ⟨_, rfl, m, rfl, ⟨_, SqT.of (e2 _ _ hm)⟩, for_it (walk_tup (xs := ys.map V.str)) (fun i σ H' => ∃ o2, σ = [some (.ref m), some (.ref v), o2, some (.ref D1), none] ∧ H' = H2) ⟨none, rfl, rfl⟩ (fun i σ H' _ ⟨_, _, e⟩ => by rw [e]; exact SqT.of (e2 _ _ hm)) ?_ ?_⟩
      · rintro i x σ H3 H3' hi ⟨o2, rfl, rfl⟩ ⟨rfl, hx⟩
        rw [List.length_map] at hi
        rw [List.getElem?_map, List.getElem?_eq_getElem hi] at hx
        cases hx
        have hy : ys[i] ∈ ys := List.getElem_mem hi
        generalize ys[i] = y at *
        refine ⟨_, rfl, _, rfl, D1, _, rfl, .inl (SqL.of hl), rfl, flat_strs, _, rfl, ?_⟩
        rw [if_pos rfl, inV_strs]
        exact iteF' (by simp [sub y hy]) ⟨_, rfl, rfl⟩
      · rintro σ H3 ⟨o2, rfl, rfl⟩
        exact fin _ e2
theorem ok_literal_stands (T : TX K mg a) (D : FDS K a d) : FnOk P w K mg base CX0 3 a.a_literal_stands d.a_literal_stands ["literal", "names", "table"] (spStands K) := by
  have G_is_bound : FnOk P w K mg base CX0 2 a.a_is_bound d.a_is_bound ["value"] (spIsBound K) := ok_is_bound T D
  refine D.F_literal_stands.ok sc_literal_stands (fun vs H Q E h => ?_) (fun cdv A outer s H vs Q E hr h => ?_)
  · obtain ⟨p, n, t, l, ns, kvs, tv, rfl, _⟩ := h
    rfl
  · obtain ⟨p, n, t, l, ns, kvs, tv, rfl, hp, okl, hn, ht, hv, fin⟩ := h
    refine ⟨_, (pss_cons (ps_if (pt_val (pe_call G_is_bound (hr.mono (by decide)) rfl T.f_is_bound T.k_is_bound D.B_is_bound .nil pass0 (pa_cons (pv 0) pa_nil))) (pss_cons (ps_asg (pv 0) (pg_tup rfl (pgs_cons (pg_name (i := 3) sc_literal_stands.nd rfl (Or.inl rfl)) (pgs_cons (pg_name (i := 4) sc_literal_stands.nd rfl (Or.inl rfl)) (pgs_cons (pg_name (i := 5) sc_literal_stands.nd rfl (Or.inl rfl)) (pgs_cons (pg_name (i := 6) sc_literal_stands.nd rfl (Or.inl rfl)) pgs_nil))))))
        (pss_one (ps_ret (pe_cmpR op_le (pe_op op_sub (pe_dget (hu_of hr) (pv 2) (pv 4) (fun _ _ => rfl)) (pe_dget (hu_of hr) (pv 2) (pv 5) (fun _ _ => rfl))) (pv 6) (nomark _))))) pss_nil)
        (pss_cons (ps_asg (pv 0) (pg_tup rfl (pgs_cons (pg_name (i := 7) sc_literal_stands.nd rfl (Or.inl rfl)) (pgs_cons (pg_name (i := 8) sc_literal_stands.nd rfl (Or.inl rfl)) pgs_nil))))
        (pss_one (ps_ret (pe_cmpR op_eq (pe_cmpR op_in_seq (pv 8) (pv 1) rfl) (pe_cmpR op_eq (pv 7) pe_str (nomark _)) (nomark _)))))), ?_⟩
    refine ⟨_, rfl, .ref p, litD l, rfl, lit_dp (SqT.of hp), lit_sz okl, fun H1 e1 => ⟨_, rfl, ?_⟩⟩
    rw [bound_lit okl]
    have hp1 := e1 _ _ hp
    have ht1 := e1 _ _ ht
    cases l with
    | yn b x =>
      refine iteF' rfl ⟨_, rfl, p, _, rfl, SqT.of hp1, rfl, _, _, rfl, _, _, rfl, rfl, ?_⟩
      refine ⟨_, rfl, _, rfl, n, _, rfl, .inr (ex_t e1 hn), rfl, flat_strs, _, rfl, rfl, rfl, ?_⟩
      rw [if_neg Bool.false_ne_true, inV_strs]
      have e2 : decide (V.str (ynS b) = V.str (Str.ofString "yes")) = b := by cases b <;> decide +kernel
      rw [e2]
      have e3 : decide (V.bl (decide (x ∈ ns)) = V.bl b) = holdsL ns tv (.yn b x) := by
        show _ = decide (decide (x ∈ ns) = b)
        rw [Bool.eq_iff_iff, decide_eq_true_iff, decide_eq_true_iff]
        exact ⟨fun h => V.bl.inj h, fun h => congrArg V.bl h⟩
      rw [e3]
      exact fin H1 e1
    | most x y k =>
      refine iteT' rfl ⟨_, rfl, p, _, rfl, SqT.of hp1, rfl, _, _, rfl, _, _, rfl, _, _, rfl, _, _, rfl, rfl, ?_⟩
      have hx := hv x (by simp [namesOf])
      have hy := hv y (by simp [namesOf])
      exact ⟨_, rfl, _, rfl, t, _, rfl, .inl ⟨kvs, .inr x, .inl ht1, rfl, hx.symm⟩, _, rfl, _, rfl, t, _, rfl, .inl ⟨kvs, .inr y, .inl ht1, rfl, hy.symm⟩, _, _, rfl, rfl, _, rfl, _, _, rfl, rfl, fin H1 e1⟩
theorem ok_clauses_stand (T : TX K mg a) (D : FDS K a d) : FnOk P w K mg base CX0 4 a.a_clauses_stand d.a_clauses_stand ["clauses", "values"] spStandG := by
  have G_literal_stands : FnOk P w K mg base CX0 3 a.a_literal_stands d.a_literal_stands ["literal", "names", "table"] (spStands K) := ok_literal_stands T D
  refine D.F_clauses_stand.ok sc_clauses_stand (fun vs H Q E h => ?_) (fun cdv A outer s H vs Q E hr h => ?_)
  · obtain ⟨c, v, n, tm, o, pa, us, cs, ns, ps, rfl, _⟩ := h
    rfl
  · obtain ⟨c, v, n, tm, o, pa, us, cs, ns, ps, rfl, hc, CL, ok, VL, sub, fin⟩ := h
    refine ⟨_, (pss_cons (ps_asg (pv 1) (pg_tup rfl (pgs_cons (pg_name (i := 2) sc_clauses_stand.nd rfl (Or.inr rfl)) (pgs_cons (pg_name (i := 3) sc_clauses_stand.nd rfl (Or.inl rfl)) pgs_nil))))
        (pss_cons (ps_set (i := 4) sc_clauses_stand.nd rfl (Or.inr rfl) (pe_callTy (cr_dictF rfl) (by rfl) T.b_dict (by decide +kernel) (pa_cons (pv 3) pa_nil)))
        (pss_cons (ps_for PassesOwn.never rfl (pi_tup (pv 0)) (pg_name (i := 5) sc_clauses_stand.nd rfl (Or.inl rfl)) (pss_one (ps_if (pt_not (pt_val (pe_callB (cr_any rfl) (by rfl) T.b_any (by decide +kernel) (pa_cons (pe_lc (own := [("literal", 6)]) (g := gName 6) (tt := tYes) rfl sc_clauses_stand.nd (pi_tup (pv 5)) (blkOk_by (N := ["clauses", "values", "names", "times", "table", "clause", "literal"]) (sc := defScope s_clauses_stand) (by decide +kernel)) (fun _ _ _ _ _ => (pg_name (i := 6) sc_clauses_stand.nd rfl (Or.inl rfl))) (fun _ _ _ _ _ => pts_nil) (fun _ _ _ _ _ => (pe_call G_literal_stands (hr.mono (by decide)) rfl T.f_literal_stands T.k_literal_stands D.B_literal_stands .nil pass0 (pa_cons (pv 6) (pa_cons (pv 2) (pa_cons (pv 4) pa_nil)))))) pa_nil)))) (pss_one (ps_ret pe_bl)) pss_nil)))
        (pss_one (ps_ret pe_bl))))), ?_⟩
    refine ⟨_, rfl, v, _, rfl, SqT.of VL.hv, rfl, _, _, rfl, _, _, rfl, rfl, ?_⟩
    refine ⟨_, rfl, tm, o, pa, ps.map prK, rfl, VL.ht, VL.od, pair_at VL.len VL.at_, fun td htd => ?_⟩
    have x1 := Ex.new (o := .dK (mergeK [] (ps.map prK))) htd
    have hd1 : upd H td (.dK (mergeK [] (ps.map prK))) td = some (.dK (mergeK [] (ps.map prK))) := upd_same
    generalize upd H td (.dK (mergeK [] (ps.map prK))) = H1 at *
    have big : 1000 ≤ sizeLine := by decide
    have lu := CL.len
    refine ⟨_, rfl, c, rfl, ⟨_, SqT.of (x1 _ _ hc)⟩, for_it (walk_tup (xs := us)) (fun i σ H' => ∃ o5 o6, σ = [some (.ref c), some (.ref v), some (.ref n), some (.ref tm), some (.ref td), o5, o6] ∧ Ex H1 H' ∧ (cs.take i).all (fun c => c.any (holdsL ns (tvOf ps))) = true) ⟨none, none, rfl, Ex.refl _, rfl⟩ (fun i σ H' _ ⟨_, _, _, e, _⟩ => SqT.of (e _ _ (x1 _ _ hc))) ?_ ?_⟩
    · rintro i x σ H2 H2' hi ⟨o5, o6, rfl, e2, hall⟩ ⟨rfl, hx⟩
      have hic : i < cs.length := by omega
      obtain ⟨u, ws, h1, hu2, L2⟩ := ((CL.ex x1).ex e2).at_ i cs[i] (List.getElem?_eq_getElem hic)
      obtain rfl : x = .ref u := Option.some.inj (hx.symm.trans h1)
      have cm : cs[i] ∈ cs := List.getElem_mem hic
      have hci : cs[i]? = some cs[i] := List.getElem?_eq_getElem hic
      generalize cs[i] = cl at *
      obtain ⟨zs, eu, el, hz⟩ := L2.zip
      subst eu el
      have zl : zs.length < 1000 := by have := (ok _ cm).2; rw [List.length_map] at this; exact this
      refine ⟨_, rfl, u, rfl, ⟨_, SqT.of hu2⟩, fun D3 hD3 => lcM (walk_tup (xs := zs.map fun z => V.ref z.1)) (fun z => V.bl (holdsL ns (tvOf ps) z.2)) (by omega) (fun H' e => SqT.of (e _ _ hu2)) (fun _ => rfl) (fun z hzm H' e Q q => ?_) hD3 fun H3 e3 h3 => ?_⟩
      · have e' := x1.trans (e2.trans e)
        exact ⟨_, rfl, _, rfl, _, rfl, z.1, n, td, z.2, ns, _, tvOf ps, rfl, e _ _ (hz z hzm), (ok _ cm).1 z.2 (List.mem_map_of_mem hzm), SqT.of (e' _ _ VL.hn), (e2.trans e) _ _ hd1, fun y hy => val_of VL.nd (sub _ cm z.2 (List.mem_map_of_mem hzm) y hy), fun H'' e'' => q H'' e''⟩
      · refine ⟨D3, zs.map fun z => holdsL ns (tvOf ps) z.2, rfl, SqL.of (by rw [h3, List.map_map]; rfl), ?_⟩
        have ea : (zs.map fun z => holdsL ns (tvOf ps) z.2).any id = (zs.map Prod.snd).any (holdsL ns (tvOf ps)) := by rw [List.any_map, List.any_map]; rfl
        rw [ea]
        cases hb : (zs.map Prod.snd).any (holdsL ns (tvOf ps)) with
        | true => exact ⟨_, rfl, iteF' rfl ⟨_, _, rfl, e2.trans e3, by rw [List.take_add_one, hci, List.all_append, hall]; simp [hb]⟩⟩
        | false =>
          have hf : (cs.all fun c => c.any (holdsL ns (tvOf ps))) = false := by
            cases g : cs.all fun c => c.any (holdsL ns (tvOf ps)) with
            | false => rfl
            | true => rw [List.all_eq_true.mp g _ cm] at hb; cases hb
          exact ⟨_, rfl, iteT' rfl (ex_q fin hf (x1.trans (e2.trans e3)))⟩
    · rintro σ H2 ⟨o5, o6, rfl, e2, h⟩
      rw [lu, List.take_length] at h
      exact ex_q fin h (x1.trans e2)
end
end M6
namespace HR
open PySem L2 PySem.SeqAt PyProof.Rows
/-! a != b for two lists of the same items -/
def easyV : V → Bool
  | .non => true
  | .bl _ => true
  | .int _ => true
  | .str _ => true
  | .ref _ => true
  | _ => false
def rNeSame (K : PySem.W.Frag) : R2 := fun x y H Q => ∃ (l l' : Addr) (xs : List V), x = .ref l ∧ y = .ref l' ∧ SqL K H l xs ∧ SqL K H l' xs ∧ (∀ v ∈ xs, easyV v = true) ∧ Q (.bl false) H
theorem easy_eq {A : Around} {s : Shared} {x : V} {v u : Value} (e : easyV x = true) (r1 : RelV x v) (r2 : RelV x u) : EqAt A s v u true := by
  cases x with
  | non => cases r1; cases r2; exact EqAt.same _
  | bl b => cases r1; cases r2; exact EqAt.same _
  | int i =>
    obtain ⟨t, rfl⟩ := r1
    obtain ⟨t', rfl⟩ := r2
    have := EqAt.int_int (A := A) (s := s) i t i t'
    simpa using this
  | str z =>
    obtain ⟨t, rfl⟩ := r1
    obtain ⟨t', rfl⟩ := r2
    have := EqAt.str_str (A := A) (s := s) z t z t'
    simpa using this
  | ref a => cases r1; cases r2; exact EqAt.same _
  | _ => cases e
section
variable {X : Cx}
theorem op_neSame (hu : X.A.units + 64 < cLine) : OpR X (compareOp .NotEq) (rNeSame X.K) := by
  rintro pins s σ H x y v u Q I rx ry ⟨l, l', xs, rfl, rfl, h1, h2, ez, fin⟩
  cases rx
  cases ry
  obtain ⟨its, v1, p1, _⟩ := I.list h1
  obtain ⟨its', v2, p2, _⟩ := I.list h2
  have l1 := v1.length
  have l2 := v2.length
  have hl : s.heap.IsList l its.toArray := p1.isList
  have hl' : s.heap.IsList l' its'.toArray := p2.isList
  have := RcNeAt.lists (A := X.A) (e := fun _ => true) hl hl' (by simp; omega) (by omega) fun j j1 j2 => by
    have hj : j < xs.length := by simp at j1; omega
    obtain ⟨a, e1, r1⟩ := v1.get (List.getElem?_eq_getElem hj)
    obtain ⟨b, e2, r2⟩ := v2.get (List.getElem?_eq_getElem hj)
    have f1 : its.toArray[j] = a := by
      have := List.getElem?_eq_some_iff.mp e1
      simpa using this.2
    have f2 : its'.toArray[j] = b := by
      have := List.getElem?_eq_some_iff.mp e2
      simpa using this.2
    rw [f1, f2]
    exact easy_eq (ez _ (List.getElem_mem hj)) r1 r2
  refine this X.prog X.w X.xe _ ?_
  have e : (!(List.range its.toArray.size).all fun _ => true) = false := by simp
  rw [e]
  exact ⟨.bl false, H, I, rfl, fin⟩
/-- a != b, data or two lists of the same items -/
def rNeDS (K : PySem.W.Frag) : R2 := fun x y H Q => rNeD K x y H Q ∨ rNeSame K x y H Q
theorem op_neDS (hu : X.A.units + 64 < cLine) : OpR X (compareOp .NotEq) (rNeDS X.K) := by
  rintro pins s σ H x y v u Q I rx ry (h | h)
  · exact op_neD hu pins s σ H x y v u Q I rx ry h
  · exact op_neSame hu pins s σ H x y v u Q I rx ry h
end
end HR
set_option maxRecDepth 100000
set_option maxHeartbeats 8000000
/-! holds, the names of parts, the places that hold -/
namespace M6
open PySem L2 Evl GP HR SC SetM SetH RQ SetN
/-- one literal alone, as a clause -/
def spHold1 : Sp := fun vs H Q _ => ∃ (c v n tm x : Addr) (o : Obj) (pa : List Addr) (l : Lit) (ns : List Str) (ps : List (Str × Int)), vs = [.ref c, .ref v] ∧ H c = some (.tup [.ref x]) ∧ H x = some (.tup (litV l)) ∧ LitOk l ∧ Val H v n tm o pa ns ps ∧
  (∀ z ∈ namesOf l, z ∈ ps.map Prod.fst) ∧ ∀ H', Ex H H' → Q (.bl (holdsL ns (tvOf ps) l)) H'
def spHoldsP : Sp := fun vs H Q _ => ∃ (v n tm x : Addr) (o : Obj) (pa : List Addr) (l : Lit) (ns : List Str) (ps : List (Str × Int)), vs = [.ref x, .ref v] ∧ H x = some (.tup (litV l)) ∧ LitOk l ∧ Val H v n tm o pa ns ps ∧
  (∀ z ∈ namesOf l, z ∈ ps.map Prod.fst) ∧ ∀ H', Ex H H' → Q (.bl (holdsL ns (tvOf ps) l)) H'
theorem enS_go {K : PySem.W.Frag} {ta : TA} {a : Addr} {xs : List V} {σ : St} {H : Hp} {R : It → Hp → Prop} (ht : ∀ Q : List V → Hp → Prop, Q [.ref a] H → ta σ H Q) (h : SqL K H a xs ∨ SqT K H a xs)
    (hR : ∀ (J : It) (G : Hp → Prop), L2.Walk J xs.length G (YPair (fun i => some (.int (i : Nat))) (fun i => xs[i]?)) → (∀ H', Ex H H' → G H') → R J H) :
    iEnS K ta σ H R := by
  refine ht _ ⟨a, xs, rfl, ?_⟩
  rcases h with h | h
  · exact .inl ⟨h, hR _ _ walk_enum fun _ e => ex_l e h⟩
  · exact .inr ⟨h, hR _ _ walk_enT fun _ e => ex_t e h⟩
/-- the places of the literals that hold, of the first i -/
def heldP (f : Lit → Bool) (ls : List Lit) (i : Nat) : List Nat := (List.range i).filter fun j => (ls[j]?.map f).getD false
theorem heldP_one {f : Lit → Bool} {ls : List Lit} {i : Nat} {l : Lit} (h : ls[i]? = some l) : heldP f ls (i + 1) = heldP f ls i ++ (if f l = true then [i] else []) := by
  unfold heldP
  rw [List.range_succ, List.filter_append]
  congr 1
  cases g : f l <;> simp [h, g]
theorem heldP_len {f : Lit → Bool} {ls : List Lit} {i : Nat} : (heldP f ls i).length ≤ i := by
  unfold heldP
  exact Nat.le_trans (List.length_filter_le _ _) (by rw [List.length_range]; exact Nat.le_refl _)
def natV (i : Nat) : V := .int (i : Int)
def spPlaces : Sp := fun vs H Q _ => ∃ (k v n tm : Addr) (o : Obj) (pa : List Addr) (us : List V) (ls : List Lit) (ns : List Str) (ps : List (Str × Int)), vs = [.ref k, .ref v] ∧ H k = some (.tup us) ∧ Lits H us ls ∧ (∀ l ∈ ls, LitOk l) ∧ ls.length ≤ 60 ∧ Val H v n tm o pa ns ps ∧
  (∀ l ∈ ls, ∀ z ∈ namesOf l, z ∈ ps.map Prod.fst) ∧ ∀ h H', Ex H H' → H h = none → H' h = some (.lst ((heldP (holdsL ns (tvOf ps)) ls ls.length).map natV)) → Q (.ref h) H'
def nmP (p q : Str) (i j : Nat) : Str := Str.empty ++ p ++ (toString (i : Int)) ++ q ++ (toString (j : Int))
def spPart (p q : Str) : Sp := fun vs H Q _ => ∃ i j : Nat, vs = [natV i, natV j] ∧ i ≤ 9 ∧ j ≤ 9 ∧ Q (.str (nmP p q i j)) H
theorem nm_all : ∀ i, i ≤ 9 → ∀ j, j ≤ 9 → (isNameS (nmP "c" "l" i j) = true ∧ (nmP "c" "l" i j).length ≤ 8) ∧ isNameS (nmP "b" "x" i j) = true ∧ (nmP "b" "x" i j).length ≤ 8 := by
  have h : ∀ i < 10, ∀ j < 10, (isNameS (nmP "c" "l" i j) = true ∧ (nmP "c" "l" i j).length ≤ 8) ∧ isNameS (nmP "b" "x" i j) = true ∧ (nmP "b" "x" i j).length ≤ 8 := by decide +kernel
  exact fun i hi j hj => h i (by omega) j (by omega)
theorem fmt_ok {k : Nat} (h : k ≤ 9) : (natV k = .int (k : Int)) ∧ ((k : Int).natAbs.log2 < 1920) := ⟨rfl, by
  have : ((k : Int).natAbs) < 2 ^ 1900 := Nat.lt_of_le_of_lt (show (k : Int).natAbs ≤ 9 by omega) (by decide)
  rcases Nat.eq_zero_or_pos k with rfl | p
  · decide
  · exact Nat.lt_of_lt_of_le ((Nat.log2_lt (by omega)).mpr this) (by decide)⟩
theorem len_app (x y : Str) : x.length ≤ (x ++ y).length := by rw [app_len]; omega
theorem part_go {σ : L2.St} {H : Hp} {Q : Str → Hp → Prop} {t1 t2 : TE} {p q : Str} {i j : Nat} (h1 : ∀ H (Q : VK), Q (.int (i : Int)) H → t1 σ H Q) (h2 : ∀ H (Q : VK), Q (.int (j : Int)) H → t2 σ H Q) (le : (nmP p q i j).length ≤ 8) (l1 : (i : Int).natAbs.log2 < 1920) (l2 : (j : Int).natAbs.log2 < 1920)
    (fin : Q (nmP p q i j) H) : tJs [tC (.str p), tFmt t1, tC (.str q), tFmt t2] Str.empty σ H Q := by
  have big : 8 ≤ sizeLine := by decide
  have a3 := len_app (Str.empty ++ p ++ (toString (i : Int)) ++ q) (toString (j : Int))
  have a2 := len_app (Str.empty ++ p ++ (toString (i : Int))) q
  have a1 := len_app (Str.empty ++ p) (toString (i : Int))
  unfold nmP at le fin
  exact ⟨p, rfl, by omega, h1 _ _ (.inr ⟨_, rfl, l1, _, rfl, by omega, q, rfl, by omega, h2 _ _ (.inr ⟨_, rfl, l2, _, rfl, by omega, fin⟩)⟩)⟩
section
variable {P : Program} {w : World} {K : PySem.W.Frag} {mg : Str → Option Value} {base : Heap} {a : Ad} {d : Fd} {fL fC fW fU : Addr}
theorem ok_clause_holds (T : TX K mg a) (D : FDS K a d) (R : ER K mg P a fL fC fW) (EU : PySem.Sup.SupTxt K mg P "UnknownMoment" "name" "not a listed moment" a.cU fU) : FnOk P w K mg base (L2N.CX P w) 6 a.a_clause_holds d.a_clause_holds ["clause", "values"] spHold1 := by
  have G_clause_of : FnOk P w K mg base (L2N.CX P w) 5 a.a_clause_of d.a_clause_of ["literals"] (spClause K a.cL a.cC) := ok_clause_of T D R
  have G_moments_of : FnOk P w K mg base CX0 3 a.a_moments_of d.a_moments_of ["literals"] (spMomentsT K) := ok_moments_ofT T D
  have G_check_listed : FnOk P w K mg base (L2N.CX P w) 1 a.a_check_listed d.a_check_listed ["moments", "values"] spListed0 := ok_check_listed T D EU
  have G_clauses_stand : FnOk P w K mg base CX0 4 a.a_clauses_stand d.a_clauses_stand ["clauses", "values"] spStandG := ok_clauses_stand T D
  refine NX.okX D.F_clause_holds sc_clause_holds (fun vs H Q E h => ?_) (fun cdv A outer s H vs Q E hr h => ?_)
  · obtain ⟨c, v, n, tm, x, o, pa, l, ns, ps, rfl, _⟩ := h
    rfl
  · obtain ⟨c, v, n, tm, x, o, pa, l, ns, ps, rfl, hc, hx, okl, VL, sub, fin⟩ := h
    refine ⟨_, (pss_cons (ps_set (i := 2) sc_clause_holds.nd rfl (Or.inl rfl) (pe_call G_clause_of (hr.mono (by decide)) rfl T.f_clause_of T.k_clause_of D.B_clause_of .nil passN (pa_cons (pv 0) pa_nil)))
        (pss_cons (ps_expr (pe_call G_check_listed (hr.mono (by decide)) rfl T.f_check_listed T.k_check_listed D.B_check_listed .nil passN (pa_cons (pe_call G_moments_of (hr.mono (by decide)) rfl T.f_moments_of T.k_moments_of D.B_moments_of .nil pass0 (pa_cons (pv 2) pa_nil)) (pa_cons (pv 1) pa_nil))))
        (pss_one (ps_ret (pe_call G_clauses_stand (hr.mono (by decide)) rfl T.f_clauses_stand T.k_clauses_stand D.B_clauses_stand .nil pass0 (pa_cons (pe_tup (pa_cons (pv 2) pa_nil)) (pa_cons (pv 1) pa_nil))))))), ?_⟩
    have L : Lits H [.ref x] [l] := Lits.nil.snoc hx
    have ok : ∀ m ∈ [l], LitOk m := fun m hm => by rw [List.mem_singleton.mp hm]; exact okl
    refine ⟨_, rfl, .ref c, rfl, .inl ⟨c, [.ref x], [l], rfl, .inr (SqT.of hc), L, ok, (by show 1 < 63; decide), fun u us' ls' H1 e1 hu L1 mem asc => ?_⟩⟩
    have a1 : AscL [l] := List.pairwise_singleton _ _
    obtain rfl : [l] = ls' := ascL_same a1 asc fun z => (mem z).symm
    have pool : (([l] : List Lit).flatMap namesOf).length ≤ 50 := by cases l <;> simp [namesOf]
    refine ⟨_, rfl, u, us', [l], [l].flatMap namesOf, rfl, SqT.of hu, L1, ok, pool, fun m hm z hz => List.mem_flatMap.mpr ⟨m, hm, hz⟩, fun m ms H2 e2 hm ndm so memm => ?_⟩
    have e02 := e1.trans e2
    have VL2 := VL.ex e02
    refine ⟨_, rfl, m, v, n, tm, o, pa, ns, ps, ms, rfl, hm, VL2, fun y hy => let ⟨l', hl, h⟩ := (memm y).mp hy; sub y (by rw [List.mem_singleton.mp hl] at h; exact h), fun H3 e3 => ?_⟩
    refine ⟨_, rfl, (by show 1 ≤ sizeLine; decide), fun r hr => ?_⟩
    have x4 := Ex.new (o := .tup [V.ref u]) hr
    have e24 := e2.trans (e3.trans x4)
    refine ⟨_, rfl, r, v, n, tm, o, pa, [.ref u], [[l]], ns, ps, rfl, upd_same, ⟨rfl, fun i c g => ?_⟩, fun c hc => ?_, VL2.ex (e3.trans x4), fun c hc m hm z hz => ?_, fun H5 e5 => ?_⟩
    · cases i with
      | zero => cases g; exact ⟨u, us', rfl, e24 _ _ hu, L1.ex e24⟩
      | succ i => simp at g
    · rw [List.mem_singleton.mp hc]
      exact ⟨ok, by simp⟩
    · rw [List.mem_singleton.mp hc] at hm
      rw [List.mem_singleton.mp hm] at hz
      exact sub z hz
    · have := fin H5 (e1.trans (e24.trans e5))
      simpa using this
theorem ok_holds (T : TX K mg a) (D : FDS K a d) (R : ER K mg P a fL fC fW) (EU : PySem.Sup.SupTxt K mg P "UnknownMoment" "name" "not a listed moment" a.cU fU) : FnOk P w K mg base (L2N.CX P w) 7 a.a_holds d.a_holds ["literal", "values"] spHoldsP := by
  have G_clause_holds : FnOk P w K mg base (L2N.CX P w) 6 a.a_clause_holds d.a_clause_holds ["clause", "values"] spHold1 := ok_clause_holds T D R EU
  refine NX.okX D.F_holds sc_holds (fun vs H Q E h => ?_) (fun cdv A outer s H vs Q E hr h => ?_)
  · obtain ⟨v, n, tm, x, o, pa, l, ns, ps, rfl, _⟩ := h
    rfl
  · obtain ⟨v, n, tm, x, o, pa, l, ns, ps, rfl, hx, okl, VL, sub, fin⟩ := h
    refine ⟨_, (pss_one (ps_ret (pe_call G_clause_holds (hr.mono (by decide)) rfl T.f_clause_holds T.k_clause_holds D.B_clause_holds .nil passN (pa_cons (pe_tup (pa_cons (pv 0) pa_nil)) (pa_cons (pv 1) pa_nil))))), ?_⟩
    exact ⟨_, rfl, (by show 1 ≤ sizeLine; decide), fun c hc => ⟨_, rfl, c, v, n, tm, x, o, pa, l, ns, ps, rfl, upd_same, Ex.new hc _ _ hx, okl, VL.ex (Ex.new hc), sub, fun H2 e2 => fin H2 ((Ex.new hc).trans e2)⟩⟩
theorem ok_name_of_part (T : TX K mg a) (D : FDS K a d) : FnOk P w K mg base CX0 1 a.a_name_of_part d.a_name_of_part ["row", "place"] (spPart "c" "l") := by
  refine D.F_name_of_part.ok sc_name_of_part (fun vs H Q E h => ?_) (fun cdv A outer s H vs Q E hr h => ?_)
  · obtain ⟨i, j, rfl, _⟩ := h
    rfl
  · obtain ⟨i, j, rfl, hi, hj, fin⟩ := h
    refine ⟨_, (pss_one (ps_ret (pe_joined (.cons pe_str (.cons (pe_fmt (pv 0)) (.cons pe_str (.cons (pe_fmt (pv 1)) .nil))))))), ?_⟩
    have le := (nm_all i hi j hj).1.2
    have big : 8 ≤ sizeLine := by decide
    obtain ⟨_, l1⟩ := fmt_ok hi
    obtain ⟨_, l2⟩ := fmt_ok hj
    exact part_go (fun H Q q => ⟨_, rfl, q⟩) (fun H Q q => ⟨_, rfl, q⟩) le l1 l2 fin
theorem ok_name_of_refusal (T : TX K mg a) (D : FDS K a d) : FnOk P w K mg base CX0 1 a.a_name_of_refusal d.a_name_of_refusal ["row", "number"] (spPart "b" "x") := by
  refine D.F_name_of_refusal.ok sc_name_of_refusal (fun vs H Q E h => ?_) (fun cdv A outer s H vs Q E hr h => ?_)
  · obtain ⟨i, j, rfl, _⟩ := h
    rfl
  · obtain ⟨i, j, rfl, hi, hj, fin⟩ := h
    refine ⟨_, (pss_one (ps_ret (pe_joined (.cons pe_str (.cons (pe_fmt (pv 0)) (.cons pe_str (.cons (pe_fmt (pv 1)) .nil))))))), ?_⟩
    have le := (nm_all i hi j hj).2.2
    obtain ⟨_, l1⟩ := fmt_ok hi
    obtain ⟨_, l2⟩ := fmt_ok hj
    exact part_go (fun H Q q => ⟨_, rfl, q⟩) (fun H Q q => ⟨_, rfl, q⟩) le l1 l2 fin
theorem ok_places_held (T : TX K mg a) (D : FDS K a d) (R : ER K mg P a fL fC fW) (EU : PySem.Sup.SupTxt K mg P "UnknownMoment" "name" "not a listed moment" a.cU fU) : FnOk P w K mg base (L2N.CX P w) 8 a.a_places_held d.a_places_held ["literals", "values"] spPlaces := by
  have G_holds : FnOk P w K mg base (L2N.CX P w) 7 a.a_holds d.a_holds ["literal", "values"] spHoldsP := ok_holds T D R EU
  refine NX.okX D.F_places_held sc_places_held (fun vs H Q E h => ?_) (fun cdv A outer s H vs Q E hr h => ?_)
  · obtain ⟨k, v, n, tm, o, pa, us, ls, ns, ps, rfl, _⟩ := h
    rfl
  · obtain ⟨k, v, n, tm, o, pa, us, ls, ns, ps, rfl, hk, L, okl, few, VL, sub, fin⟩ := h
    refine ⟨_, (pss_one (ps_ret (pe_lc (own := [("place", 2), ("literal", 3)]) (g := (gTup K 2 (gCons (gName 2) (gCons (gName 3) gNil)))) rfl sc_places_held.nd (pi_enS (by rfl) T.b_enumerate (pa_cons (pv 0) pa_nil)) (blkOk_by (N := ["literals", "values", "place", "literal"]) (sc := defScope s_places_held) (by decide +kernel)) (fun _ _ _ _ _ => (pg_tup rfl (pgs_cons (pg_name (i := 2) sc_places_held.nd rfl (Or.inl rfl)) (pgs_cons (pg_name (i := 3) sc_places_held.nd rfl (Or.inl rfl)) pgs_nil)))) (fun _ _ _ _ _ => (pts_one (pt_val (pe_call G_holds (hr.mono (by decide)) rfl T.f_holds T.k_holds D.B_holds .nil passN (pa_cons (pv 3) (pa_cons (pv 1) pa_nil)))))) (fun _ _ _ _ _ => (pv 2))))), ?_⟩
    have big : 1000 ≤ sizeLine := by decide
    have lu := L.len
    unfold tRet tLc
    dsimp only
    refine enS_go (fun Q q => ⟨_, rfl, q⟩) (.inr (SqT.of hk)) fun J G wk hG D1 hD1 => lc_it (H1 := H) wk (fun i H' => Ex H H' ∧ H' D1 = some (.lst ((heldP (holdsL ns (tvOf ps)) ls i).map natV))) ⟨Ex.new hD1, upd_same⟩ (fun i H' _ z => hG H' z.1) ?_ (fun H' z => by
      rw [lu] at z
      exact fin D1 H' z.1 hD1 z.2)
    rintro i v0 H2 H2' hi ⟨e2, hw⟩ ⟨T4, x, y, rfl, hT4, rfl, hx, hy⟩
    cases hx
    replace hy : us[i]? = some y := hy
    obtain ⟨t, l, rfl, hl, ht⟩ := L.get hy
    have x4 := Ex.new (o := .tup [.int (i : Nat), .ref t]) hT4
    have lm := List.mem_of_getElem? hl
    refine ⟨T4, _, rfl, SqT.of upd_same, rfl, _, _, rfl, _, _, rfl, rfl, rfl, ?_⟩
    refine ⟨_, rfl, _, rfl, v, n, tm, t, o, pa, l, ns, ps, rfl, x4 _ _ (e2 _ _ ht), okl l lm, VL.ex (e2.trans x4), sub l lm, fun H3 e3 => ⟨_, rfl, ?_⟩⟩
    have e23 := e2.trans (x4.trans e3)
    have hw3 := e3 _ _ (x4 _ _ hw)
    cases g : holdsL ns (tvOf ps) l with
    | false => exact iteF' rfl ⟨e23, by rw [heldP_one hl, g, if_neg Bool.false_ne_true, List.append_nil]; exact hw3⟩
    | true =>
      have := heldP_len (f := holdsL ns (tvOf ps)) (ls := ls) (i := i)
      refine iteT' rfl ⟨_, rfl, _, hw3, by rw [List.length_map]; omega, e23.mut hD1, ?_⟩
      rw [upd_same, heldP_one hl, g, if_pos rfl, List.map_append]
      rfl
end
end M6
set_option maxRecDepth 100000
set_option maxHeartbeats 8000000
/-! lists of literals and of lists of literals, made by comprehensions -/
namespace M6
open PySem L2 Evl GP HR SC SetM SetH RQ SetN
theorem range_map_succ {α : Type} (q : Nat → α) (i : Nat) : (List.range (i + 1)).map q = (List.range i).map q ++ [q i] := by rw [List.range_succ, List.map_append]; rfl
section
variable {σ : L2.St} {H1 : Hp} {J : It} {G : Hp → Prop} {Y : Nat → Hp → V → Hp → Prop} {te : TE} {n : Nat}
/-- [(.., ..) for x in ..] -/
theorem lcLit (wk : L2.Walk J n G Y) (q : Nat → Lit) {j : Nat} {vs : List Nat} (hz : n < sizeLine) (hG : ∀ H', Ex H1 H' → G H')
    (hs : ∀ i x H H', i < n → Ex H1 H → Y i H x H' → H' = H ∧ wipe ((wipe σ vs).set j (some x)) vs = wipe σ vs ∧ ∀ Q : VK, (∀ t H2, Ex H H2 → H2 t = some (.tup (litV (q i))) → Q (.ref t) H2) → te ((wipe σ vs).set j (some x)) H Q)
    {Qd : Hp → Prop} {D : Addr} (hD : H1 D = none) (k : ∀ H' ws, Ex H1 H' → H' D = some (.lst ws) → Lits H' ws ((List.range n).map q) → Qd H') :
    ∃ W : Nat → Nat → Hp → Prop, (∃ m, W 0 m (upd H1 D (.lst []))) ∧ ∀ i m H, W i m H →
      (J.stop i H ∧ Qd H) ∨ (J.go i H ∧ ∃ Nx : Hp → Prop, (∀ H', Nx H' → ∃ m', m' < m ∧ W (i + 1) m' H') ∧ ∀ x H', J.yld i H x H' → gName j x (wipe σ vs) H' fun σ2 H2 => wipe σ2 vs = wipe σ vs ∧ tYes σ2 H2 fun b H3 =>
        if b = true then te σ2 H3 fun y H4 => ∃ acc, H4 D = some (.lst acc) ∧ acc.length < sizeLine ∧ Nx (upd H4 D (.lst (acc ++ [y]))) else Nx H3) := by
  refine lc_it wk (fun i H => Ex H1 H ∧ ∃ ws, H D = some (.lst ws) ∧ ws.length = i ∧ Lits H ws ((List.range i).map q)) ⟨Ex.new hD, [], upd_same, rfl, Lits.nil⟩ (fun i H _ p => hG H p.1) ?_ (fun H ⟨e, ws, h, _, L⟩ => k H ws e h L)
  rintro i x H H' hi ⟨e, ws, hl, lw, L⟩ y
  obtain ⟨rfl, hw, he⟩ := hs i x H H' hi e y
  unfold gName tYes
  dsimp only
  refine ⟨hw, ?_⟩
  rw [if_pos rfl]
  refine he _ fun t H2 e2 hq => ⟨ws, e2 _ _ hl, by omega, Ex.mut (e.trans e2) hD, ws ++ [.ref t], upd_same, by rw [List.length_append, lw]; rfl, ?_⟩
  rw [range_map_succ]
  exact ((L.ex e2).put (e2 _ _ hl)).snoc (tup_put (e2 _ _ hl) hq)
/-- lists of literals as they stand, none of them at these addresses -/
structure CLL (av : List Addr) (H : Hp) (us : List V) (cs : List (List Lit)) : Prop where
  len : us.length = cs.length
  at_ : ∀ (i : Nat) (c : List Lit), cs[i]? = some c → ∃ t ws, us[i]? = some (.ref t) ∧ t ∉ av ∧ H t = some (.lst ws) ∧ Lits H ws c
theorem CLL.nil {av : List Addr} {H : Hp} : CLL av H [] [] := ⟨rfl, fun i c g => by simp at g⟩
theorem CLL.ex {av : List Addr} {H H' : Hp} {us : List V} {cs : List (List Lit)} (A : CLL av H us cs) (e : Ex H H') : CLL av H' us cs := ⟨A.len, fun i c h => let ⟨t, ws, h1, h2, h3, h4⟩ := A.at_ i c h; ⟨t, ws, h1, h2, e _ _ h3, h4.ex e⟩⟩
theorem CLL.sub {av av' : List Addr} {H : Hp} {us : List V} {cs : List (List Lit)} (A : CLL av H us cs) (s : ∀ a ∈ av', a ∈ av) : CLL av' H us cs := ⟨A.len, fun i c h => let ⟨t, ws, h1, h2, h3⟩ := A.at_ i c h; ⟨t, ws, h1, fun z => h2 (s t z), h3⟩⟩
theorem CLL.put {av : List Addr} {H : Hp} {F : Addr} {vs us : List V} {o : HO} {cs : List (List Lit)} (A : CLL av H us cs) (hF : F ∈ av) (h : H F = some (.lst vs)) : CLL av (upd H F o) us cs := ⟨A.len, fun i c g => by
  obtain ⟨t, ws, h1, h2, h3, h4⟩ := A.at_ i c g
  exact ⟨t, ws, h1, h2, by rw [upd_ne fun e => h2 (by rw [e]; exact hF)]; exact h3, h4.put h⟩⟩
theorem CLL.snoc {av : List Addr} {H : Hp} {t : Addr} {vs us : List V} {c : List Lit} {cs : List (List Lit)} (A : CLL av H us cs) (ht : t ∉ av) (h : H t = some (.lst vs)) (L : Lits H vs c) : CLL av H (us ++ [.ref t]) (cs ++ [c]) := ⟨by rw [List.length_append, List.length_append, A.len]; rfl, fun i e g => by
  by_cases hi : i < cs.length
  · rw [List.getElem?_append_left hi] at g
    obtain ⟨t', ws, h1, h2⟩ := A.at_ i e g
    exact ⟨t', ws, by rw [List.getElem?_append_left (by rw [A.len]; exact hi)]; exact h1, h2⟩
  · rw [List.getElem?_append_right (by omega)] at g
    have e0 : i - cs.length = 0 := by
      by_cases z : i - cs.length = 0
      · exact z
      · rw [List.getElem?_eq_none (by simp; omega)] at g
        cases g
    rw [e0] at g
    obtain rfl : c = e := Option.some.inj g
    exact ⟨t, vs, by rw [List.getElem?_append_right (by rw [A.len]; omega), A.len, e0]; rfl, ht, h, L⟩⟩
theorem CLL.append {av : List Addr} {H : Hp} {us us' : List V} {cs cs' : List (List Lit)} (A : CLL av H us cs) (A' : CLL av H us' cs') : CLL av H (us ++ us') (cs ++ cs') := ⟨by rw [List.length_append, List.length_append, A.len, A'.len], fun i c h => by
  by_cases hi : i < cs.length
  · rw [List.getElem?_append_left hi] at h
    obtain ⟨t, ws, h1, h2⟩ := A.at_ i c h
    exact ⟨t, ws, by rw [List.getElem?_append_left (by rw [A.len]; exact hi)]; exact h1, h2⟩
  · rw [List.getElem?_append_right (by omega)] at h
    obtain ⟨t, ws, h1, h2⟩ := A'.at_ _ c h
    exact ⟨t, ws, by rw [List.getElem?_append_right (by rw [A.len]; omega), A.len]; exact h1, h2⟩⟩
/-- [[..] for x in ..] -/
theorem lcCl (wk : L2.Walk J n G Y) (q : Nat → List Lit) {j : Nat} {vs : List Nat} {av : List Addr} (hz : n < sizeLine) (hG : ∀ H', Ex H1 H' → G H') (ha : ∀ a ∈ av, H1 a ≠ none)
    (hs : ∀ i x H H', i < n → Ex H1 H → Y i H x H' → H' = H ∧ wipe ((wipe σ vs).set j (some x)) vs = wipe σ vs ∧ ∀ Q : VK, (∀ t ws H2, Ex H H2 → H t = none → H2 t = some (.lst ws) → Lits H2 ws (q i) → Q (.ref t) H2) → te ((wipe σ vs).set j (some x)) H Q)
    {Qd : Hp → Prop} {D : Addr} (hD : H1 D = none) (k : ∀ H' ws, Ex H1 H' → H' D = some (.lst ws) → CLL (D :: av) H' ws ((List.range n).map q) → Qd H') :
    ∃ W : Nat → Nat → Hp → Prop, (∃ m, W 0 m (upd H1 D (.lst []))) ∧ ∀ i m H, W i m H →
      (J.stop i H ∧ Qd H) ∨ (J.go i H ∧ ∃ Nx : Hp → Prop, (∀ H', Nx H' → ∃ m', m' < m ∧ W (i + 1) m' H') ∧ ∀ x H', J.yld i H x H' → gName j x (wipe σ vs) H' fun σ2 H2 => wipe σ2 vs = wipe σ vs ∧ tYes σ2 H2 fun b H3 =>
        if b = true then te σ2 H3 fun y H4 => ∃ acc, H4 D = some (.lst acc) ∧ acc.length < sizeLine ∧ Nx (upd H4 D (.lst (acc ++ [y]))) else Nx H3) := by
  refine lc_it wk (fun i H => Ex H1 H ∧ ∃ ws, H D = some (.lst ws) ∧ ws.length = i ∧ CLL (D :: av) H ws ((List.range i).map q)) ⟨Ex.new hD, [], upd_same, rfl, CLL.nil⟩ (fun i H _ p => hG H p.1) ?_ (fun H ⟨e, ws, h, _, L⟩ => k H ws e h L)
  rintro i x H H' hi ⟨e, ws, hl, lw, L⟩ y
  obtain ⟨rfl, hw, he⟩ := hs i x H H' hi e y
  unfold gName tYes
  dsimp only
  refine ⟨hw, ?_⟩
  rw [if_pos rfl]
  refine he _ fun t us H2 e2 hn hq LL => ⟨ws, e2 _ _ hl, by omega, Ex.mut (e.trans e2) hD, ws ++ [.ref t], upd_same, by rw [List.length_append, lw]; rfl, ?_⟩
  rw [range_map_succ]
  have nt : t ∉ D :: av := fun z => by
    rcases List.mem_cons.mp z with z | z
    · rw [z, hl] at hn; cases hn
    · have h1 := ha t z
      cases g : H1 t with
      | none => exact h1 g
      | some o => rw [e _ _ g] at hn; cases hn
  exact (((L.ex e2).put List.mem_cons_self (e2 _ _ hl)).snoc nt (by rw [upd_ne fun z => nt (by rw [z]; exact List.mem_cons_self)]; exact hq) (LL.put (e2 _ _ hl)))
end
end M6
set_option maxRecDepth 100000
set_option maxHeartbeats 16000000
/-! fit_question -/
namespace M6
open PySem L2 Evl GP HR SC SetM SetH RQ SetN
abbrev Vw : Type := List Str × List (Str × Int)
def VAt (H : Hp) (v : V) (q : Vw) : Prop := ∃ a n tm o pa, v = .ref a ∧ Val H a n tm o pa q.1 q.2
theorem VAt.ex {H H' : Hp} {v : V} {q : Vw} (h : VAt H v q) (e : Ex H H') : VAt H' v q := let ⟨a, n, tm, o, pa, h1, h2⟩ := h; ⟨a, n, tm, o, pa, h1, h2.ex e⟩
structure VLs (H : Hp) (us : List V) (qs : List Vw) : Prop where
  len : us.length = qs.length
  at_ : ∀ (i : Nat) (q : Vw), qs[i]? = some q → ∃ v, us[i]? = some v ∧ VAt H v q
theorem VLs.ex {H H' : Hp} {us : List V} {qs : List Vw} (A : VLs H us qs) (e : Ex H H') : VLs H' us qs := ⟨A.len, fun i q h => let ⟨v, h1, h2⟩ := A.at_ i q h; ⟨v, h1, h2.ex e⟩⟩
theorem VLs.get {H : Hp} {us : List V} {qs : List Vw} (A : VLs H us qs) {i : Nat} {v : V} (h : us[i]? = some v) : ∃ q, qs[i]? = some q ∧ VAt H v q := by
  have hi : i < qs.length := by rw [← A.len]; exact (List.getElem?_eq_some_iff.mp h).1
  obtain ⟨v', h1, h2⟩ := A.at_ i qs[i] (List.getElem?_eq_getElem hi)
  rw [h] at h1
  cases h1
  exact ⟨_, List.getElem?_eq_getElem hi, h2⟩
def hq (ls : List Lit) (q : Vw) : List Nat := heldP (holdsL q.1 (tvOf q.2)) ls ls.length
def cN (r j : Nat) : Str := nmP "c" "l" r j
def bN (r k : Nat) : Str := nmP "b" "x" r k
/-- the clauses of a good value, of a bad one -/
def yesC (n : Nat) (held : List Nat) : List (List Lit) := (List.range n).map fun r => (List.range held.length).map fun i => Lit.yn true (cN r (held.getD i 0))
def refB (n k : Nat) : List Lit := (List.range n).map fun r => .yn true (bN r k)
def noC (n k : Nat) (held : List Nat) : List (List Lit) := (List.range n).flatMap fun r => (List.range held.length).map fun i => [.yn false (bN r k), .yn false (cN r (held.getD i 0))]
def goodC (n : Nat) (ls : List Lit) (gs : List Vw) (i : Nat) : List (List Lit) := (gs.take i).flatMap fun q => yesC n (hq ls q)
def badC (n : Nat) (ls : List Lit) (bs : List Vw) (i : Nat) : List (List Lit) := (List.range i).flatMap fun k => refB n k :: noC n k (hq ls (bs.getD k ([], [])))
def allC (n : Nat) (ls : List Lit) (gs bs : List Vw) : List (List Lit) := goodC n ls gs gs.length ++ badC n ls bs bs.length
/-- a literal that names a part or a refusal -/
def PL (l : Lit) : Prop := ∃ f r j, r < 4 ∧ j < 6 ∧ (l = .yn f (cN r j) ∨ l = .yn f (bN r j))
def B56 : List Lit := ((List.range 4).flatMap fun r => (List.range 6).map fun j => Lit.yn true (cN r j)) ++ (List.range 4).flatMap fun r => (List.range 6).map fun j => Lit.yn true (bN r j)
theorem PL.ok {l : Lit} (h : PL l) : LitOk l := by
  obtain ⟨f, r, j, hr, hj, rfl | rfl⟩ := h
  · exact (nm_all r (by omega) j (by omega)).1.1
  · exact (nm_all r (by omega) j (by omega)).2.1
theorem PL.at {l : Lit} (h : PL l) : atomL l ∈ B56 := by
  unfold B56
  obtain ⟨f, r, j, hr, hj, rfl | rfl⟩ := h
  · exact List.mem_append_left _ (List.mem_flatMap.mpr ⟨r, List.mem_range.mpr hr, List.mem_map.mpr ⟨j, List.mem_range.mpr hj, rfl⟩⟩)
  · exact List.mem_append_right _ (List.mem_flatMap.mpr ⟨r, List.mem_range.mpr hr, List.mem_map.mpr ⟨j, List.mem_range.mpr hj, rfl⟩⟩)
theorem B56_len : B56.length ≤ 50 ∧ (B56.flatMap namesOf).length ≤ 50 := by
  have h1 : B56.length = 48 := by
    simp [B56]
    decide
  have h2 : B56.flatMap namesOf = [] := by
    rw [List.flatMap_eq_nil_iff]
    intro l hl
    unfold B56 at hl
    rcases List.mem_append.mp hl with hl | hl
    · obtain ⟨r, _, hl⟩ := List.mem_flatMap.mp hl
      obtain ⟨j, _, rfl⟩ := List.mem_map.mp hl
      rfl
    · obtain ⟨r, _, hl⟩ := List.mem_flatMap.mp hl
      obtain ⟨j, _, rfl⟩ := List.mem_map.mp hl
      rfl
  rw [h2]
  exact ⟨by omega, by simp⟩
theorem held_at {ls : List Lit} {q : Vw} (h6 : ls.length ≤ 6) {i : Nat} (hi : i < (hq ls q).length) : (hq ls q).getD i 0 < 6 := by
  have : (hq ls q)[i] < ls.length := List.mem_range.mp (List.mem_filter.mp (List.getElem_mem hi)).1
  rw [List.getD_eq_getElem?_getD, List.getElem?_eq_getElem hi]
  show (hq ls q)[i] < 6
  omega
theorem allC_lits {n : Nat} {ls : List Lit} {gs bs : List Vw} (n4 : n ≤ 4) (l6 : ls.length ≤ 6) (b6 : bs.length ≤ 6) : ∀ c ∈ allC n ls gs bs, (∀ l ∈ c, PL l) ∧ c.length ≤ 6 := by
  intro c hc
  have hl : ∀ q : Vw, (hq ls q).length ≤ 6 := fun q => Nat.le_trans heldP_len l6
  unfold allC at hc
  rcases List.mem_append.mp hc with hc | hc
  · unfold goodC at hc
    obtain ⟨q, _, hc⟩ := List.mem_flatMap.mp hc
    unfold yesC at hc
    obtain ⟨r, hr, rfl⟩ := List.mem_map.mp hc
    have hr := List.mem_range.mp hr
    refine ⟨fun l hl' => ?_, by rw [List.length_map, List.length_range]; exact hl q⟩
    obtain ⟨i, hi, rfl⟩ := List.mem_map.mp hl'
    exact ⟨true, r, _, by omega, held_at l6 (List.mem_range.mp hi), .inl rfl⟩
  · unfold badC at hc
    obtain ⟨k, hk, hc⟩ := List.mem_flatMap.mp hc
    have hk := List.mem_range.mp hk
    rcases List.mem_cons.mp hc with rfl | hc
    · unfold refB
      refine ⟨fun l hl' => ?_, by rw [List.length_map, List.length_range]; omega⟩
      obtain ⟨r, hr, rfl⟩ := List.mem_map.mp hl'
      have hr := List.mem_range.mp hr
      exact ⟨true, r, k, by omega, by omega, .inr rfl⟩
    · unfold noC at hc
      obtain ⟨r, hr, hc⟩ := List.mem_flatMap.mp hc
      obtain ⟨i, hi, rfl⟩ := List.mem_map.mp hc
      have hr := List.mem_range.mp hr
      refine ⟨fun l hl' => ?_, by show 2 ≤ 6; omega⟩
      simp only [List.mem_cons, List.not_mem_nil, or_false] at hl'
      rcases hl' with rfl | rfl
      · exact ⟨false, r, k, by omega, by omega, .inr rfl⟩
      · exact ⟨false, r, _, by omega, held_at l6 (List.mem_range.mp hi), .inl rfl⟩
def spFit (K : PySem.W.Frag) (C cL : Addr) : Sp := fun vs H Q E => ∃ (g b l : Addr) (n : Nat) (gus bus us : List V) (gs bs : List Vw), vs = [.ref g, .ref b, .ref l, natV n] ∧ Seq K H g gus ∧ VLs H gus gs ∧ Seq K H b bus ∧ VLs H bus bs ∧ n ≤ 4 ∧ gs.length ≤ 6 ∧ bs.length ≤ 6 ∧ Seq K H l us ∧
  ((∃ ls, Lits H us ls ∧ (∀ l ∈ ls, LitOk l) ∧ ls.length ≤ 6 ∧ (∀ q, q ∈ gs ∨ q ∈ bs → ∀ l ∈ ls, ∀ z ∈ namesOf l, z ∈ q.2.map Prod.fst) ∧
      ∀ x us' ds ls' H', Ex H H' → H x = none → QAt C H' x us' ds → NF ls ls' → (∀ d, d ∈ ds ↔ ∃ c ∈ allC n ls' gs bs, NF c d) → Q (.ref x) H') ∨
   (∃ ls i bad, us[i]? = some bad ∧ AnyV K H bad false ∧ Lits H (us.take i) ls ∧ (∀ l ∈ ls, LitOk l) ∧ Raised cL "value" bad H E))
theorem heldP_lt {f : Lit → Bool} {ls : List Lit} {i j : Nat} (h : j ∈ heldP f ls i) : j < i := List.mem_range.mp (List.mem_filter.mp h).1
theorem seqFor {wi : TI} {g : TG} {tb u : TS} {D D' : Ends} {σ : L2.St} {H : Hp} (hD : D' = { D with nx := u D }) (h : wi σ H fun J H1 => ∃ W : Nat → Nat → L2.St → Hp → Prop, (∃ m, W 0 m σ H1) ∧ ∀ i m σ H, W i m σ H →
  (J.stop i H ∧ D'.nx σ H) ∨ (J.go i H ∧ ∃ N : L2.St → Hp → Prop, (∀ σ' H', N σ' H' → ∃ m', m' < m ∧ W (i + 1) m' σ' H') ∧ ∀ x H', J.yld i H x H' → g x σ H' fun σ2 H2 => tb { D' with nx := N, ct := N, bk := D'.nx } σ2 H2)) : tSeq (tFor wi g tb) u D σ H := by
  subst hD
  exact h
theorem enS_goE {K : PySem.W.Frag} {ta : TA} {a : Addr} {xs : List V} {σ : L2.St} {H H0 : Hp} {R : It → Hp → Prop} (ht : ∀ Q : List V → Hp → Prop, Q [.ref a] H → ta σ H Q) (e : Ex H0 H) (h : Seq K H0 a xs)
    (hR : ∀ (J : It) (G : Hp → Prop), L2.Walk J xs.length G (YPair (fun i => some (.int (i : Nat))) (fun i => xs[i]?)) → (∀ H', Ex H0 H' → G H') → R J H) : iEnS K ta σ H R := by
  refine ht _ ⟨a, xs, rfl, ?_⟩
  rcases h with h | h
  · exact .inl ⟨ex_l e h, hR _ _ walk_enum fun _ e => ex_l e h⟩
  · exact .inr ⟨ex_t e h, hR _ _ walk_enT fun _ e => ex_t e h⟩
theorem nm_go {i : Nat} {v : V} {σ : L2.St} {H : Hp} {Q : L2.St → Hp → Prop} (h : Q (σ.set i (some v)) H) : gName i v σ H Q := h
theorem or_go {K : PySem.W.Frag} {ta : TE} {p : Addr} {us : List V} {σ : L2.St} {H H0 : Hp} {R : It → Hp → Prop} (ht : ∀ Q : VK, Q (.ref p) H → ta σ H Q) (e : Ex H0 H) (h : Seq K H0 p us)
    (hR : ∀ (J : It) (G : Hp → Prop), L2.Walk J us.length G (YAt us) → (∀ H', Ex H0 H' → G H') → R J H) : iList K ta σ H R ∨ iTup K ta σ H R := by
  rcases h with h | h
  · exact .inl (ht _ ⟨p, rfl, ⟨us, ex_l e h⟩, hR _ _ walk_list fun _ e => ex_l e h⟩)
  · exact .inr (ht _ ⟨p, rfl, ⟨us, ex_t e h⟩, hR _ _ walk_tup fun _ e => ex_t e h⟩)
section
variable {P : Program} {w : World} {K : PySem.W.Frag} {mg : Str → Option Value} {base : Heap} {a : Ad} {d : Fd} {fL fC fW fU C fI : Addr} {dI : FuncData}
theorem ok_fit_question (T : TX K mg a) (D : FDS K a d) (R : ER K mg P a fL fC fW) (M : MC K mg C fI dI) (EU : PySem.Sup.SupTxt K mg P "UnknownMoment" "name" "not a listed moment" a.cU fU) : FnOk P w K mg base (L2N.CX P w) 10 a.a_fit_question d.a_fit_question ["good", "bad", "literals", "count"] (spFit K C a.cL) := by
  have G_clause_of : FnOk P w K mg base (L2N.CX P w) 5 a.a_clause_of d.a_clause_of ["literals"] (spClause K a.cL a.cC) := ok_clause_of T D R
  have G_places_held : FnOk P w K mg base (L2N.CX P w) 8 a.a_places_held d.a_places_held ["literals", "values"] spPlaces := ok_places_held T D R EU
  have G_name_of_part : FnOk P w K mg base CX0 1 a.a_name_of_part d.a_name_of_part ["row", "place"] (spPart "c" "l") := ok_name_of_part T D
  have G_name_of_refusal : FnOk P w K mg base CX0 1 a.a_name_of_refusal d.a_name_of_refusal ["row", "number"] (spPart "b" "x") := ok_name_of_refusal T D
  have GI : FnR P w K mg base CX0 7 fI (spNew K C) := ok_new T D R M
  refine NX.okX D.F_fit_question sc_fit_question (fun vs H Q E h => ?_) (fun cdv A outer s H vs Q E hr h => ?_)
  · obtain ⟨g, b, l, n, gus, bus, us, gs, bs, rfl, _⟩ := h
    rfl
  · obtain ⟨g, b, l, n, gus, bus, us, gs, bs, rfl, hg, VG, hb, VB, n4, g6, b6, hl, h⟩ := h
    have hr8 := hr.mono (by decide : 8 ≤ 9)
    refine ⟨_, (pss_cons (ps_set (i := 4) sc_fit_question.nd rfl (Or.inl rfl) (pe_call G_clause_of (hr.mono (by decide)) rfl T.f_clause_of T.k_clause_of D.B_clause_of .nil (L2N.passes_call (L2N.takes_of rfl rfl rfl rfl) (fun _ _ _ _ h => h)) (pa_cons (pv 2) pa_nil)))
        (pss_cons (ps_set (i := 5) sc_fit_question.nd rfl (Or.inl rfl) (pe_lst pa_nil))
        (pss_cons (ps_for PassesOwn.leaving rfl (pi_or (pi_list (pv 0)) (pi_tup (pv 0))) (pg_name (i := 6) sc_fit_question.nd rfl (Or.inl rfl)) (pss_cons (ps_set (i := 7) sc_fit_question.nd rfl (Or.inr rfl) (pe_call G_places_held (hr.mono (by decide)) rfl T.f_places_held T.k_places_held D.B_places_held .nil (L2N.passes_call (L2N.takes_of rfl rfl rfl rfl) (fun _ _ _ _ h => h)) (pa_cons (pv 4) (pa_cons (pv 6) pa_nil))))
        (pss_one (ps_expr (pe_bm PySem.F.plainAttrs_list PySem.F.slot_list_extend PySem.F.type_list_extend mt_extend (pv 5) (pa_cons (pe_lc (own := [("row", 9)]) (g := gName 9) (tt := tYes) rfl sc_fit_question.nd (pi_range1 rfl T.b_range (pa_cons (pv 3) pa_nil)) (blkOk_by (N := ["good", "bad", "literals", "count", "kinds", "clauses", "values", "held", "number", "row", "place"]) (sc := defScope s_fit_question) (by decide +kernel)) (fun _ _ _ _ _ => (pg_name (i := 9) sc_fit_question.nd rfl (Or.inr rfl))) (fun _ _ _ _ _ => pts_nil) (fun _ _ _ _ _ => (pe_lc (own := [("place", 10)]) (g := gName 10) (tt := tYes) rfl sc_fit_question.nd (pi_listK (K := K) (pv 7)) (blkOk_by (N := ["good", "bad", "literals", "count", "kinds", "clauses", "values", "held", "number", "row", "place"]) (sc := _) rfl) (fun _ _ _ _ _ => (pg_name (i := 10) sc_fit_question.nd rfl (Or.inl rfl))) (fun _ _ _ _ _ => pts_nil) (fun _ _ _ _ _ => (pe_tup (pa_cons pe_str (pa_cons (pe_call G_name_of_part (hr.mono (by decide)) rfl T.f_name_of_part T.k_name_of_part D.B_name_of_part .nil pass0 (pa_cons (pv 9) (pa_cons (pv 10) pa_nil))) pa_nil))))))) pa_nil))))))
        (pss_cons (ps_for PassesOwn.leaving rfl (pi_enS (by rfl) T.b_enumerate (pa_cons (pv 1) pa_nil)) (pg_tup rfl (pgs_cons (pg_name (i := 8) sc_fit_question.nd rfl (Or.inr rfl)) (pgs_cons (pg_name (i := 6) sc_fit_question.nd rfl (Or.inl rfl)) pgs_nil))) (pss_cons (ps_set (i := 7) sc_fit_question.nd rfl (Or.inr rfl) (pe_call G_places_held (hr.mono (by decide)) rfl T.f_places_held T.k_places_held D.B_places_held .nil (L2N.passes_call (L2N.takes_of rfl rfl rfl rfl) (fun _ _ _ _ h => h)) (pa_cons (pv 4) (pa_cons (pv 6) pa_nil))))
        (pss_cons (ps_expr (pe_bm PySem.F.plainAttrs_list PySem.F.slot_list_append PySem.F.type_list_append mt_append (pv 5) (pa_cons (pe_lc (own := [("row", 9)]) (g := gName 9) (tt := tYes) rfl sc_fit_question.nd (pi_range1 rfl T.b_range (pa_cons (pv 3) pa_nil)) (blkOk_by (N := ["good", "bad", "literals", "count", "kinds", "clauses", "values", "held", "number", "row", "place"]) (sc := defScope s_fit_question) (by decide +kernel)) (fun _ _ _ _ _ => (pg_name (i := 9) sc_fit_question.nd rfl (Or.inl rfl))) (fun _ _ _ _ _ => pts_nil) (fun _ _ _ _ _ => (pe_tup (pa_cons pe_str (pa_cons (pe_call G_name_of_refusal (hr.mono (by decide)) rfl T.f_name_of_refusal T.k_name_of_refusal D.B_name_of_refusal .nil pass0 (pa_cons (pv 9) (pa_cons (pv 8) pa_nil))) pa_nil))))) pa_nil)))
        (pss_one (ps_expr (pe_bm PySem.F.plainAttrs_list PySem.F.slot_list_extend PySem.F.type_list_extend mt_extend (pv 5) (pa_cons (pe_lc2 (own := [("row", 9), ("place", 10)]) (vs1 := [10]) (g := gName 9) (g1 := gName 10) (tt := tYes) (tt1 := tYes) rfl sc_fit_question.nd (pi_range1 rfl T.b_range (pa_cons (pv 3) pa_nil)) (blkOk_by (N := ["good", "bad", "literals", "count", "kinds", "clauses", "values", "held", "number", "row", "place"]) (sc := defScope s_fit_question) (by decide +kernel)) (by decide) (fun _ _ _ _ _ => (pg_name (i := 9) sc_fit_question.nd rfl (Or.inl rfl))) (fun _ _ _ _ _ => pts_nil) (fun _ _ _ _ _ => (pi_listK (K := K) (pv 7))) (fun _ _ _ _ _ => (pg_name (i := 10) sc_fit_question.nd rfl (Or.inl rfl))) (fun _ _ _ _ _ => pts_nil) (fun _ _ _ _ _ => (pe_lst (pa_cons (pe_tup (pa_cons pe_str (pa_cons (pe_call G_name_of_refusal (hr.mono (by decide)) rfl T.f_name_of_refusal T.k_name_of_refusal D.B_name_of_refusal .nil pass0 (pa_cons (pv 9) (pa_cons (pv 8) pa_nil))) pa_nil))) (pa_cons (pe_tup (pa_cons pe_str (pa_cons (pe_call G_name_of_part (hr.mono (by decide)) rfl T.f_name_of_part T.k_name_of_part D.B_name_of_part .nil pass0 (pa_cons (pv 9) (pa_cons (pv 10) pa_nil))) pa_nil))) pa_nil))))) pa_nil)))))))
        (pss_one (ps_ret (QS.pe_make1 M.mkr GI hr8 rfl M.gC pass0 (pv 5)))))))), ?_⟩
    have big : 1000 ≤ sizeLine := by decide
    rcases h with ⟨ls, L, okl, l6, sub, fin⟩ | ⟨ls, i, bad, h1, h2, h3, h4, RZ⟩
    · refine ⟨_, rfl, .ref l, rfl, .inl ⟨l, us, ls, rfl, hl, L, okl, by omega, fun k kus ls' H1 e1 hk LK mem asc => ?_⟩⟩
      refine ⟨(by show 0 ≤ sizeLine; decide), fun F hF => ?_⟩
      have x2 := Ex.new (o := .lst []) hF
      have hF2 : upd H1 F (.lst []) F = some (.lst []) := upd_same
      have okls : ∀ m ∈ ls', LitOk m := fun m hm => okl m ((mem m).mp hm)
      have lls : ls'.length ≤ 6 := Nat.le_trans (asc_len asc mem) l6
      have sub' : ∀ q, q ∈ gs ∨ q ∈ bs → ∀ m ∈ ls', ∀ z ∈ namesOf m, z ∈ q.2.map Prod.fst := fun q hq m hm => sub q hq m ((mem m).mp hm)
      generalize upd H1 F (.lst []) = H2 at *
      refine nm_go ?_
      dsimp only
      refine or_go (fun Q q => ⟨_, rfl, q⟩) (e1.trans x2) hg fun J G wk hG => for_it wk (fun i σ H' => ∃ (us4 : List V) (o6 o7 : Option V), σ = [some (.ref g), some (.ref b), some (.ref l), some (natV n), some (.ref k), some (.ref F), o6, o7, none, none, none] ∧ Ex H1 H' ∧ H' F = some (.lst us4) ∧ CLL [F] H' us4 (goodC n ls' gs i) ∧ us4.length ≤ 4 * i) ⟨[], none, none, rfl, x2, hF2, CLL.nil, Nat.le_refl _⟩ (fun i σ H' _ ⟨_, _, _, _, e, _⟩ => hG H' (e1.trans e)) ?_ ?_
      · rintro i x σ H3 H3' hi ⟨us4, o6, o7, rfl, e3, hF3, CL, l4⟩ ⟨rfl, hx⟩
        obtain ⟨q, hqi, va, vn, vtm, vo, vpa, rfl, VV⟩ := (VG.ex (e1.trans e3)).get hx
        refine ⟨_, rfl, _, rfl, k, va, vn, vtm, vo, vpa, kus, ls', q.1, q.2, rfl, e3 _ _ hk, LK.ex e3, okls, by omega, VV, sub' q (.inl (List.mem_of_getElem? hqi)), fun hh H4 e4 hn4 hh4 => ?_⟩
        refine nm_go ?_
        dsimp only
        have F4 := e4 _ _ hF3
        have CL4 := CL.ex e4
        have h9 : ∀ i, i < (hq ls' q).length → (hq ls' q).getD i 0 ≤ 9 := fun i hi => by
          have := heldP_lt (List.getElem_mem hi)
          rw [List.getD_eq_getElem?_getD, List.getElem?_eq_getElem hi]
          show (hq ls' q)[i] ≤ 9
          omega
        have hl9 : (hq ls' q).length ≤ 6 := Nat.le_trans heldP_len lls
        replace hh4 : H4 hh = some (.lst ((hq ls' q).map natV)) := hh4
        have goF : goodC n ls' gs (i + 1) = goodC n ls' gs i ++ yesC n (hq ls' q) := by
          unfold goodC
          rw [List.take_add_one, hqi, List.flatMap_append]
          simp
        generalize hq ls' q = hd at *
        refine ⟨_, rfl, .inl ⟨rfl, _, SqL.of F4⟩, _, rfl, (n : Int), rfl, by omega, by omega, fun D1 hD1 => lcCl (av := [F]) walk_range (fun r => (List.range hd.length).map fun i => Lit.yn true (cN r (hd.getD i 0))) (by omega) (fun _ _ => trivial) (fun a ha => by rw [List.mem_singleton.mp ha, F4]; simp) ?_ hD1 fun H5 ws e5 h5 CL5 => ?_⟩
        · rintro r x H5 H5' hr5 e5 ⟨rfl, rfl⟩
          refine ⟨rfl, rfl, fun Q q => ?_⟩
          refine ⟨_, rfl, hh, rfl, ⟨_, SqL.of (e5 _ _ hh4)⟩, fun D2 hD2 => lcLit walk_list (fun i => Lit.yn true (cN r (hd.getD i 0))) (by rw [List.length_map]; omega) (fun H' e => SqL.of (e _ _ (e5 _ _ hh4))) ?_ hD2 fun H6 ws6 e6 h6 L6 => ?_⟩
          · rintro i x H6 H6' hi6 e6 ⟨rfl, hx6⟩
            rw [List.length_map] at hi6
            rw [List.getElem?_map, List.getElem?_eq_getElem hi6] at hx6
            cases hx6
            have gd : hd.getD i 0 = hd[i] := by rw [List.getD_eq_getElem?_getD, List.getElem?_eq_getElem hi6]; rfl
            have hi9 := h9 i hi6
            rw [gd] at hi9 ⊢
            refine ⟨rfl, rfl, fun Q q => ⟨_, rfl, _, rfl, r, hd[i], ?_, by omega, hi9, (by show 2 ≤ sizeLine; decide), fun t ht => q t _ (Ex.new ht) upd_same⟩⟩
            show [V.int (0 + (r : Int)), natV hd[i]] = [natV r, natV hd[i]]
            rw [Int.zero_add]
            rfl
          · rw [List.length_map] at L6
            exact q D2 ws6 H6 e6 hD2 h6 L6
        · have lgs := VG.len
          have lw := CL5.len
          rw [List.length_map, List.length_range] at lw
          refine ⟨F, D1, us4, ws, rfl, rfl, e5 _ _ F4, h5, by omega, ⟨us4 ++ ws, _, _, rfl, (e3.trans (e4.trans e5)).mut hF, upd_same, ?_, by rw [List.length_append]; omega⟩⟩
          rw [goF]
          exact ((CL4.ex e5).append (CL5.sub fun a ha => List.mem_cons_of_mem _ ha)).put (List.mem_singleton.mpr rfl) (e5 _ _ F4)
      · rintro σ H3 ⟨us4, o6, o7, rfl, e3, hF3, CL, l4⟩
        rw [VG.len] at CL l4
        dsimp only
        refine seqFor rfl ?_
        refine enS_goE (K := K) (ta := tCons (tVar 1) tNil) (fun Q q => ⟨_, rfl, q⟩) (e1.trans e3) hb fun J G wk hG => for_it wk (fun i σ H' => ∃ (us5 : List V) (o6 o7 o8 : Option V), σ = [some (.ref g), some (.ref b), some (.ref l), some (natV n), some (.ref k), some (.ref F), o6, o7, o8, none, none] ∧ Ex H1 H' ∧ H' F = some (.lst us5) ∧ CLL [F] H' us5 (goodC n ls' gs gs.length ++ badC n ls' bs i) ∧ us5.length ≤ 24 + 25 * i) ⟨us4, o6, o7, none, rfl, e3, hF3, by unfold badC; simpa using CL, by omega⟩ (fun i σ H' _ ⟨_, _, _, _, _, e, _⟩ => hG H' (e1.trans e)) ?_ ?_
        · rintro i x σ H4 H4' hi ⟨us5, o6, o7, o8, rfl, e4, hF4, CL4, l5⟩ ⟨T4, xa, xb, rfl, hT4, rfl, hxa, hxb⟩
          cases hxa
          have x5 := Ex.new (o := .tup [V.int (i : Nat), xb]) hT4
          have hT5 : upd H4 T4 (.tup [V.int (i : Nat), xb]) T4 = some (.tup [V.int (i : Nat), xb]) := upd_same
          refine ⟨T4, _, rfl, SqT.of hT5, rfl, _, _, rfl, _, _, rfl, rfl, ?_⟩
          generalize upd H4 T4 (.tup [V.int (i : Nat), xb]) = H5 at *
          have e5 := e4.trans x5
          have hi6 : i < 6 := by have := VB.len; omega
          obtain ⟨q, hqi, va, vn, vtm, vo, vpa, rfl, VV⟩ := (VB.ex (e1.trans e5)).get hxb
          refine ⟨_, rfl, _, rfl, k, va, vn, vtm, vo, vpa, kus, ls', q.1, q.2, rfl, e5 _ _ hk, LK.ex e5, okls, by omega, VV, sub' q (.inr (List.mem_of_getElem? hqi)), fun hh H6 e6 hn6 hh6 => ?_⟩
          refine nm_go ?_
          dsimp only
          have F6 := e6 _ _ (x5 _ _ hF4)
          have CL6 := (CL4.ex x5).ex e6
          have h9 : ∀ i, i < (hq ls' q).length → (hq ls' q).getD i 0 ≤ 9 := fun i hi => by
            have := heldP_lt (List.getElem_mem hi)
            rw [List.getD_eq_getElem?_getD, List.getElem?_eq_getElem hi]
            show (hq ls' q)[i] ≤ 9
            omega
          have hl9 : (hq ls' q).length ≤ 6 := Nat.le_trans heldP_len lls
          replace hh6 : H6 hh = some (.lst ((hq ls' q).map natV)) := hh6
          have baF : badC n ls' bs (i + 1) = badC n ls' bs i ++ (refB n i :: noC n i (hq ls' q)) := by
            unfold badC
            rw [List.range_succ, List.flatMap_append]
            simp [List.getD_eq_getElem?_getD, hqi]
          generalize hq ls' q = hd at *
          refine ⟨_, rfl, .inl ⟨rfl, _, SqL.of F6⟩, _, rfl, (n : Int), rfl, by omega, by omega, fun D1 hD1 => lcLit walk_range (fun r => Lit.yn true (bN r i)) (by omega) (fun _ _ => trivial) ?_ hD1 fun H7 ws7 e7 h7 L7 => ?_⟩
          · rintro r x H7 H7' hr7 e7 ⟨rfl, rfl⟩
            refine ⟨rfl, rfl, fun Q q => ⟨_, rfl, _, rfl, r, i, ?_, by omega, by omega, (by show 2 ≤ sizeLine; decide), fun t ht => q t _ (Ex.new ht) upd_same⟩⟩
            show [V.int (0 + (r : Int)), V.int (i : Int)] = [natV r, natV i]
            rw [Int.zero_add]
            rfl
          have F7 := e7 _ _ F6
          refine ⟨F, us5, .ref D1, rfl, rfl, F7, by omega, ?_⟩
          have nD1 : D1 ∉ [F] := fun z => by rw [List.mem_singleton.mp z, F6] at hD1; cases hD1
          have CL8 := ((CL6.ex e7).snoc nD1 h7 L7).put (o := .lst (us5 ++ [V.ref D1])) (List.mem_singleton.mpr rfl) F7
          have F8 : upd H7 F (.lst (us5 ++ [V.ref D1])) F = some (.lst (us5 ++ [V.ref D1])) := upd_same
          have e8 : Ex H1 (upd H7 F (.lst (us5 ++ [V.ref D1]))) := (e5.trans (e6.trans e7)).mut hF
          have hh8 : upd H7 F (.lst (us5 ++ [V.ref D1])) hh = some (.lst (hd.map natV)) := by
            rw [upd_ne (fun z => by rw [z, x5 _ _ hF4] at hn6; cases hn6)]
            exact e7 _ _ hh6
          generalize upd H7 F (.lst (us5 ++ [V.ref D1])) = H8 at *
          have l8 : (us5 ++ [V.ref D1]).length ≤ 24 + 25 * i + 1 := by rw [List.length_append, List.length_singleton]; omega
          generalize us5 ++ [V.ref D1] = us8 at *
          refine ⟨_, rfl, .inl ⟨rfl, _, SqL.of F8⟩, _, rfl, (n : Int), rfl, by omega, by omega, fun D2 hD2 => SC.lc2_out walk_range (fun r H' => Ex H8 H' ∧ ∃ ws, H' D2 = some (.lst ws) ∧ CLL [D2, F] H' ws (noC r i hd) ∧ ws.length ≤ 6 * r) ⟨Ex.new hD2, [], upd_same, CLL.nil, Nat.le_refl _⟩ (fun _ _ _ => trivial) ?_ fun H9 h => ?_⟩
          · rintro r x H9 H9' hr9 ⟨e9, ws9, h9D, CL9, lw9⟩ ⟨rfl, rfl⟩
            unfold gName
            dsimp only
            refine ⟨rfl, _, rfl, hh, rfl, ⟨_, SqL.of (e9 _ _ hh8)⟩, ?_⟩
            refine SC.lc2_in (D := D2) (g1 := gName 10) (tt1 := tYes) (vs1 := [10]) (Nx := fun H' => Ex H8 H' ∧ ∃ ws, H' D2 = some (.lst ws) ∧ CLL [D2, F] H' ws (noC (r + 1) i hd) ∧ ws.length ≤ 6 * (r + 1)) (walk_list (xs := hd.map natV)) (fun j H' => Ex H8 H' ∧ ∃ ws, H' D2 = some (.lst ws) ∧ CLL [D2, F] H' ws (noC r i hd ++ (List.range j).map fun m => [Lit.yn false (bN r i), Lit.yn false (cN r (hd.getD m 0))]) ∧ ws.length ≤ 6 * r + j) ⟨e9, ws9, h9D, by simpa using CL9, by omega⟩ (fun j H' h => SqL.of (h.1 _ _ hh8)) ?_ (fun H10 ⟨e10, ws, g1, g2, g3⟩ => ⟨e10, ws, g1, by rw [List.length_map] at g2; unfold noC at g2 ⊢; rw [List.range_succ, List.flatMap_append]; simpa using g2, by rw [List.length_map] at g3; omega⟩)
            rintro j y H10 H10' hj ⟨e10, ws, g1, g2, g3⟩ ⟨rfl, hy⟩
            rw [List.length_map] at hj
            rw [List.getElem?_map, List.getElem?_eq_getElem hj] at hy
            cases hy
            have gd : hd.getD j 0 = hd[j] := by rw [List.getD_eq_getElem?_getD, List.getElem?_eq_getElem hj]; rfl
            have hj9 := h9 j hj
            rw [gd] at hj9
            unfold gName
            dsimp only
            have eb : [V.int (0 + (r : Int)), V.int (i : Int)] = [natV r, natV i] := by rw [Int.zero_add]; rfl
            have ec : [V.int (0 + (r : Int)), natV hd[j]] = [natV r, natV hd[j]] := by rw [Int.zero_add]; rfl
            refine ⟨rfl, _, rfl, _, rfl, r, i, eb, by omega, by omega, (by show 2 ≤ sizeLine; decide), fun t1 ht1 => ?_⟩
            have x11 := Ex.new (o := .tup [V.str "no", V.str (nmP "b" "x" r i)]) ht1
            have q1 : upd H10' t1 (.tup [V.str "no", V.str (nmP "b" "x" r i)]) t1 = some (.tup (litV (.yn false (bN r i)))) := upd_same
            generalize upd H10' t1 (.tup [V.str "no", V.str (nmP "b" "x" r i)]) = H11 at *
            refine ⟨_, rfl, _, rfl, r, hd[j], ec, by omega, hj9, (by show 2 ≤ sizeLine; decide), fun t2 ht2 => ?_⟩
            have x12 := Ex.new (o := .tup [V.str "no", V.str (nmP "c" "l" r hd[j])]) ht2
            have q2 : upd H11 t2 (.tup [V.str "no", V.str (nmP "c" "l" r hd[j])]) t2 = some (.tup (litV (.yn false (cN r hd[j])))) := upd_same
            generalize upd H11 t2 (.tup [V.str "no", V.str (nmP "c" "l" r hd[j])]) = H12 at *
            have L12 : Lits H12 [.ref t1, .ref t2] [.yn false (bN r i), .yn false (cN r hd[j])] := (Lits.nil.snoc (x12 _ _ q1)).snoc q2
            refine ⟨(by show 2 ≤ sizeLine; decide), fun t3 ht3 => ?_⟩
            have x13 := Ex.new (o := .lst [V.ref t1, V.ref t2]) ht3
            have q3 : upd H12 t3 (.lst [V.ref t1, V.ref t2]) t3 = some (.lst [V.ref t1, V.ref t2]) := upd_same
            have x10 := x11.trans (x12.trans x13)
            have n3 : t3 ∉ [D2, F] := fun z => by
              have a1 := (x11.trans x12) _ _ g1
              have a2 := (x11.trans x12) _ _ (e10 _ _ F8)
              rcases List.mem_cons.mp z with z | z
              · rw [z, a1] at ht3; cases ht3
              · rw [List.mem_singleton.mp z, a2] at ht3; cases ht3
            refine ⟨ws, x10 _ _ g1, by omega, (e10.trans x10).mut hD2, ws ++ [.ref t3], upd_same, ?_, by rw [List.length_append, List.length_singleton]; omega⟩
            rw [range_map_succ, ← List.append_assoc, gd]
            exact ((g2.ex x10).snoc n3 q3 (L12.ex x13)).put List.mem_cons_self (x10 _ _ g1)
          · obtain ⟨e9, ws9, h9D, CL9, lw9⟩ := h
            refine ⟨F, D2, us8, ws9, rfl, rfl, e9 _ _ F8, h9D, by omega, us8 ++ ws9, _, _, _, rfl, (e8.trans e9).mut hF, upd_same, ?_, by rw [List.length_append]; omega⟩
            rw [baF, ← List.append_assoc, List.append_cons]
            exact ((CL8.ex e9).append (CL9.sub fun a ha => List.mem_cons_of_mem _ ha)).put (List.mem_singleton.mpr rfl) (e9 _ _ F8)
        · rintro σ H4 ⟨us5, o6, o7, o8, rfl, e4, hF4, CL4, l5⟩
          rw [VB.len] at CL4 l5
          dsimp only
          have lits := allC_lits (gs := gs) n4 lls b6
          have A : Args K H4 us5 (allC n ls' gs bs) B56 := ⟨CL4.len, fun i c h => let ⟨t, ws, h1, _, h3, h4⟩ := CL4.at_ i c h; ⟨t, ws, h1, .inl (SqL.of h3), h4⟩, fun c hc => ⟨fun l hl => ((lits c hc).1 l hl).ok, by have := (lits c hc).2; omega, fun l hl => ((lits c hc).1 l hl).at⟩, by have := CL4.len; unfold allC; omega, B56_len.1, B56_len.2⟩
          have e04 := e1.trans e4
          refine ⟨_, rfl, F, us5, rfl, .inr (SqL.of hF4), ?_⟩
          show ∀ x dx, H4 x = none → H4 dx = none → dx ≠ x → spNew K C (V.ref x :: (us5 ++ [])) _ _ _
          rw [List.append_nil]
          exact make_go A fun x vs' ds H' e5 hx QA memd => fin x vs' ds ls' H' (e04.trans e5) (fresh_back e04 hx) QA ⟨asc, mem⟩ memd
    · exact ⟨_, rfl, .ref l, rfl, .inr (.inl ⟨l, us, ls, i, bad, rfl, hl, h1, h2, h3, h4, RZ⟩)⟩
end
end M6
set_option maxRecDepth 100000
set_option maxHeartbeats 8000000
/-! tuple(sorted(set(..))) of literals or of clauses -/
namespace M6
open PySem L2 Evl GP HR SC SetM SetH RQ SetN
theorem sort_lits {H : Hp} {L : List (Addr × NestedKey)} {ds : List Lit} {bs : List (V × PyData)} (each : ∀ q ∈ L, ∃ c ∈ ds, q.2 = litN c ∧ H q.1 = some (.tup (litV c))) (got : ∀ c ∈ ds, litN c ∈ L.map Prod.snd) (nd : (L.map Prod.snd).Nodup) (pm : bs.Perm (L.map SetN.enN)) :
    ∃ es, Lits H ((SD.sortedD bs).map Prod.fst) es ∧ AscL es ∧ ∀ c, c ∈ es ↔ c ∈ ds := by
  have pm2 := (SD.sorted_perm bs).trans pm
  have so0 := sortedD_pw bs
  generalize SD.sortedD bs = xs at *
  have each2 : ∀ b ∈ xs, ∃ t c, b.1 = .ref t ∧ b.2 = litD c ∧ H t = some (.tup (litV c)) ∧ c ∈ ds := fun b hb => by
    obtain ⟨q, hq, rfl⟩ := List.mem_map.mp (pm2.mem_iff.mp hb)
    obtain ⟨c, hc, e, ht⟩ := each q hq
    exact ⟨q.1, c, rfl, by show NestedKey.data q.2 = _; rw [e, litN_D], ht, hc⟩
  refine ⟨xs.map fun b => litOfD b.2, Lits.of_each fun b hb => ?_, asc_lits ?_ ?_, fun c => ⟨fun h => ?_, fun h => ?_⟩⟩
  · obtain ⟨t, c, h1, h2, h3, _⟩ := each2 b hb
    exact ⟨t, c, h1, h2, h3⟩
  · refine List.pairwise_map.mpr (so0.imp_of_mem fun {p q} hp hq z => ?_)
    obtain ⟨_, l, _, e1, _⟩ := each2 p hp
    obtain ⟨_, m, _, e2, _⟩ := each2 q hq
    rw [e1, e2, litOf, litOf, ← e1, ← e2]
    exact z
  · have e : (xs.map fun b => litOfD b.2).Perm (L.map fun q => litOfD (NestedKey.data q.2)) := by
      have := pm2.map fun b : V × PyData => litOfD b.2
      rwa [List.map_map] at this
    rw [e.nodup_iff]
    have nd2 : L.Pairwise fun q r => q.2 ≠ r.2 := List.pairwise_map.mp nd
    refine List.pairwise_map.mpr (List.Pairwise.imp_of_mem (fun {q r} hq hr n z => n ?_) nd2)
    obtain ⟨l, _, e1, _⟩ := each q hq
    obtain ⟨m, _, e2, _⟩ := each r hr
    rw [e1, e2, litN_D, litN_D, litOf, litOf] at z
    rw [e1, e2, z]
  · obtain ⟨b, hb, rfl⟩ := List.mem_map.mp h
    obtain ⟨t, l, e1, e2, _, hl⟩ := each2 b hb
    rw [e2, litOf]
    exact hl
  · obtain ⟨r, hr, e2⟩ := List.mem_map.mp (got c h)
    refine List.mem_map.mpr ⟨SetN.enN r, pm2.mem_iff.mpr (List.mem_map_of_mem hr), ?_⟩
    show litOfD (NestedKey.data r.2) = c
    rw [e2, litN_D, litOf]
theorem Lits.keysN {H : Hp} {us : List V} {ls : List Lit} (A : Lits H us ls) : ∃ ks : List (Addr × NestedKey), us = ks.map (fun p => V.ref p.1) ∧ ks.map Prod.snd = ls.map litN ∧ ∀ p ∈ ks, ∃ l ∈ ls, p.2 = litN l ∧ H p.1 = some (.tup (litV l)) := by
  obtain ⟨zs, e1, e2, hz⟩ := A.zip
  refine ⟨zs.map fun z => (z.1, litN z.2), by rw [e1, List.map_map]; rfl, by rw [e2, List.map_map, List.map_map]; rfl, fun p hp => ?_⟩
  obtain ⟨z, hz', rfl⟩ := List.mem_map.mp hp
  exact ⟨z.2, by rw [e2]; exact List.mem_map_of_mem hz', rfl, hz z hz'⟩
def spForm (K : PySem.W.Frag) : Sp := fun vs H Q _ => ∃ p us, vs = [.ref p] ∧ SqL K H p us ∧
  ((∃ ls, Lits H us ls ∧ ls.length < 63 ∧ ∀ u us' ls' H', Ex H H' → H' u = some (.tup us') → Lits H' us' ls' → NF ls ls' → Q (.ref u) H') ∨
   (∃ cs, Cls H us cs ∧ cs.length < 298 ∧ ∀ u us' es H', Ex H H' → H' u = some (.tup us') → Cls H' us' es → AscC es → (∀ c, c ∈ es ↔ c ∈ cs) → Q (.ref u) H'))
section
variable {P : Program} {w : World} {K : PySem.W.Frag} {mg : Str → Option Value} {base : Heap} {a : Ad} {d : Fd}
theorem ok_law_form (T : TX K mg a) (D : FDS K a d) : FnOk P w K mg base CX0 1 a.a_law_form d.a_law_form ["literals"] (spForm K) := by
  refine D.F__law_form.ok sc_law_form (fun vs H Q E h => ?_) (fun cdv A outer s H vs Q E hr h => ?_)
  · obtain ⟨p, us, rfl, _⟩ := h
    rfl
  · obtain ⟨p, us, rfl, hp, h⟩ := h
    refine ⟨_, (pss_one (ps_ret (pe_callTy call_tuple_of (by rfl) T.b_tuple (by decide +kernel) (pa_cons (pe_callB (SetW.cr_sortedNW (K := K) (P := P) (w := w) rfl hr.units) (by rfl) T.b_sorted (by decide +kernel) (pa_cons (pe_callTy (SetW.cr_setNW (K := K) (P := P) (w := w) rfl hr.units) (by rfl) T.b_set (by decide +kernel) (pa_cons (pv 0) pa_nil)) pa_nil)) pa_nil)))), ?_⟩
    rcases h with ⟨ls, LS, few, fin⟩ | ⟨cs, CL, few, fin⟩
    · obtain ⟨ks, eks, esn, hk⟩ := LS.keysN
      have lks : ks.length = ls.length := by rw [← List.length_map (f := Prod.snd), esn, List.length_map]
      refine ⟨_, rfl, p, ks, rfl, .inl (by rw [← eks]; exact hp), fun q hq => ?_, by omega, fun L S took nd hS => ?_⟩
      · obtain ⟨l, _, e, h1⟩ := hk q hq
        rw [e, litN_D]
        exact ⟨lit_dp (SqT.of h1), litN_depth l⟩
      have x3 := Ex.new (o := SetW.SetNOW P w S L) hS
      have eachL : ∀ q ∈ L, ∃ l ∈ ls, q.2 = litN l ∧ upd H S (SetW.SetNOW P w S L) q.1 = some (.tup (litV l)) := fun q hq => by
        obtain ⟨l, hl, e, h1⟩ := hk q (took.from_ q hq)
        exact ⟨l, hl, e, x3 _ _ h1⟩
      have hS3 : upd H S (SetW.SetNOW P w S L) S = some (SetW.SetNOW P w S L) := upd_same
      have gotL : ∀ l ∈ ls, litN l ∈ L.map Prod.snd := fun l hl => by
        have : litN l ∈ ks.map Prod.snd := by rw [esn]; exact List.mem_map_of_mem hl
        obtain ⟨r, hr, e⟩ := List.mem_map.mp this
        rw [← e]
        exact took.got r hr
      generalize upd H S (SetW.SetNOW P w S L) = H3 at *
      refine ⟨S, L, rfl, hS3, fun q hq => ?_, ?_, fun q hq => ?_, fun bs r pm hr => ⟨r, _, rfl, .inl ⟨SqL.of upd_same, fun t ht => ?_⟩⟩⟩
      · obtain ⟨l, _, e, h1⟩ := eachL q hq
        rw [e, litN_D]
        exact ⟨lit_dp (SqT.of h1), by cases l <;> simp [litD, PyData.depth, PyData.depthAll]⟩
      · intro x hx y hy
        obtain ⟨q, hq, rfl⟩ := List.mem_map.mp hx
        obtain ⟨r, hr, rfl⟩ := List.mem_map.mp hy
        obtain ⟨c, _, e, _⟩ := eachL q hq
        obtain ⟨m, _, e2, _⟩ := eachL r hr
        rw [e, e2, litN_D, litN_D]
        exact lit_alike _ _
      · obtain ⟨c, _, e, _⟩ := eachL q hq
        rw [e, litN_D]
        cases c <;> exact ⟨_, rfl⟩
      obtain ⟨es, ES3, ascE, memE⟩ := sort_lits eachL gotL nd pm
      generalize (SD.sortedD bs).map Prod.fst = ys at *
      have x4 := (Ex.new (o := .lst ys) hr).trans (Ex.new (o := .tup ys) ht)
      exact fin t ys es _ (x3.trans x4) upd_same (ES3.ex x4) ⟨ascE, memE⟩
    · obtain ⟨ks, eks, esn, hk⟩ := CL.keys
      have lks : ks.length = cs.length := by rw [← List.length_map (f := Prod.snd), esn, List.length_map]
      refine ⟨_, rfl, p, ks, rfl, .inl (by rw [← eks]; exact hp), fun q hq => ?_, by omega, fun L S took nd hS => ?_⟩
      · obtain ⟨c, _, e, vs, h1, h2⟩ := hk q hq
        rw [e, clN_D]
        exact ⟨cl_dp h1 h2, clN_depth c⟩
      have x3 := Ex.new (o := SetW.SetNOW P w S L) hS
      have eachL : ∀ q ∈ L, ∃ c ∈ cs, q.2 = clN c ∧ ∃ vs, upd H S (SetW.SetNOW P w S L) q.1 = some (.tup vs) ∧ Lits (upd H S (SetW.SetNOW P w S L)) vs c := fun q hq => by
        obtain ⟨c, hc, e, vs, h1, h2⟩ := hk q (took.from_ q hq)
        exact ⟨c, hc, e, vs, x3 _ _ h1, h2.ex x3⟩
      have hS3 : upd H S (SetW.SetNOW P w S L) S = some (SetW.SetNOW P w S L) := upd_same
      have gotL : ∀ c ∈ cs, clN c ∈ L.map Prod.snd := fun c hc => by
        have : clN c ∈ ks.map Prod.snd := by rw [esn]; exact List.mem_map_of_mem hc
        obtain ⟨r, hr, e⟩ := List.mem_map.mp this
        rw [← e]
        exact took.got r hr
      generalize upd H S (SetW.SetNOW P w S L) = H3 at *
      refine ⟨S, L, rfl, hS3, fun q hq => ?_, ?_, fun q hq => ?_, fun bs r pm hr => ⟨r, _, rfl, .inl ⟨SqL.of upd_same, fun t ht => ?_⟩⟩⟩
      · obtain ⟨c, _, e, vs, h1, h2⟩ := eachL q hq
        rw [e, clN_D]
        exact ⟨cl_dp h1 h2, cl_depth c⟩
      · intro x hx y hy
        obtain ⟨q, hq, rfl⟩ := List.mem_map.mp hx
        obtain ⟨r, hr, rfl⟩ := List.mem_map.mp hy
        obtain ⟨c, _, e, _⟩ := eachL q hq
        obtain ⟨m, _, e2, _⟩ := eachL r hr
        rw [e, e2, clN_D, clN_D]
        exact cl_alike _ _
      · obtain ⟨c, _, e, _⟩ := eachL q hq
        rw [e, clN_D]
        exact ⟨_, rfl⟩
      obtain ⟨es, ES3, ascE, memE⟩ := sort_cls eachL gotL nd pm
      generalize (SD.sortedD bs).map Prod.fst = ys at *
      have x4 := (Ex.new (o := .lst ys) hr).trans (Ex.new (o := .tup ys) ht)
      exact fin t ys es _ (x3.trans x4) upd_same (ES3.ex x4) ascE memE
end
end M6
set_option maxRecDepth 100000
set_option maxHeartbeats 8000000
/-! the law's own look at literals -/
namespace M6
open PySem L2 Evl GP HR SC SetM SetH RQ SetN
def looseD : PyData → Bool
  | .tuple [.str a, .str b] => isYN (.str a)
  | .tuple [.str a, .str b, .str c, e] => decide (a = "most") && (!decide (b = c) && isIntD e)
  | _ => false
theorem str_of {d : PyData} (h : isStrD d = true) : ∃ z, d = .str z := by
  cases d with
  | str z => exact ⟨z, rfl⟩
  | _ => exact absurd h Bool.false_ne_true
theorem isLit_cons (d0 : PyData) (ds : List PyData) : isLitD (.tuple (d0 :: ds)) = (match ds with
  | [n] => isYN d0 && isNameD n
  | [b, c, e] => isMostD d0 && (isNameD b && (isNameD c && (!sameD b c && isIntD e)))
  | _ => false) := by
  match ds with
  | [] => rfl
  | [n] => rfl
  | [b, c] => rfl
  | [b, c, e] => exact Bool.or_false _
  | _ :: _ :: _ :: _ :: _ => rfl
theorem loose_not {d : PyData} (h : looseD d = false) : isLitD d = false := by
  cases d with
  | tuple ds =>
    cases ds with
    | nil => rfl
    | cons d0 ds =>
      rw [isLit_cons]
      match ds with
      | [] => rfl
      | [n] =>
        cases d0 with
        | str z0 =>
          cases n with
          | str z1 => have h : isYN (.str z0) = false := h; show (isYN (.str z0) && _) = false; rw [h]; rfl
          | _ => show (isYN _ && false) = false; rw [Bool.and_false]
        | _ => rfl
      | [b, c] => rfl
      | [b, c, e] =>
        cases d0 with
        | str z0 =>
          cases b with
          | str z1 =>
            cases c with
            | str z2 =>
              have h : (decide (z0 = "most") && (!decide (z1 = z2) && isIntD e)) = false := h
              show (decide (z0 = "most") && (isNameS z1 && (isNameS z2 && (!decide (z1 = z2) && isIntD e)))) = false
              cases h0 : decide (z0 = ("most" : Str)) with
              | false => rfl
              | true => rw [h0] at h; rw [Bool.true_and] at h; rw [h, Bool.and_false, Bool.and_false]; rfl
            | _ => show (isMostD _ && (isNameD _ && (false && _))) = false; simp
          | _ => show (isMostD _ && (false && _)) = false; simp
        | _ => rfl
      | _ :: _ :: _ :: _ :: _ => rfl
  | _ => rfl
theorem loose_yes {d : PyData} (h : looseD d = true) : (∃ a b : Str, d = .tuple [.str a, .str b] ∧ isYN (.str a) = true) ∨ (∃ (b c : Str) (e : PyData), d = .tuple [.str "most", .str b, .str c, e] ∧ isLitD d = (isNameS b && isNameS c)) := by
  unfold looseD at h
  split at h
  · exact .inl ⟨_, _, rfl, h⟩
  · rename_i a b c e
    obtain ⟨h1, h2⟩ := Bool.and_eq_true_iff.mp h
    obtain rfl := of_decide_eq_true h1
    refine .inr ⟨b, c, e, rfl, ?_⟩
    rw [isLit_cons]
    show (decide (("most" : Str) = "most") && (isNameS b && (isNameS c && (!decide (b = c) && isIntD e)))) = _
    rw [h2, decide_eq_true rfl, Bool.true_and, Bool.and_true]
  · cases h
theorem and_tt {p q : Bool} {σ : L2.St} {H : Hp} {t1 t2 : TT} {Q : Bool → Hp → Prop} (h1 : ∀ Q : Bool → Hp → Prop, Q p H → t1 σ H Q) (h2 : ∀ Q : Bool → Hp → Prop, Q q H → t2 σ H Q) (k : Q (p && q) H) : tAnd t1 t2 σ H Q := h1 _ (by
  cases p with
  | false => exact k
  | true => exact h2 _ k)
theorem at2 {xs : List V} (h : xs.length = 2) : ∃ a b, xs = [a, b] := by
  match xs, h with
  | [a, b], _ => exact ⟨a, b, rfl⟩
def spWhole (K : PySem.W.Frag) : Sp := fun vs H Q _ => ∃ v d, vs = [v] ∧ Dp K H v d ∧ ∀ H', Ex H H' → Q (.bl (isIntD d)) H'
def spLoose (K : PySem.W.Frag) : Sp := fun vs H Q _ => ∃ v d, vs = [v] ∧ Dp K H v d ∧ ∀ H', Ex H H' → Q (.bl (looseD d)) H'
def spWord : Sp := fun vs H Q _ => ∃ z, vs = [.str z] ∧ z.length ≤ sizeLine ∧ ∀ H', Ex H H' → Q (.bl (isNameS z)) H'
def spGoodL (K : PySem.W.Frag) : Sp := fun vs H Q _ => ∃ v d, vs = [v] ∧ Dp K H v d ∧ szD d ∧ ∀ H', Ex H H' → Q (.bl (isLitD d)) H'
section
variable {P : Program} {w : World} {K : PySem.W.Frag} {mg : Str → Option Value} {base : Heap} {a : Ad} {d : Fd}
theorem ok_law_whole (T : TX K mg a) (D : FDS K a d) : FnOk P w K mg base CX0 1 a.a_law_whole d.a_law_whole ["one"] (spWhole K) := by
  refine D.F__law_whole.ok sc_law_whole (fun vs H Q E h => ?_) (fun cdv A outer s H vs Q E hr h => ?_)
  · obtain ⟨v, d, rfl, _⟩ := h
    rfl
  · obtain ⟨v, dd, rfl, hd, q⟩ := h
    refine ⟨_, (pss_one (ps_ret (pe_and (pe_callB call_isi (by rfl) T.b_isinstance (by decide +kernel) (pa_cons (pv 0) (pa_cons (pe_bltn (v := .ty "int") (by rfl) T.b_int (by decide +kernel) rfl) pa_nil))) (pe_one (pe_not (pe_callB call_isi (by rfl) T.b_isinstance (by decide +kernel) (pa_cons (pv 0) (pa_cons (pe_bltn (v := .ty "bool") (by rfl) T.b_bool (by decide +kernel) rfl) pa_nil)))))))), ?_⟩
    refine ⟨_, rfl, v, _, _, _, _, rfl, .ty "int", dp_ty hd, kit_int dd, _, rfl, ?_⟩
    cases e : isIntLikeD dd with
    | false => exact iteF (ex_q q (by show (isIntLikeD dd && _) = false; rw [e]; rfl) (Ex.refl _))
    | true =>
      refine iteT ⟨_, rfl, v, _, _, _, _, rfl, .ty "bool", dp_ty hd, kit_bool dd, _, rfl, ?_⟩
      exact ex_q q (by show (isIntLikeD dd && _) = _; rw [e]; rfl) (Ex.refl _)
theorem ok_law_is_literal (T : TX K mg a) (D : FDS K a d) : FnOk P w K mg base CX0 2 a.a_law_is_literal d.a_law_is_literal ["one"] (spLoose K) := by
  have G__law_whole : FnOk P w K mg base CX0 1 a.a_law_whole d.a_law_whole ["one"] (spWhole K) := ok_law_whole T D
  refine D.F__law_is_literal.ok sc_law_is_literal (fun vs H Q E h => ?_) (fun cdv A outer s H vs Q E hr h => ?_)
  · obtain ⟨v, d, rfl, _⟩ := h
    rfl
  · obtain ⟨v, dd, rfl, hd, q⟩ := h
    refine ⟨_, (pss_cons (ps_if (PW.pt (pw_or (pt_not (pt_val (pe_callB call_isi (by rfl) T.b_isinstance (by decide +kernel) (pa_cons (pv 0) (pa_cons (pe_bltn (v := .ty "tuple") (by rfl) T.b_tuple (by decide +kernel) rfl) pa_nil))))) (pw_or1 (pt_cmpR op_lt (pe_callB call_len_seq (by rfl) T.b_len (by decide +kernel) (pa_cons (pv 0) pa_nil)) pe_int (nomark _))))) (pss_one (ps_ret pe_bl)) pss_nil)
        (pss_cons (ps_if (PW.pt (pw_or (pt_not (pt_val (pe_callB call_isi (by rfl) T.b_isinstance (by decide +kernel) (pa_cons (pe_ix ix_tup (pv 0) pe_int (fun _ _ => rfl)) (pa_cons (pe_bltn (v := .ty "str") (by rfl) T.b_str (by decide +kernel) rfl) pa_nil))))) (pw_or1 (pt_not (pt_val (pe_callB call_isi (by rfl) T.b_isinstance (by decide +kernel) (pa_cons (pe_ix ix_tup (pv 0) pe_int (fun _ _ => rfl)) (pa_cons (pe_bltn (v := .ty "str") (by rfl) T.b_str (by decide +kernel) rfl) pa_nil)))))))) (pss_one (ps_ret pe_bl)) pss_nil)
        (pss_cons (ps_if (PW.pt (pw_and (pt_cmpR op_eq (pe_ix ix_tup (pv 0) pe_int (fun _ _ => rfl)) pe_str (nomark _)) (pw_and1 (pt_cmpR op_eq (pe_callB call_len_seq (by rfl) T.b_len (by decide +kernel) (pa_cons (pv 0) pa_nil)) pe_int (nomark _))))) (pss_one (ps_ret (pe_and (pe_callB call_isi (by rfl) T.b_isinstance (by decide +kernel) (pa_cons (pe_ix ix_tup (pv 0) pe_int (fun _ _ => rfl)) (pa_cons (pe_bltn (v := .ty "str") (by rfl) T.b_str (by decide +kernel) rfl) pa_nil))) (pe_and (pe_cmpR op_ne (pe_ix ix_tup (pv 0) pe_int (fun _ _ => rfl)) (pe_ix ix_tup (pv 0) pe_int (fun _ _ => rfl)) (nomark _)) (pe_one (pe_call G__law_whole (hr.mono (by decide)) rfl T.f__law_whole T.k__law_whole D.B__law_whole .nil pass0 (pa_cons (pe_ix ix_tup (pv 0) pe_int (fun _ _ => rfl)) pa_nil))))))) pss_nil)
        (pss_one (ps_ret (pe_and (pe_cmpR op_eq (pe_callB call_len_seq (by rfl) T.b_len (by decide +kernel) (pa_cons (pv 0) pa_nil)) pe_int (nomark _)) (pe_one (pe_cmpR op_in_seq (pe_ix ix_tup (pv 0) pe_int (fun _ _ => rfl)) (pe_tup (pa_cons pe_str (pa_cons pe_str pa_nil))) rfl)))))))), ?_⟩
    refine ⟨_, rfl, v, _, _, _, _, rfl, .ty "tuple", dp_ty hd, kit_tuple dd, _, rfl, ?_⟩
    have q0 : ∀ {b : Bool}, looseD dd = b → ∀ H', Ex H H' → Q (.bl b) H' := fun h H' e => h ▸ q H' e
    have dpd := hd
    cases hd with
    | @tup t xs ds ht hall =>
      refine iteF' rfl ?_
      refine ⟨_, rfl, t, xs, rfl, .inr ht, _, _, rfl, rfl, _, rfl, ?_⟩
      cases hall with
      | nil => exact iteT' rfl (q0 (b := false) rfl H (Ex.refl _))
      | @cons v0 xs d0 ds g0 hall =>
      cases hall with
      | nil => exact iteT' rfl (q0 (b := false) (by cases d0 <;> rfl) H (Ex.refl _))
      | @cons v1 xs d1 ds g1 hall =>
      have ll := DpAll.len hall
      refine iteF' (decide_eq_false (by simp only [List.length_cons]; omega)) ?_
      unfold tNext
      dsimp only
      refine ⟨_, rfl, t, _, 0, v0, rfl, rfl, ht, at_lit (n := 0) rfl rfl, _, _, _, _, _, rfl, .ty "str", dp_ty g0, kit_str d0, _, rfl, ?_⟩
      cases hs0 : isStrD d0 with
      | false =>
        have e : looseD (.tuple (d0 :: d1 :: ds)) = false := by
          cases d0 with
          | str z => cases hs0
          | _ => rfl
        exact iteT' rfl (iteT' rfl (q0 e H (Ex.refl _)))
      | true =>
      obtain ⟨z0, rfl⟩ := str_of hs0
      obtain rfl : v0 = .str z0 := by cases g0; rfl
      refine iteF' rfl ?_
      refine ⟨_, rfl, t, _, 1, v1, rfl, rfl, ht, at_lit (n := 1) rfl rfl, _, _, _, _, _, rfl, .ty "str", dp_ty g1, kit_str d1, _, rfl, ?_⟩
      cases hs1 : isStrD d1 with
      | false =>
        have e : looseD (.tuple (.str z0 :: d1 :: ds)) = false := by
          cases d1 with
          | str z => cases hs1
          | _ => rfl
        exact iteT' rfl (q0 e H (Ex.refl _))
      | true =>
      obtain ⟨z1, rfl⟩ := str_of hs1
      obtain rfl : v1 = .str z1 := by cases g1; rfl
      refine iteF' rfl ?_
      dsimp only
      have eyn : decide (z0 = ("most" : Str)) = true → isYN (.str z0) = false := fun h => by
        rw [of_decide_eq_true h]
        decide +kernel
      unfold tSeq tIfS
      refine and_tt (p := decide (V.str z0 = .str "most")) (q := decide (V.int ((.str z0 :: .str z1 :: xs : List V).length : Int) = V.int 4)) (fun Q q => ⟨_, rfl, t, _, 0, .str z0, rfl, rfl, ht, at_lit (n := 0) rfl rfl, rfl, _, rfl, q⟩) (fun Q q => ⟨_, rfl, t, _, rfl, .inr ht, rfl, _, rfl, q⟩) ?_
      cases hc : (decide (V.str z0 = .str "most") && decide (V.int ((.str z0 :: .str z1 :: xs : List V).length : Int) = V.int 4)) with
      | true =>
        obtain ⟨h1, h2⟩ := Bool.and_eq_true_iff.mp hc
        obtain rfl : z0 = "most" := V.str.inj (of_decide_eq_true h1)
        have h2 := V.int.inj (of_decide_eq_true h2)
        simp only [List.length_cons] at h2
        obtain ⟨v2, v3, rfl⟩ := at2 (show xs.length = 2 by omega)
        cases hall with
        | @cons _ _ d2 ds g2 r2 =>
        cases r2 with
        | @cons _ _ d3 ds g3 r3 =>
        cases r3
        refine iteT' rfl ?_
        refine ⟨_, rfl, t, _, 2, v2, rfl, rfl, ht, at_lit (n := 2) rfl rfl, _, _, _, _, _, rfl, .ty "str", dp_ty g2, kit_str d2, _, rfl, ?_⟩
        cases hs2 : isStrD d2 with
        | false =>
          have e : looseD (.tuple [.str "most", .str z1, d2, d3]) = false := by
            cases d2 with
            | str z => cases hs2
            | _ => rfl
          exact iteF (q0 e H (Ex.refl _))
        | true =>
        obtain ⟨z2, rfl⟩ := str_of hs2
        obtain rfl : v2 = .str z2 := by cases g2; rfl
        have e4 : looseD (.tuple [.str "most", .str z1, .str z2, d3]) = (!decide (z1 = z2) && isIntD d3) := by
          show (decide (("most" : Str) = "most") && _) = _
          rw [decide_eq_true rfl]
          rfl
        refine iteT ?_
        refine ⟨_, rfl, t, _, 1, _, rfl, rfl, ht, at_lit (n := 1) rfl rfl, _, rfl, t, _, 2, _, rfl, rfl, ht, at_lit (n := 2) rfl rfl, rfl, _, rfl, ?_⟩
        by_cases zz : z1 = z2
        · subst zz
          refine iteF' (by rw [decide_eq_true rfl]; rfl) (ex_q q ?_ (Ex.refl _))
          rw [e4, decide_eq_true rfl]
          rfl
        · refine iteT' (by rw [decide_eq_false fun y => zz (V.str.inj y)]; rfl) ?_
          refine ⟨_, rfl, t, _, 3, v3, rfl, rfl, ht, at_lit (n := 3) rfl rfl, v3, d3, rfl, g3, fun H2 e2 => ex_q q ?_ e2⟩
          rw [e4, decide_eq_false zz]
          rfl
      | false =>
        refine iteF' rfl ?_
        dsimp only
        refine ⟨_, rfl, t, _, rfl, .inr ht, rfl, _, rfl, ?_⟩
        by_cases l0 : xs.length = 0
        · obtain rfl : xs = [] := List.eq_nil_of_length_eq_zero l0
          cases hall
          refine iteT' (decide_eq_true rfl) ⟨_, rfl, t, _, 0, .str z0, rfl, rfl, ht, at_lit (n := 0) rfl rfl, ?_⟩
          refine ⟨(by show 2 ≤ sizeLine; decide), fun p hp => ⟨p, _, rfl, .inr (SqT.of upd_same), rfl, rfl, ?_⟩⟩
          rw [if_neg Bool.false_ne_true, yn_in]
          exact q0 rfl _ (Ex.new hp)
        · refine iteF' (decide_eq_false fun y => l0 (by have := V.int.inj y; simp only [List.length_cons] at this; omega)) (q0 (b := false) ?_ H (Ex.refl _))
          match ds, ll, l0 with
          | [], ll, l0 => exact absurd ll l0
          | [d2], _, _ => cases d2 <;> rfl
          | [d2, d3], ll, _ =>
            have hm : decide (z0 = ("most" : Str)) = false := by
              rw [Bool.and_eq_false_iff] at hc
              rcases hc with hc | hc
              · exact decide_eq_false fun e => of_decide_eq_false hc (by rw [e])
              · exact absurd (by simp only [List.length_cons, show xs.length = 2 from ll]; rfl) (of_decide_eq_false hc)
            cases d2 with
            | str z2 =>
              show (decide (z0 = ("most" : Str)) && _) = false
              rw [hm]
              rfl
            | _ => rfl
          | d2 :: d3 :: d4 :: ds, _, _ => cases d2 <;> rfl
    | _ => exact iteT' rfl (iteT' rfl (q0 (b := false) rfl H (Ex.refl _)))
theorem ok_law_is_word (T : TX K mg a) (D : FDS K a d) : FnOk P w K mg base CX0 1 a.a_law_is_word d.a_law_is_word ["one"] spWord := by
  refine D.F__law_is_word.ok sc_law_is_word (fun vs H Q E h => ?_) (fun cdv A outer s H vs Q E hr h => ?_)
  · obtain ⟨z, rfl, _⟩ := h
    rfl
  · obtain ⟨z, rfl, hz, q⟩ := h
    refine ⟨_, (pss_cons (ps_if (PW.pt (pw_or (pt_not (pt_val (pe_callB call_isi (by rfl) T.b_isinstance (by decide +kernel) (pa_cons (pv 0) (pa_cons (pe_bltn (v := .ty "str") (by rfl) T.b_str (by decide +kernel) rfl) pa_nil))))) (pw_or1 (pt_not (pt_chain op_le op_le pe_int (pe_callB call_len_str (by rfl) T.b_len (by decide +kernel) (pa_cons (pv 0) pa_nil)) pe_int))))) (pss_one (ps_ret pe_bl)) pss_nil)
        (pss_cons (ps_set (i := 1) sc_law_is_word.nd rfl (Or.inr rfl) pe_str)
        (pss_one (ps_ret (pe_and (pe_cmpR op_in_sign (pe_ix ix_str (pv 0) pe_int (fun _ _ => rfl)) (pv 1) rfl) (pe_one (pe_callB (cr_all rfl) (by rfl) T.b_all (by decide +kernel) (pa_cons (pe_lc (own := [("sign", 2)]) (g := gName 2) (tt := tYes) rfl sc_law_is_word.nd (pi_str (pv 0)) (blkOk_by (N := ["one", "letters", "sign"]) (sc := defScope s_law_is_word) (by decide +kernel)) (fun _ _ _ _ _ => (pg_name (i := 2) sc_law_is_word.nd rfl (Or.inl rfl))) (fun _ _ _ _ _ => pts_nil) (fun _ _ _ _ _ => (pe_cmpR op_in_sign (pv 2) (pe_op op_add_str (pv 1) pe_str) rfl))) pa_nil)))))))), ?_⟩
    have hl := str_len z
    have no : ¬ (1 ≤ z.length ∧ z.length ≤ 8) → ∀ H', Ex H H' → Q (.bl false) H' := fun h H' e => by
      have := q H' e
      cases g : isNameS z with
      | false => rwa [g] at this
      | true => exact absurd ((nameS_iff z).mp g).1 h
    refine ⟨_, rfl, .str z, _, _, _, _, rfl, .ty "str", dp_ty (K := K) (H := H) (.str z), kit_str (.str z), _, rfl, iteF' rfl ?_⟩
    refine ⟨_, rfl, z, rfl, hz, 1, _, rfl, rfl, _, rfl, ?_⟩
    by_cases h1 : (1 : Int) ≤ (z.length : Int)
    · rw [decide_eq_true h1]
      refine ⟨_, _, rfl, rfl, _, rfl, ?_⟩
      by_cases h2 : (z.length : Int) ≤ 8
      · rw [decide_eq_true h2]
        refine iteF ?_
        obtain ⟨c, cs, hc⟩ : ∃ c cs, z.cps.toList = c :: cs := by
          cases e : z.cps.toList with
          | nil => rw [e] at hl; simp at hl; omega
          | cons c cs => exact ⟨c, cs, rfl⟩
        have h0 : z.cps.toList[0]? = some c := by rw [hc]; rfl
        have es : letters ++ "0123456789" = signs := toList_inj (by decide +kernel)
        have nm : isNameS z = (decide (c ∈ letters.cps.toList) && (c :: cs).all fun c => decide (c ∈ signs.cps.toList)) := by
          rw [Bool.eq_iff_iff, nameS_iff, hc]
          simp only [Bool.and_eq_true, decide_eq_true_eq, List.all_eq_true]
          exact ⟨fun h => h.2, fun h => ⟨by omega, h⟩⟩
        unfold tNext
        dsimp only
        refine ⟨_, rfl, z, 0, c, rfl, rfl, hz, at_lit (n := 0) rfl h0, _, rfl, c, letters, rfl, rfl, _, rfl, ?_⟩
        cases hlt : decide (c ∈ letters.cps.toList) with
        | false => exact iteF (ex_q q (by rw [nm, hlt]; rfl) (Ex.refl _))
        | true =>
        refine iteT ⟨_, rfl, z, rfl, fun D hD => lcMap walk_signs (fun v => match v with | .str x => .bl (decide ((x.cps.toList.headD 0) ∈ signs.cps.toList)) | _ => .non) (by rw [List.length_map, hl]; exact Nat.lt_of_le_of_lt (by omega : z.length ≤ 8) (by decide)) (fun _ _ => trivial) (fun _ => rfl) ?_ hD ?_⟩
        · intro v hv2 H' _
          obtain ⟨d, _, rfl⟩ := List.mem_map.mp hv2
          intro H1 e1 Q q
          refine ⟨_, rfl, _, rfl, letters, "0123456789", rfl, rfl, (by show 36 ≤ sizeLine; decide), d, _, rfl, rfl, ?_⟩
          have := q _ (Ex.refl _)
          rw [es]
          exact this
        · intro H' e1 hD2
          refine ⟨D, (z.cps.toList.map fun c => decide (c ∈ signs.cps.toList)), rfl, SqL.of (by rw [hD2, List.map_map, List.map_map]; rfl), ?_⟩
          have := q H' e1
          rw [nm, hlt, ← hc, Bool.true_and] at this
          rw [List.all_map]
          exact this
      · rw [decide_eq_false h2]
        exact iteT' rfl (no (by omega) H (Ex.refl _))
    · rw [decide_eq_false h1]
      exact ⟨false, rfl, iteT' rfl (no (by omega) H (Ex.refl _))⟩
theorem ok_law_is_good (T : TX K mg a) (D : FDS K a d) : FnOk P w K mg base CX0 3 a.a_law_is_good d.a_law_is_good ["one"] (spGoodL K) := by
  have G__law_is_literal : FnOk P w K mg base CX0 2 a.a_law_is_literal d.a_law_is_literal ["one"] (spLoose K) := ok_law_is_literal T D
  have G__law_is_word : FnOk P w K mg base CX0 1 a.a_law_is_word d.a_law_is_word ["one"] spWord := ok_law_is_word T D
  refine D.F__law_is_good.ok sc_law_is_good (fun vs H Q E h => ?_) (fun cdv A outer s H vs Q E hr h => ?_)
  · obtain ⟨v, d, rfl, _⟩ := h
    rfl
  · obtain ⟨v, dd, rfl, hd, sz, q⟩ := h
    refine ⟨_, (pss_cons (ps_if (PW.pt (pw_or (pt_not (pt_val (pe_call G__law_is_literal (hr.mono (by decide)) rfl T.f__law_is_literal T.k__law_is_literal D.B__law_is_literal .nil pass0 (pa_cons (pv 0) pa_nil)))) (pw_or1 (pt_not (pt_val (pe_call G__law_is_word (hr.mono (by decide)) rfl T.f__law_is_word T.k__law_is_word D.B__law_is_word .nil pass0 (pa_cons (pe_ix ix_tup (pv 0) pe_int (fun _ _ => rfl)) pa_nil))))))) (pss_one (ps_ret pe_bl)) pss_nil)
        (pss_one (ps_ret (pe_or (pe_cmpR op_ne (pe_ix ix_tup (pv 0) pe_int (fun _ _ => rfl)) pe_str (nomark _)) (pe_one (pe_call G__law_is_word (hr.mono (by decide)) rfl T.f__law_is_word T.k__law_is_word D.B__law_is_word .nil pass0 (pa_cons (pe_ix ix_tup (pv 0) pe_int (fun _ _ => rfl)) pa_nil))))))), ?_⟩
    refine ⟨_, rfl, v, dd, rfl, hd, fun H1 e1 => ⟨_, rfl, ?_⟩⟩
    cases hl : looseD dd with
    | false => exact iteT' rfl (iteT' rfl (ex_q q (loose_not hl) e1))
    | true =>
    refine iteF' rfl ?_
    rcases loose_yes hl with ⟨a0, b0, rfl, hy⟩ | ⟨b0, c0, e0, rfl, hy⟩
    · cases hd with
      | @tup t xs _ ht hall =>
      cases hall with
      | @cons v0 _ _ _ g0 r0 =>
      cases r0 with
      | @cons v1 _ _ _ g1 r1 =>
      cases r1
      cases g0
      cases g1
      have z0 : b0.length ≤ sizeLine := sz (.str b0) (by simp)
      have il : isLitD (.tuple [.str a0, .str b0]) = isNameS b0 := by
        rw [isLit_cons]
        show (isYN (.str a0) && isNameS b0) = _
        rw [hy]
        rfl
      rw [il] at q
      refine ⟨_, rfl, t, _, 1, _, rfl, rfl, ex_t e1 ht, at_lit (n := 1) rfl rfl, b0, rfl, z0, fun H2 e2 => ⟨_, rfl, ?_⟩⟩
      cases hn : isNameS b0 with
      | false => exact iteT' rfl (ex_q q hn (e1.trans e2))
      | true =>
        refine iteF' rfl ?_
        unfold tNext
        dsimp only
        refine ⟨_, rfl, t, _, 0, _, rfl, rfl, ex_t (e1.trans e2) ht, at_lit (n := 0) rfl rfl, rfl, ?_⟩
        have ne : ¬ a0 = "most" := fun e => by
          rw [e] at hy
          exact absurd hy (by decide +kernel)
        exact ⟨_, rfl, iteT' (by rw [decide_eq_false fun y => ne (V.str.inj y)]; rfl) (ex_q q hn (e1.trans e2))⟩
    · cases hd with
      | @tup t xs _ ht hall =>
      cases hall with
      | @cons v0 _ _ _ g0 r0 =>
      cases r0 with
      | @cons v1 _ _ _ g1 r1 =>
      cases r1 with
      | @cons v2 _ _ _ g2 r2 =>
      cases g0
      cases g1
      cases g2
      have z0 : b0.length ≤ sizeLine := sz (.str b0) (by simp)
      have z1 : c0.length ≤ sizeLine := sz (.str c0) (by simp)
      rw [hy] at q
      refine ⟨_, rfl, t, _, 1, _, rfl, rfl, ex_t e1 ht, at_lit (n := 1) rfl rfl, b0, rfl, z0, fun H2 e2 => ⟨_, rfl, ?_⟩⟩
      cases hn : isNameS b0 with
      | false => exact iteT' rfl (ex_q q (by rw [hn]; rfl) (e1.trans e2))
      | true =>
        refine iteF' rfl ?_
        unfold tNext
        dsimp only
        refine ⟨_, rfl, t, _, 0, _, rfl, rfl, ex_t (e1.trans e2) ht, at_lit (n := 0) rfl rfl, rfl, _, rfl, iteF' (by rw [decide_eq_true rfl]; rfl) ?_⟩
        exact ⟨_, rfl, t, _, 2, _, rfl, rfl, ex_t (e1.trans e2) ht, at_lit (n := 2) rfl rfl, c0, rfl, z1, fun H3 e3 => ex_q q (by rw [hn]; rfl) ((e1.trans e2).trans e3)⟩
end
end M6
set_option maxRecDepth 100000
set_option maxHeartbeats 16000000
/-! _law_fit_clauses -/
namespace M6
open PySem L2 Evl GP HR SC SetM SetH RQ SetN
/-- the clauses of a good value, of a bad one, by membership -/
def yesL (r : Nat) (held : List Nat) : List Lit := held.map fun j => .yn true (cN r j)
def noL (r k j : Nat) : List Lit := [.yn false (bN r k), .yn false (cN r j)]
def PG (n : Nat) (ls : List Lit) (gs : List Vw) (i : Nat) (c : List Lit) : Prop := ∃ q ∈ gs.take i, ∃ r, r < n ∧ c = yesL r (hq ls q)
def PB (n : Nat) (ls : List Lit) (bs : List Vw) (i : Nat) (c : List Lit) : Prop := ∃ k q, k < i ∧ bs[k]? = some q ∧ (c = refB n k ∨ ∃ r, r < n ∧ ∃ j ∈ hq ls q, c = noL r k j)
theorem held_map {α : Type} (f : Nat → α) (held : List Nat) : ((List.range held.length).map fun i => f (held.getD i 0)) = held.map f := by
  refine List.ext_getElem (by simp) fun i h1 h2 => ?_
  simp only [List.length_map, List.length_range] at h1
  simp [List.getD_eq_getElem?_getD, List.getElem?_eq_getElem h1]
theorem mem_allC {n : Nat} {ls : List Lit} {gs bs : List Vw} {c : List Lit} : c ∈ allC n ls gs bs ↔ PG n ls gs gs.length c ∨ PB n ls bs bs.length c := by
  unfold allC goodC badC PG PB
  rw [List.mem_append, List.mem_flatMap, List.mem_flatMap, List.take_length]
  refine or_congr ?_ ?_
  · refine exists_congr fun q => and_congr_right fun _ => ?_
    unfold yesC yesL
    rw [List.mem_map]
    exact exists_congr fun r => ⟨fun ⟨h1, h2⟩ => ⟨List.mem_range.mp h1, by rw [← h2, held_map (fun j => Lit.yn true (cN r j))]⟩, fun ⟨h1, h2⟩ => ⟨List.mem_range.mpr h1, by rw [h2, held_map (fun j => Lit.yn true (cN r j))]⟩⟩
  · constructor
    · rintro ⟨k, hk, h⟩
      have hk := List.mem_range.mp hk
      have e : bs.getD k ([], []) = bs[k] := by rw [List.getD_eq_getElem?_getD, List.getElem?_eq_getElem hk]; rfl
      refine ⟨k, bs[k], hk, List.getElem?_eq_getElem hk, ?_⟩
      rcases List.mem_cons.mp h with h | h
      · exact .inl h
      · unfold noC at h
        obtain ⟨r, hr, h⟩ := List.mem_flatMap.mp h
        rw [held_map (fun j => [Lit.yn false (bN r k), Lit.yn false (cN r j)]), e] at h
        obtain ⟨j, hj, rfl⟩ := List.mem_map.mp h
        exact .inr ⟨r, List.mem_range.mp hr, j, hj, rfl⟩
    · rintro ⟨k, q, hk, hq', h⟩
      have e : bs.getD k ([], []) = q := by rw [List.getD_eq_getElem?_getD, hq']; rfl
      refine ⟨k, List.mem_range.mpr hk, ?_⟩
      rcases h with rfl | ⟨r, hr, j, hj, rfl⟩
      · exact List.mem_cons_self
      · refine List.mem_cons_of_mem _ ?_
        unfold noC
        refine List.mem_flatMap.mpr ⟨r, List.mem_range.mpr hr, ?_⟩
        rw [held_map (fun j => [Lit.yn false (bN r k), Lit.yn false (cN r j)]), e]
        exact List.mem_map.mpr ⟨j, hj, rfl⟩
/-- the clauses gathered so far -/
def Gat (H : Hp) (F : Addr) (m : Nat) (Pc : List Lit → Prop) : Prop := ∃ us es, H F = some (.lst us) ∧ Cls H us es ∧ us.length ≤ m ∧ ∀ d, d ∈ es ↔ ∃ c, Pc c ∧ NF c d
theorem Gat.ex {H H' : Hp} {F : Addr} {m : Nat} {Pc : List Lit → Prop} (G : Gat H F m Pc) (e : Ex H H') : Gat H' F m Pc := let ⟨us, es, h1, h2, h3⟩ := G; ⟨us, es, e _ _ h1, h2.ex e, h3⟩
theorem Gat.iff {H : Hp} {F : Addr} {m : Nat} {Pc Pd : List Lit → Prop} (G : Gat H F m Pc) (h : ∀ c, Pc c ↔ Pd c) : Gat H F m Pd := let ⟨us, es, h1, h2, h3, h4⟩ := G; ⟨us, es, h1, h2, h3, fun d => (h4 d).trans (exists_congr fun c => and_congr_left fun _ => h c)⟩
theorem Gat.le {H : Hp} {F : Addr} {m k : Nat} {Pc : List Lit → Prop} (G : Gat H F m Pc) (h : m ≤ k) : Gat H F k Pc := let ⟨us, es, h1, h2, h3, h4⟩ := G; ⟨us, es, h1, h2, Nat.le_trans h3 h, h4⟩
/-- clauses.append(a clause) -/
theorem Gat.app {H : Hp} {F u : Addr} {m : Nat} {Pc : List Lit → Prop} {vs : List V} {c d : List Lit} {Q : VK} (G : Gat H F m Pc) (hm : m < sizeLine) (hu : H u = some (.tup vs)) (L : Lits H vs d) (nf : NF c d)
    (k : ∀ H', (∀ a o, a ≠ F → H a = some o → H' a = some o) → (∀ H0, Ex H0 H → H0 F = none → Ex H0 H') → Gat H' F (m + 1) (fun x => Pc x ∨ x = c) → Q .non H') : rAppend (.ref F) [.ref u] H Q := by
  obtain ⟨us, es, h1, h2, h3, h4⟩ := G
  refine ⟨F, us, .ref u, rfl, rfl, h1, by omega, k _ (fun a o n h => by rw [upd_ne n]; exact h) (fun H0 e hn => e.mut hn) ⟨us ++ [.ref u], es ++ [d], upd_same, (h2.snoc hu L).put h1, by rw [List.length_append, List.length_singleton]; omega, fun x => ?_⟩⟩
  rw [List.mem_append, List.mem_singleton, h4 x]
  constructor
  · rintro (⟨c', h, nf'⟩ | rfl)
    · exact ⟨c', .inl h, nf'⟩
    · exact ⟨c, .inr rfl, nf⟩
  · rintro ⟨c', h | rfl, nf'⟩
    · exact .inl ⟨c', h, nf'⟩
    · exact .inr (ascL_same nf'.1 nf.1 fun z => (nf'.2 z).trans (nf.2 z).symm)
end M6
set_option maxRecDepth 100000
set_option maxHeartbeats 16000000
/-! _law_fit_clauses, read -/
namespace M6
open PySem L2 Evl GP HR SC SetM SetH RQ SetN
def spFitC (K : PySem.W.Frag) : Sp := fun vs H Q _ => ∃ (g b l : Addr) (n : Nat) (gus bus us : List V) (gs bs : List Vw) (ls : List Lit), vs = [.ref g, .ref b, .ref l, natV n] ∧ SqL K H g gus ∧ VLs H gus gs ∧ SqL K H b bus ∧ VLs H bus bs ∧ n ≤ 4 ∧ gs.length ≤ 6 ∧ bs.length ≤ 6 ∧ SqL K H l us ∧ Lits H us ls ∧ (∀ l ∈ ls, LitOk l) ∧ ls.length ≤ 6 ∧
  (∀ q, q ∈ gs ∨ q ∈ bs → ∀ l ∈ ls, ∀ z ∈ namesOf l, z ∈ q.2.map Prod.fst) ∧
  ∀ u us' es ls' H', Ex H H' → H' u = some (.tup us') → Cls H' us' es → AscC es → NF ls ls' → (∀ d, d ∈ es ↔ ∃ c ∈ allC n ls' gs bs, NF c d) → Q (.ref u) H'
section
variable {P : Program} {w : World} {K : PySem.W.Frag} {mg : Str → Option Value} {base : Heap} {a : Ad} {d : Fd}
theorem ok_law_fit_clauses (T : TX K mg a) (D : FDS K a d) : FnOk P w K mg base CX0 2 a.a_law_fit_clauses d.a_law_fit_clauses ["good", "bad", "literals", "count"] (spFitC K) := by
  have G__law_form : FnOk P w K mg base CX0 1 a.a_law_form d.a_law_form ["literals"] (spForm K) := ok_law_form T D
  have G__law_holds : FnOk P w K mg base CX0 1 a.a_law_holds d.a_law_holds ["literal", "values"] spHolds := ok_law_holds T D
  refine D.F__law_fit_clauses.ok sc_law_fit_clauses (fun vs H Q E h => ?_) (fun cdv A outer s H vs Q E hr h => ?_)
  · obtain ⟨g, b, l, n, gus, bus, us, gs, bs, ls, rfl, _⟩ := h
    rfl
  · obtain ⟨g, b, l, n, gus, bus, us, gs, bs, ls, rfl, hg, VG, hb, VB, n4, g6, b6, hl, L, okl, l6, sub, fin⟩ := h
    refine ⟨_, (pss_cons (ps_set (i := 4) sc_law_fit_clauses.nd rfl (Or.inr rfl) (pe_call G__law_form (hr.mono (by decide)) rfl T.f__law_form T.k__law_form D.B__law_form .nil pass0 (pa_cons (pv 2) pa_nil)))
        (pss_cons (ps_set (i := 5) sc_law_fit_clauses.nd rfl (Or.inl rfl) (pe_lst pa_nil))
        (pss_cons (ps_for PassesOwn.never rfl (pi_list (pv 0)) (pg_name (i := 6) sc_law_fit_clauses.nd rfl (Or.inr rfl)) (pss_cons (ps_setLc (i := 8) (own := [("j", 7)]) (g := gName 7) rfl sc_law_fit_clauses.nd rfl rfl (sw_true rfl rfl rfl (by decide +kernel)) (pi_range1 rfl T.b_range (pa_cons (pe_callB call_len_seq (by rfl) T.b_len (by decide +kernel) (pa_cons (pv 4) pa_nil)) pa_nil)) (blkOk_by (N := ["good", "bad", "literals", "count", "rows", "clauses", "one", "j", "told", "i", "k"]) (sc := defScope s_law_fit_clauses) (by decide +kernel)) (fun _ _ _ _ _ => (pg_name (i := 7) sc_law_fit_clauses.nd rfl (Or.inl rfl))) (fun _ _ _ _ _ => (pts_one (pt_val (pe_call G__law_holds (hr.mono (by decide)) rfl T.f__law_holds T.k__law_holds D.B__law_holds .nil pass0 (pa_cons (pe_ix (ix_tupK (K := K)) (pv 4) (pv 7) (fun _ _ => rfl)) (pa_cons (pv 6) pa_nil)))))) (fun _ _ _ _ _ => (pv 7)))
        (pss_one (ps_for PassesOwn.never rfl (pi_range1 rfl T.b_range (pa_cons (pv 3) pa_nil)) (pg_name (i := 9) sc_law_fit_clauses.nd rfl (Or.inr rfl)) (pss_one (ps_expr (pe_bm PySem.F.plainAttrs_list PySem.F.slot_list_append PySem.F.type_list_append mt_append (pv 5) (pa_cons (pe_call G__law_form (hr.mono (by decide)) rfl T.f__law_form T.k__law_form D.B__law_form .nil pass0 (pa_cons (pe_lc (own := [("j", 7)]) (g := gName 7) (tt := tYes) rfl sc_law_fit_clauses.nd (pi_list (pv 8)) (blkOk_by (N := ["good", "bad", "literals", "count", "rows", "clauses", "one", "j", "told", "i", "k"]) (sc := defScope s_law_fit_clauses) (by decide +kernel)) (fun _ _ _ _ _ => (pg_name (i := 7) sc_law_fit_clauses.nd rfl (Or.inl rfl))) (fun _ _ _ _ _ => pts_nil) (fun _ _ _ _ _ => (pe_tup (pa_cons pe_str (pa_cons (pe_joined (.cons pe_str (.cons (pe_fmt (pv 9)) (.cons pe_str (.cons (pe_fmt (pv 7)) .nil))))) pa_nil))))) pa_nil)) pa_nil))))))))
        (pss_cons (ps_for PassesOwn.never rfl (pi_range1 rfl T.b_range (pa_cons (pe_callB call_len_seq (by rfl) T.b_len (by decide +kernel) (pa_cons (pv 1) pa_nil)) pa_nil)) (pg_name (i := 10) sc_law_fit_clauses.nd rfl (Or.inr rfl)) (pss_cons (ps_expr (pe_bm PySem.F.plainAttrs_list PySem.F.slot_list_append PySem.F.type_list_append mt_append (pv 5) (pa_cons (pe_call G__law_form (hr.mono (by decide)) rfl T.f__law_form T.k__law_form D.B__law_form .nil pass0 (pa_cons (pe_lc (own := [("i", 9)]) (g := gName 9) (tt := tYes) rfl sc_law_fit_clauses.nd (pi_range1 rfl T.b_range (pa_cons (pv 3) pa_nil)) (blkOk_by (N := ["good", "bad", "literals", "count", "rows", "clauses", "one", "j", "told", "i", "k"]) (sc := defScope s_law_fit_clauses) (by decide +kernel)) (fun _ _ _ _ _ => (pg_name (i := 9) sc_law_fit_clauses.nd rfl (Or.inl rfl))) (fun _ _ _ _ _ => pts_nil) (fun _ _ _ _ _ => (pe_tup (pa_cons pe_str (pa_cons (pe_joined (.cons pe_str (.cons (pe_fmt (pv 9)) (.cons pe_str (.cons (pe_fmt (pv 10)) .nil))))) pa_nil))))) pa_nil)) pa_nil)))
        (pss_one (ps_for PassesOwn.never rfl (pi_range1 rfl T.b_range (pa_cons (pe_callB call_len_seq (by rfl) T.b_len (by decide +kernel) (pa_cons (pv 4) pa_nil)) pa_nil)) (pg_name (i := 7) sc_law_fit_clauses.nd rfl (Or.inl rfl)) (pss_one (ps_if (pt_val (pe_call G__law_holds (hr.mono (by decide)) rfl T.f__law_holds T.k__law_holds D.B__law_holds .nil pass0 (pa_cons (pe_ix ix_tup (pv 4) (pv 7) (fun _ _ => rfl)) (pa_cons (pe_ix (ix_listK (K := K)) (pv 1) (pv 10) (fun _ _ => rfl)) pa_nil)))) (pss_one (ps_for PassesOwn.never rfl (pi_range1 rfl T.b_range (pa_cons (pv 3) pa_nil)) (pg_name (i := 9) sc_law_fit_clauses.nd rfl (Or.inr rfl)) (pss_one (ps_expr (pe_bm PySem.F.plainAttrs_list PySem.F.slot_list_append PySem.F.type_list_append mt_append (pv 5) (pa_cons (pe_call G__law_form (hr.mono (by decide)) rfl T.f__law_form T.k__law_form D.B__law_form .nil pass0 (pa_cons (pe_lst (pa_cons (pe_tup (pa_cons pe_str (pa_cons (pe_joined (.cons pe_str (.cons (pe_fmt (pv 9)) (.cons pe_str (.cons (pe_fmt (pv 10)) .nil))))) pa_nil))) (pa_cons (pe_tup (pa_cons pe_str (pa_cons (pe_joined (.cons pe_str (.cons (pe_fmt (pv 9)) (.cons pe_str (.cons (pe_fmt (pv 7)) .nil))))) pa_nil))) pa_nil))) pa_nil)) pa_nil)))))) pss_nil))))))
        (pss_one (ps_ret (pe_call G__law_form (hr.mono (by decide)) rfl T.f__law_form T.k__law_form D.B__law_form .nil pass0 (pa_cons (pv 5) pa_nil)))))))), ?_⟩
    have big : 1000 ≤ sizeLine := by decide
    refine ⟨_, rfl, l, us, rfl, hl, .inl ⟨ls, L, by omega, fun k kus ls' H1 e1 hk LK nf => ?_⟩⟩
    refine nm_go ?_
    refine ⟨(by show 0 ≤ sizeLine; decide), fun F hF => ?_⟩
    have x2 := Ex.new (o := .lst []) hF
    have hF2 : upd H1 F (.lst []) F = some (.lst []) := upd_same
    have okls : ∀ m ∈ ls', LitOk m := fun m hm => okl m ((nf.2 m).mp hm)
    have lls : ls'.length ≤ 6 := Nat.le_trans (asc_len nf.1 nf.2) l6
    have sub' : ∀ q, q ∈ gs ∨ q ∈ bs → ∀ m ∈ ls', ∀ z ∈ namesOf m, z ∈ q.2.map Prod.fst := fun q hq m hm => sub q hq m ((nf.2 m).mp hm)
    have lk := LK.len
    generalize upd H1 F (.lst []) = H2 at *
    refine nm_go ?_
    dsimp only
    refine ⟨_, rfl, g, rfl, ⟨_, ex_l (e1.trans x2) hg⟩, for_it (walk_list (xs := gus)) (fun i σ H' => ∃ (o6 o7 o8 o9 : Option V), σ = [some (.ref g), some (.ref b), some (.ref l), some (natV n), some (.ref k), some (.ref F), o6, o7, o8, o9, none] ∧ Ex H1 H' ∧ Gat H' F (4 * i) (PG n ls' gs i)) ⟨none, none, none, none, rfl, x2, [], [], hF2, ⟨rfl, fun i c h => by simp at h⟩, Nat.le_refl _, fun d => ⟨fun h => absurd h List.not_mem_nil, fun ⟨c, ⟨q, hq, _⟩, _⟩ => absurd hq (by simp)⟩⟩ (fun i σ H' _ ⟨_, _, _, _, _, e, _⟩ => ex_l (e1.trans e) hg) ?_ ?_⟩
    · rintro i x σ H3 H3' hi ⟨o6, o7, o8, o9, rfl, e3, G3⟩ ⟨rfl, hx⟩
      obtain ⟨q, hqi, va, vn, vtm, vo, vpa, rfl, VV⟩ := (VG.ex (e1.trans e3)).get hx
      have hi6 : i < 6 := by have := VG.len; omega
      have hk3 := e3 _ _ hk
      refine nm_go ?_
      dsimp only
      refine ⟨_, rfl, k, kus, rfl, .inr (SqT.of hk3), (kus.length : Int), rfl, by omega, by omega, fun D1 hD1 => lc_it (H1 := H3') walk_range (fun i H' => Ex H3' H' ∧ H' D1 = some (.lst ((heldP (holdsL q.1 (tvOf q.2)) ls' i).map natV))) ⟨Ex.new hD1, upd_same⟩ (fun _ _ _ _ => trivial) ?_ fun H4 h4 => ?_⟩
      · rintro i x H4 H4' hi4 ⟨e4, h4⟩ ⟨rfl, rfl⟩
        have hi4 : i < ls'.length := by rw [← lk]; exact hi4
        obtain ⟨t, h5, h6⟩ := ((LK.ex e3).ex e4).at_ i ls'[i] (List.getElem?_eq_getElem hi4)
        have lm : ls'[i] ∈ ls' := List.getElem_mem hi4
        have hl4 : ls'[i]? = some ls'[i] := List.getElem?_eq_getElem hi4
        generalize ls'[i] = m at *
        unfold gName
        dsimp only
        rw [Int.zero_add]
        refine ⟨rfl, _, rfl, _, rfl, k, _, (i : Int), _, rfl, rfl, SqT.of (e4 _ _ hk3), at_lit (n := i) rfl h5, _, rfl, t, va, vn, vtm, vo, vpa, m, q.1, q.2, rfl, h6, VV.ex e4, sub' q (.inl (List.mem_of_getElem? hqi)) m lm, fun H5 e5 => ⟨_, rfl, ?_⟩⟩
        have e45 := e4.trans e5
        have hw5 := e5 _ _ h4
        cases gh : holdsL q.1 (tvOf q.2) m with
        | false => exact iteF' rfl ⟨e45, by rw [heldP_one hl4, gh, if_neg Bool.false_ne_true, List.append_nil]; exact hw5⟩
        | true =>
          have := heldP_len (f := holdsL q.1 (tvOf q.2)) (ls := ls') (i := i)
          refine iteT' rfl ⟨_, rfl, _, hw5, by rw [List.length_map]; omega, e45.mut hD1, ?_⟩
          rw [upd_same, heldP_one hl4, gh, if_pos rfl, List.map_append]
          rfl
      · obtain ⟨e4, h4⟩ := h4
        replace h4 : H4 D1 = some (.lst ((hq ls' q).map natV)) := by
          have : ((kus.length : Int)).toNat = ls'.length := by rw [lk]; rfl
          rw [this] at h4
          exact h4
        have h9 : ∀ j ∈ hq ls' q, j ≤ 9 := fun j hj => by have := heldP_lt hj; omega
        have hl9 : (hq ls' q).length ≤ 6 := Nat.le_trans heldP_len lls
        have PGn : ∀ c, (PG n ls' gs i c ∨ ∃ r, r < n ∧ c = yesL r (hq ls' q)) ↔ PG n ls' gs (i + 1) c := fun c => by
          unfold PG
          rw [List.take_add_one, hqi]
          simp only [Option.toList_some, List.mem_append, List.mem_singleton]
          constructor
          · rintro (⟨q', h, r⟩ | ⟨r, h⟩)
            · exact ⟨q', .inl h, r⟩
            · exact ⟨q, .inr rfl, r, h⟩
          · rintro ⟨q', h | rfl, r⟩
            · exact .inl ⟨q', h, r⟩
            · exact .inr r
        have e34 := e3.trans e4
        have G4 := G3.ex e4
        have nF1 : D1 ≠ F := fun z => by
          obtain ⟨us, es, h1, _⟩ := G3
          rw [z, h1] at hD1
          cases hD1
        generalize hq ls' q = hd at *
        refine nm_go ?_
        dsimp only
        refine ⟨_, rfl, (n : Int), rfl, by omega, by omega, for_it walk_range (fun r σ H' => ∃ (o9 : Option V), σ = [some (.ref g), some (.ref b), some (.ref l), some (natV n), some (.ref k), some (.ref F), some (.ref va), o7, some (.ref D1), o9, none] ∧ Ex H1 H' ∧ H' D1 = some (.lst (hd.map natV)) ∧ Gat H' F (4 * i + r) (fun c => PG n ls' gs i c ∨ ∃ r', r' < r ∧ c = yesL r' hd)) ⟨o9, rfl, e34, h4, G4.iff fun c => ⟨.inl, fun h => h.elim id fun ⟨_, z, _⟩ => absurd z (Nat.not_lt_zero _)⟩⟩ (fun _ _ _ _ _ => trivial) ?_ fun σ H5 ⟨o9, eσ, e5, _, G5⟩ => ⟨_, _, _, _, eσ, e5, ((G5.iff (Pd := PG n ls' gs (i + 1)) PGn).le (by show 4 * i + (n : Int).toNat ≤ 4 * (i + 1); omega))⟩⟩
        rintro r x σ H5 H5' hr ⟨o9, rfl, e5, h5, G5⟩ ⟨rfl, rfl⟩
        have hr : r < n := hr
        refine nm_go ?_
        dsimp only
        rw [Int.zero_add]
        obtain ⟨uF, esF, hF5, _, lF5, _⟩ := id G5
        refine ⟨_, rfl, .inl ⟨rfl, _, SqL.of hF5⟩, _, rfl, D1, rfl, ⟨_, SqL.of h5⟩, fun D2 hD2 => lcLit walk_list (fun i => Lit.yn true (cN r (hd.getD i 0))) (by rw [List.length_map]; omega) (fun H' e => SqL.of (e _ _ h5)) ?_ hD2 fun H6 ws6 e6 h6 L6 => ?_⟩
        · rintro m x H6 H6' hi6 e6 ⟨rfl, hx6⟩
          rw [List.length_map] at hi6
          rw [List.getElem?_map, List.getElem?_eq_getElem hi6] at hx6
          cases hx6
          have gd : hd.getD m 0 = hd[m] := by rw [List.getD_eq_getElem?_getD, List.getElem?_eq_getElem hi6]; rfl
          have hi9 := h9 _ (List.getElem_mem hi6)
          rw [gd]
          generalize hd[m] = j at *
          refine ⟨rfl, rfl, fun Q q => ?_⟩
          show tJs [tC (.str "c"), tFmt (tVar 9), tC (.str "l"), tFmt (tVar 7)] Str.empty _ _ _
          refine part_go (fun H Q q => ⟨_, rfl, q⟩) (fun H Q q => ⟨_, rfl, q⟩) (nm_all r (by omega) j hi9).1.2 (fmt_ok (show r ≤ 9 by omega)).2 (fmt_ok hi9).2 ?_
          exact ⟨(by show 2 ≤ sizeLine; decide), fun t ht => q t _ (Ex.new ht) upd_same⟩
        · rw [List.length_map, held_map (fun j => Lit.yn true (cN r j))] at L6
          refine ⟨D2, ws6, rfl, SqL.of h6, .inl ⟨yesL r hd, L6, by unfold yesL; rw [List.length_map]; omega, fun u us' d' H7 e7 hu L7 nf7 => ?_⟩⟩
          dsimp only [tNil]
          refine ((G5.ex e6).ex e7).app (by omega) hu L7 nf7 fun H8 k8 m8 G8 => ⟨_, rfl, m8 _ (e5.trans (e6.trans e7)) hF, k8 _ _ nF1 (e7 _ _ (e6 _ _ h5)), G8.iff fun c => ?_⟩
          constructor
          · rintro ((h | ⟨r', h, e⟩) | e)
            · exact .inl h
            · exact .inr ⟨r', by omega, e⟩
            · exact .inr ⟨r, by omega, e⟩
          · rintro (h | ⟨r', h, e⟩)
            · exact .inl (.inl h)
            · rcases Nat.lt_succ_iff_lt_or_eq.mp h with h | rfl
              · exact .inl (.inr ⟨r', h, e⟩)
              · exact .inr e
    · rintro σ H3 ⟨o6, o7, o8, o9, rfl, e3, G3⟩
      rw [VG.len] at G3
      dsimp only
      have hbq : SqL K H1 b bus := ex_l e1 hb
      refine ⟨_, rfl, b, bus, rfl, .inl (ex_l e3 hbq), (bus.length : Int), rfl, by have := VB.len; omega, by have := VB.len; omega, for_it walk_range (fun k0 σ H' => ∃ (o6 o7 o8 o9 o10 : Option V), σ = [some (.ref g), some (.ref b), some (.ref l), some (natV n), some (.ref k), some (.ref F), o6, o7, o8, o9, o10] ∧ Ex H1 H' ∧ Gat H' F (24 + 25 * k0) (fun c => PG n ls' gs gs.length c ∨ PB n ls' bs k0 c)) ⟨o6, o7, o8, o9, none, rfl, e3, (G3.iff fun c => ⟨.inl, fun h => h.elim id fun ⟨_, _, z, _⟩ => absurd z (Nat.not_lt_zero _)⟩).le (by omega)⟩ (fun _ _ _ _ _ => trivial) ?_ ?_⟩
      · rintro k0 x σ H4 H4' hk0 ⟨o6, o7, o8, o9, o10, rfl, e4, G4⟩ ⟨rfl, rfl⟩
        have hk0 : k0 < bus.length := hk0
        have k6 : k0 < 6 := by have := VB.len; omega
        have hxb : bus[k0]? = some bus[k0] := List.getElem?_eq_getElem hk0
        generalize bus[k0] = xb at *
        obtain ⟨q, hqi, va, vn, vtm, vo, vpa, rfl, VV⟩ := (VB.ex (e1.trans e4)).get hxb
        refine nm_go ?_
        dsimp only
        rw [Int.zero_add]
        obtain ⟨uF, esF, hF4, _, lF4, _⟩ := id G4
        refine ⟨_, rfl, .inl ⟨rfl, _, SqL.of hF4⟩, _, rfl, (n : Int), rfl, by omega, by omega, fun D2 hD2 => lcLit walk_range (fun r => Lit.yn true (bN r k0)) (by show (n : Int).toNat < sizeLine; omega) (fun _ _ => trivial) ?_ hD2 fun H6 ws6 e6 h6 L6 => ?_⟩
        · rintro r x H6 H6' hr6 e6 ⟨rfl, rfl⟩
          have hr6 : r < n := hr6
          refine ⟨rfl, rfl, fun Q q => ?_⟩
          dsimp only
          rw [Int.zero_add]
          show tJs [tC (.str "b"), tFmt (tVar 9), tC (.str "x"), tFmt (tVar 10)] Str.empty _ _ _
          refine part_go (fun H Q q => ⟨_, rfl, q⟩) (fun H Q q => ⟨_, rfl, q⟩) (nm_all r (by omega) k0 (by omega)).2.2 (fmt_ok (show r ≤ 9 by omega)).2 (fmt_ok (show k0 ≤ 9 by omega)).2 ?_
          exact ⟨(by show 2 ≤ sizeLine; decide), fun t ht => q t _ (Ex.new ht) upd_same⟩
        replace L6 : Lits H6 ws6 (refB n k0) := L6
        refine ⟨D2, ws6, rfl, SqL.of h6, .inl ⟨refB n k0, L6, by unfold refB; rw [List.length_map, List.length_range]; omega, fun u us' d' H7 e7 hu L7 nf7 => ?_⟩⟩
        dsimp only [tNil]
        refine ((G4.ex e6).ex e7).app (by omega) hu L7 nf7 fun H8 k8 m8 G8 => ?_
        have e8 : Ex H1 H8 := m8 _ (e4.trans (e6.trans e7)) hF
        clear e6 h6 L6 e7 hu L7 nf7 k8 m8 hF4 lF4
        refine ⟨_, rfl, k, kus, rfl, .inr (SqT.of (e8 _ _ hk)), (kus.length : Int), rfl, by omega, by omega, for_it walk_range (fun j σ H' => ∃ (o7 o9 : Option V), σ = [some (.ref g), some (.ref b), some (.ref l), some (natV n), some (.ref k), some (.ref F), o6, o7, o8, o9, some (.int (k0 : Int))] ∧ Ex H1 H' ∧ Gat H' F (24 + 25 * k0 + 1 + 4 * j) (fun c => (PG n ls' gs gs.length c ∨ PB n ls' bs k0 c) ∨ c = refB n k0 ∨ ∃ j' ∈ heldP (holdsL q.1 (tvOf q.2)) ls' j, ∃ r, r < n ∧ c = noL r k0 j')) ⟨o7, o9, rfl, e8, G8.iff fun c => ⟨fun h => h.elim .inl fun h => .inr (.inl h), fun h => h.elim .inl fun h => h.elim .inr fun ⟨j', hj', _⟩ => absurd hj' (by simp [heldP])⟩⟩ (fun _ _ _ _ _ => trivial) ?_ ?_⟩
        · rintro j x σ H5 H5' hj5 ⟨o7, o9, rfl, e5, G5⟩ ⟨rfl, rfl⟩
          have hj5 : j < ls'.length := by rw [← lk]; exact hj5
          obtain ⟨t, h5, h6⟩ := (LK.ex e5).at_ j ls'[j] (List.getElem?_eq_getElem hj5)
          have lm : ls'[j] ∈ ls' := List.getElem_mem hj5
          have hl4 : ls'[j]? = some ls'[j] := List.getElem?_eq_getElem hj5
          generalize ls'[j] = m at *
          obtain ⟨q2, hqi2, va2, vn2, vtm2, vo2, vpa2, ev, VV2⟩ := (VB.ex (e1.trans e5)).get hxb
          rw [hqi] at hqi2
          cases hqi2
          cases ev
          refine nm_go ?_
          dsimp only
          rw [Int.zero_add]
          refine ⟨_, rfl, _, rfl, k, _, (j : Int), _, rfl, rfl, SqT.of (e5 _ _ hk), at_lit (n := j) rfl h5, _, rfl, _, rfl, b, _, (k0 : Int), _, rfl, rfl, ex_l e5 hbq, at_lit (n := k0) rfl hxb, t, va, vn2, vtm2, vo2, vpa2, m, q.1, q.2, rfl, h6, VV2, sub' q (.inr (List.mem_of_getElem? hqi)) m lm, fun H6 e6 => ⟨_, rfl, ?_⟩⟩
          cases gh : holdsL q.1 (tvOf q.2) m with
          | false =>
            refine iteF' rfl ⟨_, _, rfl, e5.trans e6, (G5.ex e6).le (by omega) |>.iff fun c => ?_⟩
            rw [heldP_one hl4, gh, if_neg Bool.false_ne_true, List.append_nil]
          | true =>
            refine iteT' rfl ?_
            have j9 : j ≤ 9 := by omega
            refine ⟨_, rfl, (n : Int), rfl, by omega, by omega, for_it walk_range (fun r σ H' => ∃ (o9 : Option V), σ = [some (.ref g), some (.ref b), some (.ref l), some (natV n), some (.ref k), some (.ref F), o6, some (.int (j : Int)), o8, o9, some (.int (k0 : Int))] ∧ Ex H1 H' ∧ Gat H' F (24 + 25 * k0 + 1 + 4 * j + r) (fun c => ((PG n ls' gs gs.length c ∨ PB n ls' bs k0 c) ∨ c = refB n k0 ∨ ∃ j' ∈ heldP (holdsL q.1 (tvOf q.2)) ls' j, ∃ r, r < n ∧ c = noL r k0 j') ∨ ∃ r', r' < r ∧ c = noL r' k0 j)) ⟨o9, rfl, e5.trans e6, (G5.ex e6).iff fun c => ⟨.inl, fun h => h.elim id fun ⟨_, z, _⟩ => absurd z (Nat.not_lt_zero _)⟩⟩ (fun _ _ _ _ _ => trivial) ?_ fun σ H7 ⟨o9', eσ, e7, G7⟩ => ⟨_, _, eσ, e7, (G7.iff fun c => ?_).le (by show 24 + 25 * k0 + 1 + 4 * j + (n : Int).toNat ≤ 24 + 25 * k0 + 1 + 4 * (j + 1); omega)⟩⟩
            · rintro r x σ H7 H7' hr7 ⟨o9', rfl, e7, G7⟩ ⟨rfl, rfl⟩
              have hr7 : r < n := hr7
              refine nm_go ?_
              dsimp only
              rw [Int.zero_add]
              obtain ⟨uF, esF, hF7, _, lF7, _⟩ := id G7
              refine ⟨_, rfl, .inl ⟨rfl, _, SqL.of hF7⟩, ?_⟩
              show tJs [tC (.str "b"), tFmt (tVar 9), tC (.str "x"), tFmt (tVar 10)] Str.empty _ _ _
              refine part_go (fun H Q q => ⟨_, rfl, q⟩) (fun H Q q => ⟨_, rfl, q⟩) (nm_all r (by omega) k0 (by omega)).2.2 (fmt_ok (show r ≤ 9 by omega)).2 (fmt_ok (show k0 ≤ 9 by omega)).2 ?_
              refine ⟨(by show 2 ≤ sizeLine; decide), fun t1 ht1 => ?_⟩
              have x1 := Ex.new (o := .tup [V.str "no", V.str (nmP "b" "x" r k0)]) ht1
              have q1 : upd H7' t1 (.tup [V.str "no", V.str (nmP "b" "x" r k0)]) t1 = some (.tup (litV (.yn false (bN r k0)))) := upd_same
              generalize upd H7' t1 (.tup [V.str "no", V.str (nmP "b" "x" r k0)]) = H8 at *
              show tJs [tC (.str "c"), tFmt (tVar 9), tC (.str "l"), tFmt (tVar 7)] Str.empty _ _ _
              refine part_go (fun H Q q => ⟨_, rfl, q⟩) (fun H Q q => ⟨_, rfl, q⟩) (nm_all r (by omega) j j9).1.2 (fmt_ok (show r ≤ 9 by omega)).2 (fmt_ok j9).2 ?_
              refine ⟨(by show 2 ≤ sizeLine; decide), fun t2 ht2 => ?_⟩
              have x2' := Ex.new (o := .tup [V.str "no", V.str (nmP "c" "l" r j)]) ht2
              have q2' : upd H8 t2 (.tup [V.str "no", V.str (nmP "c" "l" r j)]) t2 = some (.tup (litV (.yn false (cN r j)))) := upd_same
              generalize upd H8 t2 (.tup [V.str "no", V.str (nmP "c" "l" r j)]) = H9 at *
              have L9 : Lits H9 [.ref t1, .ref t2] (noL r k0 j) := (Lits.nil.snoc (x2' _ _ q1)).snoc q2'
              refine ⟨(by show 2 ≤ sizeLine; decide), fun t3 ht3 => ?_⟩
              have x3 := Ex.new (o := .lst [V.ref t1, V.ref t2]) ht3
              have q3 : upd H9 t3 (.lst [V.ref t1, V.ref t2]) t3 = some (.lst [V.ref t1, V.ref t2]) := upd_same
              generalize upd H9 t3 (.lst [V.ref t1, V.ref t2]) = H10 at *
              have x13 := x1.trans (x2'.trans x3)
              refine ⟨t3, _, rfl, SqL.of q3, .inl ⟨noL r k0 j, L9.ex x3, by show 2 < 63; omega, fun u us' d' H11 e11 hu L11 nf11 => ?_⟩⟩
              dsimp only [tNil]
              refine ((G7.ex x13).ex e11).app (by omega) hu L11 nf11 fun H12 k12 m12 G12 => ⟨_, rfl, m12 _ (e7.trans (x13.trans e11)) hF, G12.iff fun c => ?_⟩
              constructor
              · rintro ((h | ⟨r', h, e⟩) | e)
                · exact .inl h
                · exact .inr ⟨r', by omega, e⟩
                · exact .inr ⟨r, by omega, e⟩
              · rintro (h | ⟨r', h, e⟩)
                · exact .inl (.inl h)
                · rcases Nat.lt_succ_iff_lt_or_eq.mp h with h | rfl
                  · exact .inl (.inr ⟨r', h, e⟩)
                  · exact .inr e
            · rw [heldP_one hl4, gh, if_pos rfl]
              simp only [List.mem_append, List.mem_singleton]
              constructor
              · rintro ((h | h | ⟨j', hj', h⟩) | ⟨r, hr, e⟩)
                · exact .inl h
                · exact .inr (.inl h)
                · exact .inr (.inr ⟨j', .inl hj', h⟩)
                · exact .inr (.inr ⟨j, .inr rfl, r, hr, e⟩)
              · rintro (h | h | ⟨j', hj' | rfl, h⟩)
                · exact .inl (.inl h)
                · exact .inl (.inr (.inl h))
                · exact .inl (.inr (.inr ⟨j', hj', h⟩))
                · exact .inr h
        · rintro σ H5 ⟨o7, o9, rfl, e5, G5⟩
          have el : ((kus.length : Int)).toNat = ls'.length := by rw [lk]; rfl
          rw [el] at G5
          refine ⟨_, _, _, _, _, rfl, e5, (G5.iff fun c => ?_).le (by omega)⟩
          unfold PB
          constructor
          · rintro ((h | ⟨k', q', h1, h2⟩) | h | ⟨j', hj', r, hr, e⟩)
            · exact .inl h
            · exact .inr ⟨k', q', by omega, h2⟩
            · exact .inr ⟨k0, q, by omega, hqi, .inl h⟩
            · exact .inr ⟨k0, q, by omega, hqi, .inr ⟨r, hr, j', hj', e⟩⟩
          · rintro (h | ⟨k', q', h1, h2, h3⟩)
            · exact .inl (.inl h)
            · rcases Nat.lt_succ_iff_lt_or_eq.mp h1 with h | rfl
              · exact .inl (.inr ⟨k', q', h, h2, h3⟩)
              · rw [hqi] at h2
                cases h2
                rcases h3 with h3 | ⟨r, hr, j', hj', e⟩
                · exact .inr (.inl h3)
                · exact .inr (.inr ⟨j', hj', r, hr, e⟩)
      · rintro σ H4 ⟨o6, o7, o8, o9, o10, rfl, e4, us4, es, hF4, CL4, l4, mem4⟩
        have el : ((bus.length : Int)).toNat = bs.length := by rw [VB.len]; rfl
        rw [el] at l4 mem4
        have := CL4.len
        refine ⟨_, rfl, F, us4, rfl, SqL.of hF4, .inr ⟨es, CL4, by omega, fun u us' es' H' e hu CL' asc memE => fin u us' es' ls' H' (e1.trans (e4.trans e)) hu CL' asc nf fun d => ?_⟩⟩
        rw [memE d, mem4 d]
        exact exists_congr fun c => and_congr_left fun _ => mem_allC.symm
end
end M6
set_option maxRecDepth 100000
set_option maxHeartbeats 8000000
/-! the values of the law -/
namespace M6
open PySem L2 Evl GP HR SC SetM SetH RQ SetN
structure VwOk (ys : List Str) (q : Vw) : Prop where
  n : ∀ z ∈ q.1, isNameS z = true
  p : ∀ r ∈ q.2, isNameS r.1 = true ∧ r.2.natAbs ≤ 2 ^ 211
  sub : ∀ z ∈ ys, z ∈ q.2.map Prod.fst
  l1 : q.1.length ≤ 4
  l2 : q.2.length ≤ 4
def spVals : Sp := fun vs H Q _ => ∃ (b t1 t2 : Addr) (xs ys : List Str), vs = [.ref b, .ref t1, .ref t2] ∧ Bx b H ∧ Wld b t1 t2 xs ys H ∧
  ∀ (v n tm : Addr) (o : Obj) (pa : List Addr) (q : Vw) H', Kp b H H' → Bx b H' → Val H' v n tm o pa q.1 q.2 → VwOk ys q → q.1.length ≤ 3 → q.2.length ≤ 3 → (∀ z ∈ q.2.map Prod.fst, z ≠ "zzz0zzz0") → Q (.ref v) H'
section
variable {P : Program} {w : World} {K : PySem.W.Frag} {mg : Str → Option Value} {base : Heap} {a : Ad} {d : Fd}
theorem ok_law_values (T : TX K mg a) (D : FDS K a d) : FnOk P w K mg base CX0 3 a.a_law_values d.a_law_values ["bag", "truths", "moments"] spVals := by
  have G__law_draw : FnOk P w K mg base CX0 1 a.a_law_draw d.a_law_draw ["bag", "size"] spDraw := ok_law_draw T D
  have G__law_integer : FnOk P w K mg base CX0 2 a.a_law_integer d.a_law_integer ["bag"] spInt := ok_law_integer T D
  refine D.F__law_values.ok sc_law_values (fun vs H Q E h => ?_) (fun cdv A outer s H vs Q E hr h => ?_)
  · obtain ⟨b, t1, t2, xs, ys, rfl, _⟩ := h
    rfl
  · obtain ⟨b, t1, t2, xs, ys, rfl, X, W, fin⟩ := h
    refine ⟨_, (pss_cons (ps_set (i := 3) sc_law_values.nd rfl (Or.inl rfl) (pe_lst pa_nil))
        (Evl.pss_cut (ps_for PassesOwn.never rfl (pi_list (pv 1)) (pg_name (i := 4) sc_law_values.nd rfl (Or.inl rfl)) (pss_one (ps_if (pt_cmpR op_eq (pe_call G__law_draw (hr.mono (by decide)) rfl T.f__law_draw T.k__law_draw D.B__law_draw .nil pass0 (pa_cons (pv 0) (pa_cons pe_int pa_nil))) pe_int (nomark _)) (pss_one (ps_expr (pe_bm PySem.F.plainAttrs_list PySem.F.slot_list_append PySem.F.type_list_append mt_append (pv 3) (pa_cons (pv 4) pa_nil)))) pss_nil)))
        (pss_cons (ps_setLc (i := 5) (own := [("one", 4)]) (g := gName 4) (tt := tYes) rfl sc_law_values.nd rfl rfl (sw_true rfl rfl rfl (by decide +kernel)) (pi_list (pe_callB cr_sortedS (by rfl) T.b_sorted (by decide +kernel) (pa_cons (pv 2) pa_nil))) (blkOk_by (N := ["bag", "truths", "moments", "names", "one", "times"]) (sc := defScope s_law_values) (by decide +kernel)) (fun _ _ _ _ _ => (pg_name (i := 4) sc_law_values.nd rfl (Or.inl rfl))) (fun _ _ _ _ _ => pts_nil) (fun _ _ _ _ _ => (pe_tup (pa_cons (pv 4) (pa_cons (pe_call G__law_integer (hr.mono (by decide)) rfl T.f__law_integer T.k__law_integer D.B__law_integer .nil pass0 (pa_cons (pv 0) pa_nil)) pa_nil)))))
        (pss_one (ps_ret (pe_tup (pa_cons (pe_callTy call_tuple_of (by rfl) T.b_tuple (by decide +kernel) (pa_cons (pe_callB cr_sortedS (by rfl) T.b_sorted (by decide +kernel) (pa_cons (pv 3) pa_nil)) pa_nil)) (pa_cons (pe_callTy (cr_tupF (K := K)) (by rfl) T.b_tuple (by decide +kernel) (pa_cons (pv 5) pa_nil)) pa_nil)))))))), ?_⟩
    have big : 1000 ≤ sizeLine := by decide
    refine ⟨(by show 0 ≤ sizeLine; decide), fun nl hnl => ?_⟩
    have nnb : nl ≠ b := X.ne hnl
    refine ⟨fun σ' H' => ∃ (ns : List Str) (o4 : Option V), σ' = [some (.ref b), some (.ref t1), some (.ref t2), some (.ref nl), o4, none] ∧ Kp b H H' ∧ Bx b H' ∧ H' nl = some (.lst (ns.map V.str)) ∧ ns.length ≤ 3 ∧ ∀ z ∈ ns, isNameS z = true, ?_, ?_⟩
    · have x1 := Ex.new (o := .lst []) hnl
      refine ⟨_, rfl, t1, rfl, ⟨_, SqL.of (x1 _ _ W.l1)⟩, for_it (walk_list (xs := xs.map V.str)) (fun i σ H' => ∃ (ns : List Str) (o4 : Option V), σ = [some (.ref b), some (.ref t1), some (.ref t2), some (.ref nl), o4, none] ∧ Kp b H H' ∧ Bx b H' ∧ H' nl = some (.lst (ns.map V.str)) ∧ ns.length ≤ i ∧ ∀ z ∈ ns, isNameS z = true) ⟨[], none, rfl, Kp.ex x1, X.ex x1, upd_same, Nat.le_refl _, fun z h => absurd h List.not_mem_nil⟩ (fun i σ H' _ ⟨_, _, _, k, _⟩ => SqL.of (W.kp k).l1) ?_ ?_⟩
      · rintro i v σ H2 H2' hi ⟨ns, o4, rfl, k2, X2, hn2, ln, nn⟩ ⟨rfl, hv⟩
        rw [List.length_map] at hi
        rw [List.getElem?_map, List.getElem?_eq_getElem hi] at hv
        cases hv
        have hz := W.xn _ (List.getElem_mem hi)
        have x3 := W.x3
        generalize xs[i] = z at *
        refine ⟨_, rfl, b, 2, rfl, X2, by decide, by decide, fun d3 H3 k3 X3 _ _ => ⟨rfl, _, rfl, ite2 (fun g => ?_) (fun g => ?_)⟩⟩
        · have hn3 := k3.k _ _ nnb hn2
          refine ⟨_, rfl, .inl ⟨rfl, _, SqL.of hn3⟩, _, rfl, nl, _, _, rfl, rfl, hn3, by rw [List.length_map]; omega, ns ++ [z], _, rfl, (k2.trans k3).mut hnl, X3.upd nnb, by rw [upd_same, List.map_append]; rfl, by rw [List.length_append, List.length_singleton]; omega, fun y hy => ?_⟩
          rcases List.mem_append.mp hy with hy | hy
          · exact nn y hy
          · rw [List.mem_singleton.mp hy]; exact hz
        · exact ⟨ns, _, rfl, k2.trans k3, X3, k3.k _ _ nnb hn2, by omega, nn⟩
      · rintro σ H2 ⟨ns, o4, rfl, k2, X2, hn2, ln, nn⟩
        exact ⟨ns, o4, rfl, k2, X2, hn2, by rw [List.length_map, W.x3] at ln; exact ln, nn⟩
    · rintro σ' H1 ⟨ns, o4, rfl, k1, X1, hn1, ln, nn⟩
      have W1 := W.kp k1
      have y3 := W.y4
      refine ⟨_, rfl, t2, ys, rfl, SqL.of W1.l2, by omega, fun ks p2 pm _ hp2 => ⟨p2, rfl, ⟨_, SqL.of upd_same⟩, fun D1 hD1 => ?_⟩⟩
      have x2 := Ex.new (o := .lst (ks.map V.str)) hp2
      have hp3 : upd H1 p2 (.lst (ks.map V.str)) p2 = some (.lst (ks.map V.str)) := upd_same
      have k2 := k1.trans (Kp.ex x2)
      have X2 := X1.ex x2
      have hn2 := x2 _ _ hn1
      have np2 : p2 ≠ b := X1.ne hp2
      have nD1 : D1 ≠ b := X2.ne hD1
      have lks : ks.length = 3 := by rw [pm.length_eq]; exact y3
      generalize upd H1 p2 (.lst (ks.map V.str)) = H2 at *
      have nD : H D1 = none := k2.back X2 hD1
      have nl1 : nl ≠ D1 := ne_of_none hn2 hD1
      have np1 : p2 ≠ D1 := ne_of_none hp3 hD1
      refine lc_it (H1 := H2) (walk_list (xs := ks.map V.str)) (fun i H' => Kp b H H' ∧ Bx b H' ∧ H' nl = some (.lst (ns.map V.str)) ∧ H' p2 = some (.lst (ks.map V.str)) ∧ ∃ (pa : List Addr) (ps : List (Str × Int)), H' D1 = some (.lst (pa.map V.ref)) ∧ pa.length = i ∧ ps.map Prod.fst = ks.take i ∧ (∀ r ∈ ps, r.2.natAbs ≤ 2 ^ 211) ∧ ∀ (j : Nat) (r : Str × Int), ps[j]? = some r → ∃ t, pa[j]? = some t ∧ H' t = some (.tup [.str r.1, .int r.2])) ?_ (fun i H' _ h => SqL.of h.2.2.2.1) ?_ ?_
      · exact ⟨k2.mut nD, X2.upd nD1, by rw [upd_ne nl1]; exact hn2, by rw [upd_ne np1]; exact hp3, [], [], upd_same, rfl, rfl, fun r h => absurd h List.not_mem_nil, fun j r h => by simp at h⟩
      · rintro i v H3 H3' hi ⟨k3, X3, hn3, hp4, pa, ps, h3, lpa, fst, small, A⟩ ⟨rfl, hv⟩
        rw [List.length_map] at hi
        rw [List.getElem?_map, List.getElem?_eq_getElem hi] at hv
        cases hv
        have tk : ks.take (i + 1) = ks.take i ++ [ks[i]] := by rw [List.take_add_one, List.getElem?_eq_getElem hi]; rfl
        generalize ks[i] = z at *
        have lps : ps.length = i := by rw [← List.length_map (f := Prod.fst), fst, List.length_take]; omega
        unfold gName tYes
        dsimp only
        refine ⟨rfl, iteT' rfl ⟨_, rfl, _, rfl, b, rfl, X3, fun k H4 k4 X4 lo hi' => ⟨(by show 2 ≤ sizeLine; decide), fun t ht => ?_⟩⟩⟩
        have xt := Ex.new (o := .tup [.str z, .int k]) ht
        have h4 := k4.k _ _ nD1 h3
        have nt : t ≠ D1 := (ne_of_none h4 ht).symm
        have keepT : ∀ (u : Addr) (vs : List V), H3' u = some (.tup vs) → upd (upd H4 t (.tup [.str z, .int k])) D1 (.lst (pa.map V.ref ++ [.ref t])) u = some (.tup vs) := fun u vs h => by
          have h5 := k4.tup X3 h
          rw [upd_ne (fun e => by rw [e, h3] at h; cases h)]
          exact xt _ _ h5
        refine ⟨_, xt _ _ h4, by rw [List.length_map]; omega, ((k3.trans k4).trans (Kp.ex xt)).mut nD, (X4.ex xt).upd nD1, ?_, ?_, pa ++ [t], ps ++ [(z, k)], by rw [upd_same, List.map_append]; rfl, by rw [List.length_append, List.length_singleton, lpa], by rw [List.map_append, fst, tk]; rfl, fun r hr => ?_, fun j r hr => ?_⟩
        · rw [upd_ne nl1]; exact xt _ _ (k4.k _ _ nnb hn3)
        · rw [upd_ne np1]; exact xt _ _ (k4.k _ _ np2 hp4)
        · rcases List.mem_append.mp hr with hr | hr
          · exact small r hr
          · rw [List.mem_singleton.mp hr]
            show k.natAbs ≤ 2 ^ 211
            omega
        · by_cases lt : j < ps.length
          · rw [List.getElem?_append_left lt] at hr
            obtain ⟨t', h1, h2⟩ := A j r hr
            exact ⟨t', by rw [List.getElem?_append_left (by omega)]; exact h1, keepT _ _ h2⟩
          · rw [List.getElem?_append_right (by omega)] at hr
            have e0 : j - ps.length = 0 := by
              by_cases z : j - ps.length = 0
              · exact z
              · rw [List.getElem?_eq_none (by simp; omega)] at hr
                cases hr
            rw [e0] at hr
            cases hr
            refine ⟨t, by rw [List.getElem?_append_right (by omega), show j - pa.length = 0 by omega]; rfl, ?_⟩
            rw [upd_ne nt]
            exact upd_same
      · rintro H3 ⟨k3, X3, hn3, hp4, pa, ps, h3, lpa, fst, small, A⟩
        rw [List.length_map] at lpa fst
        rw [List.take_length] at fst
        refine nm_go ?_
        dsimp only
        refine ⟨_, rfl, nl, ns, rfl, SqL.of hn3, by omega, fun ss p1 pm1 _ hp1 => ⟨p1, _, rfl, .inl ⟨SqL.of upd_same, fun n hn => ?_⟩⟩⟩
        have x1 := Ex.new (o := .lst (ss.map V.str)) hp1
        have x2 := Ex.new (o := .tup (ss.map V.str)) hn
        have hn5 : upd (upd H3 p1 (.lst (ss.map V.str))) n (.tup (ss.map V.str)) n = some (.tup (ss.map V.str)) := upd_same
        have x12 := x1.trans x2
        generalize upd (upd H3 p1 (.lst (ss.map V.str))) n (.tup (ss.map V.str)) = H5 at *
        refine ⟨_, rfl, D1, _, rfl, SqL.of (x12 _ _ h3), fun tm o _ od hl => ⟨(by show 2 ≤ sizeLine; decide), fun v hv => ?_⟩⟩
        have x7 := Ex.new (o := .frz o (.tup (pa.map V.ref))) hl
        have x8 := Ex.new (o := .tup [.ref n, .ref tm]) hv
        have lps : ps.length = 3 := by rw [← List.length_map (f := Prod.fst), fst, lks]
        have xx := x12.trans (x7.trans x8)
        refine fin v n tm o pa (ss, ps) _ (k3.trans (Kp.ex xx)) (X3.ex xx) ⟨upd_same, x8 _ _ (x7 _ _ hn5), x8 _ _ upd_same, od, by rw [lpa, lps, lks], fun j r hr => ?_, by show (ps.map Prod.fst).Nodup; rw [fst]; exact pm.nodup_iff.mpr W.nd, by show ps.length ≤ 60; omega⟩ ⟨fun z hz => nn z (pm1.mem_iff.mp hz), fun r hr => ⟨?_, small r hr⟩, fun z hz => by show z ∈ ps.map Prod.fst; rw [fst]; exact pm.mem_iff.mpr hz, by show ss.length ≤ 4; rw [pm1.length_eq]; omega, by show ps.length ≤ 4; omega⟩ (by show ss.length ≤ 3; rw [pm1.length_eq]; exact ln) (by show ps.length ≤ 3; omega) (fun z hz => W.yz z (pm.mem_iff.mp (by rw [← fst]; exact hz)))
        · obtain ⟨t, h1, h2⟩ := A j r hr
          exact ⟨t, h1, xx _ _ h2⟩
        · have : r.1 ∈ ks := by rw [← fst]; exact List.mem_map_of_mem hr
          exact W.yn _ (pm.mem_iff.mp this)
end
end M6
set_option maxRecDepth 100000
set_option maxHeartbeats 8000000
/-! _law_more -/
namespace M6
open PySem L2 Evl GP HR SC SetM SetH RQ SetN
def spMore : Sp := fun vs H Q _ => ∃ (b v n tm : Addr) (o : Obj) (pa : List Addr) (q : Vw) (ys : List Str), vs = [.ref b, .ref v] ∧ Bx b H ∧ Val H v n tm o pa q.1 q.2 ∧ VwOk ys q ∧ q.1.length ≤ 3 ∧ q.2.length ≤ 3 ∧ (∀ z ∈ q.2.map Prod.fst, z ≠ "zzz0zzz0") ∧
  ∀ (v n tm : Addr) (o : Obj) (pa : List Addr) (q : Vw) H', Kp b H H' → Bx b H' → Val H' v n tm o pa q.1 q.2 → VwOk ys q → Q (.ref v) H'
theorem Val.kp {b : Addr} {H H' : Hp} {v n tm : Addr} {o : Obj} {pa : List Addr} {ns : List Str} {ps : List (Str × Int)} (A : Val H v n tm o pa ns ps) (X : Bx b H) (k : Kp b H H') : Val H' v n tm o pa ns ps :=
  { A with hv := k.tup X A.hv, hn := k.tup X A.hn, ht := k.k _ _ (fun e => by
      obtain ⟨r, m, q, hb, _⟩ := X
      have h := A.ht
      rw [e, hb] at h
      cases h) A.ht, at_ := fun i q h => let ⟨t, h1, h2⟩ := A.at_ i q h; ⟨t, h1, k.tup X h2⟩ }
def prF (z : Addr × Str × Int) : V × PyData := (.ref z.1, .tuple [.str z.2.1, .int z.2.2])
def prG (b : V × PyData) : Addr × Str × Int := (match b.1 with | .ref t => t | _ => 0, match b.2 with | .tuple [.str x, .int k] => (x, k) | _ => ("", 0))
theorem prGF (z : Addr × Str × Int) : prG (prF z) = z := rfl
theorem pr_sorted (zs : List (Addr × Str × Int)) : ∃ ws : List (Addr × Str × Int), ws.Perm zs ∧ SD.sortedD (zs.map prF) = ws.map prF := by
  have pm := SD.sorted_perm (zs.map prF)
  refine ⟨(SD.sortedD (zs.map prF)).map prG, ?_, ?_⟩
  · have := pm.map prG
    rwa [List.map_map, show prG ∘ prF = id from funext prGF, List.map_id] at this
  · rw [List.map_map]
    have h : ∀ b ∈ SD.sortedD (zs.map prF), (prF ∘ prG) b = b := fun b hb => by
      obtain ⟨z, _, rfl⟩ := List.mem_map.mp (pm.mem_iff.mp hb)
      show prF (prG (prF z)) = prF z
      rw [prGF]
    exact ((List.map_congr_left h).trans (List.map_id' _)).symm
section
variable {P : Program} {w : World} {K : PySem.W.Frag} {mg : Str → Option Value} {base : Heap} {a : Ad} {d : Fd}
theorem ok_law_more (T : TX K mg a) (D : FDS K a d) : FnOk P w K mg base CX0 3 a.a_law_more d.a_law_more ["bag", "values"] spMore := by
  have G__law_draw : FnOk P w K mg base CX0 1 a.a_law_draw d.a_law_draw ["bag", "size"] spDraw := ok_law_draw T D
  have G__law_integer : FnOk P w K mg base CX0 2 a.a_law_integer d.a_law_integer ["bag"] spInt := ok_law_integer T D
  refine D.F__law_more.ok sc_law_more (fun vs H Q E h => ?_) (fun cdv A outer s H vs Q E hr h => ?_)
  · obtain ⟨b, v, n, tm, o, pa, q, ys, rfl, _⟩ := h
    rfl
  · obtain ⟨b, v, n, tm, o, pa, q, ys, rfl, X, VV, ok, l1, l2, far, fin⟩ := h
    refine ⟨_, (pss_cons (ps_if (pt_cmpR op_ne (pe_call G__law_draw (hr.mono (by decide)) rfl T.f__law_draw T.k__law_draw D.B__law_draw .nil pass0 (pa_cons (pv 0) (pa_cons pe_int pa_nil))) pe_int (nomark _)) (pss_one (ps_ret (pv 1))) pss_nil)
        (pss_cons (ps_set (i := 2) sc_law_more.nd rfl (Or.inl rfl) (pe_callTy call_tuple_of (by rfl) T.b_tuple (by decide +kernel) (pa_cons (pe_callB cr_sortedS (by rfl) T.b_sorted (by decide +kernel) (pa_cons (pe_op op_cat (pe_callTy call_list_of (by rfl) T.b_list (by decide +kernel) (pa_cons (pe_ix ix_tup (pv 1) pe_int (fun _ _ => rfl)) pa_nil)) (pe_lst (pa_cons pe_str pa_nil))) pa_nil)) pa_nil)))
        (pss_one (ps_ret (pe_tup (pa_cons (pv 2) (pa_cons (pe_callTy (cr_tupF (K := K)) (by rfl) T.b_tuple (by decide +kernel) (pa_cons (pe_callB (SE.cr_sortedDE hr.units) (by rfl) T.b_sorted (by decide +kernel) (pa_cons (pe_op op_cat (pe_callTy call_list_of (by rfl) T.b_list (by decide +kernel) (pa_cons (pe_ix ix_tup (pv 1) pe_int (fun _ _ => rfl)) pa_nil)) (pe_lst (pa_cons (pe_tup (pa_cons pe_str (pa_cons (pe_call G__law_integer (hr.mono (by decide)) rfl T.f__law_integer T.k__law_integer D.B__law_integer .nil pass0 (pa_cons (pv 0) pa_nil)) pa_nil))) pa_nil))) pa_nil)) pa_nil)) pa_nil))))))), ?_⟩
    have big : 1000 ≤ sizeLine := by decide
    refine ⟨_, rfl, b, 3, rfl, X, by decide, by decide, fun d1 H1 k1 X1 _ _ => ⟨rfl, _, rfl, ite2 (fun g => ?_) (fun g => ?_)⟩⟩
    · exact ⟨_, rfl, fin v n tm o pa q H1 k1 X1 (VV.kp X k1) ok⟩
    · have VV1 := VV.kp X k1
      unfold tNext
      dsimp only
      refine ⟨_, rfl, v, _, 0, .ref n, rfl, rfl, SqT.of VV1.hv, rfl, n, _, rfl, .inr (SqT.of VV1.hn), fun m1 hm1 => ⟨(by show 1 ≤ sizeLine; decide), fun m2 hm2 => ?_⟩⟩
      have x1 := Ex.new (o := .lst (q.1.map V.str)) hm1
      have y1 : upd H1 m1 (.lst (q.1.map V.str)) m1 = some (.lst (q.1.map V.str)) := upd_same
      generalize upd H1 m1 (.lst (q.1.map V.str)) = H2 at *
      have x2 := Ex.new (o := .lst [V.str "ppp0ppp0"]) hm2
      have y2 : upd H2 m2 (.lst [V.str "ppp0ppp0"]) m2 = some (.lst [V.str "ppp0ppp0"]) := upd_same
      refine ⟨m1, m2, _, _, rfl, rfl, x2 _ _ y1, y2, by rw [List.length_map]; show q.1.length + 1 ≤ _; omega, fun m3 hm3 => ?_⟩
      generalize upd H2 m2 (.lst [V.str "ppp0ppp0"]) = H3 at *
      have x3 := Ex.new (o := .lst (q.1.map V.str ++ [V.str "ppp0ppp0"])) hm3
      have y3 : upd H3 m3 (.lst (q.1.map V.str ++ [V.str "ppp0ppp0"])) m3 = some (.lst ((q.1 ++ [("ppp0ppp0" : Str)]).map V.str)) := by rw [upd_same, List.map_append]; rfl
      generalize upd H3 m3 (.lst (q.1.map V.str ++ [V.str "ppp0ppp0"])) = H4 at *
      have ln : (q.1 ++ [("ppp0ppp0" : Str)]).length ≤ 4 := by rw [List.length_append]; show q.1.length + 1 ≤ 4; omega
      have nn : ∀ z ∈ q.1 ++ [("ppp0ppp0" : Str)], isNameS z = true := fun z hz => by
        rcases List.mem_append.mp hz with hz | hz
        · exact ok.n z hz
        · rw [List.mem_singleton.mp hz]; decide +kernel
      generalize q.1 ++ [("ppp0ppp0" : Str)] = ns at *
      refine ⟨m3, ns, rfl, SqL.of y3, by omega, fun ss p1 pm1 _ hp1 => ⟨p1, _, rfl, .inl ⟨SqL.of upd_same, fun n2 hn2 => ?_⟩⟩⟩
      have x5 := (Ex.new (o := .lst (ss.map V.str)) hp1).trans (Ex.new (o := .tup (ss.map V.str)) hn2)
      have y5 : upd (upd H4 p1 (.lst (ss.map V.str))) n2 (.tup (ss.map V.str)) n2 = some (.tup (ss.map V.str)) := upd_same
      generalize upd (upd H4 p1 (.lst (ss.map V.str))) n2 (.tup (ss.map V.str)) = H5 at *
      have x15 := x1.trans (x2.trans (x3.trans x5))
      have VV5 := VV1.ex x15
      have X5 := X1.ex x15
      have k5 := k1.trans (Kp.ex x15)
      refine nm_go ?_
      dsimp only
      have htm : SqT K H5 tm (pa.map V.ref) := .inl (.inr ⟨o, VV5.ht⟩)
      refine ⟨_, rfl, _, rfl, v, _, 1, .ref tm, rfl, rfl, SqT.of VV5.hv, rfl, tm, _, rfl, .inr htm, fun m6 hm6 => ?_⟩
      have x6 := Ex.new (o := .lst (pa.map V.ref)) hm6
      have y6 : upd H5 m6 (.lst (pa.map V.ref)) m6 = some (.lst (pa.map V.ref)) := upd_same
      have n6 : m6 ≠ b := X5.ne hm6
      generalize upd H5 m6 (.lst (pa.map V.ref)) = H6 at *
      refine ⟨_, rfl, b, rfl, X5.ex x6, fun kk H7 k7 X7 lo hi => ⟨(by show 2 ≤ sizeLine; decide), fun t ht => ⟨(by show 1 ≤ sizeLine; decide), fun m8 hm8 => ?_⟩⟩⟩
      have x7 := Ex.new (o := .tup [V.str "zzz0zzz0", V.int kk]) ht
      have y7 : upd H7 t (.tup [V.str "zzz0zzz0", V.int kk]) t = some (.tup [V.str "zzz0zzz0", V.int kk]) := upd_same
      generalize upd H7 t (.tup [V.str "zzz0zzz0", V.int kk]) = H8 at *
      have x8 := Ex.new (o := .lst [V.ref t]) hm8
      have y8 : upd H8 m8 (.lst [V.ref t]) m8 = some (.lst [V.ref t]) := upd_same
      generalize upd H8 m8 (.lst [V.ref t]) = H9 at *
      have lpa := VV5.len
      refine ⟨m6, m8, _, _, rfl, rfl, x8 _ _ (x7 _ _ (k7.k _ _ n6 y6)), y8, by rw [List.length_map]; show pa.length + 1 ≤ _; omega, fun m9 hm9 => ?_⟩
      have VV9 : Val H9 v n tm o pa q.1 q.2 := (((VV5.ex x6).kp (X5.ex x6) k7).ex x7).ex x8
      have k9 : Kp b H H9 := (k5.trans (Kp.ex x6)).trans (k7.trans (Kp.ex (x7.trans x8)))
      have X9 : Bx b H9 := (X7.ex x7).ex x8
      have y79 := x8 _ _ y7
      have y59 : H9 n2 = some (.tup (ss.map V.str)) := x8 _ _ (x7 _ _ (k7.tup (X5.ex x6) (x6 _ _ y5)))
      -- the pairs
      have hz : ∀ z ∈ pa.zip q.2 ++ [(t, ("zzz0zzz0" : Str), kk)], H9 z.1 = some (.tup [.str z.2.1, .int z.2.2]) := fun z hz => by
        rcases List.mem_append.mp hz with hz | hz
        · obtain ⟨i, hi, rfl⟩ := List.getElem_of_mem hz
          rw [List.length_zip] at hi
          have hq : q.2[i]? = some q.2[i] := List.getElem?_eq_getElem (by omega)
          obtain ⟨t', h1, h2⟩ := VV9.at_ i _ hq
          rw [List.getElem?_eq_getElem (by omega)] at h1
          rw [List.getElem_zip]
          show H9 pa[i] = _
          rw [Option.some.inj h1]
          exact h2
        · rw [List.mem_singleton.mp hz]
          exact y79
      have e1 : pa.map V.ref ++ [V.ref t] = ((pa.zip q.2 ++ [(t, ("zzz0zzz0" : Str), kk)]).map prF).map Prod.fst := by
        rw [List.map_map, List.map_append]
        congr 1
        have : (pa.zip q.2).map (Prod.fst ∘ prF) = ((pa.zip q.2).map Prod.fst).map V.ref := by rw [List.map_map]; rfl
        rw [this, List.map_fst_zip (by omega)]
      have e2 : (pa.zip q.2 ++ [(t, ("zzz0zzz0" : Str), kk)]).map Prod.snd = q.2 ++ [(("zzz0zzz0" : Str), kk)] := by
        rw [List.map_append, List.map_snd_zip (by omega)]
        rfl
      generalize pa.zip q.2 ++ [(t, ("zzz0zzz0" : Str), kk)] = zs at *
      rw [e1]
      have x9 := Ex.new (o := .lst ((zs.map prF).map Prod.fst)) hm9
      have y9 : upd H9 m9 (.lst ((zs.map prF).map Prod.fst)) m9 = some (.lst ((zs.map prF).map Prod.fst)) := upd_same
      generalize upd H9 m9 (.lst ((zs.map prF).map Prod.fst)) = H10 at *
      refine ⟨m9, zs.map prF, rfl, SqL.of y9, fun c hc => ?_, fun x hx y hy => ?_, fun c hc => ?_, fun p hp => ?_⟩
      · obtain ⟨z, hz', rfl⟩ := List.mem_map.mp hc
        exact ⟨.tup (SqT.of (x9 _ _ (hz z hz'))) (.cons (.str _) (.cons (.int _) .nil)), by simp [prF, PyData.depth, PyData.depthAll]⟩
      · obtain ⟨c, hc, rfl⟩ := List.mem_map.mp hx
        obtain ⟨e, he, rfl⟩ := List.mem_map.mp hy
        obtain ⟨z, _, rfl⟩ := List.mem_map.mp hc
        obtain ⟨z', _, rfl⟩ := List.mem_map.mp he
        simp [prF, PySem.W.alike, PySem.W.alikeAll]
      · obtain ⟨z, _, rfl⟩ := List.mem_map.mp hc
        exact ⟨_, rfl⟩
      obtain ⟨ws, pmw, ew⟩ := pr_sorted zs
      rw [ew]
      have ew2 : (ws.map prF).map Prod.fst = (ws.map Prod.fst).map V.ref := by rw [List.map_map, List.map_map]; rfl
      rw [ew2]
      have x11 := Ex.new (o := .lst ((ws.map Prod.fst).map V.ref)) hp
      refine ⟨p, _, rfl, SqL.of upd_same, fun tm2 o2 _ od hl => ⟨(by show 2 ≤ sizeLine; decide), fun v2 hv2 => ?_⟩⟩
      have x12 := Ex.new (o := .frz o2 (.tup ((ws.map Prod.fst).map V.ref))) hl
      have x13 := Ex.new (o := .tup [V.ref n2, .ref tm2]) hv2
      have xx := x9.trans (x11.trans (x12.trans x13))
      have pm2 : (ws.map Prod.snd).Perm (q.2 ++ [(("zzz0zzz0" : Str), kk)]) := by rw [← e2]; exact pmw.map _
      have lw : ws.length ≤ 4 := by
        have := pm2.length_eq
        rw [List.length_map, List.length_append, List.length_singleton] at this
        omega
      have nd : ((ws.map Prod.snd).map Prod.fst).Nodup := by
        rw [(pm2.map Prod.fst).nodup_iff, List.map_append]
        exact List.nodup_append.mpr ⟨VV.nd, List.pairwise_singleton _ _, fun a ha c hc e => far a ha (e.trans (List.mem_singleton.mp hc))⟩
      refine fin v2 n2 tm2 o2 (ws.map Prod.fst) (ss, ws.map Prod.snd) _ (k9.trans (Kp.ex xx)) (X9.ex xx) ⟨upd_same, xx _ _ y59, x13 _ _ upd_same, od, by rw [List.length_map, List.length_map], fun i r hr => ?_, nd, by show (ws.map Prod.snd).length ≤ 60; rw [List.length_map]; omega⟩ ⟨fun z hz => nn z (pm1.mem_iff.mp hz), fun r hr => ?_, fun z hz => ?_, by show ss.length ≤ 4; rw [pm1.length_eq]; exact ln, by show (ws.map Prod.snd).length ≤ 4; rw [List.length_map]; exact lw⟩
      · rw [List.getElem?_map] at hr
        obtain ⟨z, hz1, rfl⟩ := Option.map_eq_some_iff.mp hr
        exact ⟨z.1, by rw [List.getElem?_map, hz1]; rfl, xx _ _ (hz z (pmw.mem_iff.mp (List.mem_of_getElem? hz1)))⟩
      · rcases List.mem_append.mp (pm2.mem_iff.mp hr) with hr | hr
        · exact ok.p r hr
        · rw [List.mem_singleton.mp hr]
          exact ⟨(by decide +kernel : isNameS "zzz0zzz0" = true), by show kk.natAbs ≤ 2 ^ 211; omega⟩
      · show z ∈ (ws.map Prod.snd).map Prod.fst
        rw [(pm2.map Prod.fst).mem_iff, List.map_append]
        exact List.mem_append_left _ (ok.sub z hz)
end
end M6
set_option maxRecDepth 100000
set_option maxHeartbeats 8000000
/-! _law_literals -/
namespace M6
open PySem L2 Evl GP HR SC SetM SetH RQ SetN
def SmK (i : Nat) : Lit → Prop
  | .yn _ _ => True
  | .most _ _ k => k.natAbs ≤ 2 ^ 211 + i
theorem SmK.mono {i j : Nat} {l : Lit} (h : SmK i l) (le : i ≤ j) : SmK j l := by
  cases l with
  | yn b x => trivial
  | most x y k => have h : k.natAbs ≤ 2 ^ 211 + i := h; show k.natAbs ≤ 2 ^ 211 + j; omega
theorem Lits.kp {b : Addr} {H H' : Hp} {us : List V} {ls : List Lit} (A : Lits H us ls) (X : Bx b H) (k : Kp b H H') : Lits H' us ls := ⟨A.len, fun i q h => by
  obtain ⟨t, h1, h2⟩ := A.at_ i q h
  exact ⟨t, h1, k.tup X h2⟩⟩
structure LtOk (ys : List Str) (i : Nat) (l : Lit) : Prop where
  ok : LitOk l
  sm : SmK i l
  nm : ∀ z ∈ namesOf l, z ∈ ys
def spLits : Sp := fun vs H Q _ => ∃ (b t1 t2 : Addr) (xs ys : List Str) (n : Nat), vs = [.ref b, .ref t1, .ref t2, natV n] ∧ Bx b H ∧ Wld b t1 t2 xs ys H ∧ n ≤ 6 ∧
  ∀ (p : Addr) (us : List V) (ls : List Lit) H', Kp b H H' → Bx b H' → H p = none → H' p = some (.lst us) → Lits H' us ls → ls.length = n → (∀ l ∈ ls, LtOk ys 6 l) → Q (.ref p) H'
theorem seq_cut {t c : TS} {D : Ends} {σ : L2.St} {H : Hp} (Inv : L2.St → Hp → Prop) (h : ∀ N : L2.St → Hp → Prop, (∀ σ' H', Inv σ' H' → N σ' H') → t { nx := N, rt := D.rt, bk := D.bk, ct := D.ct } σ H) (k : ∀ σ' H', Inv σ' H' → c D σ' H') : tSeq t c D σ H := h (c D) k
section
variable {P : Program} {w : World} {K : PySem.W.Frag} {mg : Str → Option Value} {base : Heap} {a : Ad} {d : Fd}
theorem ok_law_literals (T : TX K mg a) (D : FDS K a d) : FnOk P w K mg base CX0 4 a.a_law_literals d.a_law_literals ["bag", "truths", "moments", "most"] spLits := by
  have G__law_draw : FnOk P w K mg base CX0 1 a.a_law_draw d.a_law_draw ["bag", "size"] spDraw := ok_law_draw T D
  have G__law_literal : FnOk P w K mg base CX0 3 a.a_law_literal d.a_law_literal ["bag", "truths", "moments"] spLiteral := ok_law_literal T D
  refine D.F__law_literals.ok sc_law_literals (fun vs H Q E h => ?_) (fun cdv A outer s H vs Q E hr h => ?_)
  · obtain ⟨b, t1, t2, xs, ys, n, rfl, _⟩ := h
    rfl
  · obtain ⟨b, t1, t2, xs, ys, n, rfl, X, W, n6, fin⟩ := h
    refine ⟨_, (pss_cons (ps_set (i := 4) sc_law_literals.nd rfl (Or.inl rfl) (pe_lst pa_nil))
        (pss_cons (ps_for PassesOwn.never rfl (pi_range1 rfl T.b_range (pa_cons (pv 3) pa_nil)) (pg_name (i := 5) sc_law_literals.nd rfl (Or.inl rfl)) (pss_cons (ps_set (i := 6) sc_law_literals.nd rfl (Or.inl rfl) (pe_call G__law_literal (hr.mono (by decide)) rfl T.f__law_literal T.k__law_literal D.B__law_literal .nil pass0 (pa_cons (pv 0) (pa_cons (pv 1) (pa_cons (pv 2) pa_nil)))))
        (pss_cons (ps_set (i := 7) sc_law_literals.nd rfl (Or.inl rfl) (pe_call G__law_draw (hr.mono (by decide)) rfl T.f__law_draw T.k__law_draw D.B__law_draw .nil pass0 (pa_cons (pv 0) (pa_cons pe_int pa_nil))))
        (pss_cons (ps_if (PW.pt (pw_and (pt_cmpR op_gt (pe_callB call_len_seq (by rfl) T.b_len (by decide +kernel) (pa_cons (pv 4) pa_nil)) pe_int (nomark _)) (pw_and1 (pt_cmpR op_gt (pv 7) pe_int (nomark _))))) (pss_cons (ps_set (i := 8) sc_law_literals.nd rfl (Or.inl rfl) (pe_ix (ix_listK (K := K)) (pv 4) (pe_un un_neg pe_int) (fun _ _ => rfl)))
        (pss_cons (ps_set (i := 6) sc_law_literals.nd rfl (Or.inl rfl) (pv 8))
        (pss_one (ps_if (PW.pt (pw_and (pt_cmpR op_eq (pe_ix ix_tup (pv 8) pe_int (fun _ _ => rfl)) pe_str (nomark _)) (pw_and1 (pt_cmpR op_eq (pv 7) pe_int (nomark _))))) (pss_one (ps_set (i := 6) sc_law_literals.nd rfl (Or.inl rfl) (pe_tup (pa_cons pe_str (pa_cons (pe_ix ix_tup (pv 8) pe_int (fun _ _ => rfl)) (pa_cons (pe_ix ix_tup (pv 8) pe_int (fun _ _ => rfl)) (pa_cons (pe_op op_add (pe_ix ix_tup (pv 8) pe_int (fun _ _ => rfl)) pe_int) pa_nil))))))) pss_nil)))) pss_nil)
        (pss_one (ps_expr (pe_bm PySem.F.plainAttrs_list PySem.F.slot_list_append PySem.F.type_list_append mt_append (pv 4) (pa_cons (pv 6) pa_nil))))))))
        (pss_one (ps_ret (pv 4))))), ?_⟩
    have big : 1000 ≤ sizeLine := by decide
    refine ⟨(by show 0 ≤ sizeLine; decide), fun L hL => ?_⟩
    have nLb : L ≠ b := X.ne hL
    have x1 := Ex.new (o := .lst []) hL
    refine nm_go ?_
    dsimp only
    refine ⟨_, rfl, (n : Int), rfl, by omega, by omega, for_it walk_range (fun i σ H' => ∃ (us : List V) (ls : List Lit) (o5 o6 o7 o8 : Option V), σ = [some (.ref b), some (.ref t1), some (.ref t2), some (natV n), some (.ref L), o5, o6, o7, o8] ∧ Kp b H H' ∧ Bx b H' ∧ H' L = some (.lst us) ∧ Lits H' us ls ∧ ls.length = i ∧ ∀ l ∈ ls, LtOk ys i l) ⟨[], [], none, none, none, none, rfl, Kp.ex x1, X.ex x1, upd_same, Lits.nil, rfl, fun l h => absurd h List.not_mem_nil⟩ (fun _ _ _ _ _ => trivial) ?_ ?_⟩
    · rintro i x σ H2 H2' hi ⟨us, ls, o5, o6, o7, o8, rfl, k2, X2, hL2, LS, ll, ok⟩ ⟨rfl, rfl⟩
      have hi : i < n := hi
      refine nm_go ?_
      dsimp only
      refine ⟨_, rfl, _, rfl, _, rfl, b, t1, t2, xs, ys, rfl, X2, W.kp k2, fun t l H3 k3 X3 ht okl sml nml => ?_⟩
      refine nm_go ?_
      dsimp only
      refine ⟨_, rfl, b, 6, rfl, X3, by decide, by decide, fun d4 H4 k4 X4 _ _ => ?_⟩
      refine nm_go ?_
      dsimp only
      have ht4 := k4.tup X3 ht
      have k34 := k3.trans k4
      have L4 := LS.kp X2 k34
      have hL4 := k34.k _ _ nLb hL2
      have k24 := k2.trans k34
      have okN : LtOk ys (i + 1) l := ⟨okl, by cases l with
        | yn b x => trivial
        | most x y k => have h : k.natAbs ≤ 2 ^ 211 := sml; show k.natAbs ≤ 2 ^ 211 + (i + 1); omega, nml⟩
      refine seq_cut (fun σ' H' => ∃ (t : Addr) (l : Lit) (o8 : Option V), σ' = [some (.ref b), some (.ref t1), some (.ref t2), some (natV n), some (.ref L), some (.int (0 + (i : Int))), some (.ref t), some (.int d4), o8] ∧ Kp b H H' ∧ Bx b H' ∧ H' L = some (.lst us) ∧ Lits H' us ls ∧ H' t = some (.tup (litV l)) ∧ LtOk ys (i + 1) l) (fun N hN => ?_) (fun σ' H5 h5 => ?_)
      · have plain := hN _ _ ⟨t, l, o8, rfl, k24, X4, hL4, L4, ht4, okN⟩
        unfold tIfS
        refine and_tt (p := decide ((0 : Int) < (us.length : Int))) (q := decide ((3 : Int) < d4)) (fun Q q => ⟨_, rfl, L, us, rfl, .inl (SqL.of hL4), _, _, rfl, rfl, _, rfl, q⟩) (fun Q q => ⟨_, rfl, _, _, rfl, rfl, _, rfl, q⟩) ?_
        have lu := L4.len
        cases hc : (decide ((0 : Int) < (us.length : Int)) && decide ((3 : Int) < d4)) with
        | false => exact iteF' rfl plain
        | true =>
          have h0 := of_decide_eq_true (Bool.and_eq_true_iff.mp hc).1
          have hlt : us.length - 1 < ls.length := by omega
          obtain ⟨t', h5, h6⟩ := L4.at_ (us.length - 1) ls[us.length - 1] (List.getElem?_eq_getElem hlt)
          have okl' := ok _ (List.getElem_mem hlt)
          generalize ls[us.length - 1] = m at *
          have hat : atI us (-1) = some (.ref t') := by
            have e : ixN us.length (-1) = some (us.length - 1) := by
              unfold ixN
              rw [if_neg (by decide), if_pos (by omega)]
              exact congrArg some (by omega)
            show (ixN us.length (-1)).bind (fun j => us[j]?) = _
            rw [e]
            exact h5
          refine iteT' rfl ?_
          refine ⟨_, rfl, 1, rfl, L, us, -1, _, rfl, rfl, SqL.of hL4, hat, ?_⟩
          refine nm_go ?_
          dsimp only
          refine ⟨_, rfl, ?_⟩
          refine nm_go ?_
          dsimp only
          have okM : LtOk ys (i + 1) m := ⟨okl'.ok, okl'.sm.mono (by omega), okl'.nm⟩
          have plain2 := hN _ _ ⟨t', m, some (.ref t'), rfl, k24, X4, hL4, L4, h6, okM⟩
          refine and_tt (p := match m with | .most _ _ _ => true | _ => false) (q := decide (V.int d4 = V.int 4)) (fun Q q => ?_) (fun Q q => ⟨_, rfl, rfl, _, rfl, q⟩) ?_
          · cases m with
            | yn f z => exact ⟨_, rfl, t', _, 0, .str (ynS f), rfl, rfl, SqT.of h6, rfl, rfl, _, rfl, by cases f <;> exact q⟩
            | most x y k => exact ⟨_, rfl, t', _, 0, .str "most", rfl, rfl, SqT.of h6, rfl, rfl, _, rfl, q⟩
          · cases m with
            | yn f z => exact iteF' rfl plain2
            | most x y k =>
              refine ite2 (fun _ => ?_) (fun _ => plain2)
              refine ⟨_, rfl, t', _, 1, .str x, rfl, rfl, SqT.of h6, rfl, _, rfl, t', _, 2, .str y, rfl, rfl, SqT.of h6, rfl, _, rfl, t', _, 3, .int k, rfl, rfl, SqT.of h6, rfl, _, _, rfl, rfl, (by show 4 ≤ sizeLine; decide), fun t6 ht6 => ?_⟩
              have x6 := Ex.new (o := .tup [V.str "most", .str x, .str y, .int (k + 1)]) ht6
              refine nm_go ?_
              have sm : k.natAbs ≤ 2 ^ 211 + i := okl'.sm
              have sm2 : (k + 1).natAbs ≤ 2 ^ 211 + (i + 1) := by omega
              exact hN _ _ ⟨t6, .most x y (k + 1), some (.ref t'), rfl, k24.trans (Kp.ex x6), X4.ex x6, x6 _ _ hL4, L4.ex x6, upd_same, ⟨⟨okM.ok.1, okM.ok.2.1, okM.ok.2.2.1, by
                have := small_B (k := k + 1) (by have : (2 : Nat) ^ 211 + (i + 1) ≤ 2 ^ 300 := by
                                                    have : i ≤ 6 := by omega
                                                    have : (2 : Nat) ^ 211 + 7 ≤ 2 ^ 300 := by decide
                                                    omega
                                                 omega)
                exact this⟩, sm2, fun z hz => okM.nm z hz⟩⟩
      · obtain ⟨t, l, o8, rfl, k5, X5, hL5, L5, ht5, okl5⟩ := h5
        have := L5.len
        refine ⟨_, rfl, .inl ⟨rfl, _, SqL.of hL5⟩, _, rfl, L, us, .ref t, rfl, rfl, hL5, by omega, us ++ [.ref t], ls ++ [l], _, _, _, _, rfl, k5.mut hL, X5.upd nLb, upd_same, (L5.snoc ht5).put hL5, by rw [List.length_append, ll]; rfl, fun m hm => ?_⟩
        rcases List.mem_append.mp hm with hm | hm
        · exact ⟨(ok m hm).ok, (ok m hm).sm.mono (Nat.le_succ _), (ok m hm).nm⟩
        · rw [List.mem_singleton.mp hm]; exact okl5
    · rintro σ H2 ⟨us, ls, o5, o6, o7, o8, rfl, k2, X2, hL2, LS, ll, ok⟩
      exact ⟨_, rfl, fin L us ls H2 k2 X2 hL hL2 LS ll fun l hl => ⟨(ok l hl).ok, (ok l hl).sm.mono (by have : ((n : Int)).toNat = n := rfl; omega), (ok l hl).nm⟩⟩
end
end M6
set_option maxRecDepth 100000
set_option maxHeartbeats 4000000
/-! repr of whatever is handed in -/
namespace RQ
open PySem PySem.Spec PyProof.Rows L2 SetM GP Evl
mutual
theorem Dq.ex {K : PySem.W.Frag} {H H' : Hp} (e : Ex H H') : ∀ {v : V} {d : PyData}, Dq K H v d → Dq K H' v d
  | _, _, .non => .non
  | _, _, .bl b => .bl b
  | _, _, .int i => .int i
  | _, _, .str x => .str x
  | _, _, .tup h a => .tup (ex_t e h) (DqAll.ex e a)
  | _, _, .dK h a => .dK (e _ _ h) (DqAll.ex e a)
  | _, _, .dT h a => .dT (e _ _ h) (DqAll.ex e a)
theorem DqAll.ex {K : PySem.W.Frag} {H H' : Hp} (e : Ex H H') : ∀ {vs : List V} {ds : List PyData}, DqAll K H vs ds → DqAll K H' vs ds
  | _, _, .nil => .nil
  | _, _, .cons a b => .cons (Dq.ex e a) (DqAll.ex e b)
end
inductive ShV (K : PySem.W.Frag) (H : Hp) : V → Str → Prop
  | non : ShV K H .non "None"
  | bl (b : Bool) : ShV K H (.bl b) (PyData.bool b).shown
  | int (i : Int) (h : i.natAbs.log2 < 1920) : ShV K H (.int i) (Str.ofString (toString i))
  | str (x : Str) (h : (reprText x).length ≤ sizeLine) : ShV K H (.str x) (reprText x)
  | d {p : Addr} {d : PyData} {n c : Nat} : Dp K H (.ref p) d → Rp n c d → n ≤ 60 → c ≤ sizeLine → ShV K H (.ref p) d.shown
  | q {p : Addr} {d : PyData} : Dq K H (.ref p) d → d.showable = true → d.depth ≤ 60 → d.shown.length ≤ sizeLine → ShV K H (.ref p) d.shown
def rReprA (K : PySem.W.Frag) : List V → Hp → VK → Prop := fun xs H Q => ∃ v z, xs = [v] ∧ ShV K H v z ∧ Q (.str z) H
theorem cr_reprA {X : Cx} {K : PySem.W.Frag} (gd : X.A.guards = some []) (hu : X.A.units + 70 < cLine) (hK : X.K = K := by rfl) : CallR X (.builtin "repr") (rReprA K) := by
  subst hK
  intro pins s σ H xs us Q I r h
  obtain ⟨v, z, rfl, sh, q⟩ := h
  cases sh with
  | d hd rp hn hc => exact call_reprR gd hu pins s σ H _ us Q I r ⟨_, _, _, _, rfl, hd, rp, hn, hc, q⟩
  | q hd sh dp ln => exact cr_reprQ gd hu rfl pins s σ H _ us Q I r ⟨_, _, rfl, hd, sh, dp, ln, q⟩
  | non =>
    obtain ⟨u, rfl, ru⟩ := vals1 r
    obtain rfl : u = .none := ru
    exact PySem.P.repr_of_none ⟨.str "None", H, I.tok _, ⟨_, rfl⟩, q⟩
  | bl b =>
    obtain ⟨u, rfl, ru⟩ := vals1 r
    obtain rfl : u = .bool b := ru
    exact PySem.P.repr_of_bool ⟨.str _, H, I.tok _, ⟨_, rfl⟩, by cases b <;> exact q⟩
  | int i h =>
    obtain ⟨u, rfl, t, rfl⟩ := vals1 r
    exact PySem.P.repr_of_int h ⟨.str _, H, I.tok _, ⟨_, rfl⟩, q⟩
  | str x h =>
    obtain ⟨u, rfl, t, rfl⟩ := vals1 r
    exact PySem.P.repr_of_str ⟨.str _, H, I.tok _, ⟨_, rfl⟩, q⟩ (hsz := h)
theorem ShV.ex {K : PySem.W.Frag} {H H' : Hp} (hd : ∀ v d, Dp K H v d → Dp K H' v d) (e : Ex H H') {v : V} {z : Str} (h : ShV K H v z) : ShV K H' v z := by
  cases h with
  | non => exact .non
  | bl b => exact .bl b
  | int i h => exact .int i h
  | str x h => exact .str x h
  | d a b c f => exact .d (hd _ _ a) b c f
  | q a b c f => exact .q (Dq.ex e a) b c f
theorem rp_int_text {k : Int} (h : k.natAbs.log2 < 1920) : Rp 0 20000 (.str (Str.ofString (toString k))) := by
  refine (Rp.str fun c hc => ?_).mono (Nat.le_refl _) (by have := int_text_len_1921 h; omega)
  by_cases g : c ≠ 45 ∧ (c < 48 ∨ 57 < c)
  · exact absurd hc (int_text_free' c g k)
  · have : (57 : Nat) < 16 ^ 8 := by decide
    omega
theorem al_nil {P : PyData → Prop} : ∀ d ∈ ([] : List PyData), P d := fun _ h => absurd h List.not_mem_nil
theorem al_cons {P : PyData → Prop} {d : PyData} {ds : List PyData} (h : P d) (t : ∀ x ∈ ds, P x) : ∀ x ∈ d :: ds, P x := List.forall_mem_cons.mpr ⟨h, t⟩
theorem r1t {ds : List PyData} (few : ds.length ≤ 6) (h : ∀ d ∈ ds, Rp 0 20000 d) : Rp 1 130000 (.tuple ds) := (Rp.tuple h).mono (Nat.le_refl _) (by omega)
theorem r1l {ds : List PyData} (few : ds.length ≤ 6) (h : ∀ d ∈ ds, Rp 0 20000 d) : Rp 1 130000 (.list ds) := (Rp.list h).mono (Nat.le_refl _) (by omega)
theorem up {d : PyData} (h : Rp 0 20000 d) : Rp 1 130000 d := h.mono (by decide) (by decide)
theorem r2t {ds : List PyData} (few : ds.length ≤ 6) (h : ∀ d ∈ ds, Rp 1 130000 d) : Rp 2 800000 (.tuple ds) := (Rp.tuple h).mono (Nat.le_refl _) (by omega)
theorem a_non : Rp 0 20000 .none := Rp.none.mono (Nat.le_refl _) (by decide)
theorem a_bl (b : Bool) : Rp 0 20000 (.bool b) := ⟨by simp [PyData.showable], by simp [PyData.hasDict], by simp [PyData.depth], by simp only [PyData.shown]; cases b <;> decide +kernel⟩
theorem a_int {k : Int} (h : k.natAbs.log2 < 1920) : Rp 0 20000 (.int k) := (Rp.int h).mono (Nat.le_refl _) (by decide)
theorem a_str {x : Str} (h : ∀ c ∈ x.cps.toList, c < 16 ^ 8) (l : x.length ≤ 1000) : Rp 0 20000 (.str x) := (Rp.str h).mono (Nat.le_refl _) (by omega)
end RQ
set_option maxRecDepth 100000
set_option maxHeartbeats 8000000
/-! _law_odd -/
namespace M6
open PySem L2 Evl GP HR SC SetM SetH RQ SetN RQ
/-- the heap without what stands at r -/
def rmH (H : Hp) (r : Addr) : Hp := fun a => if a = r then none else H a
/-- the heap without what stands at b and at bt -/
def rmB (H : Hp) (b bt : Addr) : Hp := rmH (rmH H b) bt
theorem rm_one {b : Addr} {H : Hp} : Ex (rmH H b) H := fun a x h => by
  unfold rmH at h
  by_cases g : a = b
  · rw [if_pos g] at h; cases h
  · rw [if_neg g] at h
    exact h
theorem rm_ne {b a : Addr} {H : Hp} {o : HO} (h : rmH H b a = some o) : a ≠ b := fun g => by
  unfold rmH at h
  rw [if_pos g] at h
  cases h
theorem rm_on {b p : Addr} {H : Hp} {o : HO} (ne : p ≠ b) (h : H p = some o) : rmH H b p = some o := by
  unfold rmH
  rw [if_neg ne]
  exact h
theorem rm_kp {b bt : Addr} {H H' : Hp} (k : Kp b H H') : Ex (rmB H b bt) (rmB H' b bt) := fun a x h => by
  have n1 := rm_ne h
  have h1 := rm_one _ _ h
  have n2 := rm_ne h1
  exact rm_on n1 (rm_on n2 (k.k a x n2 (rm_one _ _ h1)))
theorem rm_sub {b bt : Addr} {H : Hp} : Ex (rmB H b bt) H := fun a x h => rm_one _ _ (rm_one _ _ h)
theorem rm_at {b bt p : Addr} {H : Hp} {o : HO} (ne : p ≠ b ∧ p ≠ bt) (h : H p = some o) : rmB H b bt p = some o := rm_on ne.2 (rm_on ne.1 h)
/-- what of H is newer than H0 -/
def nwH (H0 H : Hp) : Hp := fun a => match H0 a with | some _ => none | none => H a
theorem nw_ex {H0 H H' : Hp} (e : Ex H H') : Ex (nwH H0 H) (nwH H0 H') := fun a o h => by
  unfold nwH at h ⊢
  cases g : H0 a with
  | some _ => rw [g] at h; cases h
  | none => rw [g] at h; exact e _ _ h
theorem nw_new {H0 H : Hp} {t : Addr} {o : HO} (e : Ex H0 H) (h : H t = none) : nwH H0 (upd H t o) t = some o := by
  unfold nwH
  cases g : H0 t with
  | some _ => rw [e _ _ g] at h; cases h
  | none => exact upd_same
theorem nw_rm {H0 H : Hp} {b bt : Addr} (hb : H0 b ≠ none) (hbt : H0 bt ≠ none) : Ex (nwH H0 H) (rmB H b bt) := fun a o h => by
  unfold nwH at h
  cases g : H0 a with
  | some _ => rw [g] at h; cases h
  | none =>
    rw [g] at h
    exact rm_at ⟨fun e => hb (e ▸ g), fun e => hbt (e ▸ g)⟩ h
section
variable {K : PySem.W.Frag} {σ : L2.St} {H0 : Hp}
/-- a term that gives new data -/
def ED (K : PySem.W.Frag) (te : TE) (σ : L2.St) (H0 : Hp) (d : PyData) : Prop := ∀ H, Ex H0 H → ∀ Q : VK, (∀ v H', Ex H H' → Dp K (nwH H0 H') v d → Q v H') → te σ H Q
def EDL (K : PySem.W.Frag) (ts : TA) (σ : L2.St) (H0 : Hp) (ds : List PyData) : Prop := ∀ H, Ex H0 H → ∀ Q : List V → Hp → Prop, (∀ vs H', Ex H H' → DpAll K (nwH H0 H') vs ds → Q vs H') → ts σ H Q
theorem edl_nil : EDL K tNil σ H0 [] := fun H _ Q k => k [] H (Ex.refl _) .nil
theorem edl_cons {te : TE} {ts : TA} {d : PyData} {ds : List PyData} (h : ED K te σ H0 d) (t : EDL K ts σ H0 ds) : EDL K (tCons te ts) σ H0 (d :: ds) := fun H e Q k =>
  h H e _ fun v H1 e1 D => t H1 (e.trans e1) _ fun vs H2 e2 DD => k _ H2 (e1.trans e2) (.cons (Dp.ex (nw_ex e2) D) DD)
theorem ed_tup {ts : TA} {ds : List PyData} (t : EDL K ts σ H0 ds) (few : ds.length ≤ 100) : ED K (tTup ts) σ H0 (.tuple ds) := fun H e Q k =>
  t H e _ fun vs H1 e1 D => ⟨by rw [DpAll.len D]; exact Nat.le_trans few (by decide), fun p hp => k _ _ (e1.trans (Ex.new hp)) (.tup (SqT.of (nw_new (e.trans e1) hp)) (DpAll.ex (nw_ex (Ex.new hp)) D))⟩
theorem ed_lst {ts : TA} {ds : List PyData} (t : EDL K ts σ H0 ds) (few : ds.length ≤ 100) : ED K (tLst ts) σ H0 (.list ds) := fun H e Q k =>
  t H e _ fun vs H1 e1 D => ⟨by rw [DpAll.len D]; exact Nat.le_trans few (by decide), fun p hp => k _ _ (e1.trans (Ex.new hp)) (.lst (SqL.of (nw_new (e.trans e1) hp)) (DpAll.ex (nw_ex (Ex.new hp)) D))⟩
theorem ed_str {z : Str} : ED K (tC (.str z)) σ H0 (.str z) := fun H _ Q k => k _ H (Ex.refl _) (.str z)
theorem ed_int {i : Int} : ED K (tC (.int i)) σ H0 (.int i) := fun H _ Q k => k _ H (Ex.refl _) (.int i)
theorem ed_bl {b : Bool} : ED K (tC (.bl b)) σ H0 (.bool b) := fun H _ Q k => k _ H (Ex.refl _) (.bl b)
theorem ed_non : ED K (tC .non) σ H0 .none := fun H _ Q k => k _ H (Ex.refl _) .non
theorem ed_add {i : Nat} {z w : Str} (h : σ[i]? = some (some (.str z))) (le : z.length + w.length ≤ sizeLine) : ED K (tOp (fun x y H Q => ∃ i j, x = V.str i ∧ y = V.str j ∧ i.length + j.length ≤ sizeLine ∧ Q (V.str (i ++ j)) H) (tVar i) (tC (.str w))) σ H0 (.str (z ++ w)) := fun H _ Q k => ⟨_, h, z, w, rfl, rfl, le, k _ H (Ex.refl _) (.str _)⟩
theorem cutS_le (z : Str) (lo hi : Option Int) : (cutS z lo hi).length ≤ z.length := by
  have h : (cutS z lo hi).length = ((z.cps.toList.drop (HT.sIx z.length 0 lo)).take (HT.sIx z.length z.length hi - HT.sIx z.length 0 lo)).length := by
    rw [← str_len]
    rfl
  rw [h, List.length_take, List.length_drop, str_len]
  omega
theorem ed_cut {i : Nat} {z : Str} (h : σ[i]? = some (some (.str z))) (le : z.length ≤ 8) : ED K (tOp (fun x y H Q => ∃ i j, x = V.str i ∧ y = V.str j ∧ i.length + j.length ≤ sizeLine ∧ Q (V.str (i ++ j)) H) (tC (.str "P")) (tSl rSlS (tVar i) tNoPart (tPart (tC (.int 7))))) σ H0 (.str ("P" ++ cutS z none (some 7))) := fun H _ Q k => by
  have b8 : 100 ≤ sizeLine := by decide
  have := cutS_le z none (some 7)
  exact ⟨_, h, 7, rfl, z, rfl, by omega, "P", _, rfl, rfl, by show 1 + _ ≤ _; omega, k _ H (Ex.refl _) (.str _)⟩
theorem ed_v {i : Nat} {z : Str} (h : σ[i]? = some (some (.str z))) : ED K (tVar i) σ H0 (.str z) := fun H _ Q k => ⟨_, h, k _ H (Ex.refl _) (.str z)⟩
end
theorem seq_step {te : TE} {g : TG} {rest : TS} {D : Ends} {σ : L2.St} {H : Hp} (h : te σ H fun x H1 => g x σ H1 (rest D)) : tSeq (tAsg te g) rest D σ H := h
def oddD (x y p : Str) : List PyData := [.none, .int 5, .str "yes", .tuple [.str "yes"], .tuple [.str "maybe", .str p], .list [.str "yes", .str p], .tuple [.str "yes", .str p, .int 1], .tuple [.str "no", .str ""],
  .tuple [.str "most", .str x, .str x, .int 3], .tuple [.str "most", .str x, .str y, .bool true], .tuple [.str "most", .str x, .str y], .tuple [.str "most", .str x, .str y, .str "0"], .tuple [.str "yes", .str ("P" ++ cutS p none (some 7))], .tuple [.str "no", .str "0"],
  .tuple [.str "yes", .str (p ++ "aaaaaaaa")], .tuple [.str "most", .str x, .str (y ++ " "), .int 2], .tuple [], .bool true]
/-- an item that may be shown -/
structure ItOk (d : PyData) : Prop where
  sz : szD d
  rp : Rp 2 200000 d
theorem it_str {z : Str} (h : ∀ c ∈ z.cps.toList, c < 16 ^ 8) (l : z.length ≤ 1000) : ItOk (.str z) := ⟨trivial, (a_str h l).mono (by decide) (by decide)⟩
theorem it_tup {ds : List PyData} (few : ds.length ≤ 6) (h : ∀ d ∈ ds, Rp 0 20000 d) (hs : ∀ d ∈ ds, szS d) : ItOk (.tuple ds) := ⟨hs, (r1t few h).mono (by decide) (by decide)⟩
theorem cutS_mem {z : Str} {lo hi : Option Int} {c : Nat} (h : c ∈ (cutS z lo hi).cps.toList) : c ∈ z.cps.toList := by
  have h : c ∈ (z.cps.toList.drop (HT.sIx z.length 0 lo)).take (HT.sIx z.length z.length hi - HT.sIx z.length 0 lo) := h
  exact List.mem_of_mem_drop (List.mem_of_mem_take h)
theorem odd_not {x y p : Str} (np : isNameS p = true) : ∀ d ∈ oddD x y p, isLitD d = false := by
  have lp := (nameS_iff p).mp np
  have long : isNameS (p ++ "aaaaaaaa") = false := by
    cases g : isNameS (p ++ "aaaaaaaa") with
    | false => rfl
    | true =>
      have := ((nameS_iff _).mp g).1.2
      rw [app_len] at this
      have h8 : ("aaaaaaaa" : Str).length = 8 := by decide +kernel
      omega
  have up : isNameS ("P" ++ cutS p none (some 7)) = false := by
    cases g : isNameS ("P" ++ cutS p none (some 7)) with
    | false => rfl
    | true =>
      have := ((nameS_iff _).mp g).2.1
      rw [str_app] at this
      exact absurd this (by
        show ¬ (80 ∈ letters.cps.toList)
        decide +kernel)
  have sp : isNameS (y ++ " ") = false := by
    cases g : isNameS (y ++ " ") with
    | false => rfl
    | true =>
      have := ((nameS_iff _).mp g).2.2 32 (by rw [str_app]; exact List.mem_append_right _ (by decide +kernel))
      exact absurd this (by decide +kernel)
  unfold oddD
  simp only [List.forall_mem_cons]
  refine ⟨rfl, rfl, rfl, rfl, ?_, rfl, rfl, ?_, ?_, ?_, rfl, ?_, ?_, ?_, ?_, ?_, rfl, rfl, fun d h => absurd h List.not_mem_nil⟩
  · rw [isLit_cons]; show (isYN (.str "maybe") && _) = false; rw [show isYN (.str "maybe") = false by decide +kernel]; rfl
  · rw [isLit_cons]; show (_ && isNameS "") = false; rw [show isNameS "" = false by decide +kernel, Bool.and_false]
  · rw [isLit_cons]; show (_ && (_ && (_ && (!decide (x = x) && _)))) = false; rw [decide_eq_true rfl]; simp
  · rw [isLit_cons]; show (_ && (_ && (_ && (_ && false)))) = false; simp
  · rw [isLit_cons]; show (_ && (_ && (_ && (_ && false)))) = false; simp
  · rw [isLit_cons]; show (_ && isNameS _) = false; rw [up, Bool.and_false]
  · rw [isLit_cons]; show (_ && isNameS "0") = false; rw [show isNameS "0" = false by decide +kernel, Bool.and_false]
  · rw [isLit_cons]; show (_ && isNameS _) = false; rw [long, Bool.and_false]
  · rw [isLit_cons]; show (_ && (_ && (isNameS _ && _))) = false; rw [sp]; simp
theorem odd_ok {x y p : Str} (nx : isNameS x = true) (ny : isNameS y = true) (np : isNameS p = true) : ∀ d ∈ oddD x y p, ItOk d := by
  have ax := a_str (name_low nx) (by have := name_len nx; omega)
  have ay := a_str (name_low ny) (by have := name_len ny; omega)
  have ap := a_str (name_low np) (by have := name_len np; omega)
  have lx := name_len nx
  have ly := name_len ny
  have lp := name_len np
  have big : 1000 ≤ sizeLine := by decide
  have cst : ∀ z : Str, z ∈ (["yes", "no", "most", "maybe", "", "0", "P", " ", "aaaaaaaa"] : List Str) → (∀ c ∈ z.cps.toList, c < 16 ^ 8) ∧ z.length ≤ 8 := by decide +kernel
  have ac : ∀ z : Str, z ∈ (["yes", "no", "most", "maybe", "", "0", "P", " ", "aaaaaaaa"] : List Str) → Rp 0 20000 (.str z) := fun z h => a_str (cst z h).1 (by have := (cst z h).2; omega)
  have sc : ∀ z : Str, z ∈ (["yes", "no", "most", "maybe", "", "0", "P", " ", "aaaaaaaa"] : List Str) → szS (.str z) := fun z h => Nat.le_trans (cst z h).2 (by decide)
  have app : ∀ u v : Str, (∀ c ∈ u.cps.toList, c < 16 ^ 8) → (∀ c ∈ v.cps.toList, c < 16 ^ 8) → u.length ≤ 8 → v.length ≤ 8 → Rp 0 20000 (.str (u ++ v)) ∧ szS (.str (u ++ v)) := fun u v h1 h2 l1 l2 => by
    have l : (u ++ v).length ≤ 16 := by rw [app_len]; omega
    exact ⟨a_str (fun c hc => by rw [str_app] at hc; exact (List.mem_append.mp hc).elim (h1 c) (h2 c)) (by omega), show (u ++ v).length ≤ sizeLine by omega⟩
  have a1 := app "P" (cutS p none (some 7)) (cst _ (by simp)).1 (fun c hc => name_low np c (cutS_mem hc)) (cst _ (by simp)).2 (Nat.le_trans (cutS_le ..) lp)
  have a2 := app p "aaaaaaaa" (name_low np) (cst _ (by simp)).1 lp (cst _ (by simp)).2
  have a3 := app y " " (name_low ny) (cst _ (by simp)).1 ly (cst _ (by simp)).2
  have sx : szS (.str x) := show x.length ≤ sizeLine by omega
  have sy : szS (.str y) := show y.length ≤ sizeLine by omega
  have sp : szS (.str p) := show p.length ≤ sizeLine by omega
  have ai : ∀ i : Int, i.natAbs ≤ 9 → Rp 0 20000 (.int i) := fun i h => a_int (by
    have : i.natAbs < 2 ^ 1900 := Nat.lt_of_le_of_lt h (by decide)
    rcases Nat.eq_zero_or_pos i.natAbs with e | p
    · rw [e]; decide
    · exact Nat.lt_of_lt_of_le ((Nat.log2_lt (by omega)).mpr this) (by decide))
  unfold oddD
  simp only [List.forall_mem_cons]
  refine ⟨⟨trivial, a_non.mono (by decide) (by decide)⟩, ⟨trivial, (ai 5 (by decide)).mono (by decide) (by decide)⟩, it_str (cst _ (by simp)).1 (by decide +kernel), ?_, ?_, ⟨?_, (r1l (by simp) ?_).mono (by decide) (by decide)⟩, ?_, ?_, ?_, ?_, ?_, ?_, ?_, ?_, ?_, ?_, ?_, ⟨trivial, (a_bl true).mono (by decide) (by decide)⟩, fun d h => absurd h List.not_mem_nil⟩
  all_goals (first | (refine it_tup (by simp) ?_ ?_) | skip)
  all_goals (repeat' (first | exact al_nil | refine al_cons ?_ ?_))
  all_goals (first | exact ax | exact ay | exact ap | exact a1.1 | exact a2.1 | exact a3.1 | exact ac _ (by simp) | exact ai _ (by decide) | exact a_bl _ | exact sx | exact sy | exact sp | exact a1.2 | exact a2.2 | exact a3.2 | exact sc _ (by simp) | trivial)
theorem nw_rmM {H0 H : Hp} {b M : Addr} (hb : H0 b ≠ none) (hM : H M = none) : Ex (nwH H0 H) (rmB H b M) := fun a o h => by
  unfold nwH at h
  cases g : H0 a with
  | some _ => rw [g] at h; cases h
  | none =>
    rw [g] at h
    have h : H a = some o := h
    exact rm_at ⟨fun e => hb (e ▸ g), fun e => by rw [e, hM] at h; cases h⟩ h
theorem rm_upd {H : Hp} {b M : Addr} {o : HO} : Ex (rmB H b M) (rmB (upd H M o) b M) := fun a x h => by
  have n1 := rm_ne h
  have h1 := rm_one _ _ h
  have n2 := rm_ne h1
  exact rm_at ⟨n2, n1⟩ (by rw [upd_ne n1]; exact rm_one _ _ h1)
theorem dp_lst_out {K : PySem.W.Frag} {H : Hp} {v : V} {ds : List PyData} (h : Dp K H v (.list ds)) : ∃ l vs, v = .ref l ∧ SqL K H l vs ∧ DpAll K H vs ds := by
  cases h with
  | lst a b => exact ⟨_, _, rfl, a, b⟩
theorem dpa_app {K : PySem.W.Frag} {H : Hp} {us : List V} {es : List PyData} (B : DpAll K H us es) : ∀ {vs : List V} {ds : List PyData}, DpAll K H vs ds → DpAll K H (vs ++ us) (ds ++ es)
  | _, _, .nil => B
  | _, _, .cons a t => .cons a (dpa_app B t)
theorem dpa_take {K : PySem.W.Frag} {H : Hp} : ∀ (n : Nat) {vs : List V} {ds : List PyData}, DpAll K H vs ds → DpAll K H (vs.take n) (ds.take n)
  | 0, _, _, _ => .nil
  | _ + 1, _, _, .nil => .nil
  | n + 1, _, _, .cons a t => .cons a (dpa_take n t)
theorem dpa_drop {K : PySem.W.Frag} {H : Hp} : ∀ (n : Nat) {vs : List V} {ds : List PyData}, DpAll K H vs ds → DpAll K H (vs.drop n) (ds.drop n)
  | 0, _, _, a => a
  | _ + 1, _, _, .nil => .nil
  | n + 1, _, _, .cons _ t => dpa_drop n t
theorem rm_lits {H : Hp} {b M : Addr} {us : List V} {ls : List Lit} (X : Bx b H) (hM : H M = none) (A : Lits H us ls) : Lits (rmB H b M) us ls := ⟨A.len, fun i l h => by
  obtain ⟨t, h1, h2⟩ := A.at_ i l h
  refine ⟨t, h1, rm_at ⟨fun e => ?_, fun e => ?_⟩ h2⟩
  · obtain ⟨r, m, q, hb, _⟩ := X
    rw [e, hb] at h2
    cases h2
  · rw [e, hM] at h2
    cases h2⟩
theorem sz_name {x : Str} (h : isNameS x = true) : szS (.str x) := by
  have := name_len h
  have b8 : 100 ≤ sizeLine := by decide
  show x.length ≤ sizeLine
  omega
theorem it_lit {l : Lit} (h : LitOk l) : ItOk (litD l) := by
  cases l with
  | yn f x =>
    have nx : isNameS x = true := h
    exact it_tup (ds := [.str (ynS f), .str x]) (by simp) (al_cons (a_str (by cases f <;> decide +kernel) (by cases f <;> decide +kernel)) (al_cons (a_str (name_low nx) (by have := name_len nx; omega)) al_nil)) (al_cons (by cases f <;> (show _ ≤ sizeLine; decide +kernel)) (al_cons (sz_name nx) al_nil))
  | most x y k =>
    obtain ⟨nx, ny, _, sm⟩ := h
    have b8 : 100 ≤ sizeLine := by decide
    exact it_tup (ds := [.str "most", .str x, .str y, .int k]) (by simp) (al_cons (a_str (by decide +kernel) (by decide +kernel)) (al_cons (a_str (name_low nx) (by have := name_len nx; omega)) (al_cons (a_str (name_low ny) (by have := name_len ny; omega)) (al_cons (a_int (Nat.lt_trans (PySem.Flt.log2_lt_of (by decide) (Nat.lt_of_le_of_lt sm (by unfold B0; decide +kernel))) (by decide : 1001 < 1920))) al_nil))))
      (al_cons (show _ ≤ sizeLine by decide +kernel) (al_cons (sz_name nx) (al_cons (sz_name ny) (al_cons trivial al_nil))))
/-- an item of mixed ones: shown, and a literal in a plain tuple or none -/
def Mx (K : PySem.W.Frag) (H : Hp) (v : V) (d : PyData) : Prop := Dp K H v d ∧ ItOk d ∧ (isLitD d = false ∨ ∃ l t, d = litD l ∧ v = .ref t ∧ H t = some (.tup (litV l)) ∧ LitOk l)
theorem Mx.ex {K : PySem.W.Frag} {H H' : Hp} (e : Ex H H') {v : V} {d : PyData} (h : Mx K H v d) : Mx K H' v d := ⟨Dp.ex e h.1, h.2.1, h.2.2.imp id fun ⟨l, t, h1, h2, h3, h4⟩ => ⟨l, t, h1, h2, e _ _ h3, h4⟩⟩
inductive MxA (K : PySem.W.Frag) (H : Hp) : List V → List PyData → Prop
  | nil : MxA K H [] []
  | cons {v : V} {d : PyData} {vs : List V} {ds : List PyData} : Mx K H v d → MxA K H vs ds → MxA K H (v :: vs) (d :: ds)
theorem MxA.ex {K : PySem.W.Frag} {H H' : Hp} (e : Ex H H') : ∀ {vs : List V} {ds : List PyData}, MxA K H vs ds → MxA K H' vs ds
  | _, _, .nil => .nil
  | _, _, .cons a b => .cons (a.ex e) (b.ex e)
theorem MxA.len {K : PySem.W.Frag} {H : Hp} : ∀ {vs : List V} {ds : List PyData}, MxA K H vs ds → vs.length = ds.length
  | _, _, .nil => rfl
  | _, _, .cons _ b => congrArg (· + 1) b.len
theorem MxA.dp {K : PySem.W.Frag} {H : Hp} : ∀ {vs : List V} {ds : List PyData}, MxA K H vs ds → DpAll K H vs ds
  | _, _, .nil => .nil
  | _, _, .cons a b => .cons a.1 b.dp
theorem MxA.it {K : PySem.W.Frag} {H : Hp} : ∀ {vs : List V} {ds : List PyData}, MxA K H vs ds → ∀ d ∈ ds, ItOk d
  | _, _, .nil, _, h => absurd h List.not_mem_nil
  | _, _, .cons a b, d, h => by
    rcases List.mem_cons.mp h with rfl | h
    · exact a.2.1
    · exact b.it d h
theorem MxA.get {K : PySem.W.Frag} {H : Hp} : ∀ {vs : List V} {ds : List PyData}, MxA K H vs ds → ∀ {i : Nat} {v : V}, vs[i]? = some v → ∃ d, ds[i]? = some d ∧ Mx K H v d
  | _, _, .nil, _, _, h => by simp at h
  | _, _, .cons (d := d) a _, 0, v, h => by
    have e : _ = v := Option.some.inj h
    subst e
    exact ⟨d, rfl, a⟩
  | _, _, .cons _ b, i + 1, v, h => MxA.get b (i := i) (by simpa using h)
theorem mxa_app {K : PySem.W.Frag} {H : Hp} {us : List V} {es : List PyData} (B : MxA K H us es) : ∀ {vs : List V} {ds : List PyData}, MxA K H vs ds → MxA K H (vs ++ us) (ds ++ es)
  | _, _, .nil => B
  | _, _, .cons a t => .cons a (mxa_app B t)
theorem mxa_take {K : PySem.W.Frag} {H : Hp} : ∀ (n : Nat) {vs : List V} {ds : List PyData}, MxA K H vs ds → MxA K H (vs.take n) (ds.take n)
  | 0, _, _, _ => .nil
  | _ + 1, _, _, .nil => .nil
  | n + 1, _, _, .cons a t => .cons a (mxa_take n t)
theorem mxa_drop {K : PySem.W.Frag} {H : Hp} : ∀ (n : Nat) {vs : List V} {ds : List PyData}, MxA K H vs ds → MxA K H (vs.drop n) (ds.drop n)
  | 0, _, _, a => a
  | _ + 1, _, _, .nil => .nil
  | n + 1, _, _, .cons _ t => mxa_drop n t
theorem Lits.cons {H : Hp} {t : Addr} {l : Lit} {vs : List V} {ls : List Lit} (h : H t = some (.tup (litV l))) (A : Lits H vs ls) : Lits H (.ref t :: vs) (l :: ls) := ⟨congrArg (· + 1) A.len, fun i q hq => by
  cases i with
  | zero =>
    have e : l = q := Option.some.inj hq
    subst e
    exact ⟨t, rfl, h⟩
  | succ i => exact A.at_ i q (by simpa using hq)⟩
theorem MxA.lits {K : PySem.W.Frag} {H : Hp} : ∀ {vs : List V} {ds : List PyData}, MxA K H vs ds → (∀ d ∈ ds, isLitD d = true) → ∃ ls, ds = ls.map litD ∧ Lits H vs ls ∧ ∀ l ∈ ls, LitOk l
  | _, _, .nil, _ => ⟨[], rfl, Lits.nil, fun _ h => absurd h List.not_mem_nil⟩
  | _, _, .cons (d := d) a b, h => by
    obtain ⟨ls, e, L, ok⟩ := b.lits fun d hd => h d (List.mem_cons_of_mem _ hd)
    rcases a.2.2 with z | ⟨l, t, e1, e2, e3, e4⟩
    · rw [h d List.mem_cons_self] at z
      cases z
    · subst e1 e2
      exact ⟨l :: ls, by rw [e]; rfl, L.cons e3, List.forall_mem_cons.mpr ⟨e4, ok⟩⟩
theorem MxA.of {K : PySem.W.Frag} {H : Hp} : ∀ {vs : List V} {ls : List Lit}, Lits H vs ls → (∀ l ∈ ls, LitOk l) → MxA K H vs (ls.map litD)
  | [], [], _, _ => .nil
  | [], _ :: _, A, _ => by have := A.len; simp at this
  | _ :: _, [], A, _ => by have := A.len; simp at this
  | v :: vs, l :: ls, A, ok => by
    obtain ⟨t, h1, h2⟩ := A.at_ 0 l rfl
    have e : v = .ref t := Option.some.inj h1
    subst e
    have tl : Lits H vs ls := ⟨by have := A.len; simpa using this, fun i q hq => A.at_ (i + 1) q (by simpa using hq)⟩
    refine .cons ⟨?_, it_lit (ok l List.mem_cons_self), .inr ⟨l, t, rfl, rfl, h2, ok l List.mem_cons_self⟩⟩ (MxA.of tl fun q hq => ok q (List.mem_cons_of_mem _ hq))
    have D := (A.dp (K := K))
    cases D with
    | cons a _ => exact a
def spOddL (K : PySem.W.Frag) : Sp := fun vs H Q _ => ∃ (b l t1 t2 : Addr) (xs ys : List Str) (us : List V) (ls : List Lit), vs = [.ref b, .ref l, .ref t1, .ref t2] ∧ Bx b H ∧ Wld b t1 t2 xs ys H ∧ H l = some (.lst us) ∧ Lits H us ls ∧ (∀ l ∈ ls, LitOk l) ∧ ls.length ≤ 6 ∧
  ∀ (p : Addr) (us' : List V) (ds : List PyData) H', Kp b H H' → Bx b H' → H p = none → H' p = some (.lst us') → MxA K (rmB H' b p) us' ds → ds.length ≤ 8 → (∃ d ∈ ds, isLitD d = false) → Q (.ref p) H'
section
variable {P : Program} {w : World} {K : PySem.W.Frag} {mg : Str → Option Value} {base : Heap} {a : Ad} {d : Fd}
theorem ok_law_odd (T : TX K mg a) (D : FDS K a d) : FnOk P w K mg base CX0 2 a.a_law_odd d.a_law_odd ["bag", "literals", "truths", "moments"] (spOddL K) := by
  have G__law_draw : FnOk P w K mg base CX0 1 a.a_law_draw d.a_law_draw ["bag", "size"] spDraw := ok_law_draw T D
  refine D.F__law_odd.ok sc_law_odd (fun vs H Q E h => ?_) (fun cdv A outer s H vs Q E hr h => ?_)
  · obtain ⟨b, l, t1, t2, xs, ys, us, ls, rfl, _⟩ := h
    rfl
  · obtain ⟨b, l, t1, t2, xs, ys, us, ls, rfl, X, W, hl, L, okl, l6, fin⟩ := h
    refine ⟨_, (pss_cons (ps_par3 (i := 4) (j := 5) (l := 6) rfl sc_law_odd.nd rfl rfl rfl (by decide) (by decide) (by decide) rfl rfl rfl (pa_cons (pe_ix (ix_listK (K := K)) (pv 3) pe_int (fun _ _ => rfl)) (pa_cons (pe_ix (ix_listK (K := K)) (pv 3) pe_int (fun _ _ => rfl)) (pa_cons (pe_ix (ix_listK (K := K)) (pv 2) pe_int (fun _ _ => rfl)) pa_nil))) (by rfl))
        (pss_cons (ps_set (i := 7) sc_law_odd.nd rfl (Or.inl rfl) (pe_lst (pa_cons pe_non (pa_cons pe_int (pa_cons pe_str (pa_cons (pe_tup (pa_cons pe_str pa_nil)) (pa_cons (pe_tup (pa_cons pe_str (pa_cons (pv 6) pa_nil))) (pa_cons (pe_lst (pa_cons pe_str (pa_cons (pv 6) pa_nil))) (pa_cons (pe_tup (pa_cons pe_str (pa_cons (pv 6) (pa_cons pe_int pa_nil)))) (pa_cons (pe_tup (pa_cons pe_str (pa_cons pe_str pa_nil))) (pa_cons (pe_tup (pa_cons pe_str (pa_cons (pv 4) (pa_cons (pv 4) (pa_cons pe_int pa_nil))))) (pa_cons (pe_tup (pa_cons pe_str (pa_cons (pv 4) (pa_cons (pv 5) (pa_cons pe_bl pa_nil))))) (pa_cons (pe_tup (pa_cons pe_str (pa_cons (pv 4) (pa_cons (pv 5) pa_nil)))) (pa_cons (pe_tup (pa_cons pe_str (pa_cons (pv 4) (pa_cons (pv 5) (pa_cons pe_str pa_nil))))) (pa_cons (pe_tup (pa_cons pe_str (pa_cons (pe_op op_add_str pe_str (pe_slice sl_str (pv 6) po_none (po_some pe_int))) pa_nil))) (pa_cons (pe_tup (pa_cons pe_str (pa_cons pe_str pa_nil))) (pa_cons (pe_tup (pa_cons pe_str (pa_cons (pe_op op_add_str (pv 6) pe_str) pa_nil))) (pa_cons (pe_tup (pa_cons pe_str (pa_cons (pv 4) (pa_cons (pe_op op_add_str (pv 5) pe_str) (pa_cons pe_int pa_nil))))) (pa_cons (pe_tup pa_nil) (pa_cons pe_bl pa_nil))))))))))))))))))))
        (pss_cons (ps_set (i := 8) sc_law_odd.nd rfl (Or.inl rfl) (pe_callTy call_list_of (by rfl) T.b_list (by decide +kernel) (pa_cons (pv 1) pa_nil)))
        (pss_cons (ps_for PassesOwn.never rfl (pi_range1 rfl T.b_range (pa_cons (pe_op op_add pe_int (pe_call G__law_draw (hr.mono (by decide)) rfl T.f__law_draw T.k__law_draw D.B__law_draw .nil pass0 (pa_cons (pv 0) (pa_cons pe_int pa_nil)))) pa_nil)) (pg_name (i := 9) sc_law_odd.nd rfl (Or.inl rfl)) (pss_one (ps_expr (pe_bm PySem.F.plainAttrs_list PySem.F.slot_list_insert PySem.F.type_list_insert mt_insert (pv 8) (pa_cons (pe_call G__law_draw (hr.mono (by decide)) rfl T.f__law_draw T.k__law_draw D.B__law_draw .nil pass0 (pa_cons (pv 0) (pa_cons (pe_op op_add (pe_callB call_len_seq (by rfl) T.b_len (by decide +kernel) (pa_cons (pv 8) pa_nil)) pe_int) pa_nil))) (pa_cons (pe_ix (ix_listK (K := K)) (pv 7) (pe_call G__law_draw (hr.mono (by decide)) rfl T.f__law_draw T.k__law_draw D.B__law_draw .nil pass0 (pa_cons (pv 0) (pa_cons pe_int pa_nil))) (fun _ _ => rfl)) pa_nil))))))
        (pss_one (ps_ret (pv 8))))))), ?_⟩
    have big : 1000 ≤ sizeLine := by decide
    obtain ⟨x, hx, _, _, nx⟩ := W.yat (d := 0) (by decide) (by rw [W.y4]; decide)
    obtain ⟨y, hy, _, _, ny⟩ := W.yat (d := 1) (by decide) (by rw [W.y4]; decide)
    obtain ⟨p, hp, np⟩ := W.xat (d := 0) (by decide) (by rw [W.x3]; decide)
    refine ⟨_, rfl, t2, _, 0, _, rfl, rfl, SqL.of W.l2, hx, _, rfl, t2, _, 1, _, rfl, rfl, SqL.of W.l2, hy, _, rfl, t1, _, 0, _, rfl, rfl, SqL.of W.l1, hp, _, _, _, rfl, ?_⟩
    have lp := name_len np
    have lx := name_len nx
    have ly := name_len ny
    have b8 : 100 ≤ sizeLine := by decide
    have s6 : ([some (V.ref b), some (.ref l), some (.ref t1), some (.ref t2), some (.str x), some (.str y), some (.str p), none, none, none] : L2.St)[6]? = some (some (.str p)) := rfl
    have s5 : ([some (V.ref b), some (.ref l), some (.ref t1), some (.ref t2), some (.str x), some (.str y), some (.str p), none, none, none] : L2.St)[5]? = some (some (.str y)) := rfl
    have s4 : ([some (V.ref b), some (.ref l), some (.ref t1), some (.ref t2), some (.str x), some (.str y), some (.str p), none, none, none] : L2.St)[4]? = some (some (.str x)) := rfl
    dsimp only
    refine seq_step ?_
    refine ed_lst (K := K) (H0 := H) (ds := oddD x y p) ?menu (by show 18 ≤ 100; decide) H (Ex.refl _) _ fun v H1 e1 D1 => ?rest
    case menu =>
      unfold oddD
      exact edl_cons ed_non (edl_cons ed_int (edl_cons ed_str (edl_cons (ed_tup (edl_cons ed_str edl_nil) (by simp)) (edl_cons (ed_tup (edl_cons ed_str (edl_cons (ed_v s6) edl_nil)) (by simp)) (edl_cons (ed_lst (edl_cons ed_str (edl_cons (ed_v s6) edl_nil)) (by simp))
      (edl_cons (ed_tup (edl_cons ed_str (edl_cons (ed_v s6) (edl_cons ed_int edl_nil))) (by simp)) (edl_cons (ed_tup (edl_cons ed_str (edl_cons ed_str edl_nil)) (by simp)) (edl_cons (ed_tup (edl_cons ed_str (edl_cons (ed_v s4) (edl_cons (ed_v s4) (edl_cons ed_int edl_nil)))) (by simp)) (edl_cons (ed_tup (edl_cons ed_str (edl_cons (ed_v s4) (edl_cons (ed_v s5) (edl_cons ed_bl edl_nil)))) (by simp))
      (edl_cons (ed_tup (edl_cons ed_str (edl_cons (ed_v s4) (edl_cons (ed_v s5) edl_nil))) (by simp)) (edl_cons (ed_tup (edl_cons ed_str (edl_cons (ed_v s4) (edl_cons (ed_v s5) (edl_cons ed_str edl_nil)))) (by simp)) (edl_cons (ed_tup (edl_cons ed_str (edl_cons (ed_cut s6 (by omega)) edl_nil)) (by simp))
      (edl_cons (ed_tup (edl_cons ed_str (edl_cons ed_str edl_nil)) (by simp)) (edl_cons (ed_tup (edl_cons ed_str (edl_cons (ed_add s6 (by show p.length + 8 ≤ _; omega)) edl_nil)) (by simp)) (edl_cons (ed_tup (edl_cons ed_str (edl_cons (ed_v s4) (edl_cons (ed_add s5 (by show y.length + 1 ≤ _; omega)) (edl_cons ed_int edl_nil)))) (by simp))
      (edl_cons (ed_tup edl_nil (by simp)) (edl_cons ed_bl edl_nil)))))))))))))))))
    case rest =>
      refine nm_go ?_
      obtain ⟨O, ovs, rfl, OL, OD⟩ := dp_lst_out D1
      have hl1 := e1 _ _ hl
      refine ⟨_, rfl, l, us, rfl, .inl (SqL.of hl1), fun M hM => ?_⟩
      have x2 := Ex.new (o := .lst us) hM
      have y2 : upd H1 M (.lst us) M = some (.lst us) := upd_same
      have hb : H b ≠ none := by
        obtain ⟨r, m, q, hb, _⟩ := X
        rw [hb]
        simp
      have X1 := X.ex e1
      have L2' : MxA K (rmB (upd H1 M (.lst us)) b M) us (ls.map litD) := MxA.ex rm_upd (MxA.of (rm_lits X1 hM (L.ex e1)) okl)
      have O2 : SqL K (rmB (upd H1 M (.lst us)) b M) O ovs := ex_l rm_upd (ex_l (nw_rmM hb hM) OL)
      have OD2 : DpAll K (rmB (upd H1 M (.lst us)) b M) ovs (oddD x y p) := DpAll.ex rm_upd (DpAll.ex (nw_rmM hb hM) OD)
      have X2 := X1.ex x2
      have hMb : M ≠ b := X1.ne hM
      have hM0 : H M = none := (Kp.ex (b := b) e1).back X1 hM
      have k2 : Kp b H (upd H1 M (.lst us)) := (Kp.ex e1).trans (Kp.ex x2)
      generalize upd H1 M (.lst us) = H2 at *
      refine nm_go ?_
      dsimp only
      refine ⟨_, rfl, b, 2, rfl, X2, by decide, by decide, fun d3 H3 k3 X3 lo3 hi3 => ⟨_, _, rfl, rfl, _, rfl, by omega, by omega, ?_⟩⟩
      have lu := L.len
      refine for_it walk_range (fun i σ H' => ∃ (us' : List V) (ds : List PyData) (o9 : Option V), σ = [some (.ref b), some (.ref l), some (.ref t1), some (.ref t2), some (.str x), some (.str y), some (.str p), some (.ref O), some (.ref M), o9] ∧ Kp b H H' ∧ Bx b H' ∧ H' M = some (.lst us') ∧ MxA K (rmB H' b M) us' ds ∧ ds.length = ls.length + i ∧ (0 < i → ∃ d ∈ ds, isLitD d = false) ∧ SqL K (rmB H' b M) O ovs ∧ DpAll K (rmB H' b M) ovs (oddD x y p)) ⟨us, ls.map litD, none, rfl, k2.trans k3, X3, k3.k _ _ hMb y2, MxA.ex (rm_kp k3) L2', by rw [List.length_map]; rfl, fun h => absurd h (Nat.lt_irrefl _), ex_l (rm_kp k3) O2, DpAll.ex (rm_kp k3) OD2⟩ (fun _ _ _ _ _ => trivial) ?_ ?_
      · rintro i v σ H4 H4' hi ⟨us', ds, o9, rfl, k4, X4, hM4, D4, ln4, ex4, O4, OD4⟩ ⟨rfl, hv⟩
        refine nm_go ?_
        dsimp only
        have hi : i < 2 := by have hi : i < ((1 : Int) + d3).toNat := hi; omega
        have lu4 := MxA.len D4
        refine ⟨_, rfl, .inl ⟨rfl, _, SqL.of hM4⟩, _, rfl, _, rfl, M, us', rfl, .inl (SqL.of hM4), _, _, rfl, rfl, b, _, rfl, X4, by omega, by omega, fun d5 H5 k5 X5 lo5 hi5 => ?_⟩
        refine ⟨_, rfl, _, rfl, b, 18, rfl, X5, by decide, by decide, fun d6 H6 k6 X6 lo6 hi6 => ?_⟩
        have k46 := k5.trans k6
        have hM6 := k46.k _ _ hMb hM4
        have e46 := rm_kp (bt := M) k46
        have OD6 := DpAll.ex e46 OD4
        have O6 := ex_l e46 O4
        have D6 := MxA.ex e46 D4
        have lo' : ovs.length = 18 := by rw [DpAll.len OD6]; rfl
        have hlt : d6.toNat < ovs.length := by omega
        have hat : atI ovs d6 = some ovs[d6.toNat] := at_lit (by omega) (List.getElem?_eq_getElem hlt)
        obtain ⟨od, hod, Dod⟩ := DpAll.get OD6 (List.getElem?_eq_getElem hlt)
        have hmem := List.mem_of_getElem? hod
        generalize ovs[d6.toNat] = ov at *
        refine ⟨O, ovs, d6, ov, rfl, rfl, ex_l rm_sub O6, hat, ?_⟩
        have big63 : sizeLine < 2 ^ 63 := by decide
        refine ⟨M, us', d5, ov, rfl, rfl, hM6, by omega, lo5, by omega, us'.take d5.toNat ++ [ov] ++ us'.drop d5.toNat, ds.take d5.toNat ++ [od] ++ ds.drop d5.toNat, _, rfl, (k4.trans k46).mut hM0, X6.upd hMb, upd_same, MxA.ex rm_upd (mxa_app (mxa_drop _ D6) (mxa_app (.cons ⟨Dod, odd_ok nx ny np od hmem, .inl (odd_not np od hmem)⟩ .nil) (mxa_take _ D6))), ?_, fun _ => ⟨od, ?_, odd_not np od hmem⟩, ex_l rm_upd O6, DpAll.ex rm_upd OD6⟩
        · have hle : d5.toNat ≤ ds.length := by omega
          simp only [List.length_append, List.length_take, List.length_drop, List.length_singleton]
          omega
        · simp
      · rintro σ H4 ⟨us', ds, o9, rfl, k4, X4, hM4, D4, ln4, ex4, O4, OD4⟩
        exact ⟨_, rfl, fin M us' ds H4 k4 X4 hM0 hM4 D4 (by rw [ln4]; omega) (ex4 (by omega))⟩
end
end M6
set_option maxRecDepth 100000
set_option maxHeartbeats 8000000
/-! _law_handed, _law_asked -/
namespace M6
open PySem PySem.Spec PyProof.Rows L2
/-- isinstance(e, c) in the suite that holds the error e, whose attributes are a dict of its own -/
def rIsX (K : PySem.W.Frag) (a : Addr) (cls : Value) (d : Option Addr) : List V → Hp → VK → Prop := fun xs H Q => ∃ (D dd : Addr) (fs : List (Str × V)) (c : V) (cv : Value) (b : Bool),
  cls = .ref D ∧ d = some dd ∧ H dd = some (.xd fs) ∧ ExcC K D ∧ xs = [.ref a, c] ∧ ClsV c cv ∧ PySem.W.kitOne K (.ref D) cv = some b ∧ Q (.bl b) H
theorem call_isX {X : Cx} {a : Addr} {oe : Obj} {cls : Value} {d : Option Addr} {pn : List (Addr × Obj)} (hz : Zc cls d oe) (hf : ∃ vs, oe.data = .fields vs) : CallR (X.suite a ((a, oe) :: pn)) (.builtin "isinstance") (rIsX X.K a cls d) := by
  intro pins s σ H xs us Q I r h
  obtain ⟨D, dd, fs, c, cv, b, rfl, rfl, hdd, C, rfl, hcv, e, q⟩ := h
  obtain ⟨u1, u2, rfl, r1, r2⟩ := vals2 r
  have e2 := hcv.eq r2
  subst e2
  cases (show u1 = Value.ref a from r1)
  obtain ⟨hget, _⟩ := I.pin (a, oe) (List.mem_append.mpr (.inl List.mem_cons_self))
  obtain ⟨vs, hv⟩ := hf
  have hx : ObjOk X.prog X.w H s.heap dd (.xd fs) := I.hok dd _ hdd
  obtain ⟨mA, hns, _⟩ := hx
  obtain ⟨od, ho, _⟩ := lookIn_ns hns
  have J : PySem.W.InstAt s.heap a oe D (some od) := ⟨hget, hz.1, by unfold PySem.W.notCls; rw [hv] <;> rfl, by rw [hz.2]; exact ho⟩
  have hcl : (PySem.W.clsIn X.K D).isSome = true := by
    obtain ⟨cd, hc, _⟩ := PySem.W.any_some C.hd
    rw [hc]
    rfl
  exact PySem.W.kia_one (PySem.W.kitx_exc hcl C.hg C.hk C.hs C.ha C.hn C.ht C.hm) I.kIn J e (fun z => nomatch z) fun tk => ⟨.bl b, H, I.kept (t' := tk) fun _ _ z => z, rfl, q⟩
end M6
namespace M6
open PySem L2 Evl GP HR SC SetM SetH RQ SetN RQ
/-- the error of what is no literal -/
structure EW (K : PySem.W.Frag) (a : Ad) : Prop where
  xc : ExcC K a.cL
  xf : XfC K a.cL
  noF : PySem.W.findIn K (.ref a.cL) "value" = some none
  kR : PySem.W.kitOne K (.ref a.cL) (.ref a.cR) = some true
  kV : PySem.W.kitOne K (.ref a.cL) (.type "ValueError") = some true
  eW : PySem.W.exmOne K (.ref a.cL) (.ref a.cL) = some true
/-- what is looked up of a question's class -/
structure MK (K : PySem.W.Frag) (C : Addr) : Prop where
  ka : PySem.W.findIn K (.ref C) "__class__" = some (some (.builtin "object.__class__"))
  kn : PySem.W.specialIn K (.builtin "object.__class__") "__get__" = some (some (.builtin "getset_descriptor.__get__"))
  kt : PySem.W.takesIn K (.builtin "object.__class__") = some true
  km : PySem.W.mroIn K C (.type "object") = some true
  kk : PySem.W.kitOne K (.ref C) (.ref C) = some true
/-- what the law hands on -/
def Hd (H : Hp) (p : Addr) (us : List V) : Prop := H p = some (.lst us) ∨ H p = some (.tup us)
theorem Hd.seq {K : PySem.W.Frag} {H : Hp} {p : Addr} {us : List V} (h : Hd H p us) : Seq K H p us := h.imp SqL.of SqT.of
def spHanded : Sp := fun vs H Q _ => ∃ (l : Addr) (i : Int) (us : List V), vs = [.ref l, .int i] ∧ H l = some (.lst us) ∧ ∀ (p : Addr) H', Ex H H' → H p = none → Hd H' p us → Q (.ref p) H'
def spAsked (K : PySem.W.Frag) : Sp := fun vs H Q _ => ∃ (g b l : Addr) (n : Nat) (gus bus us : List V) (gs bs : List Vw), vs = [.ref g, .ref b, .ref l, natV n] ∧ Seq K H g gus ∧ VLs H gus gs ∧ Seq K H b bus ∧ VLs H bus bs ∧ n ≤ 4 ∧ gs.length ≤ 6 ∧ bs.length ≤ 6 ∧ Seq K H l us ∧
  ((∃ ls, Lits H us ls ∧ (∀ l ∈ ls, LitOk l) ∧ ls.length ≤ 6 ∧ (∀ q, q ∈ gs ∨ q ∈ bs → ∀ l ∈ ls, ∀ z ∈ namesOf l, z ∈ q.2.map Prod.fst) ∧
      ∀ t us' ds ls' H', Ex H H' → H' t = some (.tup us') → Cls H' us' ds → AscC ds → NF ls ls' → (∀ d, d ∈ ds ↔ ∃ c ∈ allC n ls' gs bs, NF c d) → Q (.ref t) H') ∨
   (∃ ls i bad, us[i]? = some bad ∧ AnyV K H bad false ∧ Lits H (us.take i) ls ∧ (∀ l ∈ ls, LitOk l) ∧ ∀ t H', Ex H H' → H' t = some (.tup [.str "refused", bad, .bl true, .bl true]) → Q (.ref t) H'))
def t_isW (K : PySem.W.Frag) (b : Addr) (cls : Value) (d : Option Addr) (c : V) : TE := tCB (rIsX K b cls d) (tCons (tVar 5) (tCons (tC c) tNil))
def t_sW (K : PySem.W.Frag) (a : Ad) : Addr → Value → Option Addr → TS := fun b cls d =>
  tSeq (tAsg (t_isW K b cls d (.ref a.cR)) (gName 6)) (tRet (tTup (tCons (tC (.str "refused")) (tCons (tXf b cls d a.cL "value" (tVar 5)) (tCons (tVar 6) (tCons (t_isW K b cls d (.ty "ValueError")) tNil))))))
def t_bodyA (K : PySem.W.Frag) (a : Ad) (C : Addr) : WX → TS := fun W => tAsg (tCallS (spFit K C a.cL) (WE W) (tCons (tVar 0) (tCons (tVar 1) (tCons (tVar 2) (tCons (tVar 3) tNil))))) (gName 4)
section
variable {P : Program} {w : World} {K : PySem.W.Frag} {mg : Str → Option Value} {base : Heap} {a : Ad} {d : Fd} {fL fC fW fU C fI : Addr} {dI : FuncData}
theorem ok_law_handed (T : TX K mg a) (D : FDS K a d) : FnOk P w K mg base CX0 1 a.a_law_handed d.a_law_handed ["rows", "shape"] spHanded := by
  refine D.F__law_handed.ok sc_law_handed (fun vs H Q E h => ?_) (fun cdv A outer s H vs Q E hr h => ?_)
  · obtain ⟨l, i, us, rfl, _⟩ := h
    rfl
  · obtain ⟨l, i, us, rfl, hl, fin⟩ := h
    refine ⟨_, (pss_cons (ps_if (pt_cmpR op_eq (pv 1) pe_int (nomark _)) (pss_one (ps_ret (pe_callTy call_list_of (by rfl) T.b_list (by decide +kernel) (pa_cons (pv 0) pa_nil)))) pss_nil)
        (pss_one (ps_ret (pe_callTy call_tuple_of (by rfl) T.b_tuple (by decide +kernel) (pa_cons (pv 0) pa_nil))))), ?_⟩
    refine ⟨_, rfl, rfl, _, rfl, ite2 (fun _ => ?_) (fun _ => ?_)⟩
    · exact ⟨_, rfl, l, us, rfl, .inl (SqL.of hl), fun p hp => fin p _ (Ex.new hp) hp (.inl upd_same)⟩
    · exact ⟨_, rfl, l, us, rfl, .inl ⟨SqL.of hl, fun p hp => fin p _ (Ex.new hp) hp (.inr upd_same)⟩⟩
theorem ok_law_asked (T : TX K mg a) (D : FDS K a d) (R : ER K mg P a fL fC fW) (M : MC K mg C fI dI) (N : MK K C) (Z : EW K a) (EU : PySem.Sup.SupTxt K mg P "UnknownMoment" "name" "not a listed moment" a.cU fU) : FnOk P w K mg base CX0 11 a.a_law_asked d.a_law_asked ["good", "bad", "literals", "count"] (spAsked K) := by
  have G_fit_question : FnOk P w K mg base (L2N.CX P w) 10 a.a_fit_question d.a_fit_question ["good", "bad", "literals", "count"] (spFit K C a.cL) := ok_fit_question T D R M EU
  refine D.F__law_asked.ok sc_law_asked (fun vs H Q E h => ?_) (fun cdv A outer s H vs Q E hr h => ?_)
  · obtain ⟨g, b, l, n, gus, bus, us, gs, bs, rfl, _⟩ := h
    rfl
  · obtain ⟨g, b, l, n, gus, bus, us, gs, bs, rfl, hg, VG, hb, VB, n4, g6, b6, hl, h⟩ := h
    have hr10 : Room 10 _ := hr.mono (by decide)
    refine ⟨_, pss_cons (NX.ps_try_manyA (tb := t_bodyA K a C) (Wout := fun _ _ _ _ => False) (l := [(.ref a.cL, some 5, t_sW K a)]) rfl rfl NX.takes0
      (fun W pn xe tk _ => pss_one (ps_set (i := 4) sc_law_asked.nd rfl (Or.inl rfl) (by exact (pe_callS G_fit_question hr10 rfl T.f_fit_question T.k_fit_question D.B_fit_question (fun σ => L2N.passAt tk σ) (by exact (pa_cons (pv 0) (pa_cons (pv 1) (pa_cons (pv 2) (pa_cons (pv 3) pa_nil)))))))))
      (.as (i := 5) sc_law_asked.nd rfl rfl ⟨rfl, by decide, Or.inl T.c_InvalidLiteral⟩ (fun b oe cls dd pn hz hf =>
        pss_cons (ps_set (i := 6) sc_law_asked.nd rfl (Or.inl rfl) (pe_callB (call_isX hz.zc hf) (by rfl) T.b_isinstance (by decide +kernel) (by exact (pa_cons (pv 5) (pa_cons (pe_glob (v := .ref a.cR) rfl T.c_RingclauseError rfl) pa_nil)))))
        (pss_one (ps_ret (pe_tup (pa_cons pe_str (pa_cons (by exact (pe_xf Z.xf Z.noF hz.zc hf (pv 5))) (pa_cons (pv 6) (pa_cons (pe_callB (call_isX hz.zc hf) (by rfl) T.b_isinstance (by decide +kernel) (by exact (pa_cons (pv 5) (pa_cons (pe_bltn (v := .ty "ValueError") (by rfl) T.b_ValueError (by decide +kernel) rfl) pa_nil)))) pa_nil)))))))) .nil))
      (pss_cons (ps_if (pt_not (pt_val (pe_callB call_isi (by rfl) T.b_isinstance (by decide +kernel) (pa_cons (pv 4) (pa_cons (pe_glob (v := .ref C) rfl M.gC rfl) pa_nil))))) (pss_one (ps_ret (pe_tup (pa_cons pe_str pa_nil)))) pss_nil)
      (pss_one (ps_ret (pe_fld (pv 4) rfl)))), ?_⟩
    have four : 4 ≤ sizeLine := by decide
    refine ⟨_, rfl, _, rfl, _, rfl, _, rfl, g, b, l, n, gus, bus, us, gs, bs, rfl, hg, VG, hb, VB, n4, g6, b6, hl, h.imp (fun ⟨ls, L, ok, l6, nm, fin⟩ => ⟨ls, L, ok, l6, nm, fun x us' ds ls' H1 e1 hx qa nf mem => ?_⟩) (fun ⟨ls, i, bad, hi, av, L, ok, fin⟩ => ⟨ls, i, bad, hi, av, L, ok, fun dd H1 e1 hd hdd => ?_⟩)⟩
    · obtain ⟨dx, t, fs, hxq, ht, CL, asc, mq⟩ := qa
      refine nm_go ?_
      refine ⟨_, rfl, .ref x, _, _, _, true, rfl, .own C, .base (.ins hxq M.cl N.ka N.kn N.kt N.km), N.kk, _, rfl, iteF' rfl ?_⟩
      exact ⟨_, rfl, x, C, dx, _, _, rfl, hxq, M.cl, M.n1, rfl, fin t us' ds ls' H1 e1 ht CL asc nf mem⟩
    · refine ⟨_, Z.eW, fun _ b hb => ?_, fun z => absurd z (by decide)⟩
      refine ⟨_, rfl, _, _, _, _, _, _, rfl, rfl, hdd, Z.xc, rfl, .own a.cR, Z.kR, ?_⟩
      refine nm_go ?_
      refine ⟨_, rfl, rfl, rfl, dd, _, bad, rfl, hdd, by simp [List.lookup], _, rfl, _, rfl, _, _, _, _, _, _, rfl, rfl, hdd, Z.xc, rfl, .ty "ValueError", Z.kV, four, fun t ht => ?_⟩
      exact fin t _ (e1.trans (Ex.new ht)) upd_same
end
end M6
set_option maxRecDepth 100000
set_option maxHeartbeats 8000000
/-! what the law holds on to -/
namespace M6
open PySem L2 Evl GP HR SC SetM SetH RQ SetN RQ
/-- all but lists stays -/
def Tp (H H' : Hp) : Prop := ∀ t o, (∀ xs, o ≠ HO.lst xs) → H t = some o → H' t = some o
theorem Tp.refl (H : Hp) : Tp H H := fun _ _ _ h => h
theorem Tp.trans {H H1 H2 : Hp} (x : Tp H H1) (y : Tp H1 H2) : Tp H H2 := fun t o n h => y t o n (x t o n h)
theorem Tp.ex {H H' : Hp} (e : Ex H H') : Tp H H' := fun t o _ h => e t o h
theorem Tp.kp {b : Addr} {H H' : Hp} (X : Bx b H) (k : Kp b H H') : Tp H H' := fun t o n h => k.k t o (fun e => by
  obtain ⟨r, m, q, hb, _⟩ := X
  rw [e, hb] at h
  exact n _ (Option.some.inj h).symm) h
theorem Tp.put {H : Hp} {G : Addr} {us : List V} {o : HO} (hG : H G = some (.lst us)) : Tp H (upd H G o) := fun t o' n h => by
  have ne : t ≠ G := fun e => by
    rw [e, hG] at h
    exact n _ (Option.some.inj h).symm
  rw [upd_ne ne]
  exact h
theorem Bx.kp {b c : Addr} {H H' : Hp} (X : Bx b H) (ne : b ≠ c) (k : Kp c H H') : Bx b H' := by
  obtain ⟨r, m, q, hb, h0⟩ := X
  exact ⟨r, m, q, k.k _ _ ne hb, h0⟩
theorem Val.tp {H H' : Hp} {v n tm : Addr} {o : Obj} {pa : List Addr} {ns : List Str} {ps : List (Str × Int)} (A : Val H v n tm o pa ns ps) (t : Tp H H') : Val H' v n tm o pa ns ps :=
  { A with hv := t _ _ (fun _ => by simp) A.hv, hn := t _ _ (fun _ => by simp) A.hn, ht := t _ _ (fun _ => by simp) A.ht, at_ := fun i q h => let ⟨x, h1, h2⟩ := A.at_ i q h; ⟨x, h1, t _ _ (fun _ => by simp) h2⟩ }
theorem VAt.tp {H H' : Hp} {v : V} {q : Vw} (h : VAt H v q) (t : Tp H H') : VAt H' v q := let ⟨a, n, tm, o, pa, h1, h2⟩ := h; ⟨a, n, tm, o, pa, h1, h2.tp t⟩
theorem VLs.tp {H H' : Hp} {us : List V} {qs : List Vw} (A : VLs H us qs) (t : Tp H H') : VLs H' us qs := ⟨A.len, fun i q h => let ⟨v, h1, h2⟩ := A.at_ i q h; ⟨v, h1, h2.tp t⟩⟩
theorem VLs.nil {H : Hp} : VLs H [] [] := ⟨rfl, fun i q h => by simp at h⟩
theorem VLs.snoc {H : Hp} {us : List V} {qs : List Vw} {v : V} {q : Vw} (A : VLs H us qs) (h : VAt H v q) : VLs H (us ++ [v]) (qs ++ [q]) := ⟨by simp [A.len], fun i r g => by
  have lu := A.len
  by_cases hj : i < qs.length
  · rw [List.getElem?_append_left hj] at g
    obtain ⟨x, h1, h2⟩ := A.at_ i r g
    exact ⟨x, by rw [List.getElem?_append_left (by omega)]; exact h1, h2⟩
  · rw [List.getElem?_append_right (by omega)] at g
    have hz : i - qs.length = 0 := by
      rcases Nat.eq_zero_or_pos (i - qs.length) with z | z
      · exact z
      · rw [List.getElem?_eq_none (by simp; omega)] at g
        cases g
    rw [hz] at g
    have e : q = r := Option.some.inj g
    subst e
    exact ⟨v, by rw [List.getElem?_append_right (by omega), show i - us.length = 0 by omega]; rfl, h⟩⟩
theorem Lits.tp {H H' : Hp} {us : List V} {ls : List Lit} (A : Lits H us ls) (t : Tp H H') : Lits H' us ls := ⟨A.len, fun i q h => let ⟨x, h1, h2⟩ := A.at_ i q h; ⟨x, h1, t _ _ (fun _ => by simp) h2⟩⟩
/-- good.append(_law_more(cells, _law_values(cells, truths, moments))) -/
theorem grow {K : PySem.W.Frag} {σ : L2.St} {i : Nat} {c t1 t2 G : Addr} {xs ys : List Str} {H : Hp} {gus : List V} {gs : List Vw} {D : Ends} (s7 : σ[7]? = some (some (.ref c))) (s2 : σ[2]? = some (some (.ref t1))) (s4 : σ[4]? = some (some (.ref t2))) (si : σ[i]? = some (some (.ref G)))
    (X : Bx c H) (W : Wld c t1 t2 xs ys H) (hG : H G = some (.lst gus)) (ne : G ≠ c) (few : gs.length ≤ 100) (VG : VLs H gus gs)
    (k : ∀ v q H', (∀ a o, a ≠ c → a ≠ G → H a = some o → H' a = some o) → Tp H H' → Bx c H' → H' G = some (.lst (gus ++ [v])) → VLs H' (gus ++ [v]) (gs ++ [q]) → VwOk ys q → D.nx σ H') :
    tDrop (tBM K "list" rAppend (tVar i) (tCons (tCall spMore [] E0 (tCons (tVar 7) (tCons (tCall spVals [] E0 (tCons (tVar 7) (tCons (tVar 2) (tCons (tVar 4) tNil)))) tNil))) tNil)) D σ H := by
  have big : 1000 ≤ sizeLine := by decide
  have lg := VG.len
  refine ⟨_, si, .inl ⟨rfl, _, SqL.of hG⟩, _, s7, _, s7, _, s2, _, s4, c, t1, t2, xs, ys, rfl, X, W, fun v n tm o pa q H1 k1 X1 V1 ok1 l1 l2 far => ?_⟩
  refine ⟨c, v, n, tm, o, pa, q, ys, rfl, X1, V1, ok1, l1, l2, far, fun v n tm o pa q H2 k2 X2 V2 ok2 => ?_⟩
  have k12 := k1.trans k2
  have hG2 := k12.k _ _ ne hG
  have V2' := VG.tp ((Tp.kp X k1).trans (Tp.kp X1 k2))
  refine ⟨G, gus, .ref v, rfl, rfl, hG2, by omega, k (.ref v) q _ (fun a o n1 n2 h => ?_) (((Tp.kp X k1).trans (Tp.kp X1 k2)).trans (Tp.put hG2)) (X2.upd ne) upd_same ?_ ok2⟩
  · rw [upd_ne n2]
    exact k12.k _ _ n1 h
  · exact (V2'.snoc ⟨v, n, tm, o, pa, rfl, V2⟩).tp (Tp.put hG2)
/-! ### the data of values and clauses -/
def vwD (q : Vw) : PyData := .tuple [.tuple (q.1.map PyData.str), .tuple (q.2.map fun r => .tuple [.str r.1, .int r.2])]
theorem dpa_of {K : PySem.W.Frag} {H : Hp} : ∀ {us : List V} {ds : List PyData}, us.length = ds.length → (∀ (i : Nat) (d : PyData), ds[i]? = some d → ∃ v, us[i]? = some v ∧ Dp K H v d) → DpAll K H us ds
  | [], [], _, _ => .nil
  | [], _ :: _, h, _ => by simp at h
  | _ :: _, [], h, _ => by simp at h
  | u :: us, d :: ds, h, g => by
    obtain ⟨v, h1, h2⟩ := g 0 d rfl
    have e : u = v := Option.some.inj h1
    subst e
    exact .cons h2 (dpa_of (by simpa using h) fun i e he => by
      obtain ⟨v, h1, h2⟩ := g (i + 1) e (by simpa using he)
      exact ⟨v, by simpa using h1, h2⟩)
theorem VAt.dp {K : PySem.W.Frag} {H : Hp} {v : V} {q : Vw} (h : VAt H v q) : Dp K H v (vwD q) := by
  obtain ⟨a, n, tm, o, pa, rfl, A⟩ := h
  refine .tup (SqT.of A.hv) (.cons (.tup (SqT.of A.hn) ?_) (.cons (.tup (.inl (.inr ⟨o, A.ht⟩)) ?_) .nil))
  · refine dpa_of (by simp) fun i d hd => ?_
    rw [List.getElem?_map] at hd
    obtain ⟨z, hz, rfl⟩ := Option.map_eq_some_iff.mp hd
    exact ⟨.str z, by rw [List.getElem?_map, hz]; rfl, .str z⟩
  · refine dpa_of (by rw [List.length_map, List.length_map, A.len]) fun i d hd => ?_
    rw [List.getElem?_map] at hd
    obtain ⟨z, hz, rfl⟩ := Option.map_eq_some_iff.mp hd
    obtain ⟨t, h1, h2⟩ := A.at_ i z hz
    exact ⟨.ref t, by rw [List.getElem?_map, h1]; rfl, .tup (SqT.of h2) (.cons (.str _) (.cons (.int _) .nil))⟩
theorem VLs.dp {K : PySem.W.Frag} {H : Hp} {us : List V} {gs : List Vw} (A : VLs H us gs) : DpAll K H us (gs.map vwD) := dpa_of (by rw [List.length_map, A.len]) fun i d hd => by
  rw [List.getElem?_map] at hd
  obtain ⟨q, hq, rfl⟩ := Option.map_eq_some_iff.mp hd
  obtain ⟨v, h1, h2⟩ := A.at_ i q hq
  exact ⟨v, h1, h2.dp⟩
theorem rp_vw {ys : List Str} {q : Vw} (h : VwOk ys q) : Rp 3 400000 (vwD q) := by
  have n := h.n
  have p := h.p
  have l1 := h.l1
  have l2 := h.l2
  have a1 : Rp 2 170000 (.tuple (q.1.map PyData.str)) := (Rp.tuple (n := 0) (c := 2000) fun d hd => by
    obtain ⟨z, hz, rfl⟩ := List.mem_map.mp hd
    exact rp_name (n z hz)).mono (by decide) (by rw [List.length_map]; omega)
  have a2 : Rp 2 170000 (.tuple (q.2.map fun r => PyData.tuple [.str r.1, .int r.2])) := (Rp.tuple (n := 1) (c := 5000) fun d hd => by
    obtain ⟨r, hr, rfl⟩ := List.mem_map.mp hd
    have lg : r.2.natAbs.log2 < 1920 := Nat.lt_of_le_of_lt (log_le (k := 212) (Nat.lt_of_le_of_lt (p r hr).2 (by decide +kernel))) (by decide)
    refine (Rp.tuple (n := 0) (c := 2000) (ds := [.str r.1, .int r.2]) fun d hd => ?_).mono (by decide) (by show 2 * 2002 + 2 ≤ 5000; decide)
    simp only [List.mem_cons, List.not_mem_nil, or_false] at hd
    rcases hd with rfl | rfl
    · exact rp_name (p r hr).1
    · exact (Rp.int lg).mono (Nat.le_refl _) (by decide)).mono (by decide) (by rw [List.length_map]; omega)
  refine (Rp.tuple (n := 2) (c := 170000) (ds := [_, _]) fun d hd => ?_).mono (by decide) (by show 2 * 170002 + 2 ≤ 400000; decide)
  simp only [List.mem_cons, List.not_mem_nil, or_false] at hd
  rcases hd with rfl | rfl
  · exact a1
  · exact a2
theorem sixteen : 12000000 ≤ sizeLine := by decide
theorem rp_vals {ys : List Str} {gs : List Vw} (h : ∀ q ∈ gs, VwOk ys q) (few : gs.length ≤ 6) : Rp 4 12000000 (.list (gs.map vwD)) := (Rp.list (n := 3) (c := 400000) fun d hd => by
  obtain ⟨q, hq, rfl⟩ := List.mem_map.mp hd
  exact rp_vw (h q hq)).mono (Nat.le_refl _) (by rw [List.length_map]; omega)
theorem rp_items {ds : List PyData} (h : ∀ d ∈ ds, ItOk d) (few : ds.length ≤ 8) : Rp 4 12000000 (.list ds) := (Rp.list (n := 2) (c := 200000) fun d hd => (h d hd).rp).mono (by decide) (by omega)
theorem rp_refused {d : PyData} (h : ItOk d) : Rp 4 12000000 (.tuple [.str "refused", d, .bool true, .bool true]) := (Rp.tuple (n := 2) (c := 200000) (ds := [_, _, _, _]) fun e he => by
  simp only [List.mem_cons, List.not_mem_nil, or_false] at he
  rcases he with rfl | rfl | rfl | rfl
  · exact (a_str (by decide +kernel) (by decide +kernel)).mono (by decide) (by decide)
  · exact h.rp
  · exact (a_bl true).mono (by decide) (by decide)
  · exact (a_bl true).mono (by decide) (by decide)).mono (by decide) (by show 4 * 200002 + 2 ≤ _; decide)
theorem flat_le {α β : Type} {f : α → List β} {m : Nat} : ∀ {l : List α}, (∀ x ∈ l, (f x).length ≤ m) → (l.flatMap f).length ≤ l.length * m
  | [], _ => by simp
  | x :: l, h => by
    rw [List.flatMap_cons, List.length_append, List.length_cons, Nat.succ_mul]
    have := flat_le (l := l) fun y hy => h y (List.mem_cons_of_mem _ hy)
    have := h x List.mem_cons_self
    omega
theorem allC_len {n : Nat} {ls : List Lit} {gs bs : List Vw} (n4 : n ≤ 4) (l6 : ls.length ≤ 6) (g6 : gs.length ≤ 6) (b6 : bs.length ≤ 6) : (allC n ls gs bs).length ≤ 174 := by
  have hl : ∀ q : Vw, (hq ls q).length ≤ 6 := fun q => Nat.le_trans heldP_len l6
  have h1 : (goodC n ls gs gs.length).length ≤ 6 * 4 := by
    unfold goodC
    rw [List.take_length]
    refine Nat.le_trans (flat_le (m := 4) fun q _ => ?_) (Nat.mul_le_mul_right _ g6)
    unfold yesC
    rw [List.length_map, List.length_range]
    exact n4
  have h2 : (badC n ls bs bs.length).length ≤ 6 * 25 := by
    unfold badC
    refine Nat.le_trans (flat_le (m := 25) fun k _ => ?_) (by rw [List.length_range]; exact Nat.mul_le_mul_right _ b6)
    rw [List.length_cons]
    unfold noC
    have := flat_le (m := 6) (l := List.range n) (f := fun r => (List.range (hq ls (bs.getD k ([], []))).length).map fun i => [Lit.yn false (bN r k), .yn false (cN r ((hq ls (bs.getD k ([], []))).getD i 0))]) fun r _ => by
      rw [List.length_map, List.length_range]
      exact hl _
    rw [List.length_range] at this
    have : n * 6 ≤ 4 * 6 := Nat.mul_le_mul_right _ n4
    omega
  unfold allC
  rw [List.length_append]
  omega
theorem ascC_nodup' {cs : List (List Lit)} (h : AscC cs) : cs.Nodup := h.imp fun {a b} q e => by
  subst e
  rw [show PySem.W.dataLt (clD a) (clD a) = false from PyProof.Rows.lex_irrefl _] at q
  cases q
open Classical in
/-- how many clauses in normal form there are -/
theorem nf_len {cs ds : List (List Lit)} (asc : AscC ds) (mem : ∀ d, d ∈ ds ↔ ∃ c ∈ cs, NF c d) : ds.length ≤ cs.length := by
  have nd : ds.Nodup := ascC_nodup' asc
  have := sub_lenA (m := cs.map fun c => if h : ∃ d, NF c d then Classical.choose h else []) nd fun d hd => by
    obtain ⟨c, hc, nf⟩ := (mem d).mp hd
    refine List.mem_map.mpr ⟨c, hc, ?_⟩
    have ex : ∃ d, NF c d := ⟨d, nf⟩
    rw [dif_pos ex]
    have nf2 := Classical.choose_spec ex
    exact ascL_same nf2.1 nf.1 fun z => (nf2.2 z).trans (nf.2 z).symm
  rwa [List.length_map] at this
theorem rp_cls {n : Nat} {ls : List Lit} {gs bs : List Vw} {ds : List (List Lit)} (n4 : n ≤ 4) (l6 : ls.length ≤ 6) (g6 : gs.length ≤ 6) (b6 : bs.length ≤ 6) (asc : AscC ds) (mem : ∀ d, d ∈ ds ↔ ∃ c ∈ allC n ls gs bs, NF c d) : Rp 4 12000000 (.tuple (ds.map clD)) := by
  have few := Nat.le_trans (nf_len asc mem) (allC_len n4 l6 g6 b6)
  refine (Rp.tuple (n := 2) (c := 60000) fun e he => ?_).mono (by decide) (by rw [List.length_map]; omega)
  obtain ⟨d, hd, rfl⟩ := List.mem_map.mp he
  obtain ⟨c, hc, nf⟩ := (mem d).mp hd
  obtain ⟨lp, c6⟩ := allC_lits n4 l6 b6 c hc
  have d6 : d.length ≤ 6 := Nat.le_trans (asc_len nf.1 nf.2) c6
  exact (Rp.tuple (n := 1) (c := 8010) fun x hx => by
    obtain ⟨l, hl, rfl⟩ := List.mem_map.mp hx
    exact rp_lit (lp l ((nf.2 l).mp hl)).ok).mono (by decide) (by rw [List.length_map]; omega)
theorem Cls.dp {K : PySem.W.Frag} {H : Hp} {us : List V} {cs : List (List Lit)} (A : Cls H us cs) : DpAll K H us (cs.map clD) := dpa_of (by rw [List.length_map, A.len]) fun i d hd => by
  rw [List.getElem?_map] at hd
  obtain ⟨c, hc, rfl⟩ := Option.map_eq_some_iff.mp hd
  obtain ⟨t, vs, h1, h2, h3⟩ := A.at_ i c hc
  exact ⟨.ref t, h1, .tup (SqT.of h2) h3.dp⟩
/-! ### what is no literal -/
def filtF (us : List V) (ds : List PyData) : List V := ((us.zip ds).filter fun x => !isLitD x.2).map Prod.fst
theorem filt_take {us : List V} {ds : List PyData} {i : Nat} {v : V} {d : PyData} (hv : us[i]? = some v) (hd : ds[i]? = some d) : filtF (us.take (i + 1)) (ds.take (i + 1)) = filtF (us.take i) (ds.take i) ++ (if isLitD d = true then [] else [v]) := by
  unfold filtF
  rw [List.take_add_one, List.take_add_one, hv, hd]
  have hi := (List.getElem?_eq_some_iff.mp hv).1
  have hj := (List.getElem?_eq_some_iff.mp hd).1
  rw [List.zip_append (by rw [List.length_take, List.length_take]; omega), List.filter_append, List.map_append]
  congr 1
  show (([(v, d)] : List (V × PyData)).filter fun x => !isLitD x.2).map Prod.fst = _
  cases g : isLitD d <;> simp [g]
theorem filt_len (us : List V) (ds : List PyData) : (filtF us ds).length ≤ us.length := by
  unfold filtF
  rw [List.length_map]
  refine Nat.le_trans (List.length_filter_le _ _) ?_
  rw [List.length_zip]
  exact Nat.min_le_left _ _
theorem filt_none {us : List V} {ds : List PyData} (h : ∀ d ∈ ds, isLitD d = true) : filtF us ds = [] := by
  unfold filtF
  rw [List.filter_eq_nil_iff.mpr fun x hx => by
    have := h x.2 (List.of_mem_zip hx).2
    simp [this]]
  rfl
theorem filt_some : ∀ {us : List V} {ds : List PyData}, us.length = ds.length → (∃ d ∈ ds, isLitD d = false) → ∃ i v d r, us[i]? = some v ∧ ds[i]? = some d ∧ isLitD d = false ∧ (∀ e ∈ ds.take i, isLitD e = true) ∧ filtF us ds = v :: r
  | [], [], _, ⟨d, h, _⟩ => absurd h List.not_mem_nil
  | [], _ :: _, h, _ => by simp at h
  | _ :: _, [], h, _ => by simp at h
  | u :: us, d :: ds, h, g => by
    cases q : isLitD d with
    | false => exact ⟨0, u, d, filtF us ds, rfl, rfl, q, fun e he => by simp at he, by unfold filtF; simp [q]⟩
    | true =>
      obtain ⟨e, he, q2⟩ := g
      have he : e ∈ ds := by
        rcases List.mem_cons.mp he with rfl | he
        · rw [q] at q2; cases q2
        · exact he
      obtain ⟨i, v, d', r, h1, h2, h3, h4, h5⟩ := filt_some (us := us) (ds := ds) (by simpa using h) ⟨e, he, q2⟩
      refine ⟨i + 1, v, d', r, by simpa using h1, by simpa using h2, h3, fun x hx => ?_, ?_⟩
      · rw [List.take_succ_cons] at hx
        rcases List.mem_cons.mp hx with rfl | hx
        · exact q
        · exact h4 x hx
      · rw [← h5]
        unfold filtF
        simp [q]
/-- what the rounds of the law look at -/
structure Fin (K : PySem.W.Frag) (b l G B : Addr) (us gus bus : List V) (ds : List PyData) (gs bs : List Vw) (ys : List Str) (H : Hp) : Prop where
  X : Bx b H
  hl : H l = some (.lst us)
  nl : l ≠ b
  mx : MxA K (rmB H b l) us ds
  few : ds.length ≤ 8
  cs : (∃ d ∈ ds, isLitD d = false) ∨ ∃ ls, ds = ls.map litD ∧ ls.length ≤ 6 ∧ (∀ x ∈ ls, LtOk ys 6 x) ∧ Lits H us ls
  hG : H G = some (.lst gus)
  nG : G ≠ b
  VG : VLs H gus gs
  okG : ∀ q ∈ gs, VwOk ys q
  g6 : gs.length ≤ 6
  hB : H B = some (.lst bus)
  nB : B ≠ b
  VB : VLs H bus bs
  okB : ∀ q ∈ bs, VwOk ys q
  b6 : bs.length ≤ 6
theorem Fin.kp {K : PySem.W.Frag} {b l G B : Addr} {us gus bus : List V} {ds : List PyData} {gs bs : List Vw} {ys : List Str} {H H' : Hp} (F : Fin K b l G B us gus bus ds gs bs ys H) (k : Kp b H H') (X : Bx b H') : Fin K b l G B us gus bus ds gs bs ys H' :=
  { F with X := X, hl := k.k _ _ F.nl F.hl, mx := F.mx.ex (rm_kp k), cs := F.cs.imp id fun ⟨ls, h1, h2, h3, h4⟩ => ⟨ls, h1, h2, h3, h4.tp (Tp.kp F.X k)⟩, hG := k.k _ _ F.nG F.hG, VG := F.VG.tp (Tp.kp F.X k), hB := k.k _ _ F.nB F.hB, VB := F.VB.tp (Tp.kp F.X k) }
theorem Fin.ex {K : PySem.W.Frag} {b l G B : Addr} {us gus bus : List V} {ds : List PyData} {gs bs : List Vw} {ys : List Str} {H H' : Hp} (F : Fin K b l G B us gus bus ds gs bs ys H) (e : Ex H H') : Fin K b l G B us gus bus ds gs bs ys H' := F.kp (Kp.ex e) (F.X.ex e)
theorem Ex.kp {b : Addr} {H H1 H2 : Hp} (e : Ex H H1) (nb : H b = none) (k : Kp b H1 H2) : Ex H H2 := fun a o h => k.k a o (fun z => by rw [z, nb] at h; cases h) (e a o h)
theorem cutV_to {xs : List V} {k : Nat} (h : k ≤ xs.length) : cutV xs none (some (k : Int)) = xs.take k := by
  unfold cutV
  rw [HT.sIx_none, HT.sIx_nat, Nat.min_eq_left h]
  simp
theorem rm_lits2 {H : Hp} {b M : Addr} {us vs : List V} {ls : List Lit} (X : Bx b H) (hM : H M = some (.lst vs)) (A : Lits H us ls) : Lits (rmB H b M) us ls := ⟨A.len, fun i l h => by
  obtain ⟨t, h1, h2⟩ := A.at_ i l h
  refine ⟨t, h1, rm_at ⟨fun e => ?_, fun e => ?_⟩ h2⟩
  · obtain ⟨r, m, q, hb, _⟩ := X
    rw [e, hb] at h2
    cases h2
  · rw [e, hM] at h2
    cases h2⟩
/-- what the law has made ahead of the values -/
structure Ph (b c t1 t2 p : Addr) (xs ys : List Str) (us : List V) (ls : List Lit) (H : Hp) : Prop where
  Xb : Bx b H
  Xc : Bx c H
  bc : b ≠ c
  h1 : H t1 = some (.lst (xs.map V.str))
  h2 : H t2 = some (.lst (ys.map V.str))
  hp : H p = some (.lst us)
  L : Lits H us ls
  b1 : t1 ≠ b
  b2 : t2 ≠ b
  bp : p ≠ b
  c1 : t1 ≠ c
  c2 : t2 ≠ c
  cp : p ≠ c
theorem Ph.go {b c t1 t2 p G : Addr} {xs ys : List Str} {us : List V} {ls : List Lit} {H H' : Hp} (h : Ph b c t1 t2 p xs ys us ls H) (gb : G ≠ b) (g1 : G ≠ t1) (g2 : G ≠ t2) (gp : G ≠ p) (k : ∀ a o, a ≠ c → a ≠ G → H a = some o → H' a = some o) (tp : Tp H H') (X : Bx c H') : Ph b c t1 t2 p xs ys us ls H' :=
  { h with Xb := (let ⟨r, m, q, hb, h0⟩ := h.Xb; ⟨r, m, q, k _ _ h.bc gb.symm hb, h0⟩), Xc := X, h1 := k _ _ h.c1 g1.symm h.h1, h2 := k _ _ h.c2 g2.symm h.h2, hp := k _ _ h.cp gp.symm h.hp, L := h.L.tp tp }
theorem Ph.kb {b c t1 t2 p : Addr} {xs ys : List Str} {us : List V} {ls : List Lit} {H H' : Hp} (h : Ph b c t1 t2 p xs ys us ls H) (k : Kp b H H') (X : Bx b H') : Ph b c t1 t2 p xs ys us ls H' :=
  { h with Xb := X, Xc := h.Xc.kp h.bc.symm k, h1 := k.k _ _ h.b1 h.h1, h2 := k.k _ _ h.b2 h.h2, hp := k.k _ _ h.bp h.hp, L := h.L.tp (Tp.kp h.Xb k) }
theorem Ph.ex {b c t1 t2 p : Addr} {xs ys : List Str} {us : List V} {ls : List Lit} {H H' : Hp} (h : Ph b c t1 t2 p xs ys us ls H) (e : Ex H H') : Ph b c t1 t2 p xs ys us ls H' := h.kb (Kp.ex e) (h.Xb.ex e)
/-- a list of values -/
structure GlS (b c G : Addr) (gus : List V) (gs : List Vw) (ys : List Str) (H : Hp) : Prop where
  hG : H G = some (.lst gus)
  nb : G ≠ b
  nc : G ≠ c
  vl : VLs H gus gs
  ok : ∀ q ∈ gs, VwOk ys q
theorem GlS.kb {b c G : Addr} {gus : List V} {gs : List Vw} {ys : List Str} {H H' : Hp} (h : GlS b c G gus gs ys H) (X : Bx b H) (k : Kp b H H') : GlS b c G gus gs ys H' := { h with hG := k.k _ _ h.nb h.hG, vl := h.vl.tp (Tp.kp X k) }
theorem GlS.ex {b c G : Addr} {gus : List V} {gs : List Vw} {ys : List Str} {H H' : Hp} (h : GlS b c G gus gs ys H) (e : Ex H H') : GlS b c G gus gs ys H' := { h with hG := e _ _ h.hG, vl := h.vl.ex e }
theorem GlS.go {b c G B : Addr} {gus : List V} {gs : List Vw} {ys : List Str} {H H' : Hp} (h : GlS b c G gus gs ys H) (ne : G ≠ B) (k : ∀ a o, a ≠ c → a ≠ B → H a = some o → H' a = some o) (tp : Tp H H') : GlS b c G gus gs ys H' := { h with hG := k _ _ h.nc ne h.hG, vl := h.vl.tp tp }
end M6
set_option maxRecDepth 100000
set_option maxHeartbeats 16000000
/-! the law -/
namespace M6
open PySem L2 Evl GP HR SC SetM SetH RQ SetN RQ
def spLaw (K : PySem.W.Frag) : Sp := fun vs H Q _ => ∃ (a : Addr) (ns : List Int), vs = [.ref a] ∧ SqL K H a (ns.map V.int) ∧ ∀ H', Q (.bl true) H'
theorem seq_cut2 {t1 t2 c : TS} {D : Ends} {σ : L2.St} {H : Hp} (Inv : L2.St → Hp → Prop) (h : ∀ N : L2.St → Hp → Prop, (∀ σ' H', Inv σ' H' → N σ' H') → tSeq t1 t2 { nx := N, rt := D.rt, bk := D.bk, ct := D.ct } σ H) (k : ∀ σ' H', Inv σ' H' → c D σ' H') : tSeq t1 (tSeq t2 c) D σ H := h (c D) k
theorem Hd.ex {H H' : Hp} {p : Addr} {us : List V} (h : Hd H p us) (e : Ex H H') : Hd H' p us := h.imp (e _ _) (e _ _)
theorem pick_go {K : PySem.W.Frag} {ts : TA} {fs : List Nat} {size : Int} {σ : L2.St} {b : Addr} {H : Hp} {Q : VK} (ht : ∀ H (Q : List V → Hp → Prop), Q (fs.map natV) H → ts σ H Q) (few : fs.length ≤ 100) (e : size = (fs.length : Int)) (pos : 0 < fs.length) (s1 : σ[1]? = some (some (.ref b))) (X : Bx b H)
    (k : ∀ (n : Nat) H', n ∈ fs → Kp b H H' → Bx b H' → Q (natV n) H') : tOp (rIxL K) (tLst ts) (tCall spDraw [] E0 (tCons (tVar 1) (tCons (tC (.int size)) tNil))) σ H Q := by
  have big : 1000 ≤ sizeLine := by decide
  refine ht _ _ ⟨by rw [List.length_map]; omega, fun f hf => ?_⟩
  have xf := Ex.new (o := .lst (fs.map natV)) hf
  have hf1 : upd H f (.lst (fs.map natV)) f = some (.lst (fs.map natV)) := upd_same
  have nfb := X.ne hf
  have X1 := X.ex xf
  generalize upd H f (.lst (fs.map natV)) = H1 at *
  refine ⟨_, s1, b, size, rfl, X1, by omega, by omega, fun d H2 k2 X2 lo hi => ?_⟩
  have hi2 : d.toNat < fs.length := by omega
  exact ⟨f, _, d, natV fs[d.toNat], rfl, rfl, SqL.of (k2.k _ _ nfb hf1), at_lit (n := d.toNat) (by omega) (by rw [List.getElem?_map, List.getElem?_eq_getElem hi2]; rfl), k _ H2 (List.getElem_mem hi2) ((Kp.ex xf).trans k2) X2⟩
section
variable {P : Program} {w : World} {K : PySem.W.Frag} {mg : Str → Option Value} {base : Heap} {a : Ad} {d : Fd} {fL fC fW fU C fI : Addr} {dI : FuncData}
theorem ok_law (T : TX K mg a) (D : FDS K a d) (R : ER K mg P a fL fC fW) (M : MC K mg C fI dI) (N : MK K C) (Z : EW K a) (EU : PySem.Sup.SupTxt K mg P "UnknownMoment" "name" "not a listed moment" a.cU fU) : FnG P w K mg base 12 a.a_law d.a_law ["script"] (spLaw K) := by
  have G__law_bag : FnOk P w K mg base CX0 1 a.a_law_bag d.a_law_bag ["script", "k"] (spBag K) := ok_law_bag T D
  have G__law_draw : FnOk P w K mg base CX0 1 a.a_law_draw d.a_law_draw ["bag", "size"] spDraw := ok_law_draw T D
  have G__law_names : FnOk P w K mg base CX0 3 a.a_law_names d.a_law_names ["bag"] spNames := ok_law_names T D
  have G__law_literals : FnOk P w K mg base CX0 4 a.a_law_literals d.a_law_literals ["bag", "truths", "moments", "most"] spLits := ok_law_literals T D
  have G__law_values : FnOk P w K mg base CX0 3 a.a_law_values d.a_law_values ["bag", "truths", "moments"] spVals := ok_law_values T D
  have G__law_more : FnOk P w K mg base CX0 3 a.a_law_more d.a_law_more ["bag", "values"] spMore := ok_law_more T D
  have G__law_odd : FnOk P w K mg base CX0 2 a.a_law_odd d.a_law_odd ["bag", "literals", "truths", "moments"] (spOddL K) := ok_law_odd T D
  have G__law_is_good : FnOk P w K mg base CX0 3 a.a_law_is_good d.a_law_is_good ["one"] (spGoodL K) := ok_law_is_good T D
  have G__law_handed : FnOk P w K mg base CX0 1 a.a_law_handed d.a_law_handed ["rows", "shape"] spHanded := ok_law_handed T D
  have G__law_asked : FnOk P w K mg base CX0 11 a.a_law_asked d.a_law_asked ["good", "bad", "literals", "count"] (spAsked K) := ok_law_asked T D R M N Z EU
  have G__law_fit_clauses : FnOk P w K mg base CX0 2 a.a_law_fit_clauses d.a_law_fit_clauses ["good", "bad", "literals", "count"] (spFitC K) := ok_law_fit_clauses T D
  refine okG D.F_law sc_law (fun vs H Q E h => ?_) (fun cdv A outer s H vs Q E hr gd h => ?_)
  · obtain ⟨a, ns, rfl, _⟩ := h
    rfl
  · obtain ⟨a0, ns, rfl, ha, fin⟩ := h
    refine ⟨_, (pss_cons (ps_set (i := 1) sc_law.nd rfl (Or.inl rfl) (pe_call G__law_bag (hr.mono (by decide)) rfl T.f__law_bag T.k__law_bag D.B__law_bag .nil pass0 (pa_cons (pv 0) (pa_cons pe_int pa_nil))))
        (pss_cons (ps_asg (pe_call G__law_names (hr.mono (by decide)) rfl T.f__law_names T.k__law_names D.B__law_names .nil pass0 (pa_cons (pv 1) pa_nil)) (pg_tup rfl (pgs_cons (pg_name (i := 2) sc_law.nd rfl (Or.inl rfl)) (pgs_cons (pg_name (i := 3) sc_law.nd rfl (Or.inl rfl)) pgs_nil))))
        (pss_cons (ps_set (i := 4) sc_law.nd rfl (Or.inl rfl) (pe_slice sl_list (pv 3) po_none (po_some pe_int)))
        (pss_cons (ps_set (i := 5) sc_law.nd rfl (Or.inl rfl) (pe_ix (ix_listK (K := K)) (pe_lst (pa_cons pe_int (pa_cons pe_int (pa_cons pe_int (pa_cons pe_int (pa_cons pe_int (pa_cons pe_int (pa_cons pe_int (pa_cons pe_int pa_nil))))))))) (pe_call G__law_draw (hr.mono (by decide)) rfl T.f__law_draw T.k__law_draw D.B__law_draw .nil pass0 (pa_cons (pv 1) (pa_cons pe_int pa_nil))) (fun _ _ => rfl)))
        (pss_cons (ps_set (i := 6) sc_law.nd rfl (Or.inl rfl) (pe_call G__law_literals (hr.mono (by decide)) rfl T.f__law_literals T.k__law_literals D.B__law_literals .nil pass0 (pa_cons (pe_call G__law_bag (hr.mono (by decide)) rfl T.f__law_bag T.k__law_bag D.B__law_bag .nil pass0 (pa_cons (pv 0) (pa_cons pe_int pa_nil))) (pa_cons (pv 2) (pa_cons (pv 4) (pa_cons (pv 5) pa_nil))))))
        (pss_cons (ps_set (i := 7) sc_law.nd rfl (Or.inl rfl) (pe_call G__law_bag (hr.mono (by decide)) rfl T.f__law_bag T.k__law_bag D.B__law_bag .nil pass0 (pa_cons (pv 0) (pa_cons pe_int pa_nil))))
        (pss_cons (ps_set (i := 8) sc_law.nd rfl (Or.inl rfl) (pe_lst pa_nil))
        (pss_cons (ps_for PassesOwn.never rfl (pi_range1 rfl T.b_range (pa_cons (pe_ix (ix_listK (K := K)) (pe_lst (pa_cons pe_int (pa_cons pe_int (pa_cons pe_int (pa_cons pe_int (pa_cons pe_int (pa_cons pe_int (pa_cons pe_int (pa_cons pe_int pa_nil))))))))) (pe_call G__law_draw (hr.mono (by decide)) rfl T.f__law_draw T.k__law_draw D.B__law_draw .nil pass0 (pa_cons (pv 1) (pa_cons pe_int pa_nil))) (fun _ _ => rfl)) pa_nil)) (pg_name (i := 9) sc_law.nd rfl (Or.inl rfl)) (pss_one (ps_expr (pe_bm PySem.F.plainAttrs_list PySem.F.slot_list_append PySem.F.type_list_append mt_append (pv 8) (pa_cons (pe_call G__law_more (hr.mono (by decide)) rfl T.f__law_more T.k__law_more D.B__law_more .nil pass0 (pa_cons (pv 7) (pa_cons (pe_call G__law_values (hr.mono (by decide)) rfl T.f__law_values T.k__law_values D.B__law_values .nil pass0 (pa_cons (pv 7) (pa_cons (pv 2) (pa_cons (pv 4) pa_nil)))) pa_nil))) pa_nil)))))
        (pss_cons (ps_set (i := 10) sc_law.nd rfl (Or.inl rfl) (pe_lst pa_nil))
        (pss_cons (ps_for PassesOwn.never rfl (pi_range1 rfl T.b_range (pa_cons (pe_ix (ix_listK (K := K)) (pe_lst (pa_cons pe_int (pa_cons pe_int (pa_cons pe_int (pa_cons pe_int (pa_cons pe_int (pa_cons pe_int (pa_cons pe_int (pa_cons pe_int pa_nil))))))))) (pe_call G__law_draw (hr.mono (by decide)) rfl T.f__law_draw T.k__law_draw D.B__law_draw .nil pass0 (pa_cons (pv 1) (pa_cons pe_int pa_nil))) (fun _ _ => rfl)) pa_nil)) (pg_name (i := 9) sc_law.nd rfl (Or.inl rfl)) (pss_one (ps_expr (pe_bm PySem.F.plainAttrs_list PySem.F.slot_list_append PySem.F.type_list_append mt_append (pv 10) (pa_cons (pe_call G__law_more (hr.mono (by decide)) rfl T.f__law_more T.k__law_more D.B__law_more .nil pass0 (pa_cons (pv 7) (pa_cons (pe_call G__law_values (hr.mono (by decide)) rfl T.f__law_values T.k__law_values D.B__law_values .nil pass0 (pa_cons (pv 7) (pa_cons (pv 2) (pa_cons (pv 4) pa_nil)))) pa_nil))) pa_nil)))))
        (pss_cons (ps_if (pt_cmpR op_eq (pe_call G__law_draw (hr.mono (by decide)) rfl T.f__law_draw T.k__law_draw D.B__law_draw .nil pass0 (pa_cons (pv 1) (pa_cons pe_int pa_nil))) pe_int (nomark _)) (pss_one (ps_set (i := 6) sc_law.nd rfl (Or.inl rfl) (pe_call G__law_odd (hr.mono (by decide)) rfl T.f__law_odd T.k__law_odd D.B__law_odd .nil pass0 (pa_cons (pv 1) (pa_cons (pv 6) (pa_cons (pv 2) (pa_cons (pv 4) pa_nil))))))) pss_nil)
        (pss_cons (ps_setLc (i := 11) (own := [("one", 19)]) (g := gName 19) rfl sc_law.nd rfl rfl (sw_true rfl rfl rfl (by decide +kernel)) (pi_list (pv 6)) (blkOk_by (N := ["script", "bag", "truths", "names", "moments", "many", "literals", "cells", "good", "k", "bad", "odd", "shape", "count", "rows", "goods", "bads", "told", "due", "one"]) (sc := defScope s_law) (by decide +kernel)) (fun _ _ _ _ _ => (pg_name (i := 19) sc_law.nd rfl (Or.inl rfl))) (fun _ _ _ _ _ => (pts_one (pt_not (pt_val (pe_call G__law_is_good (hr.mono (by decide)) rfl T.f__law_is_good T.k__law_is_good D.B__law_is_good .nil pass0 (pa_cons (pv 19) pa_nil)))))) (fun _ _ _ _ _ => (pv 19)))
        (pss_cons (ps_set (i := 12) sc_law.nd rfl (Or.inl rfl) (pe_call G__law_draw (hr.mono (by decide)) rfl T.f__law_draw T.k__law_draw D.B__law_draw .nil pass0 (pa_cons (pv 1) (pa_cons pe_int pa_nil))))
        (pss_cons (ps_for PassesOwn.never rfl (pi_range1 rfl T.b_range (pa_cons pe_int pa_nil)) (pg_name (i := 9) sc_law.nd rfl (Or.inl rfl)) (pss_cons (ps_set (i := 13) sc_law.nd rfl (Or.inl rfl) (pe_ix (ix_listK (K := K)) (pe_lst (pa_cons pe_int (pa_cons pe_int (pa_cons pe_int (pa_cons pe_int (pa_cons pe_int pa_nil)))))) (pe_call G__law_draw (hr.mono (by decide)) rfl T.f__law_draw T.k__law_draw D.B__law_draw .nil pass0 (pa_cons (pv 1) (pa_cons pe_int pa_nil))) (fun _ _ => rfl)))
        (pss_cons (ps_set (i := 14) sc_law.nd rfl (Or.inl rfl) (pe_call G__law_handed (hr.mono (by decide)) rfl T.f__law_handed T.k__law_handed D.B__law_handed .nil pass0 (pa_cons (pv 6) (pa_cons (pe_op op_modN (pe_callTy call_int1 (by rfl) T.b_int (by decide +kernel) (pa_cons (pv 12) pa_nil)) pe_int) pa_nil))))
        (pss_cons (ps_set (i := 15) sc_law.nd rfl (Or.inl rfl) (pe_call G__law_handed (hr.mono (by decide)) rfl T.f__law_handed T.k__law_handed D.B__law_handed .nil pass0 (pa_cons (pv 8) (pa_cons (pe_op op_modN (pe_callTy call_int1 (by rfl) T.b_int (by decide +kernel) (pa_cons (pe_op op_fdivN (pv 12) pe_int) pa_nil)) pe_int) pa_nil))))
        (pss_cons (ps_set (i := 16) sc_law.nd rfl (Or.inl rfl) (pe_call G__law_handed (hr.mono (by decide)) rfl T.f__law_handed T.k__law_handed D.B__law_handed .nil pass0 (pa_cons (pv 10) (pa_cons (pe_op op_fdivN (pv 12) pe_int) pa_nil))))
        (pss_cons (ps_set (i := 17) sc_law.nd rfl (Or.inl rfl) (pe_call G__law_asked (hr.mono (by decide)) rfl T.f__law_asked T.k__law_asked D.B__law_asked .nil pass0 (pa_cons (pv 15) (pa_cons (pv 16) (pa_cons (pv 14) (pa_cons (pv 13) pa_nil))))))
        (pss_cons (ps_if (pt_cmpR op_gt (pe_callB call_len_seq (by rfl) T.b_len (by decide +kernel) (pa_cons (pv 11) pa_nil)) pe_int (nomark _)) (pss_one (ps_set (i := 18) sc_law.nd rfl (Or.inl rfl) (pe_tup (pa_cons pe_str (pa_cons (pe_ix (ix_listK (K := K)) (pv 11) pe_int (fun _ _ => rfl)) (pa_cons pe_bl (pa_cons pe_bl pa_nil))))))) (pss_one (ps_set (i := 18) sc_law.nd rfl (Or.inl rfl) (pe_call G__law_fit_clauses (hr.mono (by decide)) rfl T.f__law_fit_clauses T.k__law_fit_clauses D.B__law_fit_clauses .nil pass0 (pa_cons (pv 8) (pa_cons (pv 10) (pa_cons (pv 6) (pa_cons (pv 13) pa_nil))))))))
        (pss_cons (ps_if (pt_cmpR op_ne (pe_callB (cr_reprA gd (hu70 hr)) (by rfl) T.b_repr (by decide +kernel) (pa_cons (pv 17) pa_nil)) (pe_callB (cr_reprA gd (hu70 hr)) (by rfl) T.b_repr (by decide +kernel) (pa_cons (pv 18) pa_nil)) (nomark _)) (pss_one (ps_ret pe_bl)) pss_nil)
        (pss_cons (ps_if (PW.pt (pw_or (pt_cmpR op_ne (pe_callB (cr_reprA gd (hu70 hr)) (by rfl) T.b_repr (by decide +kernel) (pa_cons (pe_callTy call_list_of (by rfl) T.b_list (by decide +kernel) (pa_cons (pv 14) pa_nil)) pa_nil)) (pe_callB (cr_reprA gd (hu70 hr)) (by rfl) T.b_repr (by decide +kernel) (pa_cons (pv 6) pa_nil)) (nomark _)) (pw_or1 (pt_cmpR op_ne (pe_callB (cr_reprA gd (hu70 hr)) (by rfl) T.b_repr (by decide +kernel) (pa_cons (pe_callTy call_list_of (by rfl) T.b_list (by decide +kernel) (pa_cons (pv 15) pa_nil)) pa_nil)) (pe_callB (cr_reprA gd (hu70 hr)) (by rfl) T.b_repr (by decide +kernel) (pa_cons (pv 8) pa_nil)) (nomark _))))) (pss_one (ps_ret pe_bl)) pss_nil)
        (pss_one (ps_if (pt_cmpR op_ne (pe_callB (cr_reprA gd (hu70 hr)) (by rfl) T.b_repr (by decide +kernel) (pa_cons (pe_callTy call_list_of (by rfl) T.b_list (by decide +kernel) (pa_cons (pv 16) pa_nil)) pa_nil)) (pe_callB (cr_reprA gd (hu70 hr)) (by rfl) T.b_repr (by decide +kernel) (pa_cons (pv 10) pa_nil)) (nomark _)) (pss_one (ps_ret pe_bl)) pss_nil)))))))))))
        (pss_one (ps_ret pe_bl)))))))))))))))), ?_⟩
    have big : 1000 ≤ sizeLine := by decide
    refine ⟨_, rfl, a0, ns, 0, rfl, ha, by decide, fun b H1 e1 nb X1 => ?_⟩
    refine nm_go ?_
    dsimp only
    refine ⟨_, rfl, b, rfl, X1, fun t l1 l2 xs ys H2 k2 X2 ht h1 h2 n1 n2 x3 y5 xn yn nd => ?_⟩
    have e02 : Ex H H2 := Ex.kp e1 nb k2
    refine ⟨t, _, rfl, SqT.of ht, rfl, _, _, rfl, _, _, rfl, rfl, _, rfl, 3, rfl, l2, _, rfl, SqL.of h2, fun mm hmm => ?_⟩
    have cut3 : cutV (ys.map V.str) none (some 3) = (ys.take 3).map V.str := by
      rw [List.map_take]
      exact cutV_to (k := 3) (by rw [List.length_map, y5]; decide)
    have hm3 : upd H2 mm (.lst (cutV (ys.map V.str) none (some 3))) mm = some (.lst ((ys.take 3).map V.str)) := by rw [upd_same, cut3]
    have e3 := Ex.new (o := .lst (cutV (ys.map V.str) none (some 3))) hmm
    have X3 := X2.ex e3
    have h13 := e3 _ _ h1
    have nmb := X2.ne hmm
    generalize upd H2 mm (.lst (cutV (ys.map V.str) none (some 3))) = H3 at *
    have e03 := e02.trans e3
    have y3 : (ys.take 3).length = 3 := by rw [List.length_take, y5]; rfl
    have yn3 : ∀ z ∈ ys.take 3, isNameS z = true := fun z hz => (yn z (List.mem_of_mem_take hz)).1
    have yz3 : ∀ z ∈ ys.take 3, z ≠ "zzz0zzz0" := fun z hz => (yn z (List.mem_of_mem_take hz)).2
    have nd3 : (ys.take 3).Nodup := nd.sublist (List.take_sublist 3 ys)
    generalize ys.take 3 = zs at *
    have WW : ∀ {b' : Addr} {H' : Hp}, H' l1 = some (.lst (xs.map V.str)) → H' mm = some (.lst (zs.map V.str)) → l1 ≠ b' → mm ≠ b' → Wld b' l1 mm xs zs H' := fun q1 q2 q3 q4 => ⟨q1, q2, q3, q4, x3, y3, xn, yn3, nd3, yz3⟩
    refine nm_go ?_
    dsimp only
    refine pick_go (fs := [1, 2, 3, 0, 4, 6, 2, 5]) (fun _ _ q => q) (by decide) rfl (by decide) rfl X3 fun many H4 hmany k4 X4 => ?_
    have m6 : many ≤ 6 := (by decide : ∀ n ∈ [1, 2, 3, 0, 4, 6, 2, 5], n ≤ 6) _ hmany
    have h14 := k4.k _ _ n1 h13
    have hm4 := k4.k _ _ nmb hm3
    have e04 : Ex H H4 := Ex.kp e03 nb k4
    clear hmany
    refine nm_go ?_
    dsimp only
    refine ⟨_, rfl, a0, ns, 1, rfl, ex_l e04 ha, by decide, fun b1 H5 e5 nb1 X5 => ?_⟩
    refine ⟨_, rfl, _, rfl, _, rfl, b1, l1, mm, xs, zs, many, rfl, X5, WW (e5 _ _ h14) (e5 _ _ hm4) (ne_of_none h14 nb1) (ne_of_none hm4 nb1), m6, fun p us ls H6 k6 X6 np hp L6 ll ok6 => ?_⟩
    have e46 : Ex H4 H6 := Ex.kp e5 nb1 k6
    have e06 := e04.trans e46
    have X6b := X4.ex e46
    have npb : p ≠ b := X4.ne (fresh_back e5 np)
    have h16 := e46 _ _ h14
    have hm6 := e46 _ _ hm4
    refine nm_go ?_
    dsimp only
    refine ⟨_, rfl, a0, ns, 2, rfl, ex_l e06 ha, by decide, fun c H7 e7 nc X7 => ?_⟩
    have Ph7 : Ph b c l1 mm p xs zs us ls H7 := ⟨X6b.ex e7, X7, fun z => X6b.ne nc z.symm, e7 _ _ h16, e7 _ _ hm6, e7 _ _ hp, L6.ex e7, n1, nmb, npb, ne_of_none h16 nc, ne_of_none hm6 nc, ne_of_none hp nc⟩
    refine nm_go ?_
    dsimp only
    refine ⟨(by show 0 ≤ sizeLine; decide), fun G hG => ?_⟩
    have x8 := Ex.new (o := .lst []) hG
    have Gl8 : GlS b c G [] [] zs (upd H7 G (.lst [])) := ⟨upd_same, Ph7.Xb.ne hG, Ph7.Xc.ne hG, VLs.nil, fun _ h => absurd h List.not_mem_nil⟩
    have Ph8 := Ph7.ex x8
    have g1 : G ≠ l1 := (ne_of_none Ph7.h1 hG).symm
    have g2 : G ≠ mm := (ne_of_none Ph7.h2 hG).symm
    have gp : G ≠ p := (ne_of_none Ph7.hp hG).symm
    generalize upd H7 G (.lst []) = H8 at *
    clear X1 X2 X3 X4 X5 X6 X6b X7 ht h1 h2 h13 hm3 h14 hm4 h16 hm6 hp L6 k2 k4 k6 e1 e3 e5 e7 e46 e04 e03 e02 e06
    refine nm_go ?_
    dsimp only
    refine seqFor rfl ?_
    refine pick_go (fs := [1, 2, 0, 3, 1, 4, 6, 2]) (fun _ _ q => q) (by decide) rfl (by decide) rfl Ph8.Xb fun n H9 hn k9 X9 => ?_
    have n6 : n ≤ 6 := (by decide : ∀ n ∈ [1, 2, 0, 3, 1, 4, 6, 2], n ≤ 6) _ hn
    clear hn
    have Ph9 := Ph8.kb k9 X9
    have Gl9 := Gl8.kb Ph8.Xb k9
    refine ⟨(n : Int), rfl, by omega, by omega, for_it (walk_range (lo := 0) (n := n)) (fun i σ H' => ∃ (gus : List V) (gs : List Vw) (o9 : Option V), σ = [some (.ref a0), some (.ref b), some (.ref l1), some (.ref l2), some (.ref mm), some (natV many), some (.ref p), some (.ref c), some (.ref G), o9, none, none, none, none, none, none, none, none, none, none] ∧ Ph b c l1 mm p xs zs us ls H' ∧ GlS b c G gus gs zs H' ∧ gs.length = i) ⟨[], [], none, rfl, Ph9, Gl9, rfl⟩ (fun _ _ _ _ _ => trivial) ?_ ?_⟩
    · rintro i v σ H10 H10' hi ⟨gus, gs, o9, rfl, Ph10, Gl10, le⟩ ⟨rfl, hv⟩
      refine nm_go ?_
      dsimp only
      have hi : i < n := hi
      refine grow (K := K) (i := 8) rfl rfl rfl rfl Ph10.Xc (WW Ph10.h1 Ph10.h2 Ph10.c1 Ph10.c2) Gl10.hG Gl10.nc (by omega) Gl10.vl fun v q H11 k11 tp11 X11 hG11 VL11 ok11 => ?_
      refine ⟨_, gs ++ [q], _, rfl, Ph10.go Gl10.nb g1 g2 gp k11 tp11 X11, ⟨hG11, Gl10.nb, Gl10.nc, VL11, fun z hz => ?_⟩, by rw [List.length_append, le]; rfl⟩
      rcases List.mem_append.mp hz with hz | hz
      · exact Gl10.ok z hz
      · rw [List.mem_singleton.mp hz]; exact ok11
    rintro σ H10 ⟨gus, gs, o9, rfl, Ph10, Gl10, le⟩
    have g6 : gs.length ≤ 6 := by rw [le]; omega
    clear le Ph9 Gl9 Ph8 Gl8 k9 X9
    dsimp only
    refine ⟨(by show 0 ≤ sizeLine; decide), fun B hB => ?_⟩
    have x11 := Ex.new (o := .lst []) hB
    have Bl11 : GlS b c B [] [] zs (upd H10 B (.lst [])) := ⟨upd_same, Ph10.Xb.ne hB, Ph10.Xc.ne hB, VLs.nil, fun _ h => absurd h List.not_mem_nil⟩
    have Ph11 := Ph10.ex x11
    have Gl11 := Gl10.ex x11
    have b1' : B ≠ l1 := (ne_of_none Ph10.h1 hB).symm
    have b2' : B ≠ mm := (ne_of_none Ph10.h2 hB).symm
    have bp' : B ≠ p := (ne_of_none Ph10.hp hB).symm
    have bG' : G ≠ B := ne_of_none Gl10.hG hB
    generalize upd H10 B (.lst []) = H11 at *
    clear Ph10 Gl10
    refine nm_go ?_
    dsimp only
    refine seqFor rfl ?_
    refine pick_go (fs := [1, 0, 2, 3, 4, 1, 2, 6]) (fun _ _ q => q) (by decide) rfl (by decide) rfl Ph11.Xb fun n2 H12 hn k12 X12 => ?_
    have n26 : n2 ≤ 6 := (by decide : ∀ n ∈ [1, 0, 2, 3, 4, 1, 2, 6], n ≤ 6) _ hn
    clear hn
    refine ⟨(n2 : Int), rfl, by omega, by omega, for_it (walk_range (lo := 0) (n := n2)) (fun i σ H' => ∃ (bus : List V) (bs : List Vw) (o9 : Option V), σ = [some (.ref a0), some (.ref b), some (.ref l1), some (.ref l2), some (.ref mm), some (natV many), some (.ref p), some (.ref c), some (.ref G), o9, some (.ref B), none, none, none, none, none, none, none, none, none] ∧ Ph b c l1 mm p xs zs us ls H' ∧ GlS b c G gus gs zs H' ∧ GlS b c B bus bs zs H' ∧ bs.length = i) ⟨[], [], _, rfl, Ph11.kb k12 X12, Gl11.kb Ph11.Xb k12, Bl11.kb Ph11.Xb k12, rfl⟩ (fun _ _ _ _ _ => trivial) ?_ ?_⟩
    · rintro i v σ H13 H13' hi ⟨bus, bs, o9, rfl, Ph13, Gl13, Bl13, le⟩ ⟨rfl, hv⟩
      refine nm_go ?_
      dsimp only
      have hi : i < n2 := hi
      refine grow (K := K) (i := 10) rfl rfl rfl rfl Ph13.Xc (WW Ph13.h1 Ph13.h2 Ph13.c1 Ph13.c2) Bl13.hG Bl13.nc (by omega) Bl13.vl fun v q H14 k14 tp14 X14 hG14 VL14 ok14 => ?_
      refine ⟨_, bs ++ [q], _, rfl, Ph13.go Bl13.nb b1' b2' bp' k14 tp14 X14, Gl13.go bG' k14 tp14, ⟨hG14, Bl13.nb, Bl13.nc, VL14, fun z hz => ?_⟩, by rw [List.length_append, le]; rfl⟩
      rcases List.mem_append.mp hz with hz | hz
      · exact Bl13.ok z hz
      · rw [List.mem_singleton.mp hz]; exact ok14
    rintro σ H13 ⟨bus, bs, o9, rfl, Ph13, Gl13, Bl13, le⟩
    have b6 : bs.length ≤ 6 := by rw [le]; omega
    clear le Ph11 Gl11 Bl11 k12 X12
    dsimp only
    refine seq_cut (fun σ' H' => ∃ (l : Addr) (us' : List V) (ds : List PyData), σ' = [some (.ref a0), some (.ref b), some (.ref l1), some (.ref l2), some (.ref mm), some (natV many), some (.ref l), some (.ref c), some (.ref G), o9, some (.ref B), none, none, none, none, none, none, none, none, none] ∧ Fin K b l G B us' gus bus ds gs bs zs H') (fun N hN => ?_) (fun σ' H14 h14 => ?_)
    · refine ⟨_, rfl, b, 4, rfl, Ph13.Xb, by decide, by decide, fun d14 H14 k14 X14 _ _ => ?_⟩
      have Ph14 := Ph13.kb k14 X14
      have Gl14 := Gl13.kb Ph13.Xb k14
      have Bl14 := Bl13.kb Ph13.Xb k14
      have okl : ∀ x ∈ ls, LitOk x := fun x hx => (ok6 x hx).ok
      have MX : MxA K (rmB H14 b p) us (ls.map litD) := MxA.of (rm_lits2 X14 Ph14.hp Ph14.L) okl
      refine ⟨rfl, _, rfl, ite2 (fun g => ?_) (fun g => hN _ _ ⟨p, us, ls.map litD, rfl, ⟨Ph14.Xb, Ph14.hp, Ph14.bp, MX, by rw [List.length_map]; omega, .inr ⟨ls, rfl, by omega, ok6, Ph14.L⟩, Gl14.hG, Gl14.nb, Gl14.vl, Gl14.ok, g6, Bl14.hG, Bl14.nb, Bl14.vl, Bl14.ok, b6⟩⟩)⟩
      refine ⟨_, rfl, _, rfl, _, rfl, _, rfl, b, p, l1, mm, xs, zs, us, ls, rfl, X14, WW Ph14.h1 Ph14.h2 Ph14.b1 Ph14.b2, Ph14.hp, Ph14.L, okl, by omega, fun l us' ds H15 k15 X15 nl hl MX2 few bad => ?_⟩
      have Gl15 := Gl14.kb X14 k15
      have Bl15 := Bl14.kb X14 k15
      exact hN _ _ ⟨l, us', ds, rfl, ⟨X15, hl, X14.ne nl, MX2, few, .inl bad, Gl15.hG, Gl15.nb, Gl15.vl, Gl15.ok, g6, Bl15.hG, Bl15.nb, Bl15.vl, Bl15.ok, b6⟩⟩
    · obtain ⟨l, us', ds, rfl, F14⟩ := h14
      clear Ph13 Gl13 Bl13
      have lud := F14.mx.len
      have few8 := F14.few
      have DP14 := F14.mx.dp
      refine ⟨_, rfl, l, rfl, ⟨us', SqL.of F14.hl⟩, fun O hO => ?_⟩
      have nOb := F14.X.ne hO
      refine lc_it (H1 := H14) (D := O) (walk_list (xs := us')) (fun i H' => Ex H14 H' ∧ H' O = some (.lst (filtF (us'.take i) (ds.take i)))) ⟨Ex.new hO, upd_same⟩ (fun i H' _ h => SqL.of (h.1 _ _ F14.hl)) ?_ (fun H15 h => ?_)
      · rintro i x H15 H15' hi ⟨e15, hO15⟩ ⟨rfl, hx⟩
        obtain ⟨d, hd, D15⟩ := DpAll.get DP14 hx
        have it := F14.mx.it d (List.mem_of_getElem? hd)
        have ft := filt_take hx hd
        have fl := filt_len (us'.take i) (ds.take i)
        have ul : (us'.take i).length ≤ 8 := by rw [List.length_take]; omega
        unfold gName
        dsimp only
        refine ⟨rfl, ?_⟩
        refine ⟨_, rfl, x, d, rfl, Dp.ex e15 (Dp.ex rm_sub D15), it.sz, fun H16 e16 => ⟨_, rfl, ?_⟩⟩
        rw [ft]
        cases q : isLitD d with
        | true => exact iteF' rfl ⟨e15.trans e16, by rw [if_pos rfl, List.append_nil]; exact e16 _ _ hO15⟩
        | false => exact iteT' rfl ⟨_, rfl, _, e16 _ _ hO15, by omega, Ex.mut (e15.trans e16) hO, by rw [upd_same]; rfl⟩
      obtain ⟨e15, hO15⟩ := h
      have F15 := F14.ex e15
      rw [List.take_length, lud, List.take_length] at hO15
      clear F14 DP14 e15 hO
      refine nm_go ?_
      dsimp only
      refine ⟨_, rfl, b, 8, rfl, F15.X, by decide, by decide, fun sh H16 k16 X16 sh0 sh8 => ?_⟩
      have F16 := F15.kp k16 X16
      have hO16 := k16.k _ _ nOb hO15
      clear F15 hO15 k16
      refine nm_go ?_
      dsimp only
      refine ⟨2, rfl, by omega, by omega, for_it (walk_range (lo := 0) (n := 2)) (fun i σ H' => ∃ (o9 o13 o14 o15 o16 o17 o18 : Option V), σ = [some (.ref a0), some (.ref b), some (.ref l1), some (.ref l2), some (.ref mm), some (natV many), some (.ref l), some (.ref c), some (.ref G), o9, some (.ref B), some (.ref O), some (.int sh), o13, o14, o15, o16, o17, o18, none] ∧ Fin K b l G B us' gus bus ds gs bs zs H' ∧ H' O = some (.lst (filtF us' ds))) ⟨_, _, _, _, _, _, _, rfl, F16, hO16⟩ (fun _ _ _ _ _ => trivial) ?_ ?_⟩
      · rintro i v σ H17 H17' hi ⟨o9, o13, o14, o15, o16, o17, o18, rfl, F17, hO17⟩ ⟨rfl, hv⟩
        refine nm_go ?_
        dsimp only
        refine pick_go (fs := [1, 2, 0, 3, 4]) (fun _ _ q => q) (by decide) rfl (by decide) rfl F17.X fun n H18 hn k18 X18 => ?_
        have n4 : n ≤ 4 := (by decide : ∀ n ∈ [1, 2, 0, 3, 4], n ≤ 4) _ hn
        have F18 := F17.kp k18 X18
        have hO18 := k18.k _ _ nOb hO17
        clear hn k18 F17 hO17
        refine nm_go ?_
        dsimp only
        refine ⟨_, rfl, _, rfl, .inl ⟨_, rfl, _, _, rfl, rfl, (by show (2 : Int) ≠ 0; decide), l, _, us', rfl, F18.hl, fun r H19 e19 nr hr19 => ?_⟩⟩
        refine nm_go ?_
        dsimp only
        have F19 := F18.ex e19
        refine ⟨_, rfl, _, rfl, _, _, rfl, rfl, ⟨(by decide : (2 : Int) ≠ 0), (by decide : (2 : Int).natAbs < 1073741824)⟩, .inl ⟨_, rfl, _, _, rfl, rfl, (by show (2 : Int) ≠ 0; decide), G, _, gus, rfl, F19.hG, fun g H20 e20 ng hg20 => ?_⟩⟩
        refine nm_go ?_
        dsimp only
        have F20 := F19.ex e20
        refine ⟨_, rfl, _, rfl, _, _, rfl, rfl, ⟨(by decide : (4 : Int) ≠ 0), (by decide : (4 : Int).natAbs < 1073741824)⟩, B, _, bus, rfl, F20.hB, fun bd H21 e21 nbd hb21 => ?_⟩
        refine nm_go ?_
        dsimp only
        have F21 := F20.ex e21
        have hr21 : Hd H21 r us' := (hr19.ex e20).ex e21
        have hg21 : Hd H21 g gus := hg20.ex e21
        have hO21 := e21 _ _ (e20 _ _ (e19 _ _ hO18))
        clear F18 F19 F20 hr19 hg20 hO18 e19 e20 e21
        refine seq_cut2 (fun σ' H' => ∃ (t u : Addr) (dd : PyData) (o9 : Option V), σ' = [some (.ref a0), some (.ref b), some (.ref l1), some (.ref l2), some (.ref mm), some (natV many), some (.ref l), some (.ref c), some (.ref G), o9, some (.ref B), some (.ref O), some (.int sh), some (natV n), some (.ref r), some (.ref g), some (.ref bd), some (.ref t), some (.ref u), none] ∧ Ex H21 H' ∧ Dp K H' (.ref t) dd ∧ Dp K H' (.ref u) dd ∧ Rp 4 12000000 dd) (fun N hN => ?_) (fun σ' H22 h22 => ?_)
        · refine ⟨_, rfl, _, rfl, _, rfl, _, rfl, g, bd, r, n, gus, bus, us', gs, bs, rfl, hg21.seq, F21.VG, hb21.seq, F21.VB, n4, F21.g6, F21.b6, hr21.seq, ?_⟩
          rcases F21.cs with bad | ⟨ls', e, l6, ok', L'⟩
          · obtain ⟨j, v, dv, rr, hv', hd', nl', bef, ff⟩ := filt_some lud bad
            obtain ⟨ls', e1', L1, ok1⟩ := (mxa_take j F21.mx).lits bef
            obtain ⟨dv', hdv, Mv⟩ := F21.mx.get hv'
            have ed : dv' = dv := Option.some.inj (hdv.symm.trans hd')
            subst ed
            refine .inr ⟨ls', j, v, hv', .inl ⟨dv', Dp.ex rm_sub Mv.1, Mv.2.1.sz, nl'⟩, ⟨L1.len, fun x q hq => let ⟨t, h1, h2⟩ := L1.at_ x q hq; ⟨t, h1, rm_sub _ _ h2⟩⟩, ok1, fun t H22 e22 ht => ?_⟩
            rw [ff] at hO21
            refine nm_go ?_
            dsimp only
            refine ⟨_, rfl, O, _, rfl, .inl (SqL.of (e22 _ _ hO21)), _, _, rfl, rfl, _, rfl, iteT' (decide_eq_true (by simp)) ?_⟩
            refine ⟨_, rfl, O, _, 0, _, rfl, rfl, SqL.of (e22 _ _ hO21), at_lit (n := 0) rfl rfl, (by show 4 ≤ sizeLine; decide), fun u hu => ?_⟩
            refine nm_go ?_
            have xu := Ex.new (o := .tup [V.str "refused", v, .bl true, .bl true]) hu
            have Dv : Dp K H22 v dv' := Dp.ex e22 (Dp.ex rm_sub Mv.1)
            exact hN _ _ ⟨t, u, .tuple [.str "refused", dv', .bool true, .bool true], _, rfl, e22.trans xu, .tup (SqT.of (xu _ _ ht)) (.cons (.str _) (.cons (Dp.ex xu Dv) (.cons (.bl _) (.cons (.bl _) .nil)))), .tup (SqT.of upd_same) (.cons (.str _) (.cons (Dp.ex xu Dv) (.cons (.bl _) (.cons (.bl _) .nil)))), rp_refused Mv.2.1⟩
          · have okl : ∀ x ∈ ls', LitOk x := fun x hx => (ok' x hx).ok
            have nms : ∀ q, q ∈ gs ∨ q ∈ bs → ∀ x ∈ ls', ∀ z ∈ namesOf x, z ∈ q.2.map Prod.fst := fun q hq x hx z hz => by
              rcases hq with hq | hq
              · exact (F21.okG q hq).sub z ((ok' x hx).nm z hz)
              · exact (F21.okB q hq).sub z ((ok' x hx).nm z hz)
            refine .inl ⟨ls', L', okl, l6, nms, fun t us1 ds1 la H22 e22 ht CL asc nf mem => ?_⟩
            rw [filt_none (fun d hd => by
              rw [e] at hd
              obtain ⟨x, hx, rfl⟩ := List.mem_map.mp hd
              exact lit_is (okl x hx))] at hO21
            refine nm_go ?_
            dsimp only
            refine ⟨_, rfl, O, _, rfl, .inl (SqL.of (e22 _ _ hO21)), _, _, rfl, rfl, _, rfl, iteF' rfl ?_⟩
            have F22 := F21.ex e22
            refine ⟨_, rfl, _, rfl, _, rfl, _, rfl, G, B, l, n, gus, bus, us', gs, bs, ls', rfl, SqL.of F22.hG, F22.VG, SqL.of F22.hB, F22.VB, n4, F22.g6, F22.b6, SqL.of F22.hl, L'.ex e22, okl, l6, nms, fun u us2 ds2 lb H23 e23 hu CL2 asc2 nf2 mem2 => ?_⟩
            refine nm_go ?_
            obtain rfl : la = lb := ascL_same nf.1 nf2.1 fun z => (nf.2 z).trans (nf2.2 z).symm
            obtain rfl : ds1 = ds2 := ascC_same asc asc2 fun z => (mem z).trans (mem2 z).symm
            have la6 : la.length ≤ 6 := Nat.le_trans (asc_len nf.1 nf.2) l6
            exact hN _ _ ⟨t, u, .tuple (ds1.map clD), _, rfl, e22.trans e23, .tup (SqT.of (e23 _ _ ht)) (CL.ex e23).dp, .tup (SqT.of hu) CL2.dp, rp_cls n4 la6 F22.g6 F22.b6 asc mem⟩
        · obtain ⟨t, u, dd, o9, rfl, e22, Dt, Du, rp⟩ := h22
          have F22 := F21.ex e22
          have hr22 := hr21.ex e22
          have hg22 := hg21.ex e22
          have hb22 := hb21.ex e22
          have hO22 := e22 _ _ hO21
          have c60 : 4 ≤ 60 := by decide
          have ci : 12000000 ≤ sizeLine := sixteen
          refine ⟨_, rfl, .ref t, _, rfl, .d Dt rp c60 ci, _, rfl, .ref u, _, rfl, .d Du rp c60 ci, rfl, _, rfl, iteF' (by simp) ?_⟩
          have rl := rp_items F22.mx.it F22.few
          have rg := rp_vals F22.okG F22.g6
          have rb := rp_vals F22.okB F22.b6
          have Dl : ∀ {H'}, Ex H22 H' → Dp K H' (.ref l) (.list ds) := fun e => .lst (SqL.of (e _ _ F22.hl)) (DpAll.ex e (DpAll.ex rm_sub F22.mx.dp))
          have Dg : ∀ {H'}, Ex H22 H' → Dp K H' (.ref G) (.list (gs.map vwD)) := fun e => .lst (SqL.of (e _ _ F22.hG)) (F22.VG.ex e).dp
          have Db : ∀ {H'}, Ex H22 H' → Dp K H' (.ref B) (.list (bs.map vwD)) := fun e => .lst (SqL.of (e _ _ F22.hB)) (F22.VB.ex e).dp
          unfold tNext
          dsimp only
          refine seq_cut (fun σ' H' => σ' = [some (.ref a0), some (.ref b), some (.ref l1), some (.ref l2), some (.ref mm), some (natV many), some (.ref l), some (.ref c), some (.ref G), o9, some (.ref B), some (.ref O), some (.int sh), some (natV n), some (.ref r), some (.ref g), some (.ref bd), some (.ref t), some (.ref u), none] ∧ Ex H22 H') (fun N hN => ?_) (fun σ' H23 h23 => ?_)
          · refine ⟨_, rfl, r, us', rfl, hr22.seq, fun q hq => ?_⟩
            have xq := Ex.new (o := .lst us') hq
            have Dq : Dp K (upd H22 q (.lst us')) (.ref q) (.list ds) := .lst (SqL.of upd_same) (DpAll.ex xq (DpAll.ex rm_sub F22.mx.dp))
            refine ⟨.ref q, _, rfl, .d Dq rl c60 ci, _, rfl, .ref l, _, rfl, .d (Dl xq) rl c60 ci, rfl, _, rfl, iteF' (by simp) ?_⟩
            refine ⟨_, rfl, g, gus, rfl, (hg22.ex xq).seq, fun q2 hq2 => ?_⟩
            have xq2 := Ex.new (o := .lst gus) hq2
            have x2 := xq.trans xq2
            have Dq2 : Dp K (upd (upd H22 q (.lst us')) q2 (.lst gus)) (.ref q2) (.list (gs.map vwD)) := .lst (SqL.of upd_same) (F22.VG.ex x2).dp
            refine ⟨.ref q2, _, rfl, .d Dq2 rg c60 ci, _, rfl, .ref G, _, rfl, .d (Dg x2) rg c60 ci, rfl, _, rfl, iteF' (by simp) ?_⟩
            exact hN _ _ ⟨rfl, x2⟩
          · obtain ⟨rfl, e23⟩ := h23
            refine ⟨_, rfl, bd, bus, rfl, (hb22.ex e23).seq, fun q3 hq3 => ?_⟩
            have xq3 := Ex.new (o := .lst bus) hq3
            have x3 := e23.trans xq3
            have Dq3 : Dp K (upd H23 q3 (.lst bus)) (.ref q3) (.list (bs.map vwD)) := .lst (SqL.of upd_same) (F22.VB.ex x3).dp
            refine ⟨.ref q3, _, rfl, .d Dq3 rb c60 ci, _, rfl, .ref B, _, rfl, .d (Db x3) rb c60 ci, rfl, _, rfl, iteF' (by simp) ?_⟩
            exact ⟨_, _, _, _, _, _, _, rfl, F22.ex x3, x3 _ _ hO22⟩
      · rintro σ H17 ⟨o9, o13, o14, o15, o16, o17, o18, rfl, F17, hO17⟩
        exact fin _
end
end M6
set_option maxRecDepth 100000
set_option maxHeartbeats 4000000
namespace M6
open PySem L2 Evl GP HR
theorem kit_me {K : PySem.W.Frag} {C : Addr} : PySem.W.kitOne K (.ref C) (.ref C) = some true := by
  unfold PySem.W.kitOne
  rw [if_pos (beq_self_eq_true _)]
theorem kit_ref {K : PySem.W.Frag} {C D : Addr} {v : Bool} (h1 : PySem.W.subIn K (.ref C) (.ref C) = some true) (h2 : PySem.W.subIn K (.ref C) (.ref D) = some v) (hd : PySem.W.hasDictIn K D = true) (ht : PySem.W.typeIn K (.ref D) = some (.type "type")) : PySem.W.kitOne K (.ref C) (.ref D) = some v := by
  by_cases ne : C = D
  · subst ne
    obtain rfl : true = v := Option.some.inj (h1.symm.trans h2)
    exact kit_me
  · obtain ⟨cd, hc, _⟩ := PySem.W.any_some hd
    have e2 : ((PySem.W.clsIn K D).isSome && PySem.W.typeIn K (.ref D) == some (.type "type")) = true := by rw [hc, ht] <;> rfl
    unfold PySem.W.kitOne
    rw [if_neg (fun z => ne (Value.ref.inj (eq_of_beq z)))]
    show (if ((PySem.W.clsIn K D).isSome && PySem.W.typeIn K (.ref D) == some (.type "type")) = true then PySem.W.subIn K (.ref C) (.ref D) else none) = some v
    rw [if_pos e2]
    exact h2
theorem kit_type {K : PySem.W.Frag} {C : Addr} {T : String} {v : Bool} (hm : PySem.W.kitMeta T = true) (h2 : PySem.W.subIn K (.ref C) (.type T) = some v) : PySem.W.kitOne K (.ref C) (.type T) = some v := by
  unfold PySem.W.kitOne
  rw [if_neg (fun z => nomatch (eq_of_beq z : Value.ref C = Value.type T))]
  show (if PySem.W.kitMeta T = true then PySem.W.subIn K (.ref C) (.type T) else none) = some v
  rw [if_pos hm]
  exact h2
theorem all_mk {l : PySem.W.OpenLaw} {w : World} {K : PySem.W.Frag} {h : Heap} {mg : Str → Option Value} {fa cR cL cC cU cQ fXL fXC fXU f1 f2 f3 f4 f5 f6 f7 f8 f9 f10 f11 f12 f13 f14 f15 f16 f17 f18 f19 f20 f21 f22 f23 f24 f25 f26 f27 f28 f29 f30 f31 f32 f33 f34 f35 f36 f37 f38 f39 f40 f41 f42 f43 f44 f45 f46 f47 f48 f49 f50 f51 qfI : Addr} (X : K.In h) (G : h.Ns mainGlobals mg) (hfa : mg "law" = some (.ref fa))
    {od1 an1 od2 an2 od3 an3 od4 an4 od5 an5 od6 an6 od7 an7 od8 an8 od9 an9 od10 an10 od11 an11 od12 an12 od13 an13 od14 an14 od15 an15 od16 an16 od17 an17 od18 an18 od19 an19 od20 an20 od21 an21 od22 an22 od23 an23 od24 an24 od25 an25 od26 an26 od27 an27 od28 an28 od29 an29 od30 an30 od31 an31 od32 an32 od33 an33 od34 an34 od35 an35 od36 an36 od37 an37 od38 an38 od39 an39 od40 an40 od41 an41 od42 an42 od43 an43 od44 an44 od45 an45 od46 an46 od47 an47 od48 an48 od49 an49 od50 an50 od51 an51 od0L an0L od0C an0C od0U an0U : Option Addr} {sl1 sl2 sl3 sl4 sl5 sl6 sl7 sl8 sl9 sl10 sl11 sl12 sl13 sl14 sl15 sl16 sl17 sl18 sl19 sl20 sl21 sl22 sl23 sl24 sl25 sl26 sl27 sl28 sl29 sl30 sl31 sl32 sl33 sl34 sl35 sl36 sl37 sl38 sl39 sl40 sl41 sl42 sl43 sl44 sl45 sl46 sl47 sl48 sl49 sl50 sl51 sl0L sl0C sl0U : Array (Option Value)} {oc1 kV1 dc1 pm1 cd1 ct1 oc2 kV2 dc2 pm2 cd2 ct2 oc3 kV3 dc3 pm3 cd3 ct3 oc4 kV4 dc4 pm4 cd4 ct4 oc5 kV5 dc5 pm5 cd5 ct5 oc6 kV6 dc6 pm6 cd6 ct6 oc7 kV7 dc7 pm7 cd7 ct7 oc8 kV8 dc8 pm8 cd8 ct8 oc9 kV9 dc9 pm9 cd9 ct9 oc10 kV10 dc10 pm10 cd10 ct10 oc11 kV11 dc11 pm11 cd11 ct11 oc12 kV12 dc12 pm12 cd12 ct12 oc13 kV13 dc13 pm13 cd13 ct13 oc14 kV14 dc14 pm14 cd14 ct14 oc15 kV15 dc15 pm15 cd15 ct15 oc16 kV16 dc16 pm16 cd16 ct16 oc17 kV17 dc17 pm17 cd17 ct17 oc18 kV18 dc18 pm18 cd18 ct18 oc19 kV19 dc19 pm19 cd19 ct19 oc20 kV20 dc20 pm20 cd20 ct20 oc21 kV21 dc21 pm21 cd21 ct21 oc22 kV22 dc22 pm22 cd22 ct22 oc23 kV23 dc23 pm23 cd23 ct23 oc24 kV24 dc24 pm24 cd24 ct24 oc25 kV25 dc25 pm25 cd25 ct25 oc26 kV26 dc26 pm26 cd26 ct26 oc27 kV27 dc27 pm27 cd27 ct27 oc28 kV28 dc28 pm28 cd28 ct28 oc29 kV29 dc29 pm29 cd29 ct29 oc30 kV30 dc30 pm30 cd30 ct30 oc31 kV31 dc31 pm31 cd31 ct31 oc32 kV32 dc32 pm32 cd32 ct32 oc33 kV33 dc33 pm33 cd33 ct33 oc34 kV34 dc34 pm34 cd34 ct34 oc35 kV35 dc35 pm35 cd35 ct35 oc36 kV36 dc36 pm36 cd36 ct36 oc37 kV37 dc37 pm37 cd37 ct37 oc38 kV38 dc38 pm38 cd38 ct38 oc39 kV39 dc39 pm39 cd39 ct39 oc40 kV40 dc40 pm40 cd40 ct40 oc41 kV41 dc41 pm41 cd41 ct41 oc42 kV42 dc42 pm42 cd42 ct42 oc43 kV43 dc43 pm43 cd43 ct43 oc44 kV44 dc44 pm44 cd44 ct44 oc45 kV45 dc45 pm45 cd45 ct45 oc46 kV46 dc46 pm46 cd46 ct46 oc47 kV47 dc47 pm47 cd47 ct47 oc48 kV48 dc48 pm48 cd48 ct48 oc49 kV49 dc49 pm49 cd49 ct49 oc50 kV50 dc50 pm50 cd50 ct50 oc51 kV51 dc51 pm51 cd51 ct51 oc0L dc0L pm0L ct0L oc0C dc0C pm0C ct0C oc0U dc0U pm0U ct0U : Value}
    {nm_L q_L : Str} {NN_L : Addr} {bs_L bm_L : List Value} {sn_L : List Str} {sub_L : List Value} {ab_L : Bool} {col_L : Option Bool} {dd_L : Option Addr} {m0_L m1_L m2_L m3_L m5_L : Option Value} {cda_L cc_L : Addr}
    {cl0_L ccl_L : Value} {cld_L cdd_L : Option Addr} {csl_L ccs_L : Array (Option Value)} {rvs_L : Array Value} {file_L : Str} {tf_L : Tok}
    {nm_C q_C : Str} {NN_C : Addr} {bs_C bm_C : List Value} {sn_C : List Str} {sub_C : List Value} {ab_C : Bool} {col_C : Option Bool} {dd_C : Option Addr} {m0_C m1_C m2_C m3_C m5_C : Option Value} {cda_C cc_C : Addr}
    {cl0_C ccl_C : Value} {cld_C cdd_C : Option Addr} {csl_C ccs_C : Array (Option Value)} {rvs_C : Array Value} {file_C : Str} {tf_C : Tok}
    {nm_U q_U : Str} {NN_U : Addr} {bs_U bm_U : List Value} {sn_U : List Str} {sub_U : List Value} {ab_U : Bool} {col_U : Option Bool} {dd_U : Option Addr} {m0_U m1_U m2_U m3_U m5_U : Option Value} {cda_U cc_U : Addr}
    {cl0_U ccl_U : Value} {cld_U cdd_U : Option Addr} {csl_U ccs_U : Array (Option Value)} {rvs_U : Array Value} {file_U : Str} {tf_U : Tok}
    {tk0 tk1 tk2 : Tok}
    {qodI qanI : Option Addr} {qslI : Array (Option Value)} {qocI qkVI qdcI qpmI qcdI qctI : Value}
    (a1 : PySem.W.nsIn K mainGlobals "_wall" = some (some (.ref f1)))
    (l1 : K.lookup f1 = some ⟨oc1, od1, .func (PySem.W.fnOf "_wall" "_wall" (defArgs s_wall) (defBody s_wall) (defScope s_wall) .none kV1 dc1 pm1 an1 cd1 ct1), sl1⟩)
    (c1 : PySem.W.codeIn K cd1 "_wall" = true)
    (k1 : PySem.W.keepIn K (.ref f1) = true)
    (a2 : PySem.W.nsIn K mainGlobals "is_name" = some (some (.ref f2)))
    (l2 : K.lookup f2 = some ⟨oc2, od2, .func (PySem.W.fnOf "is_name" "is_name" (defArgs s_is_name) (defBody s_is_name) (defScope s_is_name) .none kV2 dc2 pm2 an2 cd2 ct2), sl2⟩)
    (c2 : PySem.W.codeIn K cd2 "is_name" = true)
    (k2 : PySem.W.keepIn K (.ref f2) = true)
    (a3 : PySem.W.nsIn K mainGlobals "is_integer" = some (some (.ref f3)))
    (l3 : K.lookup f3 = some ⟨oc3, od3, .func (PySem.W.fnOf "is_integer" "is_integer" (defArgs s_is_integer) (defBody s_is_integer) (defScope s_is_integer) .none kV3 dc3 pm3 an3 cd3 ct3), sl3⟩)
    (c3 : PySem.W.codeIn K cd3 "is_integer" = true)
    (k3 : PySem.W.keepIn K (.ref f3) = true)
    (a4 : PySem.W.nsIn K mainGlobals "is_bound" = some (some (.ref f4)))
    (l4 : K.lookup f4 = some ⟨oc4, od4, .func (PySem.W.fnOf "is_bound" "is_bound" (defArgs s_is_bound) (defBody s_is_bound) (defScope s_is_bound) .none kV4 dc4 pm4 an4 cd4 ct4), sl4⟩)
    (c4 : PySem.W.codeIn K cd4 "is_bound" = true)
    (k4 : PySem.W.keepIn K (.ref f4) = true)
    (a5 : PySem.W.nsIn K mainGlobals "is_literal" = some (some (.ref f5)))
    (l5 : K.lookup f5 = some ⟨oc5, od5, .func (PySem.W.fnOf "is_literal" "is_literal" (defArgs s_is_literal) (defBody s_is_literal) (defScope s_is_literal) .none kV5 dc5 pm5 an5 cd5 ct5), sl5⟩)
    (c5 : PySem.W.codeIn K cd5 "is_literal" = true)
    (k5 : PySem.W.keepIn K (.ref f5) = true)
    (a6 : PySem.W.nsIn K mainGlobals "is_clause" = some (some (.ref f6)))
    (l6 : K.lookup f6 = some ⟨oc6, od6, .func (PySem.W.fnOf "is_clause" "is_clause" (defArgs s_is_clause) (defBody s_is_clause) (defScope s_is_clause) .none kV6 dc6 pm6 an6 cd6 ct6), sl6⟩)
    (c6 : PySem.W.codeIn K cd6 "is_clause" = true)
    (k6 : PySem.W.keepIn K (.ref f6) = true)
    (a7 : PySem.W.nsIn K mainGlobals "check_literal" = some (some (.ref f7)))
    (l7 : K.lookup f7 = some ⟨oc7, od7, .func (PySem.W.fnOf "check_literal" "check_literal" (defArgs s_check_literal) (defBody s_check_literal) (defScope s_check_literal) .none kV7 dc7 pm7 an7 cd7 ct7), sl7⟩)
    (c7 : PySem.W.codeIn K cd7 "check_literal" = true)
    (k7 : PySem.W.keepIn K (.ref f7) = true)
    (a8 : PySem.W.nsIn K mainGlobals "opposite" = some (some (.ref f8)))
    (l8 : K.lookup f8 = some ⟨oc8, od8, .func (PySem.W.fnOf "opposite" "opposite" (defArgs s_opposite) (defBody s_opposite) (defScope s_opposite) .none kV8 dc8 pm8 an8 cd8 ct8), sl8⟩)
    (c8 : PySem.W.codeIn K cd8 "opposite" = true)
    (k8 : PySem.W.keepIn K (.ref f8) = true)
    (a9 : PySem.W.nsIn K mainGlobals "atom_of" = some (some (.ref f9)))
    (l9 : K.lookup f9 = some ⟨oc9, od9, .func (PySem.W.fnOf "atom_of" "atom_of" (defArgs s_atom_of) (defBody s_atom_of) (defScope s_atom_of) .none kV9 dc9 pm9 an9 cd9 ct9), sl9⟩)
    (c9 : PySem.W.codeIn K cd9 "atom_of" = true)
    (k9 : PySem.W.keepIn K (.ref f9) = true)
    (a10 : PySem.W.nsIn K mainGlobals "atoms_of" = some (some (.ref f10)))
    (l10 : K.lookup f10 = some ⟨oc10, od10, .func (PySem.W.fnOf "atoms_of" "atoms_of" (defArgs s_atoms_of) (defBody s_atoms_of) (defScope s_atoms_of) .none kV10 dc10 pm10 an10 cd10 ct10), sl10⟩)
    (c10 : PySem.W.codeIn K cd10 "atoms_of" = true)
    (k10 : PySem.W.keepIn K (.ref f10) = true)
    (a11 : PySem.W.nsIn K mainGlobals "truths_of" = some (some (.ref f11)))
    (l11 : K.lookup f11 = some ⟨oc11, od11, .func (PySem.W.fnOf "truths_of" "truths_of" (defArgs s_truths_of) (defBody s_truths_of) (defScope s_truths_of) .none kV11 dc11 pm11 an11 cd11 ct11), sl11⟩)
    (c11 : PySem.W.codeIn K cd11 "truths_of" = true)
    (k11 : PySem.W.keepIn K (.ref f11) = true)
    (a12 : PySem.W.nsIn K mainGlobals "moments_of" = some (some (.ref f12)))
    (l12 : K.lookup f12 = some ⟨oc12, od12, .func (PySem.W.fnOf "moments_of" "moments_of" (defArgs s_moments_of) (defBody s_moments_of) (defScope s_moments_of) .none kV12 dc12 pm12 an12 cd12 ct12), sl12⟩)
    (c12 : PySem.W.codeIn K cd12 "moments_of" = true)
    (k12 : PySem.W.keepIn K (.ref f12) = true)
    (a13 : PySem.W.nsIn K mainGlobals "clause_of" = some (some (.ref f13)))
    (l13 : K.lookup f13 = some ⟨oc13, od13, .func (PySem.W.fnOf "clause_of" "clause_of" (defArgs s_clause_of) (defBody s_clause_of) (defScope s_clause_of) .none kV13 dc13 pm13 an13 cd13 ct13), sl13⟩)
    (c13 : PySem.W.codeIn K cd13 "clause_of" = true)
    (k13 : PySem.W.keepIn K (.ref f13) = true)
    (a14 : PySem.W.nsIn K mainGlobals "normal_form" = some (some (.ref f14)))
    (l14 : K.lookup f14 = some ⟨oc14, od14, .func (PySem.W.fnOf "normal_form" "normal_form" (defArgs s_normal_form) (defBody s_normal_form) (defScope s_normal_form) .none kV14 dc14 pm14 an14 cd14 ct14), sl14⟩)
    (c14 : PySem.W.codeIn K cd14 "normal_form" = true)
    (k14 : PySem.W.keepIn K (.ref f14) = true)
    (a15 : PySem.W.nsIn K mainGlobals "check_listed" = some (some (.ref f15)))
    (l15 : K.lookup f15 = some ⟨oc15, od15, .func (PySem.W.fnOf "check_listed" "check_listed" (defArgs s_check_listed) (defBody s_check_listed) (defScope s_check_listed) .none kV15 dc15 pm15 an15 cd15 ct15), sl15⟩)
    (c15 : PySem.W.codeIn K cd15 "check_listed" = true)
    (k15 : PySem.W.keepIn K (.ref f15) = true)
    (a16 : PySem.W.nsIn K mainGlobals "literal_stands" = some (some (.ref f16)))
    (l16 : K.lookup f16 = some ⟨oc16, od16, .func (PySem.W.fnOf "literal_stands" "literal_stands" (defArgs s_literal_stands) (defBody s_literal_stands) (defScope s_literal_stands) .none kV16 dc16 pm16 an16 cd16 ct16), sl16⟩)
    (c16 : PySem.W.codeIn K cd16 "literal_stands" = true)
    (k16 : PySem.W.keepIn K (.ref f16) = true)
    (a17 : PySem.W.nsIn K mainGlobals "clauses_stand" = some (some (.ref f17)))
    (l17 : K.lookup f17 = some ⟨oc17, od17, .func (PySem.W.fnOf "clauses_stand" "clauses_stand" (defArgs s_clauses_stand) (defBody s_clauses_stand) (defScope s_clauses_stand) .none kV17 dc17 pm17 an17 cd17 ct17), sl17⟩)
    (c17 : PySem.W.codeIn K cd17 "clauses_stand" = true)
    (k17 : PySem.W.keepIn K (.ref f17) = true)
    (a18 : PySem.W.nsIn K mainGlobals "holds" = some (some (.ref f18)))
    (l18 : K.lookup f18 = some ⟨oc18, od18, .func (PySem.W.fnOf "holds" "holds" (defArgs s_holds) (defBody s_holds) (defScope s_holds) .none kV18 dc18 pm18 an18 cd18 ct18), sl18⟩)
    (c18 : PySem.W.codeIn K cd18 "holds" = true)
    (k18 : PySem.W.keepIn K (.ref f18) = true)
    (a19 : PySem.W.nsIn K mainGlobals "clause_holds" = some (some (.ref f19)))
    (l19 : K.lookup f19 = some ⟨oc19, od19, .func (PySem.W.fnOf "clause_holds" "clause_holds" (defArgs s_clause_holds) (defBody s_clause_holds) (defScope s_clause_holds) .none kV19 dc19 pm19 an19 cd19 ct19), sl19⟩)
    (c19 : PySem.W.codeIn K cd19 "clause_holds" = true)
    (k19 : PySem.W.keepIn K (.ref f19) = true)
    (a20 : PySem.W.nsIn K mainGlobals "write_literal" = some (some (.ref f20)))
    (l20 : K.lookup f20 = some ⟨oc20, od20, .func (PySem.W.fnOf "write_literal" "write_literal" (defArgs s_write_literal) (defBody s_write_literal) (defScope s_write_literal) .none kV20 dc20 pm20 an20 cd20 ct20), sl20⟩)
    (c20 : PySem.W.codeIn K cd20 "write_literal" = true)
    (k20 : PySem.W.keepIn K (.ref f20) = true)
    (a21 : PySem.W.nsIn K mainGlobals "write_clause" = some (some (.ref f21)))
    (l21 : K.lookup f21 = some ⟨oc21, od21, .func (PySem.W.fnOf "write_clause" "write_clause" (defArgs s_write_clause) (defBody s_write_clause) (defScope s_write_clause) .none kV21 dc21 pm21 an21 cd21 ct21), sl21⟩)
    (c21 : PySem.W.codeIn K cd21 "write_clause" = true)
    (k21 : PySem.W.keepIn K (.ref f21) = true)
    (a22 : PySem.W.nsIn K mainGlobals "is_number" = some (some (.ref f22)))
    (l22 : K.lookup f22 = some ⟨oc22, od22, .func (PySem.W.fnOf "is_number" "is_number" (defArgs s_is_number) (defBody s_is_number) (defScope s_is_number) .none kV22 dc22 pm22 an22 cd22 ct22), sl22⟩)
    (c22 : PySem.W.codeIn K cd22 "is_number" = true)
    (k22 : PySem.W.keepIn K (.ref f22) = true)
    (a23 : PySem.W.nsIn K mainGlobals "told_integer" = some (some (.ref f23)))
    (l23 : K.lookup f23 = some ⟨oc23, od23, .func (PySem.W.fnOf "told_integer" "told_integer" (defArgs s_told_integer) (defBody s_told_integer) (defScope s_told_integer) .none kV23 dc23 pm23 an23 cd23 ct23), sl23⟩)
    (c23 : PySem.W.codeIn K cd23 "told_integer" = true)
    (k23 : PySem.W.keepIn K (.ref f23) = true)
    (a24 : PySem.W.nsIn K mainGlobals "told_bound" = some (some (.ref f24)))
    (l24 : K.lookup f24 = some ⟨oc24, od24, .func (PySem.W.fnOf "told_bound" "told_bound" (defArgs s_told_bound) (defBody s_told_bound) (defScope s_told_bound) .none kV24 dc24 pm24 an24 cd24 ct24), sl24⟩)
    (c24 : PySem.W.codeIn K cd24 "told_bound" = true)
    (k24 : PySem.W.keepIn K (.ref f24) = true)
    (a25 : PySem.W.nsIn K mainGlobals "told_literal" = some (some (.ref f25)))
    (l25 : K.lookup f25 = some ⟨oc25, od25, .func (PySem.W.fnOf "told_literal" "told_literal" (defArgs s_told_literal) (defBody s_told_literal) (defScope s_told_literal) .none kV25 dc25 pm25 an25 cd25 ct25), sl25⟩)
    (c25 : PySem.W.codeIn K cd25 "told_literal" = true)
    (k25 : PySem.W.keepIn K (.ref f25) = true)
    (a26 : PySem.W.nsIn K mainGlobals "told_clause" = some (some (.ref f26)))
    (l26 : K.lookup f26 = some ⟨oc26, od26, .func (PySem.W.fnOf "told_clause" "told_clause" (defArgs s_told_clause) (defBody s_told_clause) (defScope s_told_clause) .none kV26 dc26 pm26 an26 cd26 ct26), sl26⟩)
    (c26 : PySem.W.codeIn K cd26 "told_clause" = true)
    (k26 : PySem.W.keepIn K (.ref f26) = true)
    (a27 : PySem.W.nsIn K mainGlobals "all_read" = some (some (.ref f27)))
    (l27 : K.lookup f27 = some ⟨oc27, od27, .func (PySem.W.fnOf "all_read" "all_read" (defArgs s_all_read) (defBody s_all_read) (defScope s_all_read) .none kV27 dc27 pm27 an27 cd27 ct27), sl27⟩)
    (c27 : PySem.W.codeIn K cd27 "all_read" = true)
    (k27 : PySem.W.keepIn K (.ref f27) = true)
    (a28 : PySem.W.nsIn K mainGlobals "fit_question" = some (some (.ref f28)))
    (l28 : K.lookup f28 = some ⟨oc28, od28, .func (PySem.W.fnOf "fit_question" "fit_question" (defArgs s_fit_question) (defBody s_fit_question) (defScope s_fit_question) .none kV28 dc28 pm28 an28 cd28 ct28), sl28⟩)
    (c28 : PySem.W.codeIn K cd28 "fit_question" = true)
    (k28 : PySem.W.keepIn K (.ref f28) = true)
    (a29 : PySem.W.nsIn K mainGlobals "places_held" = some (some (.ref f29)))
    (l29 : K.lookup f29 = some ⟨oc29, od29, .func (PySem.W.fnOf "places_held" "places_held" (defArgs s_places_held) (defBody s_places_held) (defScope s_places_held) .none kV29 dc29 pm29 an29 cd29 ct29), sl29⟩)
    (c29 : PySem.W.codeIn K cd29 "places_held" = true)
    (k29 : PySem.W.keepIn K (.ref f29) = true)
    (a30 : PySem.W.nsIn K mainGlobals "name_of_part" = some (some (.ref f30)))
    (l30 : K.lookup f30 = some ⟨oc30, od30, .func (PySem.W.fnOf "name_of_part" "name_of_part" (defArgs s_name_of_part) (defBody s_name_of_part) (defScope s_name_of_part) .none kV30 dc30 pm30 an30 cd30 ct30), sl30⟩)
    (c30 : PySem.W.codeIn K cd30 "name_of_part" = true)
    (k30 : PySem.W.keepIn K (.ref f30) = true)
    (a31 : PySem.W.nsIn K mainGlobals "name_of_refusal" = some (some (.ref f31)))
    (l31 : K.lookup f31 = some ⟨oc31, od31, .func (PySem.W.fnOf "name_of_refusal" "name_of_refusal" (defArgs s_name_of_refusal) (defBody s_name_of_refusal) (defScope s_name_of_refusal) .none kV31 dc31 pm31 an31 cd31 ct31), sl31⟩)
    (c31 : PySem.W.codeIn K cd31 "name_of_refusal" = true)
    (k31 : PySem.W.keepIn K (.ref f31) = true)
    (a32 : PySem.W.nsIn K mainGlobals "_law_bag" = some (some (.ref f32)))
    (l32 : K.lookup f32 = some ⟨oc32, od32, .func (PySem.W.fnOf "_law_bag" "_law_bag" (defArgs s_law_bag) (defBody s_law_bag) (defScope s_law_bag) .none kV32 dc32 pm32 an32 cd32 ct32), sl32⟩)
    (c32 : PySem.W.codeIn K cd32 "_law_bag" = true)
    (k32 : PySem.W.keepIn K (.ref f32) = true)
    (a33 : PySem.W.nsIn K mainGlobals "_law_draw" = some (some (.ref f33)))
    (l33 : K.lookup f33 = some ⟨oc33, od33, .func (PySem.W.fnOf "_law_draw" "_law_draw" (defArgs s_law_draw) (defBody s_law_draw) (defScope s_law_draw) .none kV33 dc33 pm33 an33 cd33 ct33), sl33⟩)
    (c33 : PySem.W.codeIn K cd33 "_law_draw" = true)
    (k33 : PySem.W.keepIn K (.ref f33) = true)
    (a34 : PySem.W.nsIn K mainGlobals "_law_letters" = some (some (.ref f34)))
    (l34 : K.lookup f34 = some ⟨oc34, od34, .func (PySem.W.fnOf "_law_letters" "_law_letters" (defArgs s_law_letters) (defBody s_law_letters) (defScope s_law_letters) .none kV34 dc34 pm34 an34 cd34 ct34), sl34⟩)
    (c34 : PySem.W.codeIn K cd34 "_law_letters" = true)
    (k34 : PySem.W.keepIn K (.ref f34) = true)
    (a35 : PySem.W.nsIn K mainGlobals "_law_names" = some (some (.ref f35)))
    (l35 : K.lookup f35 = some ⟨oc35, od35, .func (PySem.W.fnOf "_law_names" "_law_names" (defArgs s_law_names) (defBody s_law_names) (defScope s_law_names) .none kV35 dc35 pm35 an35 cd35 ct35), sl35⟩)
    (c35 : PySem.W.codeIn K cd35 "_law_names" = true)
    (k35 : PySem.W.keepIn K (.ref f35) = true)
    (a36 : PySem.W.nsIn K mainGlobals "_law_integer" = some (some (.ref f36)))
    (l36 : K.lookup f36 = some ⟨oc36, od36, .func (PySem.W.fnOf "_law_integer" "_law_integer" (defArgs s_law_integer) (defBody s_law_integer) (defScope s_law_integer) .none kV36 dc36 pm36 an36 cd36 ct36), sl36⟩)
    (c36 : PySem.W.codeIn K cd36 "_law_integer" = true)
    (k36 : PySem.W.keepIn K (.ref f36) = true)
    (a37 : PySem.W.nsIn K mainGlobals "_law_literal" = some (some (.ref f37)))
    (l37 : K.lookup f37 = some ⟨oc37, od37, .func (PySem.W.fnOf "_law_literal" "_law_literal" (defArgs s_law_literal) (defBody s_law_literal) (defScope s_law_literal) .none kV37 dc37 pm37 an37 cd37 ct37), sl37⟩)
    (c37 : PySem.W.codeIn K cd37 "_law_literal" = true)
    (k37 : PySem.W.keepIn K (.ref f37) = true)
    (a38 : PySem.W.nsIn K mainGlobals "_law_form" = some (some (.ref f38)))
    (l38 : K.lookup f38 = some ⟨oc38, od38, .func (PySem.W.fnOf "_law_form" "_law_form" (defArgs s_law_form) (defBody s_law_form) (defScope s_law_form) .none kV38 dc38 pm38 an38 cd38 ct38), sl38⟩)
    (c38 : PySem.W.codeIn K cd38 "_law_form" = true)
    (k38 : PySem.W.keepIn K (.ref f38) = true)
    (a39 : PySem.W.nsIn K mainGlobals "_law_whole" = some (some (.ref f39)))
    (l39 : K.lookup f39 = some ⟨oc39, od39, .func (PySem.W.fnOf "_law_whole" "_law_whole" (defArgs s_law_whole) (defBody s_law_whole) (defScope s_law_whole) .none kV39 dc39 pm39 an39 cd39 ct39), sl39⟩)
    (c39 : PySem.W.codeIn K cd39 "_law_whole" = true)
    (k39 : PySem.W.keepIn K (.ref f39) = true)
    (a40 : PySem.W.nsIn K mainGlobals "_law_is_literal" = some (some (.ref f40)))
    (l40 : K.lookup f40 = some ⟨oc40, od40, .func (PySem.W.fnOf "_law_is_literal" "_law_is_literal" (defArgs s_law_is_literal) (defBody s_law_is_literal) (defScope s_law_is_literal) .none kV40 dc40 pm40 an40 cd40 ct40), sl40⟩)
    (c40 : PySem.W.codeIn K cd40 "_law_is_literal" = true)
    (k40 : PySem.W.keepIn K (.ref f40) = true)
    (a41 : PySem.W.nsIn K mainGlobals "_law_holds" = some (some (.ref f41)))
    (l41 : K.lookup f41 = some ⟨oc41, od41, .func (PySem.W.fnOf "_law_holds" "_law_holds" (defArgs s_law_holds) (defBody s_law_holds) (defScope s_law_holds) .none kV41 dc41 pm41 an41 cd41 ct41), sl41⟩)
    (c41 : PySem.W.codeIn K cd41 "_law_holds" = true)
    (k41 : PySem.W.keepIn K (.ref f41) = true)
    (a42 : PySem.W.nsIn K mainGlobals "_law_values" = some (some (.ref f42)))
    (l42 : K.lookup f42 = some ⟨oc42, od42, .func (PySem.W.fnOf "_law_values" "_law_values" (defArgs s_law_values) (defBody s_law_values) (defScope s_law_values) .none kV42 dc42 pm42 an42 cd42 ct42), sl42⟩)
    (c42 : PySem.W.codeIn K cd42 "_law_values" = true)
    (k42 : PySem.W.keepIn K (.ref f42) = true)
    (a43 : PySem.W.nsIn K mainGlobals "_law_literals" = some (some (.ref f43)))
    (l43 : K.lookup f43 = some ⟨oc43, od43, .func (PySem.W.fnOf "_law_literals" "_law_literals" (defArgs s_law_literals) (defBody s_law_literals) (defScope s_law_literals) .none kV43 dc43 pm43 an43 cd43 ct43), sl43⟩)
    (c43 : PySem.W.codeIn K cd43 "_law_literals" = true)
    (k43 : PySem.W.keepIn K (.ref f43) = true)
    (a44 : PySem.W.nsIn K mainGlobals "_law_fit_clauses" = some (some (.ref f44)))
    (l44 : K.lookup f44 = some ⟨oc44, od44, .func (PySem.W.fnOf "_law_fit_clauses" "_law_fit_clauses" (defArgs s_law_fit_clauses) (defBody s_law_fit_clauses) (defScope s_law_fit_clauses) .none kV44 dc44 pm44 an44 cd44 ct44), sl44⟩)
    (c44 : PySem.W.codeIn K cd44 "_law_fit_clauses" = true)
    (k44 : PySem.W.keepIn K (.ref f44) = true)
    (a45 : PySem.W.nsIn K mainGlobals "_law_odd" = some (some (.ref f45)))
    (l45 : K.lookup f45 = some ⟨oc45, od45, .func (PySem.W.fnOf "_law_odd" "_law_odd" (defArgs s_law_odd) (defBody s_law_odd) (defScope s_law_odd) .none kV45 dc45 pm45 an45 cd45 ct45), sl45⟩)
    (c45 : PySem.W.codeIn K cd45 "_law_odd" = true)
    (k45 : PySem.W.keepIn K (.ref f45) = true)
    (a46 : PySem.W.nsIn K mainGlobals "_law_more" = some (some (.ref f46)))
    (l46 : K.lookup f46 = some ⟨oc46, od46, .func (PySem.W.fnOf "_law_more" "_law_more" (defArgs s_law_more) (defBody s_law_more) (defScope s_law_more) .none kV46 dc46 pm46 an46 cd46 ct46), sl46⟩)
    (c46 : PySem.W.codeIn K cd46 "_law_more" = true)
    (k46 : PySem.W.keepIn K (.ref f46) = true)
    (a47 : PySem.W.nsIn K mainGlobals "_law_is_word" = some (some (.ref f47)))
    (l47 : K.lookup f47 = some ⟨oc47, od47, .func (PySem.W.fnOf "_law_is_word" "_law_is_word" (defArgs s_law_is_word) (defBody s_law_is_word) (defScope s_law_is_word) .none kV47 dc47 pm47 an47 cd47 ct47), sl47⟩)
    (c47 : PySem.W.codeIn K cd47 "_law_is_word" = true)
    (k47 : PySem.W.keepIn K (.ref f47) = true)
    (a48 : PySem.W.nsIn K mainGlobals "_law_is_good" = some (some (.ref f48)))
    (l48 : K.lookup f48 = some ⟨oc48, od48, .func (PySem.W.fnOf "_law_is_good" "_law_is_good" (defArgs s_law_is_good) (defBody s_law_is_good) (defScope s_law_is_good) .none kV48 dc48 pm48 an48 cd48 ct48), sl48⟩)
    (c48 : PySem.W.codeIn K cd48 "_law_is_good" = true)
    (k48 : PySem.W.keepIn K (.ref f48) = true)
    (a49 : PySem.W.nsIn K mainGlobals "_law_asked" = some (some (.ref f49)))
    (l49 : K.lookup f49 = some ⟨oc49, od49, .func (PySem.W.fnOf "_law_asked" "_law_asked" (defArgs s_law_asked) (defBody s_law_asked) (defScope s_law_asked) .none kV49 dc49 pm49 an49 cd49 ct49), sl49⟩)
    (c49 : PySem.W.codeIn K cd49 "_law_asked" = true)
    (k49 : PySem.W.keepIn K (.ref f49) = true)
    (a50 : PySem.W.nsIn K mainGlobals "_law_handed" = some (some (.ref f50)))
    (l50 : K.lookup f50 = some ⟨oc50, od50, .func (PySem.W.fnOf "_law_handed" "_law_handed" (defArgs s_law_handed) (defBody s_law_handed) (defScope s_law_handed) .none kV50 dc50 pm50 an50 cd50 ct50), sl50⟩)
    (c50 : PySem.W.codeIn K cd50 "_law_handed" = true)
    (k50 : PySem.W.keepIn K (.ref f50) = true)
    (a51 : PySem.W.nsIn K mainGlobals "law" = some (some (.ref f51)))
    (l51 : K.lookup f51 = some ⟨oc51, od51, .func (PySem.W.fnOf "law" "law" (defArgs s_law) (defBody s_law) (defScope s_law) .none kV51 dc51 pm51 an51 cd51 ct51), sl51⟩)
    (c51 : PySem.W.codeIn K cd51 "law" = true)
    (k51 : PySem.W.keepIn K (.ref f51) = true)
    (z_isinstance : PySem.W.nsIn K mainGlobals "isinstance" = some none)
    (z_str : PySem.W.nsIn K mainGlobals "str" = some none)
    (z_int : PySem.W.nsIn K mainGlobals "int" = some none)
    (z_bool : PySem.W.nsIn K mainGlobals "bool" = some none)
    (z_tuple : PySem.W.nsIn K mainGlobals "tuple" = some none)
    (z_list : PySem.W.nsIn K mainGlobals "list" = some none)
    (z_len : PySem.W.nsIn K mainGlobals "len" = some none)
    (z_range : PySem.W.nsIn K mainGlobals "range" = some none)
    (z_sorted : PySem.W.nsIn K mainGlobals "sorted" = some none)
    (z_abs : PySem.W.nsIn K mainGlobals "abs" = some none)
    (z_all : PySem.W.nsIn K mainGlobals "all" = some none)
    (z_any : PySem.W.nsIn K mainGlobals "any" = some none)
    (z_set : PySem.W.nsIn K mainGlobals "set" = some none)
    (z_sum : PySem.W.nsIn K mainGlobals "sum" = some none)
    (z_zip : PySem.W.nsIn K mainGlobals "zip" = some none)
    (z_enumerate : PySem.W.nsIn K mainGlobals "enumerate" = some none)
    (z_dict : PySem.W.nsIn K mainGlobals "dict" = some none)
    (z_repr : PySem.W.nsIn K mainGlobals "repr" = some none)
    (z_ValueError : PySem.W.nsIn K mainGlobals "ValueError" = some none)
    (z_super : PySem.W.nsIn K mainGlobals "super" = some none)
    (aK0 : PySem.W.nsIn K mainGlobals "LETTERS" = some (some (.str letters tk0)))
    (aK1 : PySem.W.nsIn K mainGlobals "SIGNS" = some (some (.str signs tk1)))
    (aK2 : PySem.W.nsIn K mainGlobals "LONGEST_NAME" = some (some (.int 8 tk2)))
    (aR : PySem.W.nsIn K mainGlobals "RingclauseError" = some (some (.ref cR)))
    (hR : PySem.W.hasDictIn K cR = true)
    (yR : PySem.W.typeIn K (.ref cR) = some (.type "type"))
    (aL : PySem.W.nsIn K mainGlobals "InvalidLiteral" = some (some (.ref cL)))
    (hL : PySem.W.hasDictIn K cL = true)
    (yL : PySem.W.typeIn K (.ref cL) = some (.type "type"))
    (aC : PySem.W.nsIn K mainGlobals "InvalidClause" = some (some (.ref cC)))
    (hC : PySem.W.hasDictIn K cC = true)
    (yC : PySem.W.typeIn K (.ref cC) = some (.type "type"))
    (aU : PySem.W.nsIn K mainGlobals "UnknownMoment" = some (some (.ref cU)))
    (hU : PySem.W.hasDictIn K cU = true)
    (yU : PySem.W.typeIn K (.ref cU) = some (.type "type"))
    (aQ : PySem.W.nsIn K mainGlobals "Question" = some (some (.ref cQ)))
    (hQ : PySem.W.hasDictIn K cQ = true)
    (yQ : PySem.W.typeIn K (.ref cQ) = some (.type "type"))
    (oq : PySem.W.nsIn K cStatics "thirdparty.any" = some none)
    (hTop : (l.prog.main.scope.names.lookup ("super" : Str)).isSome = false)
    (kn : PySem.W.specialIn K (.builtin "object.__class__") "__get__" = some (some (.builtin "getset_descriptor.__get__")))
    (kt : PySem.W.takesIn K (.builtin "object.__class__") = some true)
    (xI_L : K.lookup cL = some (excClassObj nm_L q_L cL NN_L bs_L bm_L true sn_L sub_L ab_L col_L dd_L m0_L m1_L m2_L m3_L m5_L "ValueError.__new__"))
    (rv_L : PySem.HandSPX.refsVE bm_L = true)
    (sa_L : PySem.W.findIn K (.ref cL) "__setattr__" = some (some (.builtin "object.__setattr__")))
    (ga_L : PySem.W.findIn K (.ref cL) "__getattribute__" = some (some (.builtin "BaseException.__getattribute__")))
    (gg_L : PySem.W.findIn K (.ref cL) "__getattr__" = some none)
    (nF_L : PySem.W.findIn K (.ref cL) "value" = some none)
    (iX_L : PySem.W.findIn K (.ref cL) "__init__" = some (some (.ref fXL)))
    (tF_L : PySem.W.typeIn K (.ref fXL) = some (.type "function"))
    (kI_L : PySem.W.keepIn K (.ref cL) = true)
    (eI_L : PySem.W.subIn K (.ref cL) (.type "BaseException") = some true)
    (vI_L : PySem.W.subIn K (.ref cL) (.type "ValueError") = some true)
    (mI_L : PySem.W.mroIn K cL (.ref cL) = some true)
    (su_L : PySem.W.ks_superIn K cL cL "__init__" = some (some (.builtin "ValueError.__init__")))
    (lX_L : K.lookup fXL = some ⟨oc0L, od0L, .func (PySem.Sup.sFn "value" "not a literal" "InvalidLiteral.__init__" ⟨9, 17, 9, 21⟩ ⟨9, 23, 9, 28⟩ ⟨10, 8, 10, 13⟩ ⟨10, 8, 10, 15⟩ ⟨10, 8, 10, 24⟩ ⟨10, 25, 10, 40⟩ ⟨10, 8, 10, 41⟩ ⟨10, 8, 10, 41⟩ ⟨11, 8, 11, 12⟩ ⟨11, 8, 11, 18⟩ ⟨11, 21, 11, 26⟩ ⟨11, 8, 11, 26⟩ dc0L pm0L an0L cda_L cc_L ct0L), sl0L⟩)
    (cX_L : PySem.W.codeIn K (.ref cda_L) "InvalidLiteral.__init__" = true)
    (lC_L : K.lookup cc_L = some ⟨cl0_L, cld_L, .cell (some (.ref cL)), csl_L⟩)
    (lD_L : K.lookup cda_L = some ⟨ccl_L, cdd_L, .fields rvs_L, ccs_L⟩)
    (rf_L : rvs_L[2]? = some (.str file_L tf_L))
    (fi_L : ((l.prog.main.file : Str) == file_L) = true)
    (ka_L : PySem.W.findIn K (.ref cL) "__class__" = some (some (.builtin "object.__class__")))
    (km_L : PySem.W.mroIn K cL (.type "object") = some true)
    (sR_L : PySem.W.subIn K (.ref cL) (.ref cR) = some true)
    (sL_L : PySem.W.subIn K (.ref cL) (.ref cL) = some true)
    (sC_L : PySem.W.subIn K (.ref cL) (.ref cC) = some false)
    (sU_L : PySem.W.subIn K (.ref cL) (.ref cU) = some false)
    (sQ_L : PySem.W.subIn K (.ref cL) (.ref cQ) = some false)
    (xI_C : K.lookup cC = some (excClassObj nm_C q_C cC NN_C bs_C bm_C true sn_C sub_C ab_C col_C dd_C m0_C m1_C m2_C m3_C m5_C "ValueError.__new__"))
    (rv_C : PySem.HandSPX.refsVE bm_C = true)
    (sa_C : PySem.W.findIn K (.ref cC) "__setattr__" = some (some (.builtin "object.__setattr__")))
    (ga_C : PySem.W.findIn K (.ref cC) "__getattribute__" = some (some (.builtin "BaseException.__getattribute__")))
    (gg_C : PySem.W.findIn K (.ref cC) "__getattr__" = some none)
    (nF_C : PySem.W.findIn K (.ref cC) "value" = some none)
    (iX_C : PySem.W.findIn K (.ref cC) "__init__" = some (some (.ref fXC)))
    (tF_C : PySem.W.typeIn K (.ref fXC) = some (.type "function"))
    (kI_C : PySem.W.keepIn K (.ref cC) = true)
    (eI_C : PySem.W.subIn K (.ref cC) (.type "BaseException") = some true)
    (vI_C : PySem.W.subIn K (.ref cC) (.type "ValueError") = some true)
    (mI_C : PySem.W.mroIn K cC (.ref cC) = some true)
    (su_C : PySem.W.ks_superIn K cC cC "__init__" = some (some (.builtin "ValueError.__init__")))
    (lX_C : K.lookup fXC = some ⟨oc0C, od0C, .func (PySem.Sup.sFn "value" "not a clause" "InvalidClause.__init__" ⟨14, 17, 14, 21⟩ ⟨14, 23, 14, 28⟩ ⟨15, 8, 15, 13⟩ ⟨15, 8, 15, 15⟩ ⟨15, 8, 15, 24⟩ ⟨15, 25, 15, 39⟩ ⟨15, 8, 15, 40⟩ ⟨15, 8, 15, 40⟩ ⟨16, 8, 16, 12⟩ ⟨16, 8, 16, 18⟩ ⟨16, 21, 16, 26⟩ ⟨16, 8, 16, 26⟩ dc0C pm0C an0C cda_C cc_C ct0C), sl0C⟩)
    (cX_C : PySem.W.codeIn K (.ref cda_C) "InvalidClause.__init__" = true)
    (lC_C : K.lookup cc_C = some ⟨cl0_C, cld_C, .cell (some (.ref cC)), csl_C⟩)
    (lD_C : K.lookup cda_C = some ⟨ccl_C, cdd_C, .fields rvs_C, ccs_C⟩)
    (rf_C : rvs_C[2]? = some (.str file_C tf_C))
    (fi_C : ((l.prog.main.file : Str) == file_C) = true)
    (ka_C : PySem.W.findIn K (.ref cC) "__class__" = some (some (.builtin "object.__class__")))
    (km_C : PySem.W.mroIn K cC (.type "object") = some true)
    (sR_C : PySem.W.subIn K (.ref cC) (.ref cR) = some true)
    (sL_C : PySem.W.subIn K (.ref cC) (.ref cL) = some false)
    (sC_C : PySem.W.subIn K (.ref cC) (.ref cC) = some true)
    (sU_C : PySem.W.subIn K (.ref cC) (.ref cU) = some false)
    (sQ_C : PySem.W.subIn K (.ref cC) (.ref cQ) = some false)
    (xI_U : K.lookup cU = some (excClassObj nm_U q_U cU NN_U bs_U bm_U true sn_U sub_U ab_U col_U dd_U m0_U m1_U m2_U m3_U m5_U "ValueError.__new__"))
    (rv_U : PySem.HandSPX.refsVE bm_U = true)
    (sa_U : PySem.W.findIn K (.ref cU) "__setattr__" = some (some (.builtin "object.__setattr__")))
    (ga_U : PySem.W.findIn K (.ref cU) "__getattribute__" = some (some (.builtin "BaseException.__getattribute__")))
    (gg_U : PySem.W.findIn K (.ref cU) "__getattr__" = some none)
    (nF_U : PySem.W.findIn K (.ref cU) "name" = some none)
    (iX_U : PySem.W.findIn K (.ref cU) "__init__" = some (some (.ref fXU)))
    (tF_U : PySem.W.typeIn K (.ref fXU) = some (.type "function"))
    (kI_U : PySem.W.keepIn K (.ref cU) = true)
    (eI_U : PySem.W.subIn K (.ref cU) (.type "BaseException") = some true)
    (vI_U : PySem.W.subIn K (.ref cU) (.type "ValueError") = some true)
    (mI_U : PySem.W.mroIn K cU (.ref cU) = some true)
    (su_U : PySem.W.ks_superIn K cU cU "__init__" = some (some (.builtin "ValueError.__init__")))
    (lX_U : K.lookup fXU = some ⟨oc0U, od0U, .func (PySem.Sup.sFn "name" "not a listed moment" "UnknownMoment.__init__" ⟨24, 17, 24, 21⟩ ⟨24, 23, 24, 27⟩ ⟨25, 8, 25, 13⟩ ⟨25, 8, 25, 15⟩ ⟨25, 8, 25, 24⟩ ⟨25, 25, 25, 46⟩ ⟨25, 8, 25, 47⟩ ⟨25, 8, 25, 47⟩ ⟨26, 8, 26, 12⟩ ⟨26, 8, 26, 17⟩ ⟨26, 20, 26, 24⟩ ⟨26, 8, 26, 24⟩ dc0U pm0U an0U cda_U cc_U ct0U), sl0U⟩)
    (cX_U : PySem.W.codeIn K (.ref cda_U) "UnknownMoment.__init__" = true)
    (lC_U : K.lookup cc_U = some ⟨cl0_U, cld_U, .cell (some (.ref cU)), csl_U⟩)
    (lD_U : K.lookup cda_U = some ⟨ccl_U, cdd_U, .fields rvs_U, ccs_U⟩)
    (rf_U : rvs_U[2]? = some (.str file_U tf_U))
    (fi_U : ((l.prog.main.file : Str) == file_U) = true)
    (ka_U : PySem.W.findIn K (.ref cU) "__class__" = some (some (.builtin "object.__class__")))
    (km_U : PySem.W.mroIn K cU (.type "object") = some true)
    (sR_U : PySem.W.subIn K (.ref cU) (.ref cR) = some true)
    (sL_U : PySem.W.subIn K (.ref cU) (.ref cL) = some false)
    (sC_U : PySem.W.subIn K (.ref cU) (.ref cC) = some false)
    (sU_U : PySem.W.subIn K (.ref cU) (.ref cU) = some true)
    (sQ_U : PySem.W.subIn K (.ref cU) (.ref cQ) = some false)
    (q_pg : PySem.W.plainGet K cQ Str.empty = true)
    (q_po : PySem.W.plainOver K cQ = true)
    (q_sa : PySem.W.findIn K (.ref cQ) "__setattr__" = some (some (.builtin "object.__setattr__")))
    (q_n1 : PySem.W.findIn K (.ref cQ) "clauses" = some none)
    (q_n2 : PySem.W.findIn K (.ref cQ) "atoms" = some none)
    (q_n3 : PySem.W.findIn K (.ref cQ) "truths" = some none)
    (q_n4 : PySem.W.findIn K (.ref cQ) "moments" = some none)
    (q_mk : PySem.W.makesIn K cQ = true)
    (q_kp : PySem.W.keepIn K (.ref cQ) = true)
    (q_ka : PySem.W.findIn K (.ref cQ) "__class__" = some (some (.builtin "object.__class__")))
    (q_km : PySem.W.mroIn K cQ (.type "object") = some true)
    (q_sf : PySem.W.selfFirst K cQ = true)
    (q_fI : PySem.W.findIn K (.ref cQ) "__init__" = some (some (.ref qfI)))
    (q_iI : PySem.W.isFn K (.ref qfI) = true)
    (q_lI : K.lookup qfI = some ⟨qocI, qodI, .func (PySem.W.fnOf "__init__" "Question.__init__" (defArgs s_Question_init) (defBody s_Question_init) (defScope s_Question_init) .none qkVI qdcI qpmI qanI qcdI qctI), qslI⟩)
    (q_cI : PySem.W.codeIn K qcdI "Question.__init__" = true)
    (q_kI : PySem.W.keepIn K (.ref qfI) = true) :
    ∃ fd : FuncData, (∀ (s : Shared) (v : Value), BindsTo s fd ⟨[v], []⟩ [("script", v)]) ∧ ∀ base : Heap, K.In base → base.Ns mainGlobals mg → FnG l.prog w K mg base 12 fa fd ["script"] (spLaw K) := by
  have e := hfa.symm.trans (PySem.W.mg_of X G a51)
  cases e
  have g1 := PySem.W.mg_of X G a1
  have F1 := fun_mk (st := s_wall) l1 c1 k1
  have b1 := F1.binds (ps := ["k"]) fun _ _ _ _ _ _ us hl => match us, hl with | [_], _ => rfl
  have g2 := PySem.W.mg_of X G a2
  have F2 := fun_mk (st := s_is_name) l2 c2 k2
  have b2 := F2.binds (ps := ["value"]) fun _ _ _ _ _ _ us hl => match us, hl with | [_], _ => rfl
  have g3 := PySem.W.mg_of X G a3
  have F3 := fun_mk (st := s_is_integer) l3 c3 k3
  have b3 := F3.binds (ps := ["value"]) fun _ _ _ _ _ _ us hl => match us, hl with | [_], _ => rfl
  have g4 := PySem.W.mg_of X G a4
  have F4 := fun_mk (st := s_is_bound) l4 c4 k4
  have b4 := F4.binds (ps := ["value"]) fun _ _ _ _ _ _ us hl => match us, hl with | [_], _ => rfl
  have g5 := PySem.W.mg_of X G a5
  have F5 := fun_mk (st := s_is_literal) l5 c5 k5
  have b5 := F5.binds (ps := ["value"]) fun _ _ _ _ _ _ us hl => match us, hl with | [_], _ => rfl
  have g6 := PySem.W.mg_of X G a6
  have F6 := fun_mk (st := s_is_clause) l6 c6 k6
  have b6 := F6.binds (ps := ["value"]) fun _ _ _ _ _ _ us hl => match us, hl with | [_], _ => rfl
  have g7 := PySem.W.mg_of X G a7
  have F7 := fun_mk (st := s_check_literal) l7 c7 k7
  have b7 := F7.binds (ps := ["value"]) fun _ _ _ _ _ _ us hl => match us, hl with | [_], _ => rfl
  have g8 := PySem.W.mg_of X G a8
  have F8 := fun_mk (st := s_opposite) l8 c8 k8
  have b8 := F8.binds (ps := ["literal"]) fun _ _ _ _ _ _ us hl => match us, hl with | [_], _ => rfl
  have g9 := PySem.W.mg_of X G a9
  have F9 := fun_mk (st := s_atom_of) l9 c9 k9
  have b9 := F9.binds (ps := ["literal"]) fun _ _ _ _ _ _ us hl => match us, hl with | [_], _ => rfl
  have g10 := PySem.W.mg_of X G a10
  have F10 := fun_mk (st := s_atoms_of) l10 c10 k10
  have b10 := F10.binds (ps := ["literals"]) fun _ _ _ _ _ _ us hl => match us, hl with | [_], _ => rfl
  have g11 := PySem.W.mg_of X G a11
  have F11 := fun_mk (st := s_truths_of) l11 c11 k11
  have b11 := F11.binds (ps := ["literals"]) fun _ _ _ _ _ _ us hl => match us, hl with | [_], _ => rfl
  have g12 := PySem.W.mg_of X G a12
  have F12 := fun_mk (st := s_moments_of) l12 c12 k12
  have b12 := F12.binds (ps := ["literals"]) fun _ _ _ _ _ _ us hl => match us, hl with | [_], _ => rfl
  have g13 := PySem.W.mg_of X G a13
  have F13 := fun_mk (st := s_clause_of) l13 c13 k13
  have b13 := F13.binds (ps := ["literals"]) fun _ _ _ _ _ _ us hl => match us, hl with | [_], _ => rfl
  have g14 := PySem.W.mg_of X G a14
  have F14 := fun_mk (st := s_normal_form) l14 c14 k14
  have b14 := F14.binds (ps := ["literals"]) fun _ _ _ _ _ _ us hl => match us, hl with | [_], _ => rfl
  have g15 := PySem.W.mg_of X G a15
  have F15 := fun_mk (st := s_check_listed) l15 c15 k15
  have b15 := F15.binds (ps := ["moments", "values"]) fun _ _ _ _ _ _ us hl => match us, hl with | [_, _], _ => rfl
  have g16 := PySem.W.mg_of X G a16
  have F16 := fun_mk (st := s_literal_stands) l16 c16 k16
  have b16 := F16.binds (ps := ["literal", "names", "table"]) fun _ _ _ _ _ _ us hl => match us, hl with | [_, _, _], _ => rfl
  have g17 := PySem.W.mg_of X G a17
  have F17 := fun_mk (st := s_clauses_stand) l17 c17 k17
  have b17 := F17.binds (ps := ["clauses", "values"]) fun _ _ _ _ _ _ us hl => match us, hl with | [_, _], _ => rfl
  have g18 := PySem.W.mg_of X G a18
  have F18 := fun_mk (st := s_holds) l18 c18 k18
  have b18 := F18.binds (ps := ["literal", "values"]) fun _ _ _ _ _ _ us hl => match us, hl with | [_, _], _ => rfl
  have g19 := PySem.W.mg_of X G a19
  have F19 := fun_mk (st := s_clause_holds) l19 c19 k19
  have b19 := F19.binds (ps := ["clause", "values"]) fun _ _ _ _ _ _ us hl => match us, hl with | [_, _], _ => rfl
  have g20 := PySem.W.mg_of X G a20
  have F20 := fun_mk (st := s_write_literal) l20 c20 k20
  have b20 := F20.binds (ps := ["literal"]) fun _ _ _ _ _ _ us hl => match us, hl with | [_], _ => rfl
  have g21 := PySem.W.mg_of X G a21
  have F21 := fun_mk (st := s_write_clause) l21 c21 k21
  have b21 := F21.binds (ps := ["clause"]) fun _ _ _ _ _ _ us hl => match us, hl with | [_], _ => rfl
  have g22 := PySem.W.mg_of X G a22
  have F22 := fun_mk (st := s_is_number) l22 c22 k22
  have b22 := F22.binds (ps := ["text", "most"]) fun _ _ _ _ _ _ us hl => match us, hl with | [_, _], _ => rfl
  have g23 := PySem.W.mg_of X G a23
  have F23 := fun_mk (st := s_told_integer) l23 c23 k23
  have b23 := F23.binds (ps := ["text"]) fun _ _ _ _ _ _ us hl => match us, hl with | [_], _ => rfl
  have g24 := PySem.W.mg_of X G a24
  have F24 := fun_mk (st := s_told_bound) l24 c24 k24
  have b24 := F24.binds (ps := ["text"]) fun _ _ _ _ _ _ us hl => match us, hl with | [_], _ => rfl
  have g25 := PySem.W.mg_of X G a25
  have F25 := fun_mk (st := s_told_literal) l25 c25 k25
  have b25 := F25.binds (ps := ["text"]) fun _ _ _ _ _ _ us hl => match us, hl with | [_], _ => rfl
  have g26 := PySem.W.mg_of X G a26
  have F26 := fun_mk (st := s_told_clause) l26 c26 k26
  have b26 := F26.binds (ps := ["text"]) fun _ _ _ _ _ _ us hl => match us, hl with | [_], _ => rfl
  have g27 := PySem.W.mg_of X G a27
  have F27 := fun_mk (st := s_all_read) l27 c27 k27
  have b27 := F27.binds (ps := ["rows"]) fun _ _ _ _ _ _ us hl => match us, hl with | [_], _ => rfl
  have g28 := PySem.W.mg_of X G a28
  have F28 := fun_mk (st := s_fit_question) l28 c28 k28
  have b28 := F28.binds (ps := ["good", "bad", "literals", "count"]) fun _ _ _ _ _ _ us hl => match us, hl with | [_, _, _, _], _ => rfl
  have g29 := PySem.W.mg_of X G a29
  have F29 := fun_mk (st := s_places_held) l29 c29 k29
  have b29 := F29.binds (ps := ["literals", "values"]) fun _ _ _ _ _ _ us hl => match us, hl with | [_, _], _ => rfl
  have g30 := PySem.W.mg_of X G a30
  have F30 := fun_mk (st := s_name_of_part) l30 c30 k30
  have b30 := F30.binds (ps := ["row", "place"]) fun _ _ _ _ _ _ us hl => match us, hl with | [_, _], _ => rfl
  have g31 := PySem.W.mg_of X G a31
  have F31 := fun_mk (st := s_name_of_refusal) l31 c31 k31
  have b31 := F31.binds (ps := ["row", "number"]) fun _ _ _ _ _ _ us hl => match us, hl with | [_, _], _ => rfl
  have g32 := PySem.W.mg_of X G a32
  have F32 := fun_mk (st := s_law_bag) l32 c32 k32
  have b32 := F32.binds (ps := ["script", "k"]) fun _ _ _ _ _ _ us hl => match us, hl with | [_, _], _ => rfl
  have g33 := PySem.W.mg_of X G a33
  have F33 := fun_mk (st := s_law_draw) l33 c33 k33
  have b33 := F33.binds (ps := ["bag", "size"]) fun _ _ _ _ _ _ us hl => match us, hl with | [_, _], _ => rfl
  have g34 := PySem.W.mg_of X G a34
  have F34 := fun_mk (st := s_law_letters) l34 c34 k34
  have b34 := F34.binds (ps := ["bag", "count"]) fun _ _ _ _ _ _ us hl => match us, hl with | [_, _], _ => rfl
  have g35 := PySem.W.mg_of X G a35
  have F35 := fun_mk (st := s_law_names) l35 c35 k35
  have b35 := F35.binds (ps := ["bag"]) fun _ _ _ _ _ _ us hl => match us, hl with | [_], _ => rfl
  have g36 := PySem.W.mg_of X G a36
  have F36 := fun_mk (st := s_law_integer) l36 c36 k36
  have b36 := F36.binds (ps := ["bag"]) fun _ _ _ _ _ _ us hl => match us, hl with | [_], _ => rfl
  have g37 := PySem.W.mg_of X G a37
  have F37 := fun_mk (st := s_law_literal) l37 c37 k37
  have b37 := F37.binds (ps := ["bag", "truths", "moments"]) fun _ _ _ _ _ _ us hl => match us, hl with | [_, _, _], _ => rfl
  have g38 := PySem.W.mg_of X G a38
  have F38 := fun_mk (st := s_law_form) l38 c38 k38
  have b38 := F38.binds (ps := ["literals"]) fun _ _ _ _ _ _ us hl => match us, hl with | [_], _ => rfl
  have g39 := PySem.W.mg_of X G a39
  have F39 := fun_mk (st := s_law_whole) l39 c39 k39
  have b39 := F39.binds (ps := ["one"]) fun _ _ _ _ _ _ us hl => match us, hl with | [_], _ => rfl
  have g40 := PySem.W.mg_of X G a40
  have F40 := fun_mk (st := s_law_is_literal) l40 c40 k40
  have b40 := F40.binds (ps := ["one"]) fun _ _ _ _ _ _ us hl => match us, hl with | [_], _ => rfl
  have g41 := PySem.W.mg_of X G a41
  have F41 := fun_mk (st := s_law_holds) l41 c41 k41
  have b41 := F41.binds (ps := ["literal", "values"]) fun _ _ _ _ _ _ us hl => match us, hl with | [_, _], _ => rfl
  have g42 := PySem.W.mg_of X G a42
  have F42 := fun_mk (st := s_law_values) l42 c42 k42
  have b42 := F42.binds (ps := ["bag", "truths", "moments"]) fun _ _ _ _ _ _ us hl => match us, hl with | [_, _, _], _ => rfl
  have g43 := PySem.W.mg_of X G a43
  have F43 := fun_mk (st := s_law_literals) l43 c43 k43
  have b43 := F43.binds (ps := ["bag", "truths", "moments", "most"]) fun _ _ _ _ _ _ us hl => match us, hl with | [_, _, _, _], _ => rfl
  have g44 := PySem.W.mg_of X G a44
  have F44 := fun_mk (st := s_law_fit_clauses) l44 c44 k44
  have b44 := F44.binds (ps := ["good", "bad", "literals", "count"]) fun _ _ _ _ _ _ us hl => match us, hl with | [_, _, _, _], _ => rfl
  have g45 := PySem.W.mg_of X G a45
  have F45 := fun_mk (st := s_law_odd) l45 c45 k45
  have b45 := F45.binds (ps := ["bag", "literals", "truths", "moments"]) fun _ _ _ _ _ _ us hl => match us, hl with | [_, _, _, _], _ => rfl
  have g46 := PySem.W.mg_of X G a46
  have F46 := fun_mk (st := s_law_more) l46 c46 k46
  have b46 := F46.binds (ps := ["bag", "values"]) fun _ _ _ _ _ _ us hl => match us, hl with | [_, _], _ => rfl
  have g47 := PySem.W.mg_of X G a47
  have F47 := fun_mk (st := s_law_is_word) l47 c47 k47
  have b47 := F47.binds (ps := ["one"]) fun _ _ _ _ _ _ us hl => match us, hl with | [_], _ => rfl
  have g48 := PySem.W.mg_of X G a48
  have F48 := fun_mk (st := s_law_is_good) l48 c48 k48
  have b48 := F48.binds (ps := ["one"]) fun _ _ _ _ _ _ us hl => match us, hl with | [_], _ => rfl
  have g49 := PySem.W.mg_of X G a49
  have F49 := fun_mk (st := s_law_asked) l49 c49 k49
  have b49 := F49.binds (ps := ["good", "bad", "literals", "count"]) fun _ _ _ _ _ _ us hl => match us, hl with | [_, _, _, _], _ => rfl
  have g50 := PySem.W.mg_of X G a50
  have F50 := fun_mk (st := s_law_handed) l50 c50 k50
  have b50 := F50.binds (ps := ["rows", "shape"]) fun _ _ _ _ _ _ us hl => match us, hl with | [_, _], _ => rfl
  have g51 := PySem.W.mg_of X G a51
  have F51 := fun_mk (st := s_law) l51 c51 k51
  have b51 := F51.binds (ps := ["script"]) fun _ _ _ _ _ _ us hl => match us, hl with | [_], _ => rfl
  have n_isinstance := PySem.W.mg_none_of X G z_isinstance
  have n_str := PySem.W.mg_none_of X G z_str
  have n_int := PySem.W.mg_none_of X G z_int
  have n_bool := PySem.W.mg_none_of X G z_bool
  have n_tuple := PySem.W.mg_none_of X G z_tuple
  have n_list := PySem.W.mg_none_of X G z_list
  have n_len := PySem.W.mg_none_of X G z_len
  have n_range := PySem.W.mg_none_of X G z_range
  have n_sorted := PySem.W.mg_none_of X G z_sorted
  have n_abs := PySem.W.mg_none_of X G z_abs
  have n_all := PySem.W.mg_none_of X G z_all
  have n_any := PySem.W.mg_none_of X G z_any
  have n_set := PySem.W.mg_none_of X G z_set
  have n_sum := PySem.W.mg_none_of X G z_sum
  have n_zip := PySem.W.mg_none_of X G z_zip
  have n_enumerate := PySem.W.mg_none_of X G z_enumerate
  have n_dict := PySem.W.mg_none_of X G z_dict
  have n_repr := PySem.W.mg_none_of X G z_repr
  have n_ValueError := PySem.W.mg_none_of X G z_ValueError
  have n_super := PySem.W.mg_none_of X G z_super
  have sup_L : PySem.Sup.SupTxt K mg l.prog "InvalidLiteral" "value" "not a literal" cL fXL :=
    { gC := PySem.W.mg_of X G aL, ok := { bd := fun _ _ _ _ _ _ _ _ _ _ _ _ _ _ _ _ _ _ _ _ _ _ => rfl, lf := rfl, lc := rfl, ls := rfl, nd := by decide, ns := by decide }, cls := ⟨nm_L, q_L, NN_L, bs_L, bm_L, sn_L, sub_L, ab_L, col_L, dd_L, m0_L, m1_L, m2_L, m3_L, m5_L, xI_L, rv_L⟩,
      sa := sa_L, ga := ga_L, gg := gg_L, noF := nF_L, iC := iX_L, tF := tF_L, kC := kI_L, exC := eI_L, veC := vI_L, tyC := yL, hdC := hL, mC := mI_L, opq := oq, sup := su_L, htop := hTop, mgS := n_super,
      fn := ⟨oc0L, od0L, _, dc0L, pm0L, an0L, cda_L, cc_L, ct0L, sl0L, _, _, _, _, _, _, _, _, _, _, _, _, lX_L, fun _ _ => ⟨_, rfl⟩, cX_L, ⟨cl0_L, cld_L, csl_L, lC_L⟩, ⟨ccl_L, cdd_L, rvs_L, ccs_L, file_L, tf_L, lD_L, rf_L, fi_L⟩⟩ }
  have sup_C : PySem.Sup.SupTxt K mg l.prog "InvalidClause" "value" "not a clause" cC fXC :=
    { gC := PySem.W.mg_of X G aC, ok := { bd := fun _ _ _ _ _ _ _ _ _ _ _ _ _ _ _ _ _ _ _ _ _ _ => rfl, lf := rfl, lc := rfl, ls := rfl, nd := by decide, ns := by decide }, cls := ⟨nm_C, q_C, NN_C, bs_C, bm_C, sn_C, sub_C, ab_C, col_C, dd_C, m0_C, m1_C, m2_C, m3_C, m5_C, xI_C, rv_C⟩,
      sa := sa_C, ga := ga_C, gg := gg_C, noF := nF_C, iC := iX_C, tF := tF_C, kC := kI_C, exC := eI_C, veC := vI_C, tyC := yC, hdC := hC, mC := mI_C, opq := oq, sup := su_C, htop := hTop, mgS := n_super,
      fn := ⟨oc0C, od0C, _, dc0C, pm0C, an0C, cda_C, cc_C, ct0C, sl0C, _, _, _, _, _, _, _, _, _, _, _, _, lX_C, fun _ _ => ⟨_, rfl⟩, cX_C, ⟨cl0_C, cld_C, csl_C, lC_C⟩, ⟨ccl_C, cdd_C, rvs_C, ccs_C, file_C, tf_C, lD_C, rf_C, fi_C⟩⟩ }
  have sup_U : PySem.Sup.SupTxt K mg l.prog "UnknownMoment" "name" "not a listed moment" cU fXU :=
    { gC := PySem.W.mg_of X G aU, ok := { bd := fun _ _ _ _ _ _ _ _ _ _ _ _ _ _ _ _ _ _ _ _ _ _ => rfl, lf := rfl, lc := rfl, ls := rfl, nd := by decide, ns := by decide }, cls := ⟨nm_U, q_U, NN_U, bs_U, bm_U, sn_U, sub_U, ab_U, col_U, dd_U, m0_U, m1_U, m2_U, m3_U, m5_U, xI_U, rv_U⟩,
      sa := sa_U, ga := ga_U, gg := gg_U, noF := nF_U, iC := iX_U, tF := tF_U, kC := kI_U, exC := eI_U, veC := vI_U, tyC := yU, hdC := hU, mC := mI_U, opq := oq, sup := su_U, htop := hTop, mgS := n_super,
      fn := ⟨oc0U, od0U, _, dc0U, pm0U, an0U, cda_U, cc_U, ct0U, sl0U, _, _, _, _, _, _, _, _, _, _, _, _, lX_U, fun _ _ => ⟨_, rfl⟩, cX_U, ⟨cl0_U, cld_U, csl_U, lC_U⟩, ⟨ccl_U, cdd_U, rvs_U, ccs_U, file_U, tf_U, lD_U, rf_U, fi_U⟩⟩ }
  let a : Ad := { a_wall := f1, a_is_name := f2, a_is_integer := f3, a_is_bound := f4, a_is_literal := f5, a_is_clause := f6, a_check_literal := f7, a_opposite := f8, a_atom_of := f9, a_atoms_of := f10, a_truths_of := f11, a_moments_of := f12, a_clause_of := f13, a_normal_form := f14, a_check_listed := f15, a_literal_stands := f16, a_clauses_stand := f17, a_holds := f18, a_clause_holds := f19, a_write_literal := f20, a_write_clause := f21, a_is_number := f22, a_told_integer := f23, a_told_bound := f24, a_told_literal := f25, a_told_clause := f26, a_all_read := f27, a_fit_question := f28, a_places_held := f29, a_name_of_part := f30, a_name_of_refusal := f31, a_law_bag := f32, a_law_draw := f33, a_law_letters := f34, a_law_names := f35, a_law_integer := f36, a_law_literal := f37, a_law_form := f38, a_law_whole := f39, a_law_is_literal := f40, a_law_holds := f41, a_law_values := f42, a_law_literals := f43, a_law_fit_clauses := f44, a_law_odd := f45, a_law_more := f46, a_law_is_word := f47, a_law_is_good := f48, a_law_asked := f49, a_law_handed := f50, a_law := fa, tL := tk0, tS := tk1, tN := tk2, cR := cR, cL := cL, cC := cC, cU := cU, cQ := cQ }
  let d : Fd := { a_wall := PySem.W.fnOf "_wall" "_wall" (defArgs s_wall) (defBody s_wall) (defScope s_wall) .none kV1 dc1 pm1 an1 cd1 ct1, a_is_name := PySem.W.fnOf "is_name" "is_name" (defArgs s_is_name) (defBody s_is_name) (defScope s_is_name) .none kV2 dc2 pm2 an2 cd2 ct2, a_is_integer := PySem.W.fnOf "is_integer" "is_integer" (defArgs s_is_integer) (defBody s_is_integer) (defScope s_is_integer) .none kV3 dc3 pm3 an3 cd3 ct3, a_is_bound := PySem.W.fnOf "is_bound" "is_bound" (defArgs s_is_bound) (defBody s_is_bound) (defScope s_is_bound) .none kV4 dc4 pm4 an4 cd4 ct4, a_is_literal := PySem.W.fnOf "is_literal" "is_literal" (defArgs s_is_literal) (defBody s_is_literal) (defScope s_is_literal) .none kV5 dc5 pm5 an5 cd5 ct5, a_is_clause := PySem.W.fnOf "is_clause" "is_clause" (defArgs s_is_clause) (defBody s_is_clause) (defScope s_is_clause) .none kV6 dc6 pm6 an6 cd6 ct6, a_check_literal := PySem.W.fnOf "check_literal" "check_literal" (defArgs s_check_literal) (defBody s_check_literal) (defScope s_check_literal) .none kV7 dc7 pm7 an7 cd7 ct7, a_opposite := PySem.W.fnOf "opposite" "opposite" (defArgs s_opposite) (defBody s_opposite) (defScope s_opposite) .none kV8 dc8 pm8 an8 cd8 ct8, a_atom_of := PySem.W.fnOf "atom_of" "atom_of" (defArgs s_atom_of) (defBody s_atom_of) (defScope s_atom_of) .none kV9 dc9 pm9 an9 cd9 ct9, a_atoms_of := PySem.W.fnOf "atoms_of" "atoms_of" (defArgs s_atoms_of) (defBody s_atoms_of) (defScope s_atoms_of) .none kV10 dc10 pm10 an10 cd10 ct10, a_truths_of := PySem.W.fnOf "truths_of" "truths_of" (defArgs s_truths_of) (defBody s_truths_of) (defScope s_truths_of) .none kV11 dc11 pm11 an11 cd11 ct11, a_moments_of := PySem.W.fnOf "moments_of" "moments_of" (defArgs s_moments_of) (defBody s_moments_of) (defScope s_moments_of) .none kV12 dc12 pm12 an12 cd12 ct12, a_clause_of := PySem.W.fnOf "clause_of" "clause_of" (defArgs s_clause_of) (defBody s_clause_of) (defScope s_clause_of) .none kV13 dc13 pm13 an13 cd13 ct13, a_normal_form := PySem.W.fnOf "normal_form" "normal_form" (defArgs s_normal_form) (defBody s_normal_form) (defScope s_normal_form) .none kV14 dc14 pm14 an14 cd14 ct14, a_check_listed := PySem.W.fnOf "check_listed" "check_listed" (defArgs s_check_listed) (defBody s_check_listed) (defScope s_check_listed) .none kV15 dc15 pm15 an15 cd15 ct15, a_literal_stands := PySem.W.fnOf "literal_stands" "literal_stands" (defArgs s_literal_stands) (defBody s_literal_stands) (defScope s_literal_stands) .none kV16 dc16 pm16 an16 cd16 ct16, a_clauses_stand := PySem.W.fnOf "clauses_stand" "clauses_stand" (defArgs s_clauses_stand) (defBody s_clauses_stand) (defScope s_clauses_stand) .none kV17 dc17 pm17 an17 cd17 ct17, a_holds := PySem.W.fnOf "holds" "holds" (defArgs s_holds) (defBody s_holds) (defScope s_holds) .none kV18 dc18 pm18 an18 cd18 ct18, a_clause_holds := PySem.W.fnOf "clause_holds" "clause_holds" (defArgs s_clause_holds) (defBody s_clause_holds) (defScope s_clause_holds) .none kV19 dc19 pm19 an19 cd19 ct19, a_write_literal := PySem.W.fnOf "write_literal" "write_literal" (defArgs s_write_literal) (defBody s_write_literal) (defScope s_write_literal) .none kV20 dc20 pm20 an20 cd20 ct20, a_write_clause := PySem.W.fnOf "write_clause" "write_clause" (defArgs s_write_clause) (defBody s_write_clause) (defScope s_write_clause) .none kV21 dc21 pm21 an21 cd21 ct21, a_is_number := PySem.W.fnOf "is_number" "is_number" (defArgs s_is_number) (defBody s_is_number) (defScope s_is_number) .none kV22 dc22 pm22 an22 cd22 ct22, a_told_integer := PySem.W.fnOf "told_integer" "told_integer" (defArgs s_told_integer) (defBody s_told_integer) (defScope s_told_integer) .none kV23 dc23 pm23 an23 cd23 ct23, a_told_bound := PySem.W.fnOf "told_bound" "told_bound" (defArgs s_told_bound) (defBody s_told_bound) (defScope s_told_bound) .none kV24 dc24 pm24 an24 cd24 ct24, a_told_literal := PySem.W.fnOf "told_literal" "told_literal" (defArgs s_told_literal) (defBody s_told_literal) (defScope s_told_literal) .none kV25 dc25 pm25 an25 cd25 ct25, a_told_clause := PySem.W.fnOf "told_clause" "told_clause" (defArgs s_told_clause) (defBody s_told_clause) (defScope s_told_clause) .none kV26 dc26 pm26 an26 cd26 ct26, a_all_read := PySem.W.fnOf "all_read" "all_read" (defArgs s_all_read) (defBody s_all_read) (defScope s_all_read) .none kV27 dc27 pm27 an27 cd27 ct27, a_fit_question := PySem.W.fnOf "fit_question" "fit_question" (defArgs s_fit_question) (defBody s_fit_question) (defScope s_fit_question) .none kV28 dc28 pm28 an28 cd28 ct28, a_places_held := PySem.W.fnOf "places_held" "places_held" (defArgs s_places_held) (defBody s_places_held) (defScope s_places_held) .none kV29 dc29 pm29 an29 cd29 ct29, a_name_of_part := PySem.W.fnOf "name_of_part" "name_of_part" (defArgs s_name_of_part) (defBody s_name_of_part) (defScope s_name_of_part) .none kV30 dc30 pm30 an30 cd30 ct30, a_name_of_refusal := PySem.W.fnOf "name_of_refusal" "name_of_refusal" (defArgs s_name_of_refusal) (defBody s_name_of_refusal) (defScope s_name_of_refusal) .none kV31 dc31 pm31 an31 cd31 ct31, a_law_bag := PySem.W.fnOf "_law_bag" "_law_bag" (defArgs s_law_bag) (defBody s_law_bag) (defScope s_law_bag) .none kV32 dc32 pm32 an32 cd32 ct32, a_law_draw := PySem.W.fnOf "_law_draw" "_law_draw" (defArgs s_law_draw) (defBody s_law_draw) (defScope s_law_draw) .none kV33 dc33 pm33 an33 cd33 ct33, a_law_letters := PySem.W.fnOf "_law_letters" "_law_letters" (defArgs s_law_letters) (defBody s_law_letters) (defScope s_law_letters) .none kV34 dc34 pm34 an34 cd34 ct34, a_law_names := PySem.W.fnOf "_law_names" "_law_names" (defArgs s_law_names) (defBody s_law_names) (defScope s_law_names) .none kV35 dc35 pm35 an35 cd35 ct35, a_law_integer := PySem.W.fnOf "_law_integer" "_law_integer" (defArgs s_law_integer) (defBody s_law_integer) (defScope s_law_integer) .none kV36 dc36 pm36 an36 cd36 ct36, a_law_literal := PySem.W.fnOf "_law_literal" "_law_literal" (defArgs s_law_literal) (defBody s_law_literal) (defScope s_law_literal) .none kV37 dc37 pm37 an37 cd37 ct37, a_law_form := PySem.W.fnOf "_law_form" "_law_form" (defArgs s_law_form) (defBody s_law_form) (defScope s_law_form) .none kV38 dc38 pm38 an38 cd38 ct38, a_law_whole := PySem.W.fnOf "_law_whole" "_law_whole" (defArgs s_law_whole) (defBody s_law_whole) (defScope s_law_whole) .none kV39 dc39 pm39 an39 cd39 ct39, a_law_is_literal := PySem.W.fnOf "_law_is_literal" "_law_is_literal" (defArgs s_law_is_literal) (defBody s_law_is_literal) (defScope s_law_is_literal) .none kV40 dc40 pm40 an40 cd40 ct40, a_law_holds := PySem.W.fnOf "_law_holds" "_law_holds" (defArgs s_law_holds) (defBody s_law_holds) (defScope s_law_holds) .none kV41 dc41 pm41 an41 cd41 ct41, a_law_values := PySem.W.fnOf "_law_values" "_law_values" (defArgs s_law_values) (defBody s_law_values) (defScope s_law_values) .none kV42 dc42 pm42 an42 cd42 ct42, a_law_literals := PySem.W.fnOf "_law_literals" "_law_literals" (defArgs s_law_literals) (defBody s_law_literals) (defScope s_law_literals) .none kV43 dc43 pm43 an43 cd43 ct43, a_law_fit_clauses := PySem.W.fnOf "_law_fit_clauses" "_law_fit_clauses" (defArgs s_law_fit_clauses) (defBody s_law_fit_clauses) (defScope s_law_fit_clauses) .none kV44 dc44 pm44 an44 cd44 ct44, a_law_odd := PySem.W.fnOf "_law_odd" "_law_odd" (defArgs s_law_odd) (defBody s_law_odd) (defScope s_law_odd) .none kV45 dc45 pm45 an45 cd45 ct45, a_law_more := PySem.W.fnOf "_law_more" "_law_more" (defArgs s_law_more) (defBody s_law_more) (defScope s_law_more) .none kV46 dc46 pm46 an46 cd46 ct46, a_law_is_word := PySem.W.fnOf "_law_is_word" "_law_is_word" (defArgs s_law_is_word) (defBody s_law_is_word) (defScope s_law_is_word) .none kV47 dc47 pm47 an47 cd47 ct47, a_law_is_good := PySem.W.fnOf "_law_is_good" "_law_is_good" (defArgs s_law_is_good) (defBody s_law_is_good) (defScope s_law_is_good) .none kV48 dc48 pm48 an48 cd48 ct48, a_law_asked := PySem.W.fnOf "_law_asked" "_law_asked" (defArgs s_law_asked) (defBody s_law_asked) (defScope s_law_asked) .none kV49 dc49 pm49 an49 cd49 ct49, a_law_handed := PySem.W.fnOf "_law_handed" "_law_handed" (defArgs s_law_handed) (defBody s_law_handed) (defScope s_law_handed) .none kV50 dc50 pm50 an50 cd50 ct50, a_law := PySem.W.fnOf "law" "law" (defArgs s_law) (defBody s_law) (defScope s_law) .none kV51 dc51 pm51 an51 cd51 ct51 }
  have T : TX K mg a := { b_isinstance := n_isinstance, b_str := n_str, b_int := n_int, b_bool := n_bool, b_tuple := n_tuple, b_list := n_list, b_len := n_len, b_range := n_range, b_sorted := n_sorted, b_abs := n_abs, b_all := n_all, b_any := n_any, b_set := n_set, b_sum := n_sum, b_zip := n_zip, b_enumerate := n_enumerate, b_dict := n_dict, b_repr := n_repr, b_ValueError := n_ValueError, g_LETTERS := PySem.W.mg_of X G aK0, g_SIGNS := PySem.W.mg_of X G aK1, g_LONGEST_NAME := PySem.W.mg_of X G aK2, f__wall := g1, k__wall := k1, f_is_name := g2, k_is_name := k2, f_is_integer := g3, k_is_integer := k3, f_is_bound := g4, k_is_bound := k4, f_is_literal := g5, k_is_literal := k5, f_is_clause := g6, k_is_clause := k6, f_check_literal := g7, k_check_literal := k7, f_opposite := g8, k_opposite := k8, f_atom_of := g9, k_atom_of := k9, f_atoms_of := g10, k_atoms_of := k10, f_truths_of := g11, k_truths_of := k11, f_moments_of := g12, k_moments_of := k12, f_clause_of := g13, k_clause_of := k13, f_normal_form := g14, k_normal_form := k14, f_check_listed := g15, k_check_listed := k15, f_literal_stands := g16, k_literal_stands := k16, f_clauses_stand := g17, k_clauses_stand := k17, f_holds := g18, k_holds := k18, f_clause_holds := g19, k_clause_holds := k19, f_write_literal := g20, k_write_literal := k20, f_write_clause := g21, k_write_clause := k21, f_is_number := g22, k_is_number := k22, f_told_integer := g23, k_told_integer := k23, f_told_bound := g24, k_told_bound := k24, f_told_literal := g25, k_told_literal := k25, f_told_clause := g26, k_told_clause := k26, f_all_read := g27, k_all_read := k27, f_fit_question := g28, k_fit_question := k28, f_places_held := g29, k_places_held := k29, f_name_of_part := g30, k_name_of_part := k30, f_name_of_refusal := g31, k_name_of_refusal := k31, f__law_bag := g32, k__law_bag := k32, f__law_draw := g33, k__law_draw := k33, f__law_letters := g34, k__law_letters := k34, f__law_names := g35, k__law_names := k35, f__law_integer := g36, k__law_integer := k36, f__law_literal := g37, k__law_literal := k37, f__law_form := g38, k__law_form := k38, f__law_whole := g39, k__law_whole := k39, f__law_is_literal := g40, k__law_is_literal := k40, f__law_holds := g41, k__law_holds := k41, f__law_values := g42, k__law_values := k42, f__law_literals := g43, k__law_literals := k43, f__law_fit_clauses := g44, k__law_fit_clauses := k44, f__law_odd := g45, k__law_odd := k45, f__law_more := g46, k__law_more := k46, f__law_is_word := g47, k__law_is_word := k47, f__law_is_good := g48, k__law_is_good := k48, f__law_asked := g49, k__law_asked := k49, f__law_handed := g50, k__law_handed := k50, f_law := g51, k_law := k51, c_RingclauseError := PySem.W.mg_of X G aR, c_InvalidLiteral := PySem.W.mg_of X G aL, c_InvalidClause := PySem.W.mg_of X G aC, c_UnknownMoment := PySem.W.mg_of X G aU, c_Question := PySem.W.mg_of X G aQ }
  have D : FDS K a d := { F__wall := F1, B__wall := b1, F_is_name := F2, B_is_name := b2, F_is_integer := F3, B_is_integer := b3, F_is_bound := F4, B_is_bound := b4, F_is_literal := F5, B_is_literal := b5, F_is_clause := F6, B_is_clause := b6, F_check_literal := F7, B_check_literal := b7, F_opposite := F8, B_opposite := b8, F_atom_of := F9, B_atom_of := b9, F_atoms_of := F10, B_atoms_of := b10, F_truths_of := F11, B_truths_of := b11, F_moments_of := F12, B_moments_of := b12, F_clause_of := F13, B_clause_of := b13, F_normal_form := F14, B_normal_form := b14, F_check_listed := F15, B_check_listed := b15, F_literal_stands := F16, B_literal_stands := b16, F_clauses_stand := F17, B_clauses_stand := b17, F_holds := F18, B_holds := b18, F_clause_holds := F19, B_clause_holds := b19, F_write_literal := F20, B_write_literal := b20, F_write_clause := F21, B_write_clause := b21, F_is_number := F22, B_is_number := b22, F_told_integer := F23, B_told_integer := b23, F_told_bound := F24, B_told_bound := b24, F_told_literal := F25, B_told_literal := b25, F_told_clause := F26, B_told_clause := b26, F_all_read := F27, B_all_read := b27, F_fit_question := F28, B_fit_question := b28, F_places_held := F29, B_places_held := b29, F_name_of_part := F30, B_name_of_part := b30, F_name_of_refusal := F31, B_name_of_refusal := b31, F__law_bag := F32, B__law_bag := b32, F__law_draw := F33, B__law_draw := b33, F__law_letters := F34, B__law_letters := b34, F__law_names := F35, B__law_names := b35, F__law_integer := F36, B__law_integer := b36, F__law_literal := F37, B__law_literal := b37, F__law_form := F38, B__law_form := b38, F__law_whole := F39, B__law_whole := b39, F__law_is_literal := F40, B__law_is_literal := b40, F__law_holds := F41, B__law_holds := b41, F__law_values := F42, B__law_values := b42, F__law_literals := F43, B__law_literals := b43, F__law_fit_clauses := F44, B__law_fit_clauses := b44, F__law_odd := F45, B__law_odd := b45, F__law_more := F46, B__law_more := b46, F__law_is_word := F47, B__law_is_word := b47, F__law_is_good := F48, B__law_is_good := b48, F__law_asked := F49, B__law_asked := b49, F__law_handed := F50, B__law_handed := b50, F_law := F51, B_law := b51 }
  have QFI := fun_mk (st := s_Question_init) q_lI q_cI q_kI
  have R : ER K mg l.prog a fXL fXC fXC := { eL := sup_L, eC := sup_C }
  have M : MC K mg cQ qfI _ := { cl := ⟨q_pg, hQ, q_po, q_sa⟩, n1 := q_n1, n2 := q_n2, n3 := q_n3, n4 := q_n4, gC := PySem.W.mg_of X G aQ, mkr := ⟨q_mk, q_fI, q_iI, q_kp⟩, FI := QFI }
  have N : MK K cQ := { ka := q_ka, kn := kn, kt := kt, km := q_km, kk := kit_me }
  have Z : EW K a := { xc := ⟨ga_L, gg_L, eI_L, hL, ka_L, kn, kt, km_L⟩, xf := ⟨ga_L, gg_L, eI_L, hL⟩, noF := nF_L, kR := kit_ref sL_L sR_L hR yR, kV := kit_type (by decide +kernel) vI_L, eW := PySem.W.exm_ref eI_L hL yL sL_L }
  exact ⟨d.a_law, fun s v => .of_eq rfl, fun base _ _ => ok_law (P := l.prog) (w := w) (base := base) T D R M N Z sup_U⟩
theorem walk {l : PySem.W.OpenLaw} {q : Program} {loose : List Str} {XP : (Str → Option Value) → Heap → Prop} {YP : World → Heap → Prop} {d : DefRec} {K : Params → PySem.W.Frag} (hn : l.most = some 63) (hdf : d.params.defaults = [])
    (hY : ∀ (w : World) (h : Heap), YP w h → (K w.params).In h)
    (H : ∀ (w : World) (mg : Str → Option Value) (fa : Addr) (h : Heap), (K w.params).In h → h.Ns mainGlobals mg → mg d.name = some (.ref fa) →
      ∃ fd : FuncData, (∀ (s : Shared) (u : Value), BindsTo s fd ⟨[u], []⟩ [("script", u)]) ∧ ∀ base : Heap, (K w.params).In base → base.Ns mainGlobals mg → FnG l.prog w (K w.params) mg base 12 fa fd ["script"] (spLaw (K w.params))) :
    PySem.W.WalkO q loose XP YP l.row.toRowW d [] (fun f vs => PySem.call f vs) :=
  walk_ofG (n := 63) (k := 12) (x := "script") (sp := fun w => spLaw (K w.params)) hn (by decide) hdf ⟨rfl, by decide, by decide⟩ hY H (fun _ _ a ns hl _ hS => ⟨a, ns, rfl, hS, fun _ => rfl⟩)
end M6
set_option maxRecDepth 100000
open PySem PySem.W PyProof.Rows in
set_option maxRecDepth 100000 in
set_option maxHeartbeats 0 in
theorem PySem.Challenge.cw_ringclause_k56_fit_question_clauses_holds : PySem.Challenge.rw_ringclause_k56_fit_question_clauses.Holds := by
  w_on; o_law; k_head; (case hw => w_witness2)
  k_fill
  refine M6.walk (l := PySem.Challenge.rw_ringclause_k56_fit_question_clauses) rfl rfl (fun w h Y => PySem.W.kIn_of Y) ?F
  case F =>
    intro w mg fa h KX G hmg
    refine' M6.all_mk KX G hmg ?a1 ?l1 ?c1 ?k1 ?a2 ?l2 ?c2 ?k2 ?a3 ?l3 ?c3 ?k3 ?a4 ?l4 ?c4 ?k4 ?a5 ?l5 ?c5 ?k5 ?a6 ?l6 ?c6 ?k6 ?a7 ?l7 ?c7 ?k7 ?a8 ?l8 ?c8 ?k8 ?a9 ?l9 ?c9 ?k9 ?a10 ?l10 ?c10 ?k10 ?a11 ?l11 ?c11 ?k11 ?a12 ?l12 ?c12 ?k12 ?a13 ?l13 ?c13 ?k13 ?a14 ?l14 ?c14 ?k14 ?a15 ?l15 ?c15 ?k15 ?a16 ?l16 ?c16 ?k16 ?a17 ?l17 ?c17 ?k17 ?a18 ?l18 ?c18 ?k18 ?a19 ?l19 ?c19 ?k19 ?a20 ?l20 ?c20 ?k20 ?a21 ?l21 ?c21 ?k21 ?a22 ?l22 ?c22 ?k22 ?a23 ?l23 ?c23 ?k23 ?a24 ?l24 ?c24 ?k24 ?a25 ?l25 ?c25 ?k25 ?a26 ?l26 ?c26 ?k26 ?a27 ?l27 ?c27 ?k27 ?a28 ?l28 ?c28 ?k28 ?a29 ?l29 ?c29 ?k29 ?a30 ?l30 ?c30 ?k30 ?a31 ?l31 ?c31 ?k31 ?a32 ?l32 ?c32 ?k32 ?a33 ?l33 ?c33 ?k33 ?a34 ?l34 ?c34 ?k34 ?a35 ?l35 ?c35 ?k35 ?a36 ?l36 ?c36 ?k36 ?a37 ?l37 ?c37 ?k37 ?a38 ?l38 ?c38 ?k38 ?a39 ?l39 ?c39 ?k39 ?a40 ?l40 ?c40 ?k40 ?a41 ?l41 ?c41 ?k41 ?a42 ?l42 ?c42 ?k42 ?a43 ?l43 ?c43 ?k43 ?a44 ?l44 ?c44 ?k44 ?a45 ?l45 ?c45 ?k45 ?a46 ?l46 ?c46 ?k46 ?a47 ?l47 ?c47 ?k47 ?a48 ?l48 ?c48 ?k48 ?a49 ?l49 ?c49 ?k49 ?a50 ?l50 ?c50 ?k50 ?a51 ?l51 ?c51 ?k51 ?z_isinstance ?z_str ?z_int ?z_bool ?z_tuple ?z_list ?z_len ?z_range ?z_sorted ?z_abs ?z_all ?z_any ?z_set ?z_sum ?z_zip ?z_enumerate ?z_dict ?z_repr ?z_ValueError ?z_super ?aK0 ?aK1 ?aK2 ?aR ?hR ?yR ?aL ?hL ?yL ?aC ?hC ?yC ?aU ?hU ?yU ?aQ ?hQ ?yQ ?oq ?hTop ?kn ?kt ?xI_L ?rv_L ?sa_L ?ga_L ?gg_L ?nF_L ?iX_L ?tF_L ?kI_L ?eI_L ?vI_L ?mI_L ?su_L ?lX_L ?cX_L ?lC_L ?lD_L ?rf_L ?fi_L ?ka_L ?km_L ?sR_L ?sL_L ?sC_L ?sU_L ?sQ_L ?xI_C ?rv_C ?sa_C ?ga_C ?gg_C ?nF_C ?iX_C ?tF_C ?kI_C ?eI_C ?vI_C ?mI_C ?su_C ?lX_C ?cX_C ?lC_C ?lD_C ?rf_C ?fi_C ?ka_C ?km_C ?sR_C ?sL_C ?sC_C ?sU_C ?sQ_C ?xI_U ?rv_U ?sa_U ?ga_U ?gg_U ?nF_U ?iX_U ?tF_U ?kI_U ?eI_U ?vI_U ?mI_U ?su_U ?lX_U ?cX_U ?lC_U ?lD_U ?rf_U ?fi_U ?ka_U ?km_U ?sR_U ?sL_U ?sC_U ?sU_U ?sQ_U ?q_pg ?q_po ?q_sa ?q_n1 ?q_n2 ?q_n3 ?q_n4 ?q_mk ?q_kp ?q_ka ?q_km ?q_sf ?q_fI ?q_iI ?q_lI ?q_cI ?q_kI
    (case a1 => k_is)
    (case l1 => k_is)
    (case c1 => k_is)
    (case k1 => k_is)
    (case a2 => k_is)
    (case l2 => k_is)
    (case c2 => k_is)
    (case k2 => k_is)
    (case a3 => k_is)
    (case l3 => k_is)
    (case c3 => k_is)
    (case k3 => k_is)
    (case a4 => k_is)
    (case l4 => k_is)
    (case c4 => k_is)
    (case k4 => k_is)
    (case a5 => k_is)
    (case l5 => k_is)
    (case c5 => k_is)
    (case k5 => k_is)
    (case a6 => k_is)
    (case l6 => k_is)
    (case c6 => k_is)
    (case k6 => k_is)
    (case a7 => k_is)
    (case l7 => k_is)
    (case c7 => k_is)
    (case k7 => k_is)
    (case a8 => k_is)
    (case l8 => k_is)
    (case c8 => k_is)
    (case k8 => k_is)
    (case a9 => k_is)
    (case l9 => k_is)
    (case c9 => k_is)
    (case k9 => k_is)
    (case a10 => k_is)
    (case l10 => k_is)
    (case c10 => k_is)
    (case k10 => k_is)
    (case a11 => k_is)
    (case l11 => k_is)
    (case c11 => k_is)
    (case k11 => k_is)
    (case a12 => k_is)
    (case l12 => k_is)
    (case c12 => k_is)
    (case k12 => k_is)
    (case a13 => k_is)
    (case l13 => k_is)
    (case c13 => k_is)
    (case k13 => k_is)
    (case a14 => k_is)
    (case l14 => k_is)
    (case c14 => k_is)
    (case k14 => k_is)
    (case a15 => k_is)
    (case l15 => k_is)
    (case c15 => k_is)
    (case k15 => k_is)
    (case a16 => k_is)
    (case l16 => k_is)
    (case c16 => k_is)
    (case k16 => k_is)
    (case a17 => k_is)
    (case l17 => k_is)
    (case c17 => k_is)
    (case k17 => k_is)
    (case a18 => k_is)
    (case l18 => k_is)
    (case c18 => k_is)
    (case k18 => k_is)
    (case a19 => k_is)
    (case l19 => k_is)
    (case c19 => k_is)
    (case k19 => k_is)
    (case a20 => k_is)
    (case l20 => k_is)
    (case c20 => k_is)
    (case k20 => k_is)
    (case a21 => k_is)
    (case l21 => k_is)
    (case c21 => k_is)
    (case k21 => k_is)
    (case a22 => k_is)
    (case l22 => k_is)
    (case c22 => k_is)
    (case k22 => k_is)
    (case a23 => k_is)
    (case l23 => k_is)
    (case c23 => k_is)
    (case k23 => k_is)
    (case a24 => k_is)
    (case l24 => k_is)
    (case c24 => k_is)
    (case k24 => k_is)
    (case a25 => k_is)
    (case l25 => k_is)
    (case c25 => k_is)
    (case k25 => k_is)
    (case a26 => k_is)
    (case l26 => k_is)
    (case c26 => k_is)
    (case k26 => k_is)
    (case a27 => k_is)
    (case l27 => k_is)
    (case c27 => k_is)
    (case k27 => k_is)
    (case a28 => k_is)
    (case l28 => k_is)
    (case c28 => k_is)
    (case k28 => k_is)
    (case a29 => k_is)
    (case l29 => k_is)
    (case c29 => k_is)
    (case k29 => k_is)
    (case a30 => k_is)
    (case l30 => k_is)
    (case c30 => k_is)
    (case k30 => k_is)
    (case a31 => k_is)
    (case l31 => k_is)
    (case c31 => k_is)
    (case k31 => k_is)
    (case a32 => k_is)
    (case l32 => k_is)
    (case c32 => k_is)
    (case k32 => k_is)
    (case a33 => k_is)
    (case l33 => k_is)
    (case c33 => k_is)
    (case k33 => k_is)
    (case a34 => k_is)
    (case l34 => k_is)
    (case c34 => k_is)
    (case k34 => k_is)
    (case a35 => k_is)
    (case l35 => k_is)
    (case c35 => k_is)
    (case k35 => k_is)
    (case a36 => k_is)
    (case l36 => k_is)
    (case c36 => k_is)
    (case k36 => k_is)
    (case a37 => k_is)
    (case l37 => k_is)
    (case c37 => k_is)
    (case k37 => k_is)
    (case a38 => k_is)
    (case l38 => k_is)
    (case c38 => k_is)
    (case k38 => k_is)
    (case a39 => k_is)
    (case l39 => k_is)
    (case c39 => k_is)
    (case k39 => k_is)
    (case a40 => k_is)
    (case l40 => k_is)
    (case c40 => k_is)
    (case k40 => k_is)
    (case a41 => k_is)
    (case l41 => k_is)
    (case c41 => k_is)
    (case k41 => k_is)
    (case a42 => k_is)
    (case l42 => k_is)
    (case c42 => k_is)
    (case k42 => k_is)
    (case a43 => k_is)
    (case l43 => k_is)
    (case c43 => k_is)
    (case k43 => k_is)
    (case a44 => k_is)
    (case l44 => k_is)
    (case c44 => k_is)
    (case k44 => k_is)
    (case a45 => k_is)
    (case l45 => k_is)
    (case c45 => k_is)
    (case k45 => k_is)
    (case a46 => k_is)
    (case l46 => k_is)
    (case c46 => k_is)
    (case k46 => k_is)
    (case a47 => k_is)
    (case l47 => k_is)
    (case c47 => k_is)
    (case k47 => k_is)
    (case a48 => k_is)
    (case l48 => k_is)
    (case c48 => k_is)
    (case k48 => k_is)
    (case a49 => k_is)
    (case l49 => k_is)
    (case c49 => k_is)
    (case k49 => k_is)
    (case a50 => k_is)
    (case l50 => k_is)
    (case c50 => k_is)
    (case k50 => k_is)
    (case a51 => k_is)
    (case l51 => k_is)
    (case c51 => k_is)
    (case k51 => k_is)
    (case z_isinstance => k_is)
    (case z_str => k_is)
    (case z_int => k_is)
    (case z_bool => k_is)
    (case z_tuple => k_is)
    (case z_list => k_is)
    (case z_len => k_is)
    (case z_range => k_is)
    (case z_sorted => k_is)
    (case z_abs => k_is)
    (case z_all => k_is)
    (case z_any => k_is)
    (case z_set => k_is)
    (case z_sum => k_is)
    (case z_zip => k_is)
    (case z_enumerate => k_is)
    (case z_dict => k_is)
    (case z_repr => k_is)
    (case z_ValueError => k_is)
    (case z_super => k_is)
    (case aK0 => k_is)
    (case aK1 => k_is)
    (case aK2 => k_is)
    (case aR => k_is)
    (case hR => k_is)
    (case yR => k_is)
    (case aL => k_is)
    (case hL => k_is)
    (case yL => k_is)
    (case aC => k_is)
    (case hC => k_is)
    (case yC => k_is)
    (case aU => k_is)
    (case hU => k_is)
    (case yU => k_is)
    (case aQ => k_is)
    (case hQ => k_is)
    (case yQ => k_is)
    (case oq => k_is)
    (case hTop => rfl)
    (case kn => k_is)
    (case kt => k_is)
    (case xI_L => k_is)
    (case rv_L => rfl)
    (case sa_L => k_is)
    (case ga_L => k_is)
    (case gg_L => k_is)
    (case nF_L => k_is)
    (case iX_L => k_is)
    (case tF_L => k_is)
    (case kI_L => k_is)
    (case eI_L => k_is)
    (case vI_L => k_is)
    (case mI_L => k_is)
    (case su_L => ks_is)
    (case lX_L => k_is)
    (case cX_L => k_is)
    (case lC_L => k_is)
    (case lD_L => k_is)
    (case rf_L => rfl)
    (case fi_L => rfl)
    (case ka_L => k_is)
    (case km_L => k_is)
    (case sR_L => k_is)
    (case sL_L => k_is)
    (case sC_L => k_is)
    (case sU_L => k_is)
    (case sQ_L => k_is)
    (case xI_C => k_is)
    (case rv_C => rfl)
    (case sa_C => k_is)
    (case ga_C => k_is)
    (case gg_C => k_is)
    (case nF_C => k_is)
    (case iX_C => k_is)
    (case tF_C => k_is)
    (case kI_C => k_is)
    (case eI_C => k_is)
    (case vI_C => k_is)
    (case mI_C => k_is)
    (case su_C => ks_is)
    (case lX_C => k_is)
    (case cX_C => k_is)
    (case lC_C => k_is)
    (case lD_C => k_is)
    (case rf_C => rfl)
    (case fi_C => rfl)
    (case ka_C => k_is)
    (case km_C => k_is)
    (case sR_C => k_is)
    (case sL_C => k_is)
    (case sC_C => k_is)
    (case sU_C => k_is)
    (case sQ_C => k_is)
    (case xI_U => k_is)
    (case rv_U => rfl)
    (case sa_U => k_is)
    (case ga_U => k_is)
    (case gg_U => k_is)
    (case nF_U => k_is)
    (case iX_U => k_is)
    (case tF_U => k_is)
    (case kI_U => k_is)
    (case eI_U => k_is)
    (case vI_U => k_is)
    (case mI_U => k_is)
    (case su_U => ks_is)
    (case lX_U => k_is)
    (case cX_U => k_is)
    (case lC_U => k_is)
    (case lD_U => k_is)
    (case rf_U => rfl)
    (case fi_U => rfl)
    (case ka_U => k_is)
    (case km_U => k_is)
    (case sR_U => k_is)
    (case sL_U => k_is)
    (case sC_U => k_is)
    (case sU_U => k_is)
    (case sQ_U => k_is)
    (case q_pg => k_is)
    (case q_po => k_is)
    (case q_sa => k_is)
    (case q_n1 => k_is)
    (case q_n2 => k_is)
    (case q_n3 => k_is)
    (case q_n4 => k_is)
    (case q_mk => k_is)
    (case q_kp => k_is)
    (case q_ka => k_is)
    (case q_km => k_is)
    (case q_sf => k_is)
    (case q_fI => k_is)
    (case q_iI => k_is)
    (case q_lI => k_is)
    (case q_cI => k_is)
    (case q_kI => k_is)
