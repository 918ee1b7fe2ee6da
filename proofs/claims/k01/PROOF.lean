import PyProof.Rows.All
import Wide.All
import OpenK.AllK
import Wide.FinOn
import KE.KExcSuper
import HandS.ForExc
import HandS.TryMany
import HandS.ExcCtx
import HandS.HotCalls
import HandS.ForMost
import HandS.ExcIs
import HandS.ExcField
import KE.KExcIs
import HandS.IsInst
import HandS.Comp
import HandS.Ends
import PyProof.ReprRoads
import HandS.ExcValue
import HandS.FStrTup
import PyProof.ReprText
import HandS.SetTxt0
import HandS.Set
import HandS.SetFor
import HandS.Strs
import PyProof.Rows.SortStr
import PyProof.Rows.SortShellK
import HandS.DictTup
import HandS.Conv
import HandS.DictSubView
import KE.KDictCopyH
import KE.KDictWalk
import PyProof.TupleOfGen
import HandS.SortKw
import HandS.MakeKw
import KE.DataMinMax
import KE.DataCmp
import PyProof.SliceList
import PyProof.CallFns
import HandS.DictComp
import KE.DataMinKey
import KE.GoesMore
import KE.GoesEnum
import HandS.Walk
import HandS.SortInts
import HandS.TupAny
import HandS.TupMul
import HandS.Dict
import HandS.Evl
import HandS.TupSets
import HandS.SortRule
import KE.SortData
import HandS.List
import HandS.Wide
import HandS.Zip
import HandS.StrMore
import PyProof.Rows.StrCut
import PySem.Challenge.RW_ringclause_k01_normal_forms_and_errors
import HandS.RaiseMore
import HandS.Deep
import HandS.TupLe
import PyProof.Rows.TupDisplay
import KE.RegKSuper
set_option Elab.async false
set_option linter.all false
set_option maxRecDepth 100000
set_option maxHeartbeats 4000000
/-! An own exception over ValueError whose __init__ is: super().__init__('..'); self.f = f -/
namespace PySem
namespace Sup
open PySem.W PySem.Calls PyProof.Rows PySem.HandSPX

def sArgs (fld : Str) (p1 p2 : Pos) : Arguments :=
  { posonlyargs := [], args := [{ arg := "self", annotation := none, pos := p1 }, { arg := fld, annotation := none, pos := p2 }], vararg := none, kwonlyargs := [], kw_defaults := [], kwarg := none, defaults := [] }
def sBody (fld msg : Str) (a1 a2 a3 a4 a5 a6 b1 b2 b3 b4 : Pos) : List Stmt :=
  [.Expr (.Call (.Attribute (.Call (.Name "super" a1) [] [] a2) "__init__" a3) [.Constant (.str msg) 0 a4] [] a5) a6,
   .Assign [.Attribute (.Name "self" b1) fld b2] (.Name fld b3) b4]
def sScope (fld : Str) : Scope :=
  { kind := .function, names := [(PySem.Str.ofString "self", .local), (fld, .local), (PySem.Str.ofString "__class__", .free), (PySem.Str.ofString "super", .globalImplicit)], isGenerator := false, isCoroutine := false, more := [] }

abbrev sFn (fld msg qual : Str) (p1 p2 a1 a2 a3 a4 a5 a6 b1 b2 b3 b4 : Pos) (doc pm : Value) (an : Option Addr) (cda cc : Addr) (ct : Value) : FuncData :=
  fnX "__init__" qual (sArgs fld p1 p2) (sBody fld msg a1 a2 a3 a4 a5 a6 b1 b2 b3 b4) (sScope fld) [("__class__", cc)] .none .none doc pm an (.ref cda) ct
/-- the field's name is none of the other names; what follows from it, each by rfl -/
structure FldOk (fld : Str) : Prop where
  bd : ∀ (msg qual : Str) (p1 p2 a1 a2 a3 a4 a5 a6 b1 b2 b3 b4 : Pos) (doc pm : Value) (an : Option Addr) (cda cc : Addr) (ct u v : Value),
    bindArgs (sFn fld msg qual p1 p2 a1 a2 a3 a4 a5 a6 b1 b2 b3 b4 doc pm an cda cc ct) ⟨[u, v], []⟩ = pure [(("self" : Str), u), (fld, v)]
  lf : (sScope fld).names.lookup fld = some .local
  lc : (sScope fld).names.lookup ("__class__" : Str) = some .free
  ls : (sScope fld).names.lookup ("super" : Str) = some .globalImplicit
  nd : (fld == ("__debug__" : Str)) = false
  ns : ("self" : Str) ≠ fld

/-- super().__init__('..') is a method's call on one row of the text: by ⟨_, rfl⟩ where the places are written -/
def EvOk (fld msg qual : Str) (p1 p2 a1 a2 a3 a4 a5 a6 b1 b2 b3 b4 : Pos) (doc pm : Value) (an : Option Addr) (cda cc : Addr) (ct : Value) : Prop := ∀ (L a : Addr), ∃ pl : Sem Bool,
    eval (.Call (.Attribute (.Call (.Name "super" a1) [] [] a2) "__init__" a3) [.Constant (.str msg) 0 a4] [] a5) (callEnv (sFn fld msg qual p1 p2 a1 a2 a3 a4 a5 a6 b1 b2 b3 b4 doc pm an cda cc ct) L a) = (do
      let ov ← attributeBase (.Call (.Name "super" a1) [] [] a2) "__init__" (callEnv (sFn fld msg qual p1 p2 a1 a2 a3 a4 a5 a6 b1 b2 b3 b4 doc pm an cda cc ct) L a)
        (eval (.Call (.Name "super" a1) [] [] a2) (callEnv (sFn fld msg qual p1 p2 a1 a2 a3 a4 a5 a6 b1 b2 b3 b4 doc pm an cda cc ct) L a))
      standAt a3.atName
      let (f, first) ← holding [ov] (getMethod ov "__init__" pl)
      callWith a5 f first (backTo a5 (starEach [.Constant (.str msg) 0 a4] (callEnv (sFn fld msg qual p1 p2 a1 a2 a3 a4 a5 a6 b1 b2 b3 b4 doc pm an cda cc ct) L a))) [])
/-- what the written part says of such a class at C, its __init__ at fI, the cell at cc that holds C, the code record at cda -/
structure SupTxt (K : Frag) (mg : Str → Option Value) (prog : Program) (cn fld msg : Str) (C fI : Addr) : Prop where
  gC : mg cn = some (.ref C)
  ok : FldOk fld
  cls : ∃ nm q N bs bm sn sub ab col dd k0 k1 k2 k3 k5, K.lookup C = some (excClassObj nm q C N bs bm true sn sub ab col dd k0 k1 k2 k3 k5 "ValueError.__new__") ∧ refsVE bm = true
  sa : findIn K (.ref C) "__setattr__" = some (some (.builtin "object.__setattr__"))
  ga : findIn K (.ref C) "__getattribute__" = some (some (.builtin "BaseException.__getattribute__"))
  gg : findIn K (.ref C) "__getattr__" = some none
  noF : findIn K (.ref C) fld = some none
  iC : findIn K (.ref C) "__init__" = some (some (.ref fI))
  tF : typeIn K (.ref fI) = some (.type "function")
  kC : keepIn K (.ref C) = true
  exC : subIn K (.ref C) (.type "BaseException") = some true
  veC : subIn K (.ref C) (.type "ValueError") = some true
  tyC : typeIn K (.ref C) = some (.type "type")
  hdC : hasDictIn K C = true
  mC : mroIn K C (.ref C) = some true
  opq : nsIn K cStatics "thirdparty.any" = some none
  sup : ks_superIn K C C "__init__" = some (some (.builtin "ValueError.__init__"))
  htop : (prog.main.scope.names.lookup ("super" : Str)).isSome = false
  mgS : mg "super" = none
  fn : ∃ (oc : Value) (od : Option Addr) (qual : Str) (doc pm : Value) (an : Option Addr) (cda cc : Addr) (ct : Value) (osl : Array (Option Value)) (p1 p2 a1 a2 a3 a4 a5 a6 b1 b2 b3 b4 : Pos),
    K.lookup fI = some ⟨oc, od, .func (sFn fld msg qual p1 p2 a1 a2 a3 a4 a5 a6 b1 b2 b3 b4 doc pm an cda cc ct), osl⟩ ∧ EvOk fld msg qual p1 p2 a1 a2 a3 a4 a5 a6 b1 b2 b3 b4 doc pm an cda cc ct ∧
    codeIn K (.ref cda) qual = true ∧
    (∃ cl cld csl, K.lookup cc = some ⟨cl, cld, .cell (some (.ref C)), csl⟩) ∧
    (∃ ccl cdd vs ccs file tf, K.lookup cda = some ⟨ccl, cdd, .fields vs, ccs⟩ ∧ vs[2]? = some (.str file tf) ∧ ((prog.main.file : Str) == file) = true)

theorem line1 (v : Value) : [v].length ≤ sizeLine := by
  rw [sizeLine_eq]
  exact (by decide : 1 ≤ 16777216)

/-- what __init__ leaves of a fresh exception at x -/
structure SupEnd (h h' : Heap) (x C dx : Addr) (fld : Str) (v : Value) : Prop where
  keep : ∀ b o, b ≠ x → h.get? b = some o → h'.get? b = some o
  obj : ∃ t1 : Addr, h'.get? x = some { cls := .ref C, dict := some dx, data := .fields #[.ref t1, .none, .none, .none, .bool false, .none] }
  dbig : h.objs.size ≤ dx
  dne : dx ≠ x
  ns : h'.Ns1 dx (fun y => if y = fld then some v else none)

section
variable {prog : Program} {w : World} {A : Around} {E : Value → Shared → Prop} {R : Result → Shared → Prop} {s : Shared} {K : Frag} {mg mb : Str → Option Value} {cn fld msg : Str} {C fI : Addr}

/-- the bound ValueError.__init__ called with one argument -/
theorem base_init {u x t0 : Addr} {a : Value} {Q : Value → Shared → Prop} (T : SupTxt K mg prog cn fld msg C fI) (X : K.In s.heap)
    (hu : s.heap.get? u = some (kxs_mw "ValueError.__init__" x)) (hx : s.heap.get? x = some (excO C t0))
    (hq : ∀ h' t1, (∀ b o, b ≠ x → s.heap.get? b = some o → h'.get? b = some o) → h'.get? x = some (excO C t1) → Q .none { s with heap := h' }) :
    wpAny (model prog w) A (call (.ref u) [a]) Q E s := by
  obtain ⟨nm, q, N, bs, bm, sn, sub, ab, col, dd, k0, k1, k2, k3, k5, hC, hbm⟩ := T.cls
  obtain ⟨hh, g, d, tk, os⟩ := s
  have hC' := X _ _ hC
  refine wpAny_call (codeAny_of_tree ?_)
  show wpAny (model prog w) A.in1 (callAny (.ref u) ⟨[a], []⟩) _ _ _
  unfold callAny
  refine wpAny_bind (wpAny_load hu ?_)
  have m1 : (Value.type "method-wrapper" == Value.type "method") = false := by decide
  have m2 : (Value.type "method-wrapper" == Value.type "builtin_function_or_method") = false := by decide
  have m3 : (Value.type "method-wrapper" == Value.type "method-wrapper") = true := by decide
  simp only [kxs_mw, m1, m2, m3, Bool.or_true, Bool.false_or, if_true]
  refine KFB.if_so (by decide) ?_
  refine wpAny_bind (check_bound_init PySem.F.excBase_ValueError.toExcCallFacts hC' hx rfl ?_)
  refine wpAny_bind (wpAny_pure (wpAny_pure ?_))
  refine ⟨plainId_quiet PySem.F.excBase_ValueError.init.plain _, codeAny_builtin PySem.F.excBase_ValueError.initEntry ?_⟩
  exact exc_init_tree (cls := .ref C) (t0 := t0) (dv := none) (c2 := .none) (c3 := .none) (b4 := .bool false) hx (line1 a) fun h' k e _ => hq h' _ k e

theorem sup_init (T : SupTxt K mg prog cn fld msg C fI) {x t0 : Addr} {v : Value} (X : K.In s.heap) (hlim : s.heap.NoLimit) (hG : s.heap.Ns mainGlobals mg) (hB : s.heap.Ns builtinsNs mb) (hmb : mb "super" = some (.type "super"))
    (hx : s.heap.get? x = some (excO C t0)) (hnx : K.lookup x = none) (hroom : A.depth < recursionLimit)
    (hq : ∀ h' tk dx, SupEnd s.heap h' x C dx fld v → R (.ok (.ret .none)) { s with heap := h', toks := tk }) :
    codeAny (model prog w) A (.call (.ref fI) ⟨[.ref x, v], []⟩) R s := by
  obtain ⟨oc, od, qual, doc, pm, an, cda, cc, ct, osl, p1, p2, a1, a2, a3, a4, a5, a6, b1, b2, b3, b4, ho, hevO, hcd, ⟨cl, cld, csl, hcell⟩, ⟨ccl, cdd, vs, ccs, file, tf, hcda, hvs, hfile⟩⟩ := T.fn
  obtain ⟨nm, q, N, bs, bm, sn, sub, ab, col, dd, k0, k1, k2, k3, k5, hC, hbm⟩ := T.cls
  have O := T.ok
  refine ks_codeAny_call_defAt (fd := fnX "__init__" qual (sArgs fld p1 p2) (sBody fld msg a1 a2 a3 a4 a5 a6 b1 b2 b3 b4) (sScope fld) [("__class__", cc)] .none .none doc pm an (.ref cda) ct) (binds := [("self", .ref x), (fld, v)])
    hroom (X _ _ ho) rfl hlim (codeRec_of X hcd) rfl (BindsTo.of_eq (O.bd _ _ _ _ _ _ _ _ _ _ _ _ _ _ _ _ _ _ _ _ _ _)) (by
      intro y hy
      simp only [sScope, List.mem_cons, List.not_mem_nil, or_false] at hy
      rcases hy with rfl | rfl | rfl | rfl <;> (intro z; cases z)) (by
      intro y hy
      simp only [List.mem_cons, List.not_mem_nil, or_false] at hy
      rcases hy with rfl | rfl
      · rfl
      · exact O.lf) (fun h₁ hns k => ?_) rfl rfl rfl
  have X₁ : K.In h₁ := X.keeps k
  have hx₁ := k _ _ hx
  have hvf : ([(("self" : Str), Value.ref x), (fld, v)].reverse).lookup fld = some v := by
    show List.lookup fld [(fld, v), (("self" : Str), Value.ref x)] = some v
    simp [List.lookup]
  have hvs' : ([(("self" : Str), Value.ref x), (fld, v)].reverse).lookup ("self" : Str) = some (.ref x) := by
    show List.lookup ("self" : Str) [(fld, v), (("self" : Str), Value.ref x)] = some (.ref x)
    have e : (("self" : Str) == fld) = false := by simpa using O.ns
    simp [List.lookup, e]
  have hcls : clsIn K C = some { name := nm, bases := bs, mro := .ref C :: bm, ns := N, qualname := q, hasDict := true, slotNames := sn, subclasses := sub, abstract := ab, collection := col, hasDel := false } := by unfold clsIn; rw [hC] <;> rfl
  have hsc : (sScope fld).names.lookup ("self" : Str) = some .local := rfl
  show wpAt (model prog w) _ _ (execs (sBody fld msg a1 a2 a3 a4 a5 a6 b1 b2 b3 b4) _) _ _ _
  obtain ⟨pl, hev⟩ := hevO s.heap.objs.size fI
  refine ks_wpAt_execs_cons (ks_wpAt_Expr_any (ks_wpAt_MethodCall (pl := pl) (he := hev) (ks_wpAt_super_base O.ls O.lc (by decide) rfl (X₁ _ _ ho) rfl rfl rfl (X₁ _ _ hcda) rfl hvs hfile T.htop ?_)))
  refine ks_loadName_global rfl O.ls (loadGlobal_builtin (hG.keeps k) T.mgS (hB.keeps k) hmb ⟨rfl, ?_⟩)
  refine wpAny_loadName_free rfl O.lc rfl ⟨_, X₁ _ _ hcell, rfl⟩ ?_
  refine wpAny_loadName_local rfl hsc hns hvs' ?_
  refine ks_wpAny_isType_cls (X₁ _ _ hC) rfl ⟨rfl, ?_⟩
  refine ks_wpAny_call_super (X₁ _ _ hC) rfl hx₁ rfl (fun c e => by cases e) (looks_mroIn X₁ T.mC) (fun h₂ e₂ k₂ => ?_)
  have X₂ : K.In h₂ := X₁.keeps k₂
  have hx₂ := k₂ _ _ hx₁
  have I₂ : InstAt h₂ x (excO C t0) C none := ⟨hx₂, rfl, rfl, trivial⟩
  have xC : x ≠ C := ks_ne X₂ I₂ hcls
  have hsup : alongIn K "__init__" ((_root_.List.dropWhile (· != Value.ref C) (.ref C :: bm)).drop 1) = some (some (.builtin "ValueError.__init__")) := by
    have z := T.sup
    unfold ks_superIn at z
    rw [hcls] at z
    exact z
  refine kxs_getMethod kxs_ValueError e₂ (looks_opaque X₂ T.opq) (l₀ := .ref C :: bm) (fun A Q E s k q => wpAny_bind ((looks_clsIn X₂ hcls) A _ E s k (wpAny_pure q))) rfl X₂ hsup (I₂.type.andThen (looks_subIn X₂ T.veC)) xC (by decide) ?_
  refine kxs_callWith (i := "ValueError.__init__") (x := x) rfl (evalArgs_plain ?_)
  refine spliced_cons (Constant_str (k := 0) (pos := a4) (spliced_nil ?_))
  have hu₃ : (h₂.push (kxs_mw "ValueError.__init__" x)).get? h₂.objs.size = some (kxs_mw "ValueError.__init__" x) := Heap.get?_push_at rfl rfl
  have k₃ : ∀ b o, h₂.get? b = some o → (h₂.push (kxs_mw "ValueError.__init__" x)).get? b = some o := fun b o e => Heap.get?_push_of_some _ e
  refine ⟨hu₃, base_init T (X₂.keeps k₃) hu₃ (k₃ _ _ hx₂) (fun h₄ t4 k₄ hx₄ => ?_)⟩
  have kx : ∀ b o, b ≠ x → s.heap.get? b = some o → h₄.get? b = some o := fun b o hb e => k₄ b o hb (k₃ _ _ (k₂ _ _ (k _ _ e)))
  have X₄ : K.In h₄ := fun a o e => kx a o (fun z => by rw [z, hnx] at e; cases e) (X a o e)
  have nL : s.heap.objs.size ≠ x := Nat.ne_of_gt (Heap.lt_size hx)
  have hns₄ : h₄.Ns s.heap.objs.size (fun y => ([(("self" : Str), Value.ref x), (fld, v)].reverse).lookup y) := by
    obtain ⟨oL, es, ep, hL, r⟩ := hns
    exact ⟨oL, es, ep, k₄ _ _ nL (k₃ _ _ (k₂ _ _ hL)), r⟩
  show wpAt (model prog w) _ _ (execs [.Assign [.Attribute (.Name "self" b1) fld b2] (.Name fld b3) b4] _) _ _ _
  refine wpAt_of_wpAny (wpAny_execs_cons (plainObj_wpAny_Assign_Attribute ?_))
  refine wpAny_Name (wpAny_loadName_local rfl O.lf hns₄ hvf ?_) O.nd
  refine wpAny_Name (wpAny_loadName_local rfl hsc hns₄ hvs' ?_) (by decide)
  refine set_plain X₄ (ox := excO C t4) (od := none) ⟨hx₄, rfl, rfl, trivial⟩ T.sa ?_
  refine exc_osa X₄ hx₄ hcls (show refsVE (.ref C :: bm) = true from hbm) rfl T.noF (fun h₅ tk₅ dx k₅ dn dne hx₅ hn₅ => ?_)
  have le1 : s.heap.objs.size < h₄.objs.size := by
    obtain ⟨oL, es, ep, hL, r⟩ := hns₄
    exact Heap.lt_size hL
  refine wpAny_execs_nil (hq h₅ tk₅ dx ⟨fun b o hb e => k₅ b o hb (kx b o hb e), ⟨t4, hx₅⟩, Nat.le_of_lt (Nat.lt_of_lt_of_le le1 dn), dne, hn₅⟩)
end

/-- C(v): the exception at e, its own dict at d -/
structure SupMade (h h' : Heap) (e C d : Addr) (fld : Str) (v : Value) : Prop where
  keep : ∀ b o, h.get? b = some o → h'.get? b = some o
  new : h.objs.size ≤ e
  obj : ∃ oe vs, h'.get? e = some oe ∧ oe.cls = .ref C ∧ oe.dict = some d ∧ oe.data = .fields vs ∧ vs[1]? = some .none ∧ vs[2]? = some .none
  dbig : h.objs.size ≤ d
  dne : d ≠ e
  ns : h'.Ns1 d (fun y => if y = fld then some v else none)
section
variable {prog : Program} {w : World} {A : Around} {E : Value → Shared → Prop} {R : Result → Shared → Prop} {s : Shared} {K : Frag} {mg mb : Str → Option Value} {cn fld msg : Str} {C fI : Addr}
theorem sup_made (T : SupTxt K mg prog cn fld msg C fI) {v : Value} (X : K.In s.heap) (hlim : s.heap.NoLimit) (hG : s.heap.Ns mainGlobals mg) (hB : s.heap.Ns builtinsNs mb) (hmb : mb "super" = some (.type "super")) (hroom : A.depth + 1 < recursionLimit)
    (hq : ∀ h' tk e d, SupMade s.heap h' e C d fld v → R (.ok (.ret (.ref e))) { s with heap := h', toks := tk }) :
    codeAny (model prog w) A (.call (.ref C) ⟨[v], []⟩) R s := by
  obtain ⟨nm, q, N, bs, bm, sn, sub, ab, col, dd, k0, k1, k2, k3, k5, hC, hbm⟩ := T.cls
  obtain ⟨hp, g, dr, tk, os⟩ := s
  have k : ∀ b o, hp.get? b = some o → ((hp.push (kdv_tup [v])).push (excO C hp.objs.size)).get? b = some o := fun b o e => Heap.get?_push_of_some _ (Heap.get?_push_of_some _ e)
  have hget : ((hp.push (kdv_tup [v])).push (excO C hp.objs.size)).get? (hp.objs.size + 1) = some (excO C hp.objs.size) := by heap_get
  have hnx : K.lookup (hp.objs.size + 1) = none := by
    cases e : K.lookup (hp.objs.size + 1) with
    | none => rfl
    | some o =>
      have z : hp.get? (hp.objs.size + 1) = some o := X _ _ e
      have z2 : hp.objs.size + 1 < hp.objs.size := Heap.lt_size z
      omega
  refine call_own PySem.F.excBase_ValueError (fun Y => refsVE_contains Y bm hbm) (X _ _ hC) (looks_findIn X T.iC) (fun self => bind_fn X self T.tF) (line1 v) ?_
  refine sup_init (s := ⟨(hp.push (kdv_tup [v])).push (excO C hp.objs.size), g, dr, tk, os⟩) T (X.keeps k) (hlim.keeps k) (hG.keeps k) (hB.keeps k) hmb hget hnx hroom fun h' tk' dx M => ?_
  obtain ⟨kp, ⟨t1, hob⟩, hd, hne, hns⟩ := M
  have sz : ((hp.push (kdv_tup [v])).push (excO C hp.objs.size)).objs.size = hp.objs.size + 1 + 1 := by simp only [Heap.size_push]
  have hd' : hp.objs.size + 2 ≤ dx := by
    have z : ((hp.push (kdv_tup [v])).push (excO C hp.objs.size)).objs.size ≤ dx := hd
    omega
  have old : ∀ b o, hp.get? b = some o → h'.get? b = some o := fun b o e => kp b o (Nat.ne_of_lt (Nat.lt_succ_of_lt (Heap.lt_size e))) (k b o e)
  exact ⟨rfl, hq h' tk' (hp.objs.size + 1) dx ⟨old, Nat.le_succ _, ⟨_, _, hob, rfl, rfl, rfl, rfl, rfl⟩, (by show hp.objs.size ≤ dx; omega), hne, hns⟩⟩
end
theorem fld_value : FldOk "value" := ⟨fun _ _ _ _ _ _ _ _ _ _ _ _ _ _ _ _ _ _ _ _ _ _ => rfl, rfl, rfl, rfl, by decide, by decide +kernel⟩
theorem ev_test (doc pm : Value) (an : Option Addr) (cda cc : Addr) (ct : Value) : EvOk "bounds" "abc" "q" ⟨6, 17, 6, 21⟩ ⟨6, 23, 6, 28⟩ ⟨7, 8, 7, 13⟩ ⟨7, 8, 7, 15⟩ ⟨7, 8, 7, 24⟩ ⟨7, 25, 7, 40⟩ ⟨7, 8, 7, 41⟩ ⟨7, 8, 7, 41⟩ ⟨8, 8, 8, 12⟩ ⟨8, 8, 8, 18⟩ ⟨8, 21, 8, 26⟩ ⟨8, 8, 8, 26⟩ doc pm an cda cc ct := fun _ _ => ⟨_, rfl⟩
end Sup
end PySem
namespace L2
open PySem PySem.Spec PyProof.Rows
theorem relO_one {fld : Str} {v : V} {v' : Value} (r : RelV v v') (f : Str) : RelO (List.lookup f [(fld, v)]) (if f = fld then some v' else none) := by
  by_cases hw : f = fld
  · have q : List.lookup f [(fld, v)] = some v := by simp [List.lookup, hw]
    rw [q, if_pos hw]
    exact r
  · have qw : (f == fld) = false := by simpa using hw
    have q2 : List.lookup f [(fld, v)] = none := by simp [List.lookup, qw]
    rw [q2, if_neg hw]
    trivial
section
variable {X : Cx} {C fI : Addr} {cn fld msg : Str}
/-- X(e), an own error whose __init__ is super().__init__('..'); self.f = f -/
def tMkSup (C : Addr) (fld : Str) (ta : TA) : St → Hp → XK → Prop := fun σ H Q => ta σ H fun vs H1 => ∃ v, vs = [v] ∧ ∀ d, H1 d = none → Q (.ref C) (some d) (upd H1 d (.xd [(fld, v)]))
theorem pmk_sup {a : Expr} {ta : TA} {p pos : Pos} {k : Nat} (T : PySem.Sup.SupTxt X.K X.mg X.prog cn fld msg C fI) (hr : Room k X.A) (ha : PA X [a] ta) (hg : Gl X cn := by rfl) (nd : (cn == ("__debug__" : Str)) = false := by decide)
    (he : starEach (a :: []) X.env = (false, eval a X.env) :: starEach [] X.env := by rfl) (hpl : (backTo pos (starEach [] X.env)).any (·.1) = false := by rfl) :
    PMk X (.Call (.Name cn p) [a] [] pos) (tMkSup C fld ta) := by
  intro pins s σ H Q I h
  refine wpAny_Call_Name_kw (ld_glob I hg T.gC ?_ nd)
  refine PySem.W.callWith_K (h₀ := X.base) I.ok.mod.kin T.kC (thn (ha.run pos pins s σ H _ I h) fun us s1 hh => ?_) he hpl
  obtain ⟨vs, H1, I1, r1, v, ev, q1⟩ := hh
  subst ev
  refine ⟨I1.kIn, ?_⟩
  cases r1 with
  | cons rv rn =>
    rename_i v' us'
    cases rn
    show wpAny _ _ (call (.ref C) [v']) _ _ _
    have hlim := I1.nolimit
    obtain ⟨mb, hb1, hb2⟩ := I1.mod.blt
    have hmb : mb "super" = some (.type "super") := (hb2 "super" (by decide)).trans (by decide +kernel)
    have hGl : s1.heap.Ns mainGlobals X.mg := I1.mod.glob.keeps I1.bk
    have hBl : s1.heap.Ns builtinsNs mb := hb1.keeps I1.bk
    obtain ⟨hp, g, dr, tk, os⟩ := s1
    refine wpAny_call (PySem.Sup.sup_made T I1.kIn hlim hGl hBl hmb (by have := hr.dp; omega) fun h' tk' e d M => ?_)
    show MkP X pins σ Q (.ref e) ⟨h', g, dr, tk', os⟩
    obtain ⟨kp, nw, ⟨oe, fv, hoe, hc, hd, hdat, h1, _⟩, dbig, dne, hns⟩ := M
    obtain ⟨G', g1, g2⟩ := restrict h' fun b => decide (b ≠ e)
    have gk : ∀ b, b ≠ e → G'.get? b = h'.get? b := fun b hb => g1 b (decide_eq_true hb)
    have ge : G'.get? e = none := g2 e (by simp)
    have old : ∀ b o, hp.get? b = some o → G'.get? b = some o := fun b o q => (gk b (Nat.ne_of_lt (Nat.lt_of_lt_of_le (Heap.lt_size q) nw))).trans (kp b o q)
    have ob : ObjOk X.prog X.w (upd H1 d (.xd [(fld, v)])) G' d (.xd [(fld, v)]) :=
      ⟨_, hns.at (fun o q => (gk d dne).trans q), fun f => relO_one rv f⟩
    have J : Inv X pins σ (upd H1 d (.xd [(fld, v)])) ⟨G', g, dr, tk', os⟩ := I1.laid (t' := tk') old dbig ob
    refine ⟨e, oe, fv, ⟨G', g, dr, tk', os⟩, _, .ref C, some d, rfl, J, fun b o q => ?_, ge, hoe, ⟨hc, hd⟩, hdat, h1, ?_, rfl, I1.bare, raises_own T.exC T.tyC, q1 d (I1.hok.fresh dbig)⟩
    · by_cases hb : b = e
      · have q' : G'.get? b = some o := q
        rw [hb, ge] at q'; cases q'
      · exact (gk b hb).symm.trans q
    · rw [upd_ne (Ne.symm dne)]
      exact I1.hok.fresh nw
/-- raise X(e) -/
def tRaiseSup (C : Addr) (fld : Str) (W : WX) (ta : TA) : TS := fun _ σ H => tMkSup C fld ta σ H fun cls d H' => W cls d σ H'
theorem ps_raiseSup {a : Expr} {ta : TA} {W : WX} {p pos pos2 : Pos} {k : Nat} (hc : X.calm = true) (T : PySem.Sup.SupTxt X.K X.mg X.prog cn fld msg C fI) (hr : Room k X.A) (tk : Takes X W) (ha : PA X [a] ta) (hg : Gl X cn := by rfl) (nd : (cn == ("__debug__" : Str)) = false := by decide)
    (he : starEach (a :: []) X.env = (false, eval a X.env) :: starEach [] X.env := by rfl) (hpl : (backTo pos (starEach [] X.env)).any (·.1) = false := by rfl) :
    PS X (.Raise (some (.Call (.Name cn p) [a] [] pos)) none pos2) (tRaiseSup C fld W ta) := ps_raise hc tk (pmk_sup T hr ha hg nd he hpl)
end
end L2
set_option maxRecDepth 100000
set_option maxHeartbeats 4000000
/-! errors whose context is None: raising them, several except clauses with a name, and what is called and walked while one is handled -/
namespace NX
open PySem PySem.Spec PyProof.Rows L2
section
variable {P : Program} {w : World} {K : PySem.W.Frag} {mg : Str → Option Value} {base : Heap}
theorem okX {x qual : Str} {st : Stmt} {f : Addr} {fd : FuncData} {N ps : List Str} {k : Nat} {sp : Sp} (F : Fun K x qual st f fd) (S : FnScope N ps (defScope st)) (len : ∀ vs H Q E, sp vs H Q E → vs.length = ps.length)
    (body : ∀ (cdv : Value) (A : Around) (outer : List Env) (s : Shared) (H : Hp) (vs : List V) (Q : VK) (E : XK), Room k (A.deeper (envOfC qual (defScope st) s.heap.objs.size f cdv)) → sp vs H Q E →
      ∃ t, PSs (cxOf (L2N.CX P w) P w K mg base N qual (defScope st) f cdv A outer s H E) (defBody st) t ∧ t { nx := fun _ H' => Q .non H', rt := Q } (L2.start N vs) H) : FnOk P w K mg base (L2N.CX P w) (k + 1) f fd ps sp := by
  obtain ⟨_, _, _, _, _, _, cdv, _, _, rfl, lk, hcd⟩ := F.ex
  exact fn_of lk hcd S len fun A outer s H vs Q E hr => body cdv A outer s H vs Q E hr
theorem takes0 {X : Cx} : L2N.Takes X (fun _ _ _ _ => False) := fun _ _ x => by
  obtain ⟨_, _, _, _, _, _, _, _, _, _, _, _, _, _, _, _, w⟩ := x
  exact w.elim
end
section
variable {X : Cx} {C fI : Addr} {cn fld msg : Str}
theorem pmk_sup {a : Expr} {ta : TA} {p pos : Pos} {k : Nat} (T : PySem.Sup.SupTxt X.K X.mg X.prog cn fld msg C fI) (hr : Room k X.A) (ha : PA X [a] ta) (hg : Gl X cn := by rfl) (nd : (cn == ("__debug__" : Str)) = false := by decide)
    (he : starEach (a :: []) X.env = (false, eval a X.env) :: starEach [] X.env := by rfl) (hpl : (backTo pos (starEach [] X.env)).any (·.1) = false := by rfl) :
    L2N.PMk X (.Call (.Name cn p) [a] [] pos) (tMkSup C fld ta) := by
  intro pins s σ H Q I h
  refine wpAny_Call_Name_kw (ld_glob I hg T.gC ?_ nd)
  refine PySem.W.callWith_K (h₀ := X.base) I.ok.mod.kin T.kC (thn (ha.run pos pins s σ H _ I h) fun us s1 hh => ?_) he hpl
  obtain ⟨vs, H1, I1, r1, v, ev, q1⟩ := hh
  subst ev
  refine ⟨I1.kIn, ?_⟩
  cases r1 with
  | cons rv rn =>
    rename_i v' us'
    cases rn
    show wpAny _ _ (call (.ref C) [v']) _ _ _
    have hlim := I1.nolimit
    obtain ⟨mb, hb1, hb2⟩ := I1.mod.blt
    have hmb : mb "super" = some (.type "super") := (hb2 "super" (by decide)).trans (by decide +kernel)
    have hGl : s1.heap.Ns mainGlobals X.mg := I1.mod.glob.keeps I1.bk
    have hBl : s1.heap.Ns builtinsNs mb := hb1.keeps I1.bk
    obtain ⟨hp, g, dr, tk, os⟩ := s1
    refine wpAny_call (PySem.Sup.sup_made T I1.kIn hlim hGl hBl hmb (by have := hr.dp; omega) fun h' tk' e d M => ?_)
    show L2N.MkP X pins σ Q (.ref e) ⟨h', g, dr, tk', os⟩
    obtain ⟨kp, nw, ⟨oe, fv, hoe, hc, hd, hdat, h1, h2⟩, dbig, dne, hns⟩ := M
    obtain ⟨G', g1, g2⟩ := restrict h' fun b => decide (b ≠ e)
    have gk : ∀ b, b ≠ e → G'.get? b = h'.get? b := fun b hb => g1 b (decide_eq_true hb)
    have ge : G'.get? e = none := g2 e (by simp)
    have old : ∀ b o, hp.get? b = some o → G'.get? b = some o := fun b o q => (gk b (Nat.ne_of_lt (Nat.lt_of_lt_of_le (Heap.lt_size q) nw))).trans (kp b o q)
    have ob : ObjOk X.prog X.w (upd H1 d (.xd [(fld, v)])) G' d (.xd [(fld, v)]) :=
      ⟨_, hns.at (fun o q => (gk d dne).trans q), fun f => relO_one rv f⟩
    have J : Inv X pins σ (upd H1 d (.xd [(fld, v)])) ⟨G', g, dr, tk', os⟩ := I1.laid (t' := tk') old dbig ob
    refine ⟨e, oe, fv, ⟨G', g, dr, tk', os⟩, _, .ref C, some d, rfl, J, fun b o q => ?_, ge, hoe, ⟨hc, hd, fun vs ev => ?_⟩, hdat, h1, ?_, rfl, I1.bare, raises_own T.exC T.tyC, q1 d (I1.hok.fresh dbig)⟩
    · by_cases hb : b = e
      · have q' : G'.get? b = some o := q
        rw [hb, ge] at q'; cases q'
      · exact (gk b hb).symm.trans q
    · rw [hdat] at ev
      cases ev
      exact h2
    · rw [upd_ne (Ne.symm dne)]
      exact I1.hok.fresh nw
theorem ps_raiseSup {a : Expr} {ta : TA} {W : WX} {p pos pos2 : Pos} {k : Nat} (hc : X.calm = true) (T : PySem.Sup.SupTxt X.K X.mg X.prog cn fld msg C fI) (hr : Room k X.A) (tk : L2N.Takes X W) (ha : PA X [a] ta) (hg : Gl X cn := by rfl) (nd : (cn == ("__debug__" : Str)) = false := by decide)
    (he : starEach (a :: []) X.env = (false, eval a X.env) :: starEach [] X.env := by rfl) (hpl : (backTo pos (starEach [] X.env)).any (·.1) = false := by rfl) :
    PS X (.Raise (some (.Call (.Name cn p) [a] [] pos)) none pos2) (tRaiseSup C fld W ta) := L2N.ps_raise hc tk (pmk_sup T hr ha hg nd he hpl)
end
/-- while the error that a suite names is handled -/
theorem hot {X : Cx} {a : Addr} {oe : Obj} {cls : Value} {d : Option Addr} {pn : List (Addr × Obj)} (hz : L2N.Zn cls d oe) (hf : ∃ vs, oe.data = .fields vs) : L2H.HotC (X.suite a ((a, oe) :: pn)) :=
  let ⟨vs, hv⟩ := hf
  ⟨(a, oe), ⟨rfl, vs, hv, hz.2.2 vs hv⟩, List.mem_cons_self⟩
end NX
namespace NX
open PySem PySem.Spec PyProof.Rows L2
abbrev Cl := Value × Option Nat × (Addr → Value → Option Addr → TS)
/-- what follows the suite, once the name has gone -/
def endA (i : Option Nat) (D : Ends) : Ends := match i with
  | none => D
  | some i => { nx := fun σ' H' => D.nx (σ'.set i none) H', rt := D.rt, bk := fun σ' H' => D.bk (σ'.set i none) H', ct := fun σ' H' => D.ct (σ'.set i none) H' }
def stA (i : Option Nat) (a : Addr) (σ : L2.St) : L2.St := match i with
  | none => σ
  | some i => σ.set i (some (.ref a))
/-- what the clauses wish of an exception of the body -/
def wManyA (K : PySem.W.Frag) (Wout : WX) (D : Ends) : List Cl → WX
  | [] => Wout
  | (c, i, ts) :: r => fun cls d σ H => ∃ b, PySem.W.exmOne K cls c = some b ∧ (b = true → ∀ a, H a = none → ts a cls d (endA i D) (stA i a σ) H) ∧ (b = false → wManyA K Wout D r cls d σ H)
inductive HdsA (X : Cx) : List ExceptHandler → List Cl → Prop
  | nil : HdsA X [] []
  | only {x : Str} {c : Value} {ts : Addr → Value → Option Addr → TS} {b₀ : Stmt} {suite : List Stmt} {np pos' : Pos} {hds : List ExceptHandler} {l : List Cl} (hc : Names X x c)
      (hsu : ∀ (a : Addr) (oe : Obj) (cls : Value) (d : Option Addr) (pn : List (Addr × Obj)), L2N.Zn cls d oe → (∃ vs, oe.data = .fields vs) → PSs (X.suite a ((a, oe) :: pn)) (b₀ :: suite) (ts a cls d)) (r : HdsA X hds l) :
      HdsA X (.ExceptHandler (some (.Name x np)) none (b₀ :: suite) pos' :: hds) ((c, none, ts) :: l)
  | as {x n : Str} {i : Nat} {c : Value} {ts : Addr → Value → Option Addr → TS} {b₀ : Stmt} {suite : List Stmt} {np pos' : Pos} {hds : List ExceptHandler} {l : List Cl} (hN : X.N.Nodup) (hi : X.N[i]? = some n) (hln : X.env.kindOf n = some .local) (hc : Names X x c)
      (hsu : ∀ (a : Addr) (oe : Obj) (cls : Value) (d : Option Addr) (pn : List (Addr × Obj)), L2N.Zn cls d oe → (∃ vs, oe.data = .fields vs) → PSs (X.suite a ((a, oe) :: pn)) (b₀ :: suite) (ts a cls d)) (r : HdsA X hds l) :
      HdsA X (.ExceptHandler (some (.Name x np)) (some n) (b₀ :: suite) pos' :: hds) ((c, some i, ts) :: l)
section
variable {X : Cx} {body : List Stmt} {h₀ : ExceptHandler} {hds : List ExceptHandler} {l : List Cl} {pos : Pos} {tb : WX → TS} {Wout : WX}
theorem ps_try_manyA (hs : X.stack = X.env :: X.outer) (hf : X.env.frame = some X.env.locals) (tk : L2N.Takes X Wout)
    (hb : ∀ (W : WX) (pn : List (Addr × Obj)) (xe : Value → Shared → Prop), L2N.Takes (X.tr pn xe) W → PassesOwn (model X.prog X.w) X.A X.env xe → PSs (X.tr pn xe) body (tb W))
    (hh : HdsA X (h₀ :: hds) l) : PS X (.Try body (h₀ :: hds) [] [] pos) (fun D σ H => tb (wManyA X.K Wout D l) D σ H) := by
  refine ⟨fun pins s σ H D I h => ?_⟩
  have ok := I.ok
  have hfr : X.A.frames = some (X.env :: X.outer) := by rw [ok.frames, hs]
  refine wpAny_Try_except ?_
  refine wpAny_mono ((hb (wManyA X.K Wout D l) (X.pn ++ pins) (fun e s₁ => wpAny (model X.prog X.w) X.A (noteFrame e X.env) (fun _ s₂ => wpAny (model X.prog X.w) X.A (setFlight e none) (fun _ s₃ =>
    wpAny (model X.prog X.w) X.A (handleBy e X.env (h₀ :: hds)) (SP X pins D) X.xe s₃) X.xe s₂) X.xe s₁) (fun u s' xx => ?_) PassesOwn.looking).run [] s σ H D (I.toTry _) h) (fun f s1 hsp => ?_) (fun e s1 he => he)
  · -- the catch
    obtain ⟨a, B, sI, pins', σ', H', cls, d, rfl, J', nb, up, sky, na, os, ag, w⟩ := xx
    have J : Inv X pins σ' H' sI := J'.ofTry ok
    have sky' : Sky B (X.env :: X.outer) a (L2N.Zn cls d) X.env.locals s'.heap := by rw [← hs]; exact sky
    show wpAny (model X.prog X.w) X.A (noteFrame (.ref a) X.env) _ _ _
    refine L2N.Sky.land L2N.Zn.steady hfr hf sky' fun h3 fl3 up3 => ?_
    have J3 : Inv X pins σ' H' { s' with heap := h3 } := J.landed nb fl3.1 (up.trans up3) os ag
    obtain ⟨oe3, vs3, he3, hz3, hd3⟩ := fl3.there
    have notFr : ∀ {h : Heap} {o : Obj} {vs : Array Value}, h.FunFrames B (X.env :: X.outer) → h.get? a = some o → o.data = .fields vs → a ∉ frs (X.env :: X.outer) := fun {h o vs} ff e dd hm => by
      obtain ⟨_, o', e', hnf⟩ := ff.mem hm
      rw [e] at e'; cases e'
      exact hnf _ dd
    have nfr := notFr fl3.2.2.1 he3 hd3
    have nL : a ≠ X.env.locals := fun z => nfr (List.mem_filterMap.mpr ⟨X.env, List.mem_cons_self, by rw [hf, z]⟩)
    have nF : a ∉ X.fs := fun hm => by
      obtain ⟨e, he, q⟩ := List.mem_filterMap.mp hm
      exact nfr (List.mem_filterMap.mpr ⟨e, List.mem_cons_of_mem _ he, q⟩)
    have S3 := J3.suite he3 hd3 na nL nF
    have go : ∀ {hds' : List ExceptHandler} {l' : List Cl}, HdsA X hds' l' → wManyA X.K Wout D l' cls d σ' H' →
        wpAny (model X.prog X.w) X.A (handleBy (.ref a) X.env hds') (SP X pins D) X.xe { s' with heap := h3 } := by
      intro hds' l' hk
      induction hk with
      | nil =>
        intro w
        refine wpAny_handleBy_nil ?_
        obtain ⟨k1, k2, k3, oe, vs, T, oT, ts', he, hz, hd, h1, hr⟩ := id fl3
        unfold PySem.passOn
        refine wpAny_bind (wpAny_field he hd h1 ?_)
        rw [if_neg (show ¬ ((Value.ref T == Value.none) = true) from by simp)]
        have fin : wpAny (model X.prog X.w) X.A (setFlight (.ref a) X.env.frame) (fun _ s4 => wpAny (model X.prog X.w) X.A (throw (.ref a) : Sem Flow) (SP X pins D) X.xe s4) X.xe { s' with heap := h3 } := by
          rw [hf]
          refine HandSPX.setFlight_upZ fl3 fun h4 hh4 up4 => wpAny_throw (tk _ _ ?_)
          exact ⟨a, B, sI, pins, σ', H', cls, d, rfl, J, nb, (up.trans up3).trans up4, .inr (.inr (by rw [hs]; exact hh4)), na, os, ag, w⟩
        first
          | exact wpAny_bind (wpAny_pure (wpAny_bind fin))
          | exact wpAny_bind fin
      | @only x c ts b₀ suite np pos' hds2 l2 hc hsu r ih =>
        intro w
        obtain ⟨b, hb1, hyes, hno⟩ := w
        refine wpAny_handleBy_cons (codeAny_handlers_test ?_) (by intro q; cases q)
        have LT : PySem.W.Looks (model X.prog X.w) h3 (typeOf (.ref a)) cls := fun A Q E s k q => wpAny_typeOf_ref (k _ _ he3) (by rw [hz3.1]; exact q)
        have LM := PySem.W.exm_one (M := model X.prog X.w) (J3.kIn) LT hb1
        have test : ∀ {Q : Value → Shared → Prop} {E : Value → Shared → Prop}, Q c { s' with heap := h3 } → wpAny (model X.prog X.w) (X.A.mark (some (.ref a))) (eval (.Name x np) X.env) Q E { s' with heap := h3 } := fun {Q E} q => by
          obtain ⟨hg, hdbg, hm | ⟨hm, hv, hnn⟩⟩ := hc
          · exact ld_glob (X := X.suite a ((a, oe3) :: (X.pn ++ pins))) S3 hg hm q hdbg
          · exact ld_blt (X := X.suite a ((a, oe3) :: (X.pn ++ pins))) S3 hg hm hv q hnn hdbg
        refine test (LM.here ?_)
        cases b with
        | true =>
          refine codeAny_handlers_suite ?_
          refine HandSPX.lands_againZ fl3 fun h4 fl4 up4 => ?_
          have J4 : Inv X pins σ' H' { s' with heap := h4 } := J.landed nb fl4.1 ((up.trans up3).trans up4) os ag
          obtain ⟨oe4, vs4, he4, hz4, hd4⟩ := fl4.there
          have S4 := J4.suite he4 hd4 na nL nF
          refine wpAny_mono ((hsu a oe4 cls d (X.pn ++ pins) hz4 ⟨_, hd4⟩).run [] _ _ H' _ S4 (hyes rfl a na)) (fun f s6 hsp => ?_) (fun _ _ z => False.elim z)
          cases f with
          | next =>
            obtain ⟨σ6, H6, S6, q6⟩ := hsp
            exact ⟨_, _, S6.unsuite ok, q6⟩
          | brk =>
            obtain ⟨σ6, H6, S6, q6⟩ := hsp
            exact ⟨_, _, S6.unsuite ok, q6⟩
          | cont =>
            obtain ⟨σ6, H6, S6, q6⟩ := hsp
            exact ⟨_, _, S6.unsuite ok, q6⟩
          | ret u =>
            obtain ⟨v6, σ6, H6, S6, r6, q6⟩ := hsp
            exact ⟨_, _, _, S6.unsuite ok, r6, q6⟩
        | false =>
          show wpAny _ X.A (handleBy (.ref a) X.env hds2) _ _ _
          exact ih (hno rfl)
      | @as x n i c ts b₀ suite np pos' hds2 l2 hN hi hln hc hsu r ih =>
        intro w
        obtain ⟨b, hb1, hyes, hno⟩ := w
        have hloc : Loc X.env.scope n := .inl hln
        refine wpAny_handleBy_cons (codeAny_handlers_test ?_) (by intro q; cases q)
        have LT : PySem.W.Looks (model X.prog X.w) h3 (typeOf (.ref a)) cls := fun A Q E s k q => wpAny_typeOf_ref (k _ _ he3) (by rw [hz3.1]; exact q)
        have LM := PySem.W.exm_one (M := model X.prog X.w) (J3.kIn) LT hb1
        have test : ∀ {Q : Value → Shared → Prop} {E : Value → Shared → Prop}, Q c { s' with heap := h3 } → wpAny (model X.prog X.w) (X.A.mark (some (.ref a))) (eval (.Name x np) X.env) Q E { s' with heap := h3 } := fun {Q E} q => by
          obtain ⟨hg, hdbg, hm | ⟨hm, hv, hnn⟩⟩ := hc
          · exact ld_glob (X := X.suite a ((a, oe3) :: (X.pn ++ pins))) S3 hg hm q hdbg
          · exact ld_blt (X := X.suite a ((a, oe3) :: (X.pn ++ pins))) S3 hg hm hv q hnn hdbg
        refine test (LM.here ?_)
        cases b with
        | true =>
          refine codeAny_handlers_suite_as ?_
          refine HandSPX.lands_againZ fl3 fun h4 fl4 up4 => ?_
          have J4 : Inv X pins σ' H' { s' with heap := h4 } := J.landed nb fl4.1 ((up.trans up3).trans up4) os ag
          obtain ⟨oe4, vs4, he4, hz4, hd4⟩ := fl4.there
          have S4 := J4.suite he4 hd4 na nL nF
          refine store_ok (X := X.suite a ((a, oe4) :: (X.pn ++ pins))) (v := .ref a) S4 hN hi hloc rfl (fun s5 S5 => ?_) (.inr hln)
          refine wpAny_mono ((hsu a oe4 cls d (X.pn ++ pins) hz4 ⟨_, hd4⟩).run [] s5 _ H' _ S5 (hyes rfl a na)) (fun f s6 hsp => ?_) (fun _ _ z => False.elim z)
          have end_ : ∀ {σ6 : L2.St} {H6 : Hp} {Q : Shared → Prop}, Inv (X.suite a ((a, oe4) :: (X.pn ++ pins))) [] σ6 H6 s6 → (∀ s7, Inv X pins (σ6.set i none) H6 s7 → Q s7) →
              wpAny (model X.prog X.w) X.A (do bindName X.env n .none; unbindBehindTheSuite X.env n pos') (fun _ s7 => Q s7) X.xe s6 := fun {σ6 H6 Q} S6 hq => gone_ok (S6.unsuite ok) hN hi hln hq
          cases f with
          | next =>
            obtain ⟨σ6, H6, S6, q6⟩ := hsp
            exact end_ S6 fun s7 J7 => ⟨_, _, J7, q6⟩
          | brk =>
            obtain ⟨σ6, H6, S6, q6⟩ := hsp
            exact end_ S6 fun s7 J7 => ⟨_, _, J7, q6⟩
          | cont =>
            obtain ⟨σ6, H6, S6, q6⟩ := hsp
            exact end_ S6 fun s7 J7 => ⟨_, _, J7, q6⟩
          | ret u =>
            obtain ⟨v6, σ6, H6, S6, r6, q6⟩ := hsp
            exact end_ S6 fun s7 J7 => ⟨_, _, _, J7, r6, q6⟩
        | false =>
          show wpAny _ X.A (handleBy (.ref a) X.env hds2) _ _ _
          exact ih (hno rfl)
    exact go hh w
  · cases f with
    | next =>
      obtain ⟨σ', H', J', q⟩ := hsp
      exact wpAny_execs_nil ⟨σ', H', J'.ofTry ok, q⟩
    | brk =>
      obtain ⟨σ', H', J', q⟩ := hsp
      exact ⟨σ', H', J'.ofTry ok, q⟩
    | cont =>
      obtain ⟨σ', H', J', q⟩ := hsp
      exact ⟨σ', H', J'.ofTry ok, q⟩
    | ret u =>
      obtain ⟨v, σ', H', J', r, q⟩ := hsp
      exact ⟨v, σ', H', J'.ofTry ok, r, q⟩
end
end NX
set_option maxRecDepth 100000
set_option maxHeartbeats 4000000
/-! while an error is handled: defs that are handed it and raise nothing, list comprehensions over range -/
namespace NX
open PySem PySem.Spec PyProof.Rows L2 L2H
section
variable {P : Program} {w : World} {K : PySem.W.Frag} {mg : Str → Option Value} {base : Heap}
/-- what a def promises that is called while p's object is the error that is handled; p in the promise -/
structure FnP (P : Program) (w : World) (K : PySem.W.Frag) (mg : Str → Option Value) (base : Heap) (k : Nat) (f : Addr) (fd : FuncData) (ps : List Str) (sp : Addr × Obj → Sp) : Prop where
  len : ∀ p vs H Q E, sp p vs H Q E → vs.length = ps.length
  run : ∀ (A : Around) (outer : List Env) (s : Shared) (H : Hp) (args : Args) (us : List Value) (vs : List V) (Q : VK) (p : Addr × Obj), RoomH k A → Hot1 A p → PinOk outer H s p → Env0 P w K mg base A outer s H → BindsTo s fd args (ps.zip us) → Vals vs us →
    sp p vs H Q (fun _ _ _ => False) → codeAny (model P w) A (.call (.ref f) args) (CR CX0 outer P w H s Q fun _ _ _ => False) s
/-- such a def by its body -/
theorem okP {x qual : Str} {st : Stmt} {f : Addr} {fd : FuncData} {N ps : List Str} {k : Nat} {sp : Addr × Obj → Sp} (F : Fun K x qual st f fd) (S : FnScope N ps (defScope st)) (len : ∀ p vs H Q E, sp p vs H Q E → vs.length = ps.length)
    (body : ∀ (cdv : Value) (A : Around) (outer : List Env) (s : Shared) (H : Hp) (vs : List V) (Q : VK) (p : Addr × Obj), Hot1 (A.deeper (envOfC qual (defScope st) s.heap.objs.size f cdv)) p → RoomH k (A.deeper (envOfC qual (defScope st) s.heap.objs.size f cdv)) → sp p vs H Q (fun _ _ _ => False) →
      ∃ t, PSs (cxH CX0 P w K mg base N qual (defScope st) f cdv A outer s H (fun _ _ _ => False) p) (defBody st) t ∧ t { nx := fun _ H' => Q .non H', rt := Q } (L2.start N vs) H) : FnP P w K mg base (k + 1) f fd ps sp := by
  obtain ⟨oc, od, kV, doc, pm, an, cdv, ct, osl, rfl, lk, hcd⟩ := F.ex
  refine ⟨len, fun A outer s H args us vs Q p room hp pin e0 bind r h => ?_⟩
  have lenV := len _ _ _ _ _ h
  have inS : K.In s.heap := e0.mod.kin.keeps fun b o e => (e0.bs b o e).1
  have noLim : s.heap.NoLimit := e0.mod.nolimit.keeps fun b o e => (e0.bs b o e).1
  have kinds : ∀ y ∈ ps.zip us, (defScope st).names.lookup y.1 = some .local ∨ ((defScope st).names.lookup y.1 = some .cell ∧ ((cellsFrom (s.heap.objs.size + 1) (defScope st).names []).lookup y.1).isSome = true) := by
    rintro ⟨n, v⟩ hy
    cases S.par n (List.of_mem_zip hy).1 with
    | inl q => exact .inl q
    | inr q => exact .inr ⟨q, PySem.W.cellsFrom_some _ _ _ (.inl q)⟩
  refine codeAny_call_function room.depth (inS _ _ lk) rfl S.co S.gen rfl (PySem.W.codeRec_of inS hcd) (bind _ _ _ _ (wpAny_newFunctionEnv_cells S.kind kinds fun env he s1 y => ?_))
  subst he
  refine ⟨noLim.keeps y.toInCall.keep, codeAny_func ?_⟩
  obtain ⟨t, ht, hq⟩ := body cdv A outer s H vs Q p ⟨hp.1, hp.2⟩ (room.deeper _) h
  have I0 := inv_startH (CX := CX0) (E := fun _ _ _ => False) S pin e0 lenV r y
  refine wpAny_mono (ht.run [] s1 (L2.start N vs) H _ I0 hq) (fun fl s' hs => ?_) fun e s' hs => hs
  cases fl with
  | ret u => obtain ⟨v, σ', H', J, rv, q⟩ := hs; exact ⟨v, H', J.os, J.bare, J.base, J.hok, rv, q⟩
  | next => obtain ⟨σ', H', J, q⟩ := hs; exact ⟨V.non, H', J.os, J.bare, J.base, J.hok, rfl, q⟩
  | brk => obtain ⟨_, _, _, q⟩ := hs; exact q.elim
  | cont => obtain ⟨_, _, _, q⟩ := hs; exact q.elim
end
/-- the call, within the suite of the error at a; its object is not named -/
def tCallZ (sp : Addr × Obj → Sp) (a : Addr) (cls : Value) (d : Option Addr) (t : TA) : TE := fun σ H Q => t σ H fun vs H1 => ∀ oe : Obj, L2N.Zn cls d oe → (∃ fs, oe.data = .fields fs) → sp (a, oe) vs H1 Q fun _ _ _ => False
theorem pe_callZ {X : Cx} {k : Nat} {f : Addr} {fd : FuncData} {ps : List Str} {sp : Addr × Obj → Sp} {x : Str} {q pos : Pos} {e : Expr} {es : List Expr} {t : TA} {a : Addr} {oe : Obj} {cls : Value} {d : Option Addr} {pn : List (Addr × Obj)}
    (hz : L2N.Zn cls d oe) (hf : ∃ fs, oe.data = .fields fs) (F : FnP X.prog X.w X.K X.mg X.base k f fd ps sp) (hr : RoomH k X.A) (hg : Gl (X.suite a ((a, oe) :: pn)) x) (hm : X.mg x = some (.ref f)) (hk : PySem.W.keepIn X.K (.ref f) = true) (hb : Binds X.K fd ps [])
    (ha : PA (X.suite a ((a, oe) :: pn)) (e :: es) t) (hdb : (x == ("__debug__" : Str)) = false := by decide) (he : starEach (e :: es) X.env = (false, eval e X.env) :: starEach es X.env := by rfl) (hpl : (backTo pos (starEach es X.env)).any (·.1) = false := by rfl) :
    PE (X.suite a ((a, oe) :: pn)) (.Call (.Name x q) (e :: es) [] pos) (tCallZ sp a cls d t) := by
  refine ⟨fun pins s σ H Q I h => wpAny_Call_Name_kw (ld_glob I hg hm ?_ hdb)⟩
  refine PySem.W.callWith_K (h₀ := X.base) I.ok.mod.kin hk (thn (ha.run pos pins s σ H _ I h) fun us s1 ⟨vs, H1, I1, r, w0⟩ => ⟨I1.kIn, ?_⟩) he hpl
  have w1 := w0 oe hz hf
  have lenU : us.length = ps.length := by rw [← r.length]; exact F.len _ _ _ _ _ w1
  have bd := hb s1 us I1.kIn (by rw [List.append_nil]; exact lenU)
  rw [List.append_nil] at bd
  have P1 := I1.pin (a, oe) (List.mem_append_left _ List.mem_cons_self)
  have pin : PinOk X.stack H1 s1 (a, oe) := ⟨P1.1, P1.2.1, fun z => (List.mem_cons.mp (I1.stkSub a z)).elim P1.2.2.1 P1.2.2.2.1, P1.2.2.2.2⟩
  have hp : Hot1 (X.suite a ((a, oe) :: pn)).A (a, oe) := let ⟨fs, e⟩ := hf; ⟨rfl, fs, e, hz.2.2 fs e⟩
  refine wpAny_call (codeAny_mono (F.run (X.suite a ((a, oe) :: pn)).A X.stack s1 H1 ⟨us, []⟩ us vs Q (a, oe) ⟨hr.dp, hr.un⟩ hp pin I1.env0 bd r w1) fun r s' hq => ?_)
  cases r with
  | error e => exact hq.elim
  | ok fl =>
    cases fl with
    | ret u => exact I1.after hq
    | next => exact hq.elim
    | brk => exact hq.elim
    | cont => exact hq.elim
/-- isinstance(e, c), e the error that p is -/
def rIsP (K : PySem.W.Frag) (p : Addr × Obj) : List V → Hp → VK → Prop := fun xs H Q => ∃ (D dd : Addr) (fs : List (Str × V)) (c : V) (cv : Value) (b : Bool),
  Zc (.ref D) (some dd) p.2 ∧ (∃ vs, p.2.data = .fields vs) ∧ H dd = some (.xd fs) ∧ ExcC K D ∧ xs = [.ref p.1, c] ∧ ClsV c cv ∧ PySem.W.kitOne K (.ref D) cv = some b ∧ Q (.bl b) H
theorem call_isP {X : Cx} {p : Addr × Obj} (hp : p ∈ X.pn) : CallR X (.builtin "isinstance") (rIsP X.K p) := by
  intro pins s σ H xs us Q I r h
  obtain ⟨D, dd, fs, c, cv, b, hz, ⟨vs, hv⟩, hdd, C, rfl, hcv, e, q⟩ := h
  obtain ⟨u1, u2, rfl, r1, r2⟩ := vals2 r
  obtain rfl := hcv.eq r2
  cases (show u1 = Value.ref p.1 from r1)
  obtain ⟨got, _⟩ := I.pin p (List.mem_append_left _ hp)
  have hx : ObjOk X.prog X.w H s.heap dd (.xd fs) := I.hok dd _ hdd
  obtain ⟨mA, hns, _⟩ := hx
  obtain ⟨od, ho, _⟩ := lookIn_ns hns
  have J : PySem.W.InstAt s.heap p.1 p.2 D (some od) := ⟨got, hz.1, by unfold PySem.W.notCls; rw [hv] <;> rfl, by rw [hz.2]; exact ho⟩
  have isC : (PySem.W.clsIn X.K D).isSome = true := by
    obtain ⟨cd, hc, _⟩ := PySem.W.any_some C.hd
    rw [hc]
    rfl
  exact PySem.W.kia_one (PySem.W.kitx_exc isC C.hg C.hk C.hs C.ha C.hn C.ht C.hm) I.kIn J e (fun z => nomatch z) fun tk => ⟨.bl b, H, I.kept (t' := tk) fun _ _ z => z, rfl, q⟩

/-! ### a list comprehension while an error is handled -/
/-- a comprehension's block that bears the handled error -/
abbrev blkH (X : Cx) (p : Addr × Obj) (s : Shared) (H : Hp) (scope : Scope) (ce : Env) (fp : List Addr) : Cx := { X.blk s H scope ce fp with pn := [p] }
section
variable {X : Cx} {p : Addr × Obj}
theorem blkH_start {pins : List (Addr × Obj)} {σ : L2.St} {H : Hp} {s : Shared} {scope : Scope} {own : List (Str × Nat)} {fp : List Addr} (I : Inv X pins σ H s) (hp : p ∈ X.pn) (ok : BlkOk X.N X.env.scope scope own) (hN : X.N.Nodup) (hfp : ∀ b ∈ fp, FpOk X pins H b ∧ b < s.heap.objs.size) :
    Inv (blkH X p s H scope (compEnvC scope (cellsFrom (s.heap.objs.size + 1) scope.names (cloFrom X.env.cells scope.names [])) s.heap.objs.size X.env) fp) [] (wipe σ (own.map (·.2))) H { s with heap := pushCells (s.heap.push { cls := .type "dict", data := .dict #[] }) scope.names } := by
  have J := block_start I ok hN hfp
  have o := J.ok
  obtain ⟨g1, g2, g3, g4, g5⟩ := I.pin p (List.mem_append_left _ hp)
  refine ⟨⟨o.mod, o.kind, o.glob, o.blt, o.above, o.inj, o.has, o.cab, o.hd, o.frames, o.stk, o.exf, o.bs, o.bsz, o.noex, o.exfs, o.funs, o.frf⟩, J.os, J.bare, J.base, J.loc, J.cell, J.free, J.freeC, fun q hq => ?_, J.hok, J.len⟩
  obtain rfl : q = p := by simpa using hq
  refine ⟨pushCells_keeps _ _ _ _ (Heap.get?_push_of_some _ g1), g2, Nat.ne_of_lt (Heap.lt_size g1), fun z => ?_, g5⟩
  exact (List.mem_cons.mp (I.stkSub q.1 z)).elim g3 g4
theorem pe_lcH {elt tg iter : Expr} {ifs : List Expr} {scope : Scope} {own : List (Str × Nat)} {pos : Pos} {wi : TI} {g : TG} {tt : TT} {te : TE} (hp : p ∈ X.pn) (hot : Hot1 X.A p) (hN : X.N.Nodup) (hi : PIH X tg iter wi) (ok : BlkOk X.N X.env.scope scope own)
    (hg : ∀ (s : Shared) (H : Hp) (C : Addr) (cl : List (Str × Addr)) (fp : List Addr), PG (blkH X p s H scope (compEnvC scope cl C X.env) fp) tg g) (ht : ∀ (s : Shared) (H : Hp) (C : Addr) (cl : List (Str × Addr)) (fp : List Addr), PTs (blkH X p s H scope (compEnvC scope cl C X.env) fp) ifs tt)
    (he : ∀ (s : Shared) (H : Hp) (C : Addr) (cl : List (Str × Addr)) (fp : List Addr), PE (blkH X p s H scope (compEnvC scope cl C X.env) fp) elt te) (hs : ∀ x, foldedSetIterable iter X.env x = pure x := by intro _; rfl) :
    PE X (.ListComp elt [⟨tg, iter, ifs, 0⟩] scope pos) (tLc wi g tt te (own.map (·.2))) := by
  refine ⟨fun pins s σ H Q I h => ?_⟩
  rw [eval_ListComp]
  have hfree : ∀ y ∈ scope.names, y.2 = .free → ∃ c, X.env.cells.lookup y.1 = some c := fun y hy e => (ok.free y hy e).elim (fun k => I.ok.has _ (.inl k)) fun k => I.ok.has _ (.inr k)
  refine wpAny_comprehension_free (use := none) rfl hs (closure_ok hfree) ok.kind (fun y hy e => by rw [ok.uniq y hy, e])
    (thn (hi.run pins s σ H _ I h) fun xv s1 hx => thn hx fun itv s2 h2 => ?_)
  obtain ⟨it, fp, tn, J, H2, rfl, I2, T, st2, f2, q⟩ := h2
  refine wpAny_newObj_type (newEnv_comp ?_) (by show 0 ≤ sizeLine; decide)
  generalize hD : s2.heap.objs.size = D
  have hDn : H2 D = none := I2.hok.fresh (Nat.le_of_eq hD)
  obtain ⟨W, ⟨m0, w0⟩, turn⟩ := q D hDn
  generalize hs3 : ({ s2 with heap := s2.heap.push { cls := .type "list", data := .seq ([] : List Value).toArray } } : Shared) = s3
  have h3 : s3.heap = s2.heap.push { cls := .type "list", data := .seq ([] : List Value).toArray } := by rw [← hs3]
  have I3 : Inv X pins σ (upd H2 D (.lst [])) s3 := by
    rw [← hs3]
    exact I2.laid (t' := s2.toks) (fun b o e => Heap.get?_push_of_some _ e) (Nat.le_of_eq hD) ⟨Nat.zero_le _, [], 0, .nil, hD ▸ Heap.get?_push_size _ rfl⟩
  have f3 : ∀ b ∈ fp, FpOk X pins (upd H2 D (.lst [])) b ∧ b < s3.heap.objs.size := fun b hb => by
    obtain ⟨o, e, _⟩ := T.obj _ _ st2 b hb
    have hlt := Heap.lt_size e
    refine ⟨⟨?_, (f2 b hb).2⟩, by rw [h3, Heap.size_push]; exact Nat.lt_succ_of_lt hlt⟩
    rw [upd_ne (hD ▸ Nat.ne_of_lt hlt)]
    exact (f2 b hb).1
  have I4 := blkH_start (p := p) I3 hp ok hN f3
  have pg := hg s3 (upd H2 D (.lst [])) s3.heap.objs.size (cellsFrom (s3.heap.objs.size + 1) scope.names (cloFrom X.env.cells scope.names [])) fp
  have pt := ht s3 (upd H2 D (.lst [])) s3.heap.objs.size (cellsFrom (s3.heap.objs.size + 1) scope.names (cloFrom X.env.cells scope.names [])) fp
  have pe := he s3 (upd H2 D (.lst [])) s3.heap.objs.size (cellsFrom (s3.heap.objs.size + 1) scope.names (cloFrom X.env.cells scope.names [])) fp
  show codeAny _ _ (.compStart (.ListComp elt [⟨tg, iter, ifs, 0⟩] scope pos) 0 (.ref it) (.ref D) (compEnvC scope (cellsFrom (s3.heap.objs.size + 1) scope.names (cloFrom X.env.cells scope.names [])) s3.heap.objs.size X.env)) (compPost (model X.prog X.w) X.A X.xe none (EP X pins σ Q) (.ref D) s3.heap.objs.size) { s3 with heap := pushCells (s3.heap.push { cls := .type "dict", data := .dict #[] }) scope.names }
  generalize hce : compEnvC scope (cellsFrom (s3.heap.objs.size + 1) scope.names (cloFrom X.env.cells scope.names [])) s3.heap.objs.size X.env = ce at I4 pg pt pe ⊢
  have cL : ce.locals = s3.heap.objs.size := by subst hce; rfl
  have nfp : ∀ b ∈ fp, (upd H2 D (.lst [])) b = none := fun b hb => (f3 b hb).1.1
  generalize upd H2 D (.lst []) = H3 at *
  have keepP : ∀ b o, s2.heap.get? b = some o → (pushCells (s3.heap.push { cls := .type "dict", data := .dict #[] }) scope.names).get? b = some o := fun b o e => pushCells_keeps _ _ _ _ (Heap.get?_push_of_some _ (by rw [h3]; exact Heap.get?_push_of_some _ e))
  generalize hs4 : ({ s3 with heap := pushCells (s3.heap.push { cls := .type "dict", data := .dict #[] }) scope.names } : Shared) = s4 at I4 ⊢
  have st4 : tn 0 s4.heap := T.keep _ _ _ st2 fun b _ o e => by rw [← hs4]; exact keepP b o e
  have hotB : HotC (blkH X p s3 H3 scope ce fp) := ⟨p, hot, List.mem_singleton.mpr rfl⟩
  have far : ∀ b ∈ fp, p.1 ≠ b := fun b hb => (f3 b hb).1.2.2.2.2.2 p (List.mem_append_left _ hp)
  have stat : ∀ {σ' : L2.St} {H' : Hp} {s' : Shared}, Inv (blkH X p s3 H3 scope ce fp) [] σ' H' s' → (∀ b ∈ fp, H' b = none) → ∀ b ∈ fp, FpOk (blkH X p s3 H3 scope ce fp) [] H' b := fun {σ' H' s'} I' hn b hb =>
    ⟨hn b hb, (I'.ok.exf b hb).1, I'.ok.exfs b hb, .inl hb, fun x c e => (I'.ok.exf b hb).2 x c e, fun q hq => by
      obtain rfl : q = p := by simpa using hq
      exact far b hb⟩
  refine codeAny_compStart_list ?_ (T.self X.A 0 _ _ _ st4 ?_)
  all_goals
    refine compLoop_any (fun n s' => ∃ i H', Inv (blkH X p s3 H3 scope ce fp) [] (wipe σ (own.map (·.2))) H' s' ∧ tn i s'.heap ∧ (∀ b ∈ fp, H' b = none) ∧ W i n H') ?_ m0 ⟨0, H3, I4, st4, nfp, w0⟩
    rintro n s5 ⟨i, H5, I5, st5, n5, w5⟩
    rcases turn i n H5 w5 with ⟨stop, qq⟩ | ⟨go, Nx, hNx, step⟩
    · refine thnF (T.done (blkH X p s3 H3 scope ce fp) rfl rfl rfl hotB i [] s5 _ H5 (fun _ _ => False) I5 (stat I5 n5) st5 stop) fun r s6 ⟨hr, I6⟩ => ?_
      subst hr
      have I7 : Inv X pins σ H5 s6 := I3.call' (ch := fp) I6.os I6.base I6.hok I6.bare fun b hb => ⟨(f3 b hb).1.2.2.2.1, (f3 b hb).1.2.1, (f3 b hb).1.2.2.2.2.1, (f3 b hb).1.2.2.2.2.2⟩
      have nC : H5 s3.heap.objs.size = none := cL ▸ (show H5 ce.locals = none from I6.free)
      obtain ⟨m, hn, _⟩ := I6.loc
      have hn : s6.heap.Ns ce.locals m := hn
      rw [cL] at hn
      refine ⟨m, hn, fun h'' sb => ?_⟩
      obtain ⟨a0, a1, a2, a3, a4, a5⟩ := I3.fpOk (Nat.le_refl _) nC
      exact ⟨.ref D, H5, I7.turned (t' := s6.toks) (fun b o hb e => (sb.2 b hb).trans e) a0 a1 a3 a4 a5, rfl, qq⟩
    · refine thnF (T.item (blkH X p s3 H3 scope ce fp) rfl rfl rfl hotB i [] s5 _ H5 (fun _ _ => False) I5 (stat I5 n5) st5 go) fun r s6 ⟨u, hr, h6⟩ => ?_
      subst hr
      refine thnF h6 fun _ s7 ⟨x, H7, I7, r7, y7, st7, n7⟩ => ?_
      refine thnF (pg.run _ s7 _ H7 x u _ (I7.pinned (stat I7 n7) (T.obj _ _ st7)) r7 (step x H7 y7)) fun _ s8 ⟨σ8, H8, I8, hw8, q8⟩ => ?_
      refine thnF (pt.run _ s8 σ8 H8 _ I8 q8) fun b s9 ⟨H9, I9, q9⟩ => ?_
      have fin : ∀ {s' : Shared} {H' : Hp}, Inv (blkH X p s3 H3 scope ce fp) ([] ++ pinsAt fp s7.heap) σ8 H' s' → Nx H' → ∃ m, m < n ∧ ∃ i H', Inv (blkH X p s3 H3 scope ce fp) [] (wipe σ (own.map (·.2))) H' s' ∧ tn i s'.heap ∧ (∀ b ∈ fp, H' b = none) ∧ W i m H' := fun {s' H'} I' nx => by
        obtain ⟨m', hm, w'⟩ := hNx H' nx
        have still : ∀ b ∈ fp, ∀ o, s7.heap.get? b = some o → s'.heap.get? b = some o ∧ H' b = none := fun b hb o e =>
          let z := I'.pin (b, o) (List.mem_append_right _ (List.mem_append_right _ (mem_pinsAt hb e)))
          ⟨z.1, z.2.1⟩
        refine ⟨m', hm, i + 1, H', (I'.unpinned (pins := [])).weak (by rw [← hw8, wipe_length]) (fun j v e => ?_), T.keep _ _ _ st7 fun b hb o e => (still b hb o e).1, fun b hb => ?_, w'⟩
        · rw [← hw8] at e
          exact (wipe_some e).1
        · obtain ⟨o, e, _⟩ := T.obj _ _ st7 b hb
          exact (still b hb o e).2
      cases b with
      | false =>
        simp only [Bool.false_eq_true, if_false] at q9 ⊢
        exact fin I9 q9
      | true =>
        simp only [if_true] at q9 ⊢
        refine thnF (pe.run _ s9 σ8 H9 _ I9 q9) fun z s10 ⟨yv, H10, I10, r10, acc, hD10, hz10, nx⟩ => ?_
        exact app_ok (X := blkH X p s3 H3 scope ce fp) I10 hD10 hz10 r10 fun s11 I11 => fin I11 nx
end
end NX
set_option maxRecDepth 100000
set_option maxHeartbeats 4000000
/-! repr of tuples and lists: defs that are called while nothing is being shown -/
namespace GP
open PySem PySem.Spec PyProof.Rows L2
/-- what a def promises that is called while nothing is being shown -/
structure FnG (P : Program) (w : World) (K : PySem.W.Frag) (mg : Str → Option Value) (base : Heap) (k : Nat) (f : Addr) (fd : FuncData) (ps : List Str) (sp : Sp) : Prop where
  len : ∀ vs H Q E, sp vs H Q E → vs.length = ps.length
  run : ∀ (A : Around) (outer : List Env) (s : Shared) (H : Hp) (args : Args) (us : List Value) (vs : List V) (Q : VK) (E : XK), Room k A → A.guards = some [] → Env0 P w K mg base A outer s H → BindsTo s fd args (ps.zip us) → Vals vs us →
    sp vs H Q E → codeAny (model P w) A (.call (.ref f) args) (CR CX0 outer P w H s Q E) s
section
variable {P : Program} {w : World} {K : PySem.W.Frag} {mg : Str → Option Value} {base : Heap}
theorem FnG.of {k : Nat} {f : Addr} {fd : FuncData} {ps : List Str} {sp : Sp} (F : FnOk P w K mg base CX0 k f fd ps sp) : FnG P w K mg base k f fd ps sp :=
  ⟨F.len, fun A outer s H args us vs Q E hr _ => F.run A outer s H args us vs Q E hr⟩
/-- such a def by its body -/
theorem okG {x qual : Str} {st : Stmt} {f : Addr} {fd : FuncData} {N ps : List Str} {k : Nat} {sp : Sp} (F : Fun K x qual st f fd) (S : FnScope N ps (defScope st)) (len : ∀ vs H Q E, sp vs H Q E → vs.length = ps.length)
    (body : ∀ (cdv : Value) (A : Around) (outer : List Env) (s : Shared) (H : Hp) (vs : List V) (Q : VK) (E : XK), Room k (A.deeper (envOfC qual (defScope st) s.heap.objs.size f cdv)) → A.guards = some [] → sp vs H Q E →
      ∃ t, PSs (cxOf CX0 P w K mg base N qual (defScope st) f cdv A outer s H E).nox (defBody st) t ∧ t { nx := fun _ H' => Q .non H', rt := Q } (L2.start N vs) H) : FnG P w K mg base (k + 1) f fd ps sp := by
  obtain ⟨oc, od, kV, doc, pm, an, cdv, ct, osl, rfl, lk, hcd⟩ := F.ex
  refine ⟨len, fun A outer s H args us vs Q E room gd e0 bind r h => ?_⟩
  have lenV := len _ _ _ _ h
  have inS : K.In s.heap := e0.mod.kin.keeps fun b o e => (e0.bs b o e).1
  have noLim : s.heap.NoLimit := e0.mod.nolimit.keeps fun b o e => (e0.bs b o e).1
  have kinds : ∀ y ∈ ps.zip us, (defScope st).names.lookup y.1 = some .local ∨ ((defScope st).names.lookup y.1 = some .cell ∧ ((cellsFrom (s.heap.objs.size + 1) (defScope st).names []).lookup y.1).isSome = true) := by
    rintro ⟨n, v⟩ hy
    cases S.par n (List.of_mem_zip hy).1 with
    | inl q => exact .inl q
    | inr q => exact .inr ⟨q, PySem.W.cellsFrom_some _ _ _ (.inl q)⟩
  refine codeAny_call_function room.depth (inS _ _ lk) rfl S.co S.gen rfl (PySem.W.codeRec_of inS hcd) (bind _ _ _ _ (wpAny_newFunctionEnv_cells S.kind kinds fun env he s1 y => ?_))
  subst he
  refine ⟨noLim.keeps y.toInCall.keep, codeAny_func ?_⟩
  obtain ⟨t, ht0, hq⟩ := body cdv A outer s H vs Q E (room.deeper _) gd h
  have ht := ht0.nox
  have I0 := inv_start (CX := CX0) (E := E) S room.hd e0 lenV r y
  refine wpAny_mono (ht.run [] s1 (L2.start N vs) H _ I0 hq) (fun fl s' hs => ?_) fun e s' hs => hs
  cases fl with
  | ret u => obtain ⟨v, σ', H', J, rv, q⟩ := hs; exact ⟨v, H', J.os, J.bare, J.base, J.hok, rv, q⟩
  | next => obtain ⟨σ', H', J, q⟩ := hs; exact ⟨V.non, H', J.os, J.bare, J.base, J.hok, rfl, q⟩
  | brk => obtain ⟨_, _, _, q⟩ := hs; exact q.elim
  | cont => obtain ⟨_, _, _, q⟩ := hs; exact q.elim
end
section
variable {X : Cx} {k : Nat} {f : Addr} {fd : FuncData} {ps : List Str} {sp : Sp} {x : Str} {q pos : Pos} {e : Expr} {es : List Expr} {t : TA} {E : XK}
/-- the call of such a def -/
theorem pe_callG (F : FnG X.prog X.w X.K X.mg X.base k f fd ps sp) (hr : Room k X.A) (gd : X.A.guards = some []) (hg : Gl X x) (hm : X.mg x = some (.ref f)) (hk : PySem.W.keepIn X.K (.ref f) = true) (hb : Binds X.K fd ps []) (hx : Passes CX0 X E)
    (ha : PA X (e :: es) t) (hdb : (x == ("__debug__" : Str)) = false := by decide) (he : starEach (e :: es) X.env = (false, eval e X.env) :: starEach es X.env := by rfl) (hpl : (backTo pos (starEach es X.env)).any (·.1) = false := by rfl) :
    PE X (.Call (.Name x q) (e :: es) [] pos) (tCall sp [] E t) := by
  refine ⟨fun pins s σ H Q I h => wpAny_Call_Name_kw (ld_glob I hg hm ?_ hdb)⟩
  refine PySem.W.callWith_K (h₀ := X.base) I.ok.mod.kin hk (thn (ha.run pos pins s σ H _ I h) fun us s1 ⟨vs, H1, I1, r, w0⟩ => ⟨I1.kIn, ?_⟩) he hpl
  have w1 : sp (vs ++ []) H1 Q E := w0
  rw [List.append_nil] at w1
  have lenU : us.length = ps.length := by rw [← r.length]; exact F.len _ _ _ _ w1
  have bd := hb s1 us I1.kIn (by rw [List.append_nil]; exact lenU)
  rw [List.append_nil] at bd
  refine wpAny_call (codeAny_mono (F.run X.A X.stack s1 H1 ⟨us, []⟩ us vs Q E hr gd I1.env0 bd r w1) fun r s' hq => ?_)
  cases r with
  | error e => exact hx pins σ H1 s1 e s' I1 hq
  | ok fl =>
    cases fl with
    | ret u => exact I1.after hq
    | next => exact hq.elim
    | brk => exact hq.elim
    | cont => exact hq.elim
/-- repr of a tuple or a list -/
theorem call_reprD (gd : X.A.guards = some []) (hu : X.A.units + 70 < cLine) : CallR X (.builtin "repr") (fun xs H Q => ∃ p d, xs = [.ref p] ∧ Dp X.K H (.ref p) d ∧ d.showable = true ∧ d.hasDict = false ∧ d.depth ≤ 60 ∧ d.shown.length ≤ sizeLine ∧ Q (.str d.shown) H) := by
  intro pins s σ H xs us Q I r h
  obtain ⟨p, d, rfl, hd, sh, nd, dep, hsz, q⟩ := h
  obtain ⟨u, rfl, ru⟩ := vals1 r
  cases (show u = Value.ref p from ru)
  obtain ⟨as, r1⟩ := Dp.reads I d (.ref p) (.ref p) hd rfl
  exact repr_of_reads' r1 sh (fun z => by rw [nd] at z; cases z) gd (by omega) (fun _ _ z => z) (fun h' u tk hk => ⟨.str d.shown, H, I.kept (t' := tk) hk, ⟨u, rfl⟩, q⟩) hsz
end
end GP
set_option maxRecDepth 100000
set_option maxHeartbeats 4000000
/-! own errors as values: made with one argument that is kept in a field, or with none; isinstance and fields of such; defs that are handed a caught error while nothing is being shown -/
namespace PySem
namespace Sup
open PySem.W PySem.Calls PyProof.Rows PySem.HandSPX
/-! `__init__` that takes self alone and is super().__init__('..') -/
def zArgs (p1 : Pos) : Arguments :=
  { posonlyargs := [], args := [{ arg := "self", annotation := none, pos := p1 }], vararg := none, kwonlyargs := [], kw_defaults := [], kwarg := none, defaults := [] }
def zBody (msg : Str) (a1 a2 a3 a4 a5 a6 : Pos) : List Stmt :=
  [.Expr (.Call (.Attribute (.Call (.Name "super" a1) [] [] a2) "__init__" a3) [.Constant (.str msg) 0 a4] [] a5) a6]
def zScope : Scope :=
  { kind := .function, names := [(PySem.Str.ofString "self", .local), (PySem.Str.ofString "__class__", .free), (PySem.Str.ofString "super", .globalImplicit)], isGenerator := false, isCoroutine := false, more := [] }
abbrev zFn (msg qual : Str) (p1 a1 a2 a3 a4 a5 a6 : Pos) (doc pm : Value) (an : Option Addr) (cda cc : Addr) (ct : Value) : FuncData :=
  fnX "__init__" qual (zArgs p1) (zBody msg a1 a2 a3 a4 a5 a6) zScope [("__class__", cc)] .none .none doc pm an (.ref cda) ct
def EvZ (msg qual : Str) (p1 a1 a2 a3 a4 a5 a6 : Pos) (doc pm : Value) (an : Option Addr) (cda cc : Addr) (ct : Value) : Prop := ∀ (L a : Addr), ∃ pl : Sem Bool,
    eval (.Call (.Attribute (.Call (.Name "super" a1) [] [] a2) "__init__" a3) [.Constant (.str msg) 0 a4] [] a5) (callEnv (zFn msg qual p1 a1 a2 a3 a4 a5 a6 doc pm an cda cc ct) L a) = (do
      let ov ← attributeBase (.Call (.Name "super" a1) [] [] a2) "__init__" (callEnv (zFn msg qual p1 a1 a2 a3 a4 a5 a6 doc pm an cda cc ct) L a)
        (eval (.Call (.Name "super" a1) [] [] a2) (callEnv (zFn msg qual p1 a1 a2 a3 a4 a5 a6 doc pm an cda cc ct) L a))
      standAt a3.atName
      let (f, first) ← holding [ov] (getMethod ov "__init__" pl)
      callWith a5 f first (backTo a5 (starEach [.Constant (.str msg) 0 a4] (callEnv (zFn msg qual p1 a1 a2 a3 a4 a5 a6 doc pm an cda cc ct) L a))) [])
theorem z_bd (msg qual : Str) (p1 a1 a2 a3 a4 a5 a6 : Pos) (doc pm : Value) (an : Option Addr) (cda cc : Addr) (ct u : Value) :
    bindArgs (zFn msg qual p1 a1 a2 a3 a4 a5 a6 doc pm an cda cc ct) ⟨[u], []⟩ = pure [(("self" : Str), u)] := rfl
/-- what the written part says of such a class at C, its __init__ at fI -/
structure SupZ (K : Frag) (mg : Str → Option Value) (prog : Program) (cn msg : Str) (C fI : Addr) : Prop where
  gC : mg cn = some (.ref C)
  cls : ∃ nm q N bs bm sn sub ab col dd k0 k1 k2 k3 k5, K.lookup C = some (excClassObj nm q C N bs bm true sn sub ab col dd k0 k1 k2 k3 k5 "ValueError.__new__") ∧ refsVE bm = true
  iC : findIn K (.ref C) "__init__" = some (some (.ref fI))
  tF : typeIn K (.ref fI) = some (.type "function")
  kC : keepIn K (.ref C) = true
  veC : subIn K (.ref C) (.type "ValueError") = some true
  mC : mroIn K C (.ref C) = some true
  opq : nsIn K cStatics "thirdparty.any" = some none
  sup : ks_superIn K C C "__init__" = some (some (.builtin "ValueError.__init__"))
  htop : (prog.main.scope.names.lookup ("super" : Str)).isSome = false
  mgS : mg "super" = none
  fn : ∃ (oc : Value) (od : Option Addr) (qual : Str) (doc pm : Value) (an : Option Addr) (cda cc : Addr) (ct : Value) (osl : Array (Option Value)) (p1 a1 a2 a3 a4 a5 a6 : Pos),
    K.lookup fI = some ⟨oc, od, .func (zFn msg qual p1 a1 a2 a3 a4 a5 a6 doc pm an cda cc ct), osl⟩ ∧ EvZ msg qual p1 a1 a2 a3 a4 a5 a6 doc pm an cda cc ct ∧
    codeIn K (.ref cda) qual = true ∧
    (∃ cl cld csl, K.lookup cc = some ⟨cl, cld, .cell (some (.ref C)), csl⟩) ∧
    (∃ ccl cdd vs ccs file tf, K.lookup cda = some ⟨ccl, cdd, .fields vs, ccs⟩ ∧ vs[2]? = some (.str file tf) ∧ ((prog.main.file : Str) == file) = true)
section
variable {prog : Program} {w : World} {A : Around} {E : Value → Shared → Prop} {R : Result → Shared → Prop} {s : Shared} {K : Frag} {mg mb : Str → Option Value} {cn msg : Str} {C fI : Addr}
/-- the bound ValueError.__init__ called with one argument -/
theorem base_initZ {u x t0 : Addr} {a : Value} {Q : Value → Shared → Prop} (T : SupZ K mg prog cn msg C fI) (X : K.In s.heap)
    (hu : s.heap.get? u = some (kxs_mw "ValueError.__init__" x)) (hx : s.heap.get? x = some (excO C t0))
    (hq : ∀ h' t1, (∀ b o, b ≠ x → s.heap.get? b = some o → h'.get? b = some o) → h'.get? x = some (excO C t1) → Q .none { s with heap := h' }) :
    wpAny (model prog w) A (call (.ref u) [a]) Q E s := by
  obtain ⟨nm, q, N, bs, bm, sn, sub, ab, col, dd, k0, k1, k2, k3, k5, hC, hbm⟩ := T.cls
  obtain ⟨hh, g, d, tk, os⟩ := s
  have hC' := X _ _ hC
  refine wpAny_call (codeAny_of_tree ?_)
  show wpAny (model prog w) A.in1 (callAny (.ref u) ⟨[a], []⟩) _ _ _
  unfold callAny
  refine wpAny_bind (wpAny_load hu ?_)
  have m1 : (Value.type "method-wrapper" == Value.type "method") = false := by decide
  have m2 : (Value.type "method-wrapper" == Value.type "builtin_function_or_method") = false := by decide
  have m3 : (Value.type "method-wrapper" == Value.type "method-wrapper") = true := by decide
  simp only [kxs_mw, m1, m2, m3, Bool.or_true, Bool.false_or, if_true]
  refine KFB.if_so (by decide) ?_
  refine wpAny_bind (check_bound_init PySem.F.excBase_ValueError.toExcCallFacts hC' hx rfl ?_)
  refine wpAny_bind (wpAny_pure (wpAny_pure ?_))
  refine ⟨plainId_quiet PySem.F.excBase_ValueError.init.plain _, codeAny_builtin PySem.F.excBase_ValueError.initEntry ?_⟩
  exact exc_init_tree (cls := .ref C) (t0 := t0) (dv := none) (c2 := .none) (c3 := .none) (b4 := .bool false) hx (line1 a) fun h' k e _ => hq h' _ k e
theorem sup_initZ (T : SupZ K mg prog cn msg C fI) {x t0 : Addr} (X : K.In s.heap) (hlim : s.heap.NoLimit) (hG : s.heap.Ns mainGlobals mg) (hB : s.heap.Ns builtinsNs mb) (hmb : mb "super" = some (.type "super"))
    (hx : s.heap.get? x = some (excO C t0)) (hroom : A.depth < recursionLimit)
    (hq : ∀ h' tk t1, (∀ b o, b ≠ x → s.heap.get? b = some o → h'.get? b = some o) → h'.get? x = some (excO C t1) → R (.ok (.ret .none)) { s with heap := h', toks := tk }) :
    codeAny (model prog w) A (.call (.ref fI) ⟨[.ref x], []⟩) R s := by
  obtain ⟨oc, od, qual, doc, pm, an, cda, cc, ct, osl, p1, a1, a2, a3, a4, a5, a6, ho, hevO, hcd, ⟨cl, cld, csl, hcell⟩, ⟨ccl, cdd, vs, ccs, file, tf, hcda, hvs, hfile⟩⟩ := T.fn
  obtain ⟨nm, q, N, bs, bm, sn, sub, ab, col, dd, k0, k1, k2, k3, k5, hC, hbm⟩ := T.cls
  refine ks_codeAny_call_defAt (fd := fnX "__init__" qual (zArgs p1) (zBody msg a1 a2 a3 a4 a5 a6) zScope [("__class__", cc)] .none .none doc pm an (.ref cda) ct) (binds := [("self", .ref x)])
    hroom (X _ _ ho) rfl hlim (codeRec_of X hcd) rfl (BindsTo.of_eq (z_bd _ _ _ _ _ _ _ _ _ _ _ _ _ _ _ _)) (by
      intro y hy
      simp only [zScope, List.mem_cons, List.not_mem_nil, or_false] at hy
      rcases hy with rfl | rfl | rfl <;> (intro z; cases z)) (by
      intro y hy
      simp only [List.mem_cons, List.not_mem_nil, or_false] at hy
      rcases hy with rfl
      rfl) (fun h₁ hns k => ?_) rfl rfl rfl
  have X₁ : K.In h₁ := X.keeps k
  have hx₁ := k _ _ hx
  have hvs' : ([(("self" : Str), Value.ref x)].reverse).lookup ("self" : Str) = some (.ref x) := rfl
  have hcls : clsIn K C = some { name := nm, bases := bs, mro := .ref C :: bm, ns := N, qualname := q, hasDict := true, slotNames := sn, subclasses := sub, abstract := ab, collection := col, hasDel := false } := by unfold clsIn; rw [hC] <;> rfl
  have hsc : zScope.names.lookup ("self" : Str) = some .local := rfl
  have ls : zScope.names.lookup ("super" : Str) = some .globalImplicit := rfl
  have lc : zScope.names.lookup ("__class__" : Str) = some .free := rfl
  show wpAt (model prog w) _ _ (execs (zBody msg a1 a2 a3 a4 a5 a6) _) _ _ _
  obtain ⟨pl, hev⟩ := hevO s.heap.objs.size fI
  refine ks_wpAt_execs_cons (ks_wpAt_Expr_any (ks_wpAt_MethodCall (pl := pl) (he := hev) (ks_wpAt_super_base ls lc (by decide) rfl (X₁ _ _ ho) rfl rfl rfl (X₁ _ _ hcda) rfl hvs hfile T.htop ?_)))
  refine ks_loadName_global rfl ls (loadGlobal_builtin (hG.keeps k) T.mgS (hB.keeps k) hmb ⟨rfl, ?_⟩)
  refine wpAny_loadName_free rfl lc rfl ⟨_, X₁ _ _ hcell, rfl⟩ ?_
  refine wpAny_loadName_local rfl hsc hns hvs' ?_
  refine ks_wpAny_isType_cls (X₁ _ _ hC) rfl ⟨rfl, ?_⟩
  refine ks_wpAny_call_super (X₁ _ _ hC) rfl hx₁ rfl (fun c e => by cases e) (looks_mroIn X₁ T.mC) (fun h₂ e₂ k₂ => ?_)
  have X₂ : K.In h₂ := X₁.keeps k₂
  have hx₂ := k₂ _ _ hx₁
  have I₂ : InstAt h₂ x (excO C t0) C none := ⟨hx₂, rfl, rfl, trivial⟩
  have xC : x ≠ C := ks_ne X₂ I₂ hcls
  have hsup : alongIn K "__init__" ((_root_.List.dropWhile (· != Value.ref C) (.ref C :: bm)).drop 1) = some (some (.builtin "ValueError.__init__")) := by
    have z := T.sup
    unfold ks_superIn at z
    rw [hcls] at z
    exact z
  refine kxs_getMethod kxs_ValueError e₂ (looks_opaque X₂ T.opq) (l₀ := .ref C :: bm) (fun A Q E s k q => wpAny_bind ((looks_clsIn X₂ hcls) A _ E s k (wpAny_pure q))) rfl X₂ hsup (I₂.type.andThen (looks_subIn X₂ T.veC)) xC (by decide) ?_
  refine kxs_callWith (i := "ValueError.__init__") (x := x) rfl (evalArgs_plain ?_)
  refine spliced_cons (Constant_str (k := 0) (pos := a4) (spliced_nil ?_))
  have hu₃ : (h₂.push (kxs_mw "ValueError.__init__" x)).get? h₂.objs.size = some (kxs_mw "ValueError.__init__" x) := Heap.get?_push_at rfl rfl
  have k₃ : ∀ b o, h₂.get? b = some o → (h₂.push (kxs_mw "ValueError.__init__" x)).get? b = some o := fun b o e => Heap.get?_push_of_some _ e
  refine ⟨hu₃, base_initZ T (X₂.keeps k₃) hu₃ (k₃ _ _ hx₂) (fun h₄ t4 k₄ hx₄ => ?_)⟩
  have kx : ∀ b o, b ≠ x → s.heap.get? b = some o → h₄.get? b = some o := fun b o hb e => k₄ b o hb (k₃ _ _ (k₂ _ _ (k _ _ e)))
  show wpAt (model prog w) _ _ (execs [] _) _ _ _
  exact wpAt_of_wpAny (wpAny_execs_nil (hq h₄ _ t4 kx hx₄))
/-- C(): the exception at e -/
theorem sup_madeZ (T : SupZ K mg prog cn msg C fI) (X : K.In s.heap) (hlim : s.heap.NoLimit) (hG : s.heap.Ns mainGlobals mg) (hB : s.heap.Ns builtinsNs mb) (hmb : mb "super" = some (.type "super")) (hroom : A.depth + 1 < recursionLimit)
    (hq : ∀ h' tk e t1, (∀ b o, s.heap.get? b = some o → h'.get? b = some o) → s.heap.objs.size ≤ e → h'.get? e = some (excO C t1) → R (.ok (.ret (.ref e))) { s with heap := h', toks := tk }) :
    codeAny (model prog w) A (.call (.ref C) ⟨[], []⟩) R s := by
  obtain ⟨nm, q, N, bs, bm, sn, sub, ab, col, dd, k0, k1, k2, k3, k5, hC, hbm⟩ := T.cls
  obtain ⟨hp, g, dr, tk, os⟩ := s
  have k : ∀ b o, hp.get? b = some o → ((hp.push (kdv_tup [])).push (excO C hp.objs.size)).get? b = some o := fun b o e => Heap.get?_push_of_some _ (Heap.get?_push_of_some _ e)
  have hget : ((hp.push (kdv_tup [])).push (excO C hp.objs.size)).get? (hp.objs.size + 1) = some (excO C hp.objs.size) := by heap_get
  refine call_own PySem.F.excBase_ValueError (fun Y => refsVE_contains Y bm hbm) (X _ _ hC) (looks_findIn X T.iC) (fun self => bind_fn X self T.tF) (Nat.zero_le _) ?_
  refine sup_initZ (s := ⟨(hp.push (kdv_tup [])).push (excO C hp.objs.size), g, dr, tk, os⟩) T (X.keeps k) (hlim.keeps k) (hG.keeps k) (hB.keeps k) hmb hget hroom fun h' tk' t1 kp hob => ?_
  exact ⟨rfl, hq h' tk' (hp.objs.size + 1) t1 (fun b o e => kp b o (Nat.ne_of_lt (Nat.lt_succ_of_lt (Heap.lt_size e))) (k b o e)) (Nat.le_succ _) hob⟩
end
end Sup
end PySem
namespace EXV
open PySem PySem.Spec PyProof.Rows L2
/-- an own error at a, held as a value, its own dict at d, if any -/
def ExV (cls : Value) (d : Option Addr) (a : Addr) : HO := .ext fun h => ∃ (oe : Obj) (vs : Array Value), h.get? a = some oe ∧ Zc cls d oe ∧ oe.data = .fields vs
theorem exV_ok {P : Program} {w : World} {H : Hp} {h : Heap} {a : Addr} {cls : Value} {d : Option Addr} {oe : Obj} {vs : Array Value} (e : h.get? a = some oe) (z : Zc cls d oe) (dt : oe.data = .fields vs) : ObjOk P w H h a (ExV cls d a) :=
  ⟨⟨oe, vs, e, z, dt⟩, ⟨oe, e⟩, fun _ _ ⟨o, v, q, r⟩ k => ⟨o, v, k o q, r⟩⟩
section
variable {X : Cx} {C fI : Addr} {cn fld msg : Str}
/-- X(e) as a value -/
def tMkV (C : Addr) (fld : Str) (ta : TA) : TE := fun σ H Q => ta σ H fun vs H1 => ∃ v, vs = [v] ∧ ∀ d a, H1 d = none → H1 a = none → a ≠ d → Q (.ref a) (upd (upd H1 d (.xd [(fld, v)])) a (ExV (.ref C) (some d) a))
theorem pe_supV {e : Expr} {ta : TA} {p pos : Pos} {k : Nat} (T : PySem.Sup.SupTxt X.K X.mg X.prog cn fld msg C fI) (hr : Room k X.A) (ha : PA X [e] ta) (hg : Gl X cn := by rfl) (nd : (cn == ("__debug__" : Str)) = false := by decide)
    (he : starEach (e :: []) X.env = (false, eval e X.env) :: starEach [] X.env := by rfl) (hpl : (backTo pos (starEach [] X.env)).any (·.1) = false := by rfl) :
    PE X (.Call (.Name cn p) [e] [] pos) (tMkV C fld ta) := by
  refine ⟨fun pins s σ H Q I h => ?_⟩
  refine wpAny_Call_Name_kw (ld_glob I hg T.gC ?_ nd)
  refine PySem.W.callWith_K (h₀ := X.base) I.ok.mod.kin T.kC (thn (ha.run pos pins s σ H _ I h) fun us s1 hh => ?_) he hpl
  obtain ⟨vs, H1, I1, r1, v, ev, q1⟩ := hh
  subst ev
  refine ⟨I1.kIn, ?_⟩
  cases r1 with
  | cons rv rn =>
    rename_i v' us'
    cases rn
    show wpAny _ _ (call (.ref C) [v']) _ _ _
    have hlim := I1.nolimit
    obtain ⟨mb, hb1, hb2⟩ := I1.mod.blt
    have hmb : mb "super" = some (.type "super") := (hb2 "super" (by decide)).trans (by decide +kernel)
    have hGl : s1.heap.Ns mainGlobals X.mg := I1.mod.glob.keeps I1.bk
    have hBl : s1.heap.Ns builtinsNs mb := hb1.keeps I1.bk
    obtain ⟨hp, g, dr, tk, os⟩ := s1
    refine wpAny_call (PySem.Sup.sup_made T I1.kIn hlim hGl hBl hmb (by have := hr.dp; omega) fun h' tk' e d M => ?_)
    obtain ⟨kp, nw, ⟨oe, fv, hoe, hc, hd, hdat, h1, _⟩, dbig, dne, hns⟩ := M
    obtain ⟨G', g1, g2⟩ := restrict h' fun b => decide (b ≠ e)
    have gk : ∀ b, b ≠ e → G'.get? b = h'.get? b := fun b hb => g1 b (decide_eq_true hb)
    have ge : G'.get? e = none := g2 e (by simp)
    have old : ∀ b o, hp.get? b = some o → G'.get? b = some o := fun b o q => (gk b (Nat.ne_of_lt (Nat.lt_of_lt_of_le (Heap.lt_size q) nw))).trans (kp b o q)
    have ob : ObjOk X.prog X.w (upd H1 d (.xd [(fld, v)])) G' d (.xd [(fld, v)]) :=
      ⟨_, hns.at (fun o q => (gk d dne).trans q), fun f => relO_one rv f⟩
    have J : Inv X pins σ (upd H1 d (.xd [(fld, v)])) ⟨G', g, dr, tk', os⟩ := I1.laid (t' := tk') old dbig ob
    have ne1 : H1 e = none := I1.hok.fresh nw
    have ne : (upd H1 d (.xd [(fld, v)])) e = none := by
      rw [upd_ne (Ne.symm dne)]
      exact ne1
    have back : ∀ b o, G'.get? b = some o → h'.get? b = some o := fun b o q => by
      by_cases hb : b = e
      · rw [hb, ge] at q; cases q
      · exact (gk b hb).symm.trans q
    exact ⟨.ref e, _, J.laidN (h' := h') (t' := tk') back ge ne (exV_ok hoe ⟨hc, hd⟩ hdat), rfl, q1 d e (I1.hok.fresh dbig) ne1 (Ne.symm dne)⟩
/-- X() as a value -/
def tMkZ (C : Addr) : TE := fun σ H Q => ∀ a, H a = none → Q (.ref a) (upd H a (ExV (.ref C) none a))
theorem pe_supZ {p pos : Pos} {k : Nat} (T : PySem.Sup.SupZ X.K X.mg X.prog cn msg C fI) (hr : Room k X.A) (hg : Gl X cn := by rfl) (nd : (cn == ("__debug__" : Str)) = false := by decide) :
    PE X (.Call (.Name cn p) [] [] pos) (tMkZ C) := by
  refine ⟨fun pins s σ H Q I h => ?_⟩
  refine wpAny_Call_Name_kw (ld_glob I hg T.gC ?_ nd)
  have hlim := I.nolimit
  obtain ⟨mb, hb1, hb2⟩ := I.mod.blt
  have hmb : mb "super" = some (.type "super") := (hb2 "super" (by decide)).trans (by decide +kernel)
  have hGl : s.heap.Ns mainGlobals X.mg := I.mod.glob.keeps I.bk
  have hBl : s.heap.Ns builtinsNs mb := hb1.keeps I.bk
  refine PySem.W.callWith_K0 I.kIn T.kC ?_
  have kI := I.kIn
  obtain ⟨hp, g, dr, tk, os⟩ := s
  refine wpAny_call (PySem.Sup.sup_madeZ T kI hlim hGl hBl hmb (by have := hr.dp; omega) fun h' tk' e t1 kp nw hoe => ?_)
  have ne : H e = none := I.hok.fresh nw
  have ge : hp.get? e = none := by
    cases q : hp.get? e with
    | none => rfl
    | some o =>
      exact absurd (Nat.lt_of_lt_of_le (Heap.lt_size q) nw) (Nat.lt_irrefl _)
  exact ⟨.ref e, _, I.laidN (h' := h') (t' := tk') kp ge ne (exV_ok (d := none) (cls := .ref C) hoe ⟨rfl, rfl⟩ rfl), rfl, h e ne⟩
/-- isinstance(v, c), v such a value -/
def rIsV (K : PySem.W.Frag) : List V → Hp → VK → Prop := fun xs H Q => ∃ (a D : Addr) (d : Option Addr) (c : V) (cv : Value) (b : Bool),
  H a = some (ExV (.ref D) d a) ∧ (∀ dd, d = some dd → ∃ fs, H dd = some (.xd fs)) ∧ ExcC K D ∧ xs = [.ref a, c] ∧ ClsV c cv ∧ PySem.W.kitOne K (.ref D) cv = some b ∧ Q (.bl b) H
theorem inst_of {pins : List (Addr × Obj)} {σ : L2.St} {H : Hp} {s : Shared} {a D : Addr} {d : Option Addr} (I : Inv X pins σ H s) (ha : H a = some (ExV (.ref D) d a)) (hd : ∀ dd, d = some dd → ∃ fs, H dd = some (.xd fs)) :
    ∃ oe od, PySem.W.InstAt s.heap a oe D od := by
  obtain ⟨⟨oe, vs, ho, hz, hdt⟩, _, _⟩ := I.hok a _ ha
  cases d with
  | none => exact ⟨oe, none, ho, hz.1, by unfold PySem.W.notCls; rw [hdt] <;> rfl, by rw [hz.2]; trivial⟩
  | some dd =>
    obtain ⟨fs, hdd⟩ := hd dd rfl
    have hx : ObjOk X.prog X.w H s.heap dd (.xd fs) := I.hok dd _ hdd
    obtain ⟨mA, hns, _⟩ := hx
    obtain ⟨od, hod, _⟩ := lookIn_ns hns
    exact ⟨oe, some od, ho, hz.1, by unfold PySem.W.notCls; rw [hdt] <;> rfl, by rw [hz.2]; exact hod⟩
theorem call_isV {X : Cx} {K : PySem.W.Frag} (hK : X.K = K := by rfl) : CallR X (.builtin "isinstance") (rIsV K) := by
  subst hK
  intro pins s σ H xs us Q I r h
  obtain ⟨a, D, d, c, cv, b, ha, hd, C, rfl, hcv, e, q⟩ := h
  obtain ⟨u1, u2, rfl, r1, r2⟩ := vals2 r
  obtain rfl := hcv.eq r2
  cases (show u1 = Value.ref a from r1)
  obtain ⟨oe, od, J⟩ := inst_of I ha hd
  have isC : (PySem.W.clsIn X.K D).isSome = true := by
    obtain ⟨cd, hc, _⟩ := PySem.W.any_some C.hd
    rw [hc]
    rfl
  exact PySem.W.kia_one (PySem.W.kitx_exc isC C.hg C.hk C.hs C.ha C.hn C.ht C.hm) I.kIn J e (fun z => nomatch z) fun tk => ⟨.bl b, H, I.kept (t' := tk) fun _ _ z => z, rfl, q⟩
/-- e.f of such a value of class C -/
def tXv (C : Addr) (f : Str) (te : TE) : TE := fun σ H Q => te σ H fun x H1 => ∃ (a dd : Addr) (fs : List (Str × V)) (v : V), x = .ref a ∧ H1 a = some (ExV (.ref C) (some dd) a) ∧ H1 dd = some (.xd fs) ∧ fs.lookup f = some v ∧ Q v H1
theorem pe_xv {e : Expr} {te : TE} {pos : Pos} {n : Str} (T : XfC X.K C) (hno : PySem.W.findIn X.K (.ref C) n = some none)
    (he : PE X e te) (hb : attributeBase e n X.env (eval e X.env) = eval e X.env := by rfl) : PE X (.Attribute e n pos) (tXv C n te) := by
  refine ⟨fun pins s σ H Q I h => ?_⟩
  refine attr_of hb (thn (he.run pins s σ H _ I h) fun u s1 hh => ?_)
  obtain ⟨x, H1, I1, rx, a, dd, fs, v, ex, ha, ea, l, q⟩ := hh
  subst ex
  obtain rfl : u = Value.ref a := rx
  obtain ⟨⟨oe, vs, ho, hz, hd⟩, _, _⟩ := I1.hok a _ ha
  have hx : ObjOk X.prog X.w H1 s1.heap dd (.xd fs) := I1.hok dd _ ea
  obtain ⟨mA, hns, hr⟩ := hx
  obtain ⟨od, hod, hl⟩ := lookIn_ns hns
  obtain ⟨u, hu, ru⟩ := RelO.some_of (v := v) (o := mA n) (by rw [← l]; exact hr n)
  have J : PySem.W.InstAt s1.heap a oe C (some od) := ⟨ho, hz.1, by unfold PySem.W.notCls; rw [hd] <;> rfl, by rw [hz.2]; exact hod⟩
  exact HandSPX.exc_get I1.kIn J T.ga T.gg T.exC (PySem.W.findObj_own T.hdC hno rfl (by rw [hl, hu])) (handed_of ru) ⟨v, H1, I1.tok _, ru, q⟩
end
end EXV
namespace NX
open PySem PySem.Spec PyProof.Rows L2 L2H
section
variable {P : Program} {w : World} {K : PySem.W.Frag} {mg : Str → Option Value} {base : Heap}
/-- as FnP, of a def that is called while nothing is being shown -/
structure FnQ (P : Program) (w : World) (K : PySem.W.Frag) (mg : Str → Option Value) (base : Heap) (k : Nat) (f : Addr) (fd : FuncData) (ps : List Str) (sp : Addr × Obj → Sp) : Prop where
  len : ∀ p vs H Q E, sp p vs H Q E → vs.length = ps.length
  run : ∀ (A : Around) (outer : List Env) (s : Shared) (H : Hp) (args : Args) (us : List Value) (vs : List V) (Q : VK) (p : Addr × Obj), RoomH k A → A.guards = some [] → Hot1 A p → PinOk outer H s p → Env0 P w K mg base A outer s H → BindsTo s fd args (ps.zip us) → Vals vs us →
    sp p vs H Q (fun _ _ _ => False) → codeAny (model P w) A (.call (.ref f) args) (CR CX0 outer P w H s Q fun _ _ _ => False) s
theorem okQ {x qual : Str} {st : Stmt} {f : Addr} {fd : FuncData} {N ps : List Str} {k : Nat} {sp : Addr × Obj → Sp} (F : Fun K x qual st f fd) (S : FnScope N ps (defScope st)) (len : ∀ p vs H Q E, sp p vs H Q E → vs.length = ps.length)
    (body : ∀ (cdv : Value) (A : Around) (outer : List Env) (s : Shared) (H : Hp) (vs : List V) (Q : VK) (p : Addr × Obj), Hot1 (A.deeper (envOfC qual (defScope st) s.heap.objs.size f cdv)) p → RoomH k (A.deeper (envOfC qual (defScope st) s.heap.objs.size f cdv)) → A.guards = some [] → sp p vs H Q (fun _ _ _ => False) →
      ∃ t, PSs (cxH CX0 P w K mg base N qual (defScope st) f cdv A outer s H (fun _ _ _ => False) p) (defBody st) t ∧ t { nx := fun _ H' => Q .non H', rt := Q } (L2.start N vs) H) : FnQ P w K mg base (k + 1) f fd ps sp := by
  obtain ⟨oc, od, kV, doc, pm, an, cdv, ct, osl, rfl, lk, hcd⟩ := F.ex
  refine ⟨len, fun A outer s H args us vs Q p room gd hp pin e0 bind r h => ?_⟩
  have lenV := len _ _ _ _ _ h
  have inS : K.In s.heap := e0.mod.kin.keeps fun b o e => (e0.bs b o e).1
  have noLim : s.heap.NoLimit := e0.mod.nolimit.keeps fun b o e => (e0.bs b o e).1
  have kinds : ∀ y ∈ ps.zip us, (defScope st).names.lookup y.1 = some .local ∨ ((defScope st).names.lookup y.1 = some .cell ∧ ((cellsFrom (s.heap.objs.size + 1) (defScope st).names []).lookup y.1).isSome = true) := by
    rintro ⟨n, v⟩ hy
    cases S.par n (List.of_mem_zip hy).1 with
    | inl q => exact .inl q
    | inr q => exact .inr ⟨q, PySem.W.cellsFrom_some _ _ _ (.inl q)⟩
  refine codeAny_call_function room.depth (inS _ _ lk) rfl S.co S.gen rfl (PySem.W.codeRec_of inS hcd) (bind _ _ _ _ (wpAny_newFunctionEnv_cells S.kind kinds fun env he s1 y => ?_))
  subst he
  refine ⟨noLim.keeps y.toInCall.keep, codeAny_func ?_⟩
  obtain ⟨t, ht, hq⟩ := body cdv A outer s H vs Q p ⟨hp.1, hp.2⟩ (room.deeper _) gd h
  have I0 := inv_startH (CX := CX0) (E := fun _ _ _ => False) S pin e0 lenV r y
  refine wpAny_mono (ht.run [] s1 (L2.start N vs) H _ I0 hq) (fun fl s' hs => ?_) fun e s' hs => hs
  cases fl with
  | ret u => obtain ⟨v, σ', H', J, rv, q⟩ := hs; exact ⟨v, H', J.os, J.bare, J.base, J.hok, rv, q⟩
  | next => obtain ⟨σ', H', J, q⟩ := hs; exact ⟨V.non, H', J.os, J.bare, J.base, J.hok, rfl, q⟩
  | brk => obtain ⟨_, _, _, q⟩ := hs; exact q.elim
  | cont => obtain ⟨_, _, _, q⟩ := hs; exact q.elim
end
theorem pe_callQ {X : Cx} {k : Nat} {f : Addr} {fd : FuncData} {ps : List Str} {sp : Addr × Obj → Sp} {x : Str} {q pos : Pos} {e : Expr} {es : List Expr} {t : TA} {a : Addr} {oe : Obj} {cls : Value} {d : Option Addr} {pn : List (Addr × Obj)}
    (hz : L2N.Zn cls d oe) (hf : ∃ fs, oe.data = .fields fs) (F : FnQ X.prog X.w X.K X.mg X.base k f fd ps sp) (hr : RoomH k X.A) (gd : X.A.guards = some []) (hg : Gl (X.suite a ((a, oe) :: pn)) x) (hm : X.mg x = some (.ref f)) (hk : PySem.W.keepIn X.K (.ref f) = true) (hb : Binds X.K fd ps [])
    (ha : PA (X.suite a ((a, oe) :: pn)) (e :: es) t) (hdb : (x == ("__debug__" : Str)) = false := by decide) (he : starEach (e :: es) X.env = (false, eval e X.env) :: starEach es X.env := by rfl) (hpl : (backTo pos (starEach es X.env)).any (·.1) = false := by rfl) :
    PE (X.suite a ((a, oe) :: pn)) (.Call (.Name x q) (e :: es) [] pos) (tCallZ sp a cls d t) := by
  refine ⟨fun pins s σ H Q I h => wpAny_Call_Name_kw (ld_glob I hg hm ?_ hdb)⟩
  refine PySem.W.callWith_K (h₀ := X.base) I.ok.mod.kin hk (thn (ha.run pos pins s σ H _ I h) fun us s1 ⟨vs, H1, I1, r, w0⟩ => ⟨I1.kIn, ?_⟩) he hpl
  have w1 := w0 oe hz hf
  have lenU : us.length = ps.length := by rw [← r.length]; exact F.len _ _ _ _ _ w1
  have bd := hb s1 us I1.kIn (by rw [List.append_nil]; exact lenU)
  rw [List.append_nil] at bd
  have P1 := I1.pin (a, oe) (List.mem_append_left _ List.mem_cons_self)
  have pin : PinOk X.stack H1 s1 (a, oe) := ⟨P1.1, P1.2.1, fun z => (List.mem_cons.mp (I1.stkSub a z)).elim P1.2.2.1 P1.2.2.2.1, P1.2.2.2.2⟩
  have hp : Hot1 (X.suite a ((a, oe) :: pn)).A (a, oe) := let ⟨fs, e⟩ := hf; ⟨rfl, fs, e, hz.2.2 fs e⟩
  refine wpAny_call (codeAny_mono (F.run (X.suite a ((a, oe) :: pn)).A X.stack s1 H1 ⟨us, []⟩ us vs Q (a, oe) ⟨hr.dp, hr.un⟩ gd hp pin I1.env0 bd r w1) fun r s' hq => ?_)
  cases r with
  | error e => exact hq.elim
  | ok fl =>
    cases fl with
    | ret u => exact I1.after hq
    | next => exact hq.elim
    | brk => exact hq.elim
    | cont => exact hq.elim
end NX
set_option maxRecDepth 100000
set_option maxHeartbeats 4000000
namespace GP
open PySem PySem.Spec PyProof.Rows L2
section
variable {P : Program} {w : World} {K : PySem.W.Frag} {mg mb : Str → Option Value} {k : Nat} {fa script : Addr} {fd : FuncData} {x : Str} {sp : Sp} {st : Shared} {cells : List Value} {ns : List Int}
def Fin0 (st : Shared) : Except Value Flow → Shared → Prop := fun r s2 => r = .ok (.ret (.bool true)) ∧ OldK st.heap s2.heap ∧ s2.os = st.os ∧ AllBare s2.gens
/-- the law, from a heap in which at most the script is told -/
theorem law_part (inK : K.In st.heap) (g1 : st.heap.Ns mainGlobals mg) (g2 : st.heap.Ns builtinsNs mb) (g3 : ∀ x : Str, x ≠ "__name__" → mb x = bootBuiltins x) (g4 : st.heap.NoLimit) (g5 : st.gens = #[])
    (is : st.heap.get? script = some { cls := .type "list", data := .seq cells.toArray }) (room : Room k callerA) (F : ∀ base : Heap, K.In base → base.Ns mainGlobals mg → FnG P w K mg base k fa fd [x] sp) (bind : ∀ (s : Shared) (u : Value), BindsTo s fd ⟨[u], []⟩ [(x, u)])
    (H : Hp) (only : Only H) (h : sp [.ref script] H (fun v _ => v = .bl true) fun _ _ _ => False) (ok : HOk P w H st.heap) (one : ∀ b, H b ≠ none → b = script) (notK : H script ≠ none → K.lookup script = none) :
    codeAny (model P w) callerA (.call (.ref fa) ⟨[.ref script], []⟩) (Fin0 st) st := by
  have seen : ∀ {b : Addr} {o : Obj}, st.heap.get? b = some o → H b = none → (hidT st.heap H).get? b = some o := fun a1 a2 => hidT_get a1 a2
  have free : ∀ {b : Addr} {o : Obj} {es : Array DictEntry} {ep : Nat}, st.heap.get? b = some o → o.data = .dict es ep → H b = none := by
    intro b o es ep a1 a2
    rcases e : H b with _ | u
    · rfl
    · have := one b (by rw [e]; exact fun z => nomatch z)
      rw [this, is] at a1
      rw [← Option.some.inj a1] at a2
      cases a2
  have names : ∀ {b : Addr} {m : Str → Option Value}, st.heap.Ns b m → (hidT st.heap H).Ns b m := by
    rintro b m ⟨o, es, ep, a1, a2, a3⟩
    exact ⟨o, es, ep, seen a1 (free a1 a2), a2, a3⟩
  have inB : K.In (hidT st.heap H) := by
    intro b o a1
    refine seen (inK b o a1) ?_
    rcases e : H b with _ | u
    · rfl
    · have := one b (by rw [e]; exact fun z => nomatch z)
      rw [this] at e a1
      rw [notK (by rw [e]; exact fun z => nomatch z)] at a1
      cases a1
  obtain ⟨mc, c1, c2⟩ := g4
  have M : Mod K mg (hidT st.heap H) := ⟨inB, names g1, ⟨mb, names g2, g3⟩, ⟨mc, names c1, c2⟩⟩
  have e0 : Env0 P w K mg (hidT st.heap H) callerA [] st H := ⟨rfl, M, fun b o e => of_hidT e, Nat.le_of_eq (hidT_size _ _), trivial, fun b hb => absurd hb List.not_mem_nil, ok, .of_eq g5⟩
  have R := (F _ inB (names g1)).run callerA [] st H ⟨[.ref script], []⟩ [.ref script] [.ref script] _ _ room rfl e0 (bind st (.ref script)) (.cons rfl .nil) h
  refine codeAny_mono R fun r s2 z => ?_
  match r, z with
  | .error e, z => exact absurd z (fun y => by exact y.elim)
  | .ok .next, z => exact z.elim
  | .ok .brk, z => exact z.elim
  | .ok .cont, z => exact z.elim
  | .ok (.ret u), ⟨v, H2, os, bare, un, ok2, ru, hv⟩ =>
    have hv2 : v = .bl true := hv
    rw [hv2] at ru
    have ru2 : u = Value.bool true := ru
    rw [ru2]
    refine ⟨rfl, OldK.of_keep fun b o a1 => ?_, os, bare⟩
    rcases e : H b with _ | t
    · exact un.keep b o a1 e (fun z => absurd z List.not_mem_nil) List.not_mem_nil
    · rcases only b with z | ⟨ob, xs, z⟩
      · rw [e] at z; cases z
      · have f1 := (ok b _ z).1
        have f2 := (ok2 b _ (un.frzs b ob _ z)).1
        rw [a1] at f1
        rw [Option.some.inj f1]
        exact f2
theorem law_whole (inK : K.In st.heap) (g1 : st.heap.Ns mainGlobals mg) (g2 : st.heap.Ns builtinsNs mb) (g3 : ∀ x : Str, x ≠ "__name__" → mb x = bootBuiltins x) (g4 : st.heap.NoLimit) (g5 : st.gens = #[])
    (is : st.heap.get? script = some { cls := .type "list", data := .seq cells.toArray }) (nums : IntsAre cells ns) (few : ns.length ≤ sizeLine) (room : Room k callerA) (F : ∀ base : Heap, K.In base → base.Ns mainGlobals mg → FnG P w K mg base k fa fd [x] sp)
    (bind : ∀ (s : Shared) (u : Value), BindsTo s fd ⟨[u], []⟩ [(x, u)]) (h : ∀ H : Hp, Only H → SqL K H script (ns.map V.int) → sp [.ref script] H (fun v _ => v = .bl true) fun _ _ _ => False) :
    codeAny (model P w) callerA (.call (.ref fa) ⟨[.ref script], []⟩) (Fin0 st) st := by
  have vals := vals_ints nums
  have len := nums.length
  rcases e : K.lookup script with _ | o
  · let ob : Obj := { cls := .type "list", data := .seq cells.toArray }
    let G : Hp := fun b => if b = script then some (.frz ob (.lst (ns.map V.int))) else none
    have at1 : G script = some (.frz ob (.lst (ns.map V.int))) := if_pos rfl
    have at2 : ∀ b, b ≠ script → G b = none := fun b n => if_neg n
    refine law_part inK g1 g2 g3 g4 g5 is room F bind G (fun b => ?_) (h G (fun b => ?_) (.inl (.inr ⟨ob, at1⟩))) (fun b u z => ?_) (fun b z => ?_) fun _ => e
    · by_cases n : b = script
      · exact .inr ⟨ob, _, by rw [n]; exact at1⟩
      · exact .inl (at2 b n)
    · by_cases n : b = script
      · exact .inr ⟨ob, _, by rw [n]; exact at1⟩
      · exact .inl (at2 b n)
    · by_cases n : b = script
      · subst n
        cases at1.symm.trans z
        exact ⟨is, by rw [List.length_map]; exact few, cells, _, vals, is⟩
      · cases (at2 b n).symm.trans z
    · by_cases n : b = script
      · exact n
      · exact absurd (at2 b n) z
  · have mine := inK script o e
    rw [is] at mine
    cases mine
    let G : Hp := fun _ => none
    exact law_part inK g1 g2 g3 g4 g5 is room F bind G (fun _ => .inl rfl) (h G (fun _ => .inl rfl) (.inr ⟨_, cells.toArray, _, e, rfl, rfl, rfl, by rw [List.size_toArray, len]; exact few, by simpa using vals⟩)) (fun _ _ z => nomatch z) (fun _ z => absurd rfl z) fun z => absurd rfl z
end
theorem walk_ofG {l : PySem.W.OpenLaw} {n k : Nat} {q : Program} {loose : List Str} {XP : (Str → Option Value) → Heap → Prop} {YP : World → Heap → Prop} {d : DefRec} {K : Params → PySem.W.Frag} {sp : World → Sp} {x : Str}
    (most : l.most = some n) (few : n ≤ sizeLine) (plain : d.params.defaults = []) (room : Room k callerA) (inK : ∀ (w : World) (h : Heap), YP w h → (K w.params).In h)
    (F : ∀ (w : World) (mg : Str → Option Value) (fa : Addr) (h : Heap), (K w.params).In h → h.Ns mainGlobals mg → mg d.name = some (.ref fa) →
      ∃ fd : FuncData, (∀ (s : Shared) (u : Value), BindsTo s fd ⟨[u], []⟩ [(x, u)]) ∧ ∀ base : Heap, (K w.params).In base → base.Ns mainGlobals mg → FnG l.prog w (K w.params) mg base k fa fd [x] (sp w))
    (h : ∀ (w : World) (H : Hp) (a : Addr) (ns : List Int), ns.length ≤ n → Only H → SqL (K w.params) H a (ns.map V.int) → sp w [.ref a] H (fun v _ => v = .bl true) fun _ _ _ => False) :
    PySem.W.WalkO q loose XP YP l.row.toRowW d [] (fun f vs => PySem.call f vs) := by
  refine Att.attach_call most plain fun w _ _ mg _ fa _ _ _ _ a cells ns S Y _ _ _ named is nums len gens => ?_
  obtain ⟨fd, bind, G⟩ := F w mg fa _ (inK w _ Y) S.T.g named
  exact law_whole (inK w _ Y) S.T.g S.T.b S.T.builtins S.T.nolimit gens is nums (Nat.le_trans len few) room G bind fun H only z => h w H a ns len only z
end GP
set_option maxRecDepth 100000
set_option maxHeartbeats 4000000
/-! which data repr may be asked of -/
namespace GP
open PySem PySem.Spec PyProof.Rows L2
structure Rp (n c : Nat) (d : PyData) : Prop where
  sh : d.showable = true
  nd : d.hasDict = false
  dp : d.depth ≤ n
  ln : d.shown.length ≤ c
theorem Rp.mono {n c m e : Nat} {d : PyData} (r : Rp n c d) (h1 : n ≤ m) (h2 : c ≤ e) : Rp m e d := ⟨r.sh, r.nd, Nat.le_trans r.dp h1, Nat.le_trans r.ln h2⟩
theorem Rp.none : Rp 0 4 .none := ⟨by simp [PyData.showable], by simp [PyData.hasDict], by simp [PyData.depth], by simp only [PyData.shown]; decide +kernel⟩
theorem Rp.int {i : Int} (h : i.natAbs.log2 < 1920) : Rp 0 1921 (.int i) := ⟨by simp only [PyData.showable]; exact decide_eq_true h, by simp [PyData.hasDict], by simp [PyData.depth], by simp only [PyData.shown]; exact int_text_len_1921 h⟩
theorem Rp.str {x : Str} (h : ∀ c ∈ x.cps.toList, c < 16 ^ 8) : Rp 0 (10 * x.length + 2) (.str x) := ⟨by simp [PyData.showable], by simp [PyData.hasDict], by simp [PyData.depth], by simp only [PyData.shown]; exact StrLaws.reprText_len x h⟩
theorem all_sh : ∀ {n c : Nat} {ds : List PyData}, (∀ d ∈ ds, Rp n c d) → PyData.showableAll ds = true ∧ PyData.hasDictAll ds = false ∧ PyData.depthAll ds ≤ n ∧ piled (PyData.shownAll ds) ≤ ds.length * (c + 2)
  | n, c, [], _ => ⟨by simp [PyData.showableAll], by simp [PyData.hasDictAll], by simp [PyData.depthAll], by simp [PyData.shownAll, piled]⟩
  | n, c, d :: ds, h => by
    have r := h d List.mem_cons_self
    obtain ⟨h1, h2, h3, h4⟩ := all_sh (n := n) (c := c) (ds := ds) fun x hx => h x (List.mem_cons_of_mem _ hx)
    refine ⟨by simp only [PyData.showableAll, r.sh, h1, Bool.and_self], by simp only [PyData.hasDictAll, r.nd, h2, Bool.or_self], ?_, ?_⟩
    · simp only [PyData.depthAll]
      exact Nat.max_le.mpr ⟨r.dp, h3⟩
    · simp only [PyData.shownAll]
      rw [piled_cons, List.length_cons, Nat.add_mul, Nat.one_mul]
      have := r.ln
      omega
theorem Rp.tuple {n c : Nat} {ds : List PyData} (h : ∀ d ∈ ds, Rp n c d) : Rp (n + 1) (ds.length * (c + 2) + 2) (.tuple ds) := by
  obtain ⟨h1, h2, h3, h4⟩ := all_sh h
  refine ⟨by simp only [PyData.showable, h1], by simp only [PyData.hasDict, h2], by simp only [PyData.depth]; omega, ?_⟩
  simp only [PyData.shown]
  exact Nat.le_trans (fmt_text _) (by omega)
theorem list_text (ts : List Str) : (listText ts).length ≤ piled ts + 2 := by
  have e1 : (("[" : Str)).length = 1 := rfl
  have e2 : (("]" : Str)).length = 1 := rfl
  rw [listText_eq_join, strLen_append, strLen_append, e1, e2]
  by_cases h : ts = []
  · subst h
    decide +kernel
  · have := join_length_add ts h
    omega
theorem Rp.list {n c : Nat} {ds : List PyData} (h : ∀ d ∈ ds, Rp n c d) : Rp (n + 1) (ds.length * (c + 2) + 2) (.list ds) := by
  obtain ⟨h1, h2, h3, h4⟩ := all_sh h
  refine ⟨by simp only [PyData.showable, h1], by simp only [PyData.hasDict, h2], by simp only [PyData.depth]; omega, ?_⟩
  simp only [PyData.shown]
  exact Nat.le_trans (list_text _) (by omega)
section
variable {X : Cx}
theorem call_reprR (gd : X.A.guards = some []) (hu : X.A.units + 70 < cLine) : CallR X (.builtin "repr") (fun xs H Q => ∃ p d n c, xs = [.ref p] ∧ Dp X.K H (.ref p) d ∧ Rp n c d ∧ n ≤ 60 ∧ c ≤ sizeLine ∧ Q (.str d.shown) H) := by
  intro pins s σ H xs us Q I r h
  obtain ⟨p, d, n, c, rfl, hd, rp, hn, hc, q⟩ := h
  exact call_reprD gd hu pins s σ H [.ref p] us Q I r ⟨p, d, rfl, hd, rp.sh, rp.nd, Nat.le_trans rp.dp hn, Nat.le_trans rp.ln hc, q⟩
end
end GP
set_option maxRecDepth 100000
set_option maxHeartbeats 3200000
/-! set(texts) and sorted of it -/
namespace TSet
open PySem PySem.Spec PyProof.Rows L2 Froz
def txtOf : Int × Value → Str | (_, .str x _) => x | _ => Str.empty
/-- the payload D of a set holds exactly the texts l, and can be walked -/
structure Txs (P : Program) (w : World) (D : SD) (l : List Str) : Prop where
  ok : TxOk P w D l
  pm : (D.1.toList.map txtOf).Perm l
  all : ∀ e ∈ D.1.toList, ∃ x t, e.2 = Value.str x t
  nd : l.Nodup
  ris : Ris D.2.2.place.toList
  led : w.params.followText "set-order" = true ∨ D.2.2.led = true
section
variable {P : Program} {w : World} {A : Around} {E : Value → Shared → Prop} {s : Shared}
theorem tail_perm (ep : Nat) (es : Array (Int × Value)) (t : SetTable) (b : Bool) : (tailTx ep es t b).1.toList.Perm es.toList := by
  unfold tailTx
  split
  · exact relayAll_perm _ _ _
  · exact List.Perm.refl _
theorem tail_ris (ep : Nat) (es : Array (Int × Value)) (t : SetTable) (b : Bool) (r : Ris t.place.toList) : Ris (tailTx ep es t b).2.2.place.toList := by
  unfold tailTx
  split
  · exact relayAll_ris _ _ _
  · exact r
theorem tail_led (ep : Nat) (es : Array (Int × Value)) (t : SetTable) (b : Bool) : (tailTx ep es t b).2.2.led = t.led := by
  unfold tailTx
  split
  · exact relayAll_led _ _ _
  · rfl
theorem Txs.add {D : SD} {l : List Str} {k : Str} (u : Tok) (F : Txs P w D l) (hk : k ∉ l) : Txs P w (addTx (hashStr w k) (.str k u) D) (k :: l) := by
  have hp : (addTx (hashStr w k) (.str k u) D).1.toList.Perm ((hashStr w k, Value.str k u) :: D.1.toList) := by
    refine (tail_perm _ _ _ _).trans ((layNew_perm _ _ _ _).trans ?_)
    rw [Array.toList_push]
    exact List.perm_append_singleton _ _
  refine ⟨add_ok u F.ok, ?_, fun e he => ?_, List.nodup_cons.mpr ⟨hk, F.nd⟩, tail_ris _ _ _ _ ?_, ?_⟩
  · exact (hp.map txtOf).trans (List.Perm.cons _ F.pm)
  · rcases List.mem_cons.mp (hp.mem_iff.mp he) with z | z
    · exact ⟨k, u, by rw [z]⟩
    · exact F.all e z
  · have r := layNew_ris D.2.2 D.1 (hashStr w k) (.str k u) F.ris
    split <;> exact r
  · refine F.led.imp id fun z => ?_
    refine (tail_led _ _ _ _).trans ?_
    have q := (layNew_led D.2.2 D.1 (hashStr w k) (.str k u)).trans z
    split <;> exact q
/-- a text that is there already -/
theorem add_old {a : Addr} {T : String} {D : SD} {l : List Str} {k : Str} {u : Tok} {Q : Bool → Shared → Prop} (at_ : s.heap.get? a = some (sObj T D)) (F : TxOk P w D l) (hk : k ∈ l) (few : l.length + 1 < scanBound) (h : Q false s) :
    wpAny (model P w) A (setAddHashed a (.str k u) (hashStr w k)) Q E s := by
  obtain ⟨es, ep, t⟩ := D
  have dt : (sObj T (es, ep, t)).data = .set es ep t := rfl
  have el : ElemsOf (strKind P w) es.toList := F.el
  have sz : es.size < scanBound := by have : es.size = l.length := F.sz; omega
  obtain ⟨j, hj⟩ : ∃ j, List.findIdx? (fun e => (strKind P w).is k e.2) es.toList = some j := by
    obtain ⟨e, he, q⟩ := (F.mem k).mp hk
    cases hr : List.findIdx? (fun e => (strKind P w).is k e.2) es.toList with
    | some j => exact ⟨j, rfl⟩
    | none =>
      have c := List.findIdx?_eq_none_iff.mp hr e he
      rw [q] at c
      cases c
  unfold setAddHashed
  unfold setAddHashedIn
  refine wpAny_holding (wpAny_bind (wpAny_setState_of at_ dt F.fit ?_))
  dsimp only
  rw [byScan_of rfl sz el]
  simp only [↓reduceIte]
  unfold setAddByScan
  refine wpAny_bind (wpAny_bind (wpAny_rule (wpAny_bind (wpAny_setScan_of (knd := strKind P w) (k := k) (is_str k u) at_ dt F.fit el ?_))))
  rw [hj]
  dsimp only
  exact wpAny_pure (wpAny_pure h)
theorem add_any {a : Addr} {D : SD} {l : List Str} {k : Str} {u : Tok} {Q : Bool → Shared → Prop} (at_ : s.heap.get? a = some (sObj "set" D)) (F : Txs P w D l) (few : l.length + 1 < scanBound)
    (h : ∀ b h' D' l', Heap.SameBut a s.heap h' → h'.get? a = some (sObj "set" D') → Txs P w D' l' → (∀ z, z ∈ l' ↔ z = k ∨ z ∈ l) → l'.length ≤ l.length + 1 → Q b { s with heap := h' }) :
    wpAny (model P w) A (setAddHashed a (.str k u) (hashStr w k)) Q E s := by
  by_cases hk : k ∈ l
  · exact add_old at_ F.ok hk few (h false s.heap D l (Heap.SameBut.refl a _) at_ F (fun z => ⟨.inr, fun q => q.elim (fun e => e ▸ hk) id⟩) (by omega))
  · refine add_x at_ F.ok hk few (h true _ _ _ ?_ (get_upd _ at_ rfl) (F.add u hk) (fun z => List.mem_cons) (Nat.le_refl _))
    exact ⟨Heap.size_after_update _ _ _, fun b hb => Heap.get?_update_ne _ _ _ _ hb⟩
end
section
variable {P : Program} {w : World} {A : Around} {E : Value → Shared → Prop} {s : Shared}
/-- the loop of set's making, for any way of adding: T i h says what the set is behind i items -/
theorem loop_any {I : Addr} {fp wr : List Addr} {G : Array GenState → Array GenState → Prop} {n : Nat} {Pv : Nat → Value → Prop} {St : Nat → Shared → Prop} {R : Result → Shared → Prop} (W : WalksS P w A.in1 I fp wr G n Pv St)
    {S : Addr} (out : S ∉ fp) (T : Nat → Heap → Prop) (fr : ∀ i h h', T i h → (∀ b o, b ∉ wr → h.get? b = some o → h'.get? b = some o) → T i h')
    (add : ∀ i v (s : Shared) (E : Value → Shared → Prop) (Q : Bool → Shared → Prop), i < n → Pv i v → T i s.heap → (∀ b h' tk, s.toks ≤ tk → Heap.SameBut S s.heap h' → T (i + 1) h' → Q b { s with heap := h', toks := tk }) → wpAny (model P w) A.in1 (setAdd S v) Q E s) :
    ∀ (k i : Nat) (s : Shared), n - i = k → i ≤ n → St i s → T i s.heap → (∀ s', Moved (S :: wr) G s s' → T n s'.heap → R (.ok (.ret .none)) s') → codeAny (model P w) A (.builtin "set.update.loop" ⟨[.ref S, .ref I], []⟩) R s := by
  intro k
  induction k with
  | zero =>
    intro i s ek ei st t r
    obtain rfl : i = n := by omega
    refine codeAny_builtin F.entry_set_update_loop ?_
    rw [Around.under_plainId F.plain_set_update_loop _]
    show wpAny (model P w) A.in1 (pyNext (.ref I) >>= _) _ _ s
    refine wpAny_bind (W.done s _ _ st fun s1 m => ?_)
    show wpAny (model P w) A.in1 (ret Value.none) _ _ s1
    exact wpAny_pure (r s1 ⟨fun b o nb => m.heap b o fun z => nb (List.mem_cons_of_mem _ z), m.gens, m.drawn, m.os, m.toks⟩ (fr i _ _ t m.heap))
  | succ k ih =>
    intro i s ek ei st t r
    have lt : i < n := by omega
    refine codeAny_builtin F.entry_set_update_loop ?_
    rw [Around.under_plainId F.plain_set_update_loop _]
    show wpAny (model P w) A.in1 (pyNext (.ref I) >>= _) _ _ s
    refine wpAny_bind (W.item i s _ _ lt st fun v s1 pv st1 m => ?_)
    show wpAny (model P w) A.in1 (holding [v] (setAdd S v) >>= _) _ _ s1
    refine wpAny_bind (wpAny_holding (add i v s1 _ _ lt pv (fr i _ _ t m.heap) fun b h' tk tk' same t' => ?_))
    refine wpAny_pure ⟨plainId_quiet F.plain_set_update_loop _, ih (i + 1) _ (by omega) lt (W.frame _ s1 _ _ st1 tk' fun c hc o e => ?_) t' fun s2 m2 t2 => r s2 ⟨fun c o nc e => ?_, W.gtrans _ _ _ m.gens m2.gens, m2.drawn.trans m.drawn, m2.os.trans m.os, ?_⟩ t2⟩
    · rw [same.2 c fun z : c = S => out (z ▸ hc)]
      exact e
    · refine m2.heap c o nc ?_
      show h'.get? c = some o
      rw [same.2 c fun z : c = S => nc (by rw [z]; exact List.mem_cons_self)]
      exact m.heap c o (fun z => nc (List.mem_cons_of_mem _ z)) e
    · exact Nat.le_trans m.toks (Nat.le_trans tk' m2.toks)
def freshSet (w : World) : Obj := { cls := .type "set", dict := none, data := .set #[] 0 (.fresh 0 0 (!w.params.followText "set-order")) }
def listIt (l : Addr) : Obj := { cls := .type "list_iterator", data := .fields #[.ref l, .int 0 0] }
/-- set(a list), for any way of adding -/
theorem made_any {l : Addr} {items : Array Value} {Q : Value → Shared → Prop} (hh : A.handled = none) (hl : s.heap.IsList l items) (T : Nat → Heap → Prop)
    (fr : ∀ i h h', T i h → (∀ b o, b ≠ s.heap.objs.size + 1 → h.get? b = some o → h'.get? b = some o) → T i h')
    (zero : ∀ h, h.get? s.heap.objs.size = some (freshSet w) → (∀ b o, s.heap.get? b = some o → h.get? b = some o) → T 0 h)
    (add : ∀ (B : Around) i v (s1 : Shared) (E : Value → Shared → Prop) (Q : Bool → Shared → Prop), B.units ≤ A.units + 3 → items[i]? = some v → T i s1.heap →
      (∀ b h' tk, s1.toks ≤ tk → Heap.SameBut s.heap.objs.size s1.heap h' → T (i + 1) h' → Q b { s1 with heap := h', toks := tk }) → wpAny (model P w) B (setAdd s.heap.objs.size v) Q E s1)
    (k : ∀ (h' : Heap) (tk : Nat), T items.size h' → (∀ b o, s.heap.get? b = some o → h'.get? b = some o) → Q (.ref s.heap.objs.size) { s with heap := h', toks := tk }) :
    wpAny (model P w) A (call (.type "set") [.ref l]) Q E s := by
  obtain ⟨_, _, hmro⟩ := PySem.F.called_set.mro
  have made_ := PySem.F.called_set.made
  have sub_ := PySem.F.called_set.sub
  refine wpAny_call (codeAny_of_tree ?_)
  show wpAny (model P w) _ (callAny (.type "set") _) _ _ _
  refine wpAny_pure ⟨Code.quiet_builtin _ (by decide +kernel), codeAny_builtin PySem.F.entry_type_call ?_⟩
  rw [Around.under_plain (weight_type_call_type "set" [.ref l] []) rfl]
  have notT := PySem.F.called_set.notType
  have canC := PySem.F.called_set.canCreate
  have typC := PySem.F.typeCall_set_1 (.ref l)
  repeat (any_goals (first | assumption | wp_step))
  let S := s.heap.objs.size
  let hp1 := s.heap.push (freshSet w)
  refine codeAny_mono (code_set_led1 (.ref l) (E := E) (Q₁ := fun obj s1 => obj = .ref S ∧ s1 = { s with heap := hp1 }) ⟨rfl, rfl⟩) fun r s1 hr => ?_
  rcases r with _ | e
  case error => exact hr
  cases e with
  | ret obj =>
    obtain ⟨rfl, rfl⟩ := hr
    have atS : hp1.get? S = some (freshSet w) := Heap.get?_push_size _ rfl
    have tyS : Shared.TypeIs { s with heap := hp1 } (.ref S) "set" := ⟨_, atS, rfl⟩
    have iLook := PySem.F.called_set.init.lookup
    have iBind := PySem.F.called_set.init.bind (.ref S)
    repeat (any_goals (first | assumption | wp_step))
    refine codeAny_mono (codeAny_call_builtin (R := wants (fun r s2 => r = .none ∧ ∃ h' tk, s2 = { s with heap := h', toks := tk } ∧ T items.size h' ∧ (∀ b o, s.heap.get? b = some o → h'.get? b = some o)) E)
      PySem.F.called_set.init.plain PySem.F.entry_set_init (check_set_init_1 tyS ?_)) fun r2 s2 hr2 => ?_
    · obtain ⟨ol, hol, cl, nl, dl⟩ := hl
      obtain ⟨ocl, odi, oda, osl⟩ := ol
      simp only at cl dl
      subst cl
      subst dl
      have ltl : l < S := Heap.lt_size hol
      have atl : hp1.get? l = some { cls := .type "list", dict := odi, data := .seq items nl, slots := osl } := Heap.get?_push_of_some _ hol
      have ls1 := PySem.F.sub_list_set
      have ls2 := PySem.F.sub_list_frozenset
      have nd1 : (Value.type "list" == Value.type "dict") = false := by decide
      have isl : hp1.IsList l items := ⟨_, atl, rfl, nl, rfl⟩
      have szI : hp1.objs.size = S + 1 := Heap.size_push ..
      unfold Builtin.«set.__init__» noKeywords Builtin.Frozenset.updateFrom
      generalize ePI : pyIter = PI
      wp_walk
      subst ePI
      refine wpAny_pyIter_list isl (wpAny_bind (wpAny_runValue ?_))
      have h3 : A.in1.in1.in1.handled = none := by simp [hh]
      have nI : l ≠ hp1.objs.size := by rw [szI]; exact Nat.ne_of_lt (Nat.lt_succ_of_lt ltl)
      have nS : S ∉ [hp1.objs.size, l] := by
        rw [szI]
        intro z
        rcases List.mem_cons.mp z with z | z
        · exact absurd z (Nat.ne_of_lt (Nat.lt_succ_self _))
        · exact absurd (List.mem_singleton.mp z) (Nat.ne_of_gt ltl)
      refine loop_any ((Walks.list h3 _ l nI items).toS) nS T (fun i h h' t e => fr i h h' t fun b o nb => e b o (by rw [szI]; simpa using nb)) (fun i v s1 E1 Q1 _ pv t q => add _ i v s1 E1 Q1 (Nat.le_refl _) pv t q)
        (items.size - 0) 0 _ (by omega) (Nat.zero_le _) ⟨⟨_, Heap.get?_push_size _ rfl, rfl, rfl⟩, isl.push _⟩ (zero _ (Heap.get?_push_of_some _ atS) fun b o e => Heap.get?_push_of_some _ (Heap.get?_push_of_some _ e)) ?_
      intro s' m t'
      obtain ⟨h', g', d', tk', os'⟩ := s'
      obtain rfl : g' = s.gens := m.gens
      obtain rfl : d' = s.drawn := m.drawn
      obtain rfl : os' = s.os := m.os
      show wpAny _ _ _ _ _ _
      refine wpAny_pure ?_
      show wpAny _ _ (ret Value.none) _ _ _
      refine wpAny_pure ⟨rfl, h', tk', rfl, t', fun b o e => ?_⟩
      have ltb : b < S := Heap.lt_size e
      refine m.heap b o (fun z => ?_) (Heap.get?_push_of_some _ (Heap.get?_push_of_some _ e))
      rcases List.mem_cons.mp z with z | z
      · exact absurd z (Nat.ne_of_lt ltb)
      · have z2 := List.mem_singleton.mp z
        rw [szI] at z2
        exact absurd z2 (Nat.ne_of_lt (Nat.lt_succ_of_lt ltb))
    · rcases r2 with _ | e2
      case error => exact hr2
      cases e2 with
      | ret r =>
        obtain ⟨rfl, h', tk, rfl, t', keep⟩ := hr2
        repeat (any_goals (first | assumption | wp_step))
        exact k _ _ t' keep
      | _ => exact hr2.elim
  | _ => exact hr.elim
end
section
variable {P : Program} {w : World} {A : Around} {E : Value → Shared → Prop} {s : Shared}
theorem Txs.fresh : Txs P w (#[], 0, .fresh 0 0 (!w.params.followText "set-order")) [] where
  ok := TxOk.nil rfl
  pm := List.Perm.refl _
  all := fun e he => by simp at he
  nd := List.nodup_nil
  ris := List.Pairwise.nil
  led := by
    show _ ∨ (!w.params.followText "set-order") = true
    cases w.params.followText "set-order"
    · exact .inr rfl
    · exact .inl rfl
theorem strs_get : ∀ {vs : List Value} {xs : List Str}, StrsAre vs xs → ∀ {i : Nat} {v : Value}, vs[i]? = some v → ∃ z t, xs[i]? = some z ∧ v = .str z t
  | _, _, .nil, _, _, h => by simp at h
  | _, _, .cons y t r, 0, v, h => ⟨y, t, rfl, (Option.some.inj h).symm⟩
  | _, _, .cons y t r, i + 1, v, h => strs_get r (by simpa using h)
/-- set(a list of texts) -/
theorem set_txt {l : Addr} {items : Array Value} {xs : List Str} {Q : Value → Shared → Prop} (hh : A.handled = none) (hl : s.heap.IsList l items) (hi : StrsAre items.toList xs) (few : xs.length + 1 < scanBound)
    (k : ∀ (h' : Heap) (tk : Nat) D l', h'.get? s.heap.objs.size = some (sObj "set" D) → Txs P w D l' → (∀ z, z ∈ l' ↔ z ∈ xs) → l'.length ≤ xs.length → (∀ b o, s.heap.get? b = some o → h'.get? b = some o) → Q (.ref s.heap.objs.size) { s with heap := h', toks := tk }) :
    wpAny (model P w) A (call (.type "set") [.ref l]) Q E s := by
  have len : items.size = xs.length := by
    have : ∀ {vs : List Value} {ys : List Str}, StrsAre vs ys → vs.length = ys.length := by
      intro vs ys h
      induction h with
      | nil => rfl
      | cons y t r ih => simp [ih]
    rw [← this hi, Array.length_toList]
  refine made_any hh hl (fun i h => ∃ D l', h.get? s.heap.objs.size = some (sObj "set" D) ∧ Txs P w D l' ∧ (∀ z, z ∈ l' ↔ z ∈ xs.take i) ∧ l'.length ≤ i) ?_ ?_ ?_ ?_
  · rintro i h h' ⟨D, l', a, f, m, n⟩ e
    exact ⟨D, l', e _ _ (Nat.ne_of_lt (Nat.lt_succ_self _)) a, f, m, n⟩
  · intro h a _
    exact ⟨(#[], 0, .fresh 0 0 (!w.params.followText "set-order")), [], a, Txs.fresh, fun z => by simp, Nat.le_refl _⟩
  · rintro B i v s1 E1 Q1 _ hv ⟨D, l', a, f, m, n⟩ q
    obtain ⟨z, t, hz, rfl⟩ := strs_get hi (i := i) (v := v) (by rw [Array.getElem?_toList]; exact hv)
    have li : i < xs.length := (List.getElem?_eq_some_iff.mp hz).1
    unfold setAdd
    refine wpAny_holding (wpAny_bind ((strKind P w).pyHash (k := z) (is_str z t) ?_))
    refine add_any (s := { s1 with toks := s1.toks + 1 }) a f (by omega) fun b h' D' l2 same a2 f2 m2 n2 => q b h' (s1.toks + 1) (Nat.le_succ _) same ⟨D', l2, a2, f2, fun y => ?_, by omega⟩
    rw [m2 y, m y, List.take_add_one, hz]
    simp only [Option.toList_some, List.mem_append, List.mem_singleton]
    exact Or.comm
  · rintro h' tk ⟨D, l', a, f, m, n⟩ keep
    exact k h' tk D l' a f (fun z => by rw [m z, List.take_of_length_le (by omega)]) (by omega) keep
/-- sorted(a set of texts) -/
theorem sorted_txt {a : Addr} {D : SD} {l : List Str} {Q : Value → Shared → Prop} (at_ : s.heap.get? a = some (sObj "set" D)) (F : Txs P w D l) (hh : A.handled = none) (few : l.length < 64)
    (k : ∀ s' p (out : Array Value) (c : Nat) (ys : List Str), (∀ b o, s.heap.get? b = some o → s'.heap.get? b = some o) → s'.gens = s.gens → s'.os = s.os → s.heap.objs.size ≤ p →
      s'.heap.get? p = some (seqObj "list" out c) → StrsAre out.toList ys → ys.Perm l → sortedS ys = true → Q (.ref p) s') : wpAny (model P w) A (call (.builtin "sorted") [.ref a]) Q E s := by
  obtain ⟨es, ep, t⟩ := D
  have sz : es.size = l.length := F.ok.sz
  have sc : es.size < scanBound := by unfold scanBound; omega
  refine Calls.call_function_entry kind_sorted plain_sorted entry_sorted (args_sorted1 _) ?_
  unfold Builtin.«sorted»
  refine wpAny_bind (m := checkCount "sorted" 1 1 _) (wpAny_pure (wpAny_bind ?_))
  refine collect_set (A := A.in1) hh ⟨_, at_, rfl, rfl⟩ F.ok.fit sc F.ris F.led fun s1 vs k1 z1 g1 o1 pm => ?_
  have lv : vs.length = l.length := by rw [pm.length_eq, List.length_map, Array.length_toList, sz]
  have sv : ∀ us : List Value, (∀ u ∈ us, ∃ x t, u = Value.str x t) → StrsAre us (us.map fun u => txtOf (0, u)) := by
    intro us
    induction us with
    | nil => exact fun _ => .nil
    | cons u us ih =>
      intro h
      obtain ⟨x, t, rfl⟩ := h u List.mem_cons_self
      exact .cons x t (ih fun v hv => h v (List.mem_cons_of_mem _ hv))
  have hS := sv vs fun u hu => by
    obtain ⟨e, he, rfl⟩ := List.mem_map.mp (pm.mem_iff.mp hu)
    exact F.all e he
  have pl : (vs.map fun u => txtOf (0, u)).Perm l := by
    refine (pm.map _).trans ?_
    rw [List.map_map]
    refine List.Perm.trans (List.Perm.of_eq ?_) F.pm
    exact List.map_congr_left fun e _ => by obtain ⟨h, v⟩ := e; cases v <;> rfl
  refine wpAny_bind (wpAny_newList ?_ (by rw [lv, sizeLine_eq]; omega))
  have oL : (s1.heap.push (seqObj "list" vs.toArray 0)).get? s1.heap.objs.size = some (seqObj "list" vs.toArray 0) := Heap.get?_push_size _ rfl
  refine wpAny_bind (wpAny_holding (wpAny_call_entry slot_list_sort ⟨_, oL, rfl⟩ entry_list_sort
    (list_sort_treeK strKind_oneLt oL hS.keysOf (fun v1 v2 rest e => keyKind_strs (by rw [← e]; exact hS)) (by rw [lv]; exact few) fun st h1 h2 => ⟨_, rfl, ?_⟩) (args_list_sort _)))
  obtain ⟨ys, a1, a2, a3⟩ := sorted_out_str hS h1 h2
  obtain ⟨c, hc⟩ := sortedHeap_at (vs := vs) (out := (arrOf st).map (·.2)) oL
  refine wpAny_pure ⟨_, rfl, k _ s1.heap.objs.size _ c ys (fun b u e => ?_) g1 o1 z1 hc a1 (a2.trans pl) a3⟩
  have q := k1 b u e
  have lt := Heap.lt_size q
  refine (sortedHeap_old (Nat.ne_of_lt lt) (by rw [size_push']; exact Nat.lt_succ_of_lt lt)).trans ?_
  exact Heap.get?_push_of_some _ q
end
/-! ### as calls -/
/-- at a a set of just the texts l -/
def SetX (P : Program) (w : World) (a : Addr) (l : List Str) : HO := .ext fun h => ∃ D, h.get? a = some (sObj "set" D) ∧ Txs P w D l
section
variable {X : Cx}
theorem setX_new {w : World} {P : Program} {H : Hp} {h : Heap} {a : Addr} {l : List Str} (R : ∃ D, h.get? a = some (sObj "set" D) ∧ Txs P w D l) : ObjOk P w H h a (SetX P w a l) := by
  obtain ⟨D, e, F⟩ := id R
  exact ⟨R, ⟨_, e⟩, fun h1 h2 ⟨D2, e2, F2⟩ keep => ⟨D2, keep _ e2, F2⟩⟩
def rSetX (K : PySem.W.Frag) (P : Program) (w : World) : List V → Hp → VK → Prop := fun vs H Q => ∃ (a : Addr) (xs : List Str), vs = [V.ref a] ∧ SqL K H a (xs.map V.str) ∧ xs.length < 64 ∧
  ∀ (l : List Str) (p : Addr), l.Nodup → (∀ z, z ∈ l ↔ z ∈ xs) → l.length ≤ xs.length → H p = none → Q (.ref p) (upd H p (SetX P w p l))
theorem cr_setX (hc : X.calm = true) : CallR X (.type "set") (rSetX X.K X.prog X.w) := by
  intro pins s σ H vs us Q I r h
  obtain ⟨a, xs, rfl, hs, few, q⟩ := h
  obtain ⟨its, rv, hl, _⟩ := I.list hs
  rw [Vals.ref1 r]
  refine set_txt (I.ok.hd hc) hl.isList rv.strs (by unfold scanBound; omega) fun h' tk D l' e F m ll keep => ?_
  exact ⟨.ref _, upd H s.heap.objs.size (SetX X.prog X.w s.heap.objs.size l'), I.laid (t' := tk) keep (Nat.le_refl _) (setX_new ⟨D, e, F⟩), rfl, q l' _ F.nd m ll (I.hok.fresh (Nat.le_refl _))⟩
def rSortedX (P : Program) (w : World) : List V → Hp → VK → Prop := fun vs H Q => ∃ (a : Addr) (l : List Str), vs = [V.ref a] ∧ H a = some (SetX P w a l) ∧ l.length < 64 ∧
  ∀ (ys : List Str) (p : Addr), ys.Perm l → sortedS ys = true → H p = none → Q (.ref p) (upd H p (.lst (ys.map V.str)))
theorem cr_sortedX (hc : X.calm = true) : CallR X (.builtin "sorted") (rSortedX X.prog X.w) := by
  intro pins s σ H vs us Q I r h
  obtain ⟨a, l, rfl, at_, few, q⟩ := h
  obtain ⟨D, e, F⟩ := (I.hok a _ at_).1
  rw [Vals.ref1 r]
  refine sorted_txt e F (I.ok.hd hc) few fun s' p out c ys keep g o hp he hy pm so => ?_
  have hn : H p = none := I.hok.fresh hp
  have hlen : (ys.map V.str).length ≤ sizeLine := by rw [List.length_map, pm.length_eq]; exact small64 few
  have J : Inv X pins σ (upd H p (.lst (ys.map V.str))) { s with heap := s'.heap, gens := s'.gens, drawn := s'.drawn, toks := s'.toks } :=
    I.call (ch := []) (Un.laid keep hp hn) (I.hok.laid keep hp ⟨hlen, out.toList, c, vals_of_strs hy, he⟩) (by rw [g]; exact I.bare) (fun _ z => nomatch z)
  have es : s' = { s with heap := s'.heap, gens := s'.gens, drawn := s'.drawn, toks := s'.toks } := by
    cases s'
    cases s
    cases o
    rfl
  rw [es]
  exact ⟨.ref p, _, J, rfl, q ys p pm so hn⟩
end
end TSet
set_option maxRecDepth 100000
set_option maxHeartbeats 4000000
/-! tuple(d.values()), the keys of d tuples of ints and texts -/
namespace TV
open PySem PySem.Spec PyProof.Rows L2
section
variable {prog : Program} {w : World} {A : Around} {E : Value → Shared → Prop} {s : Shared} {T : String} {r d : Addr} {n : Nat} {P : Nat → Value → Prop} {OK : Heap → Prop}
theorem collect_kdl {Q : List Value → Shared → Prop} (K : PySem.W.KdlSrc prog w T r d n P OK) (hh : A.handled = none) (hok : OK s.heap) (hn : n ≤ sizeLine)
    (hQ : ∀ (h' : Heap) (tk : Nat) (acc : Array Value), (∀ b o, s.heap.get? b = some o → h'.get? b = some o) → ItemsOf P acc n → Q acc.toList { s with heap := h', toks := tk }) :
    wpAny (model prog w) A (collect (.ref r)) Q E s := by
  have hok1 : OK (s.heap.push { cls := .type "list", data := .seq ([] : List Value).toArray }) := K.keep _ _ hok fun b _ o e => Heap.get?_push_of_some _ e
  have hlt := K.there _ hok
  unfold collect
  refine wpAny_bind (wpAny_runValue (codeAny_builtin F.entry_proto_collect ?_))
  rw [Around.under_plainId F.plain_proto_collect _]
  show wpAny _ A.in1 (newList [] >>= fun l => again (.builtin "list.__iadd__" ⟨[l, .ref r], []⟩)) _ _ s
  refine wpAny_bind (wpAny_newObj_type ?_)
  refine wpAny_pure ⟨plainId_quiet F.plain_list_iadd _, codeAny_builtin F.entry_list_iadd ?_⟩
  rw [Around.under_plainId F.plain_list_iadd _]
  show wpAny _ A.in1 (Builtin.List.listExtendWith (.ref s.heap.objs.size) (.ref r) (.ref s.heap.objs.size)) _ _ _
  have hS : (s.heap.push { cls := .type "list", data := .seq ([] : List Value).toArray }).get? s.heap.objs.size = some { cls := .type "list", data := .seq #[] 0 } := Heap.get?_push_size _ rfl
  refine wpAny_mono (PySem.W.kdl_extend (A := A) (R := fun rr s' => rr = .ok (.ret (.ref s.heap.objs.size)) ∧ ∃ (h' : Heap) (tk : Nat) (acc : Array Value) (c' : Nat), s' = { s with heap := h', toks := tk } ∧
      (∀ b o, s.heap.get? b = some o → h'.get? b = some o) ∧ h'.get? s.heap.objs.size = some { cls := .type "list", dict := none, data := .seq acc c', slots := #[] } ∧ ItemsOf P acc n)
    (s := { s with heap := s.heap.push { cls := .type "list", data := .seq ([] : List Value).toArray } }) K hh hok1 s.heap.objs.size (Nat.ne_of_gt hlt.1) (Nat.ne_of_gt hlt.2) _ 0 hS
    (fun h' tk acc c' hk e hi => ⟨rfl, h', tk, acc, c', rfl, fun b o q => hk b o (Nat.ne_of_lt (Heap.lt_size q)) (Heap.get?_push_of_some _ q), e, hi⟩) hn) (fun fin s' h => ?_) (fun e s' h => ?_)
  · cases fin with
    | done f =>
      obtain ⟨e, h', tk, acc, c', rfl, hk, hS', hi⟩ := h
      cases e
      show wpAny _ A (load s.heap.objs.size >>= _) _ _ _
      exact wpAny_bind (wpAny_load hS' (wpAny_pure (hQ h' tk acc hk hi)))
    | again c' =>
      refine ⟨h.1, codeAny_mono h.2 fun rr s'' hr' => ?_⟩
      obtain ⟨rfl, h', tk, acc, c', rfl, hk, hS', hi⟩ := hr'
      show wpAny _ A (load s.heap.objs.size >>= _) _ _ _
      exact wpAny_bind (wpAny_load hS' (wpAny_pure (hQ h' tk acc hk hi)))
  · exact absurd h.1 (by simp)
theorem code_tuple_new_vals {Q₁ : Value → Shared → Prop} (K : PySem.W.KdlSrc prog w "dict_values" r d n P OK) (hh : A.handled = none) (hok : OK s.heap) (hn : n ≤ sizeLine)
    (h : ∀ (h' : Heap) (tk : Nat) (acc : Array Value), (∀ b o, s.heap.get? b = some o → h'.get? b = some o) → ItemsOf P acc n →
      Q₁ (.ref h'.objs.size) { s with heap := h'.push { cls := .type "tuple", data := .seq acc }, toks := tk }) :
    codeAny (model prog w) A (.call (.builtin "tuple.__new__") ⟨[.type "tuple", .ref r], []⟩) (wants Q₁ E) s := by
  refine codeAny_of_tree ?_
  show wpAny _ A.in1 (do checkBuiltinCall "tuple.__new__" ⟨[.type "tuple", .ref r], []⟩; again (.builtin "tuple.__new__" ⟨[.type "tuple", .ref r], []⟩)) _ _ s
  refine wpAny_bind (wpAny_of_eq (F.newCall_tuple_1 _) (wpAny_pure ⟨plainId_quiet F.plain_tuple_new _, codeAny_builtin F.entry_tuple_new ?_⟩))
  rw [Around.under_plainId F.plain_tuple_new _]
  have hsub := sub_tuple_self
  have hinit := init_tuple_lookup
  have hmh := madeHere_tuple
  have hTI : s.TypeIs (.ref r) "dict_values" := K.type s hok
  have hh1 : A.in1.handled = none := hh
  wp_walk using wpAny_typeOf hTI, collect_kdl (A := A.in1) K hh1 hok hn
  intro h' tk acc hk hacc
  show wpAny _ _ (Builtin.Tuple.tupleExact acc.toList.toArray >>= fun v => ret v) _ _ _
  unfold Builtin.Tuple.tupleExact
  refine wpAny_bind (wpAny_newObj_type ?_ (by show acc.toList.toArray.size ≤ sizeLine; simp only [Array.toArray_toList]; rw [hacc.1]; exact hn))
  refine wpAny_pure ?_
  have e : acc.toList.toArray = acc := by simp
  rw [e]
  exact h h' tk acc hk hacc
theorem call_tuple_vals {Q : Value → Shared → Prop} (K : PySem.W.KdlSrc prog w "dict_values" r d n P OK) (hh : A.handled = none) (hok : OK s.heap) (hn : n ≤ sizeLine)
    (hQ : ∀ (h' : Heap) (tk : Nat) (acc : Array Value), (∀ b o, s.heap.get? b = some o → h'.get? b = some o) → ItemsOf P acc n →
      Q (.ref h'.objs.size) { s with heap := h'.push { cls := .type "tuple", data := .seq acc }, toks := tk }) :
    wpAny (model prog w) A (call (.type "tuple") [.ref r]) Q E s := by
  refine callType_codes (Q₁ := fun obj s₁ => s₁.TypeIs obj "tuple" ∧ Q obj s₁) F.called_tuple (F.typeCall_tuple_1 _) F.entry_object_init
    (code_tuple_new_vals (A := A.in1) K hh hok hn fun h' tk acc hk hacc => ⟨⟨_, Heap.get?_push_size _ rfl, rfl⟩, hQ h' tk acc hk hacc⟩) fun obj s₁ h₁ => ?_
  exact ⟨h₁.1, F.args_object_init_2 obj _, object_init_meets F.called_tuple.init.lookup F.called_tuple.made (by decide) prog w A.in1 _ s₁ ⟨h₁.1, rfl, h₁.2⟩⟩
end
section
variable {X : Cx} {e : Expr} {td : TE} {apos cpos : Pos}
theorem raw_of {P : Program} {w : World} {h : Heap} {a : Addr} {xs : List (List L2.Key × Addr × Value)} (x : h.DictOfH (tupleKind (mixKind P w)) a xs) : ∃ es ep, h.DictRaw a es ep ∧ es.toList = xs.map (entryOfKey (tupleKind (mixKind P w))) := by
  obtain ⟨o, es, ep, h1, h2, h3, h4, _⟩ := x
  exact ⟨es, ep, ⟨o, h1, h2, h3⟩, h4⟩
def tValsT (td : TE) : TE := fun σ H Q => td σ H fun x H1 => ∃ d, x = .ref d ∧ (∃ kvs, H1 d = some (.dT kvs)) ∧ ∀ p, H1 p = none → Q (.ref p) (upd H1 p (viewO "dict_values" p d))
theorem pe_valsT (he : PE X e td) (hbase : attributeBase e "values" X.env (eval e X.env) = eval e X.env := by rfl) (hline : (apos.endLine == cpos.line) = true := by rfl) : PE X (.Call (.Attribute e "values" apos) [] [] cpos) (tValsT td) := by
  refine ⟨fun pins s σ H Q I h => ?_⟩
  refine wpAny_Call_method (T := "dict") (id := "dict.values") hbase rfl hline F.plainAttrs_dict F.slot_dict_values F.type_dict_values (thn (he.run pins s σ H _ I h) fun u s1 ⟨x, H1, I1, rx, d, ex, ⟨kvs, hd⟩, q⟩ => ?_)
  subst ex
  obtain rfl : u = Value.ref d := rx
  obtain ⟨z, hs, xs, rel, dd⟩ := dt_of I1.hok hd
  obtain ⟨es, ep, raw, _⟩ := raw_of dd
  refine ⟨raw.typeIs, fun b e => ?_, ?_⟩
  · cases e
    obtain ⟨o, h1, h2, _⟩ := raw
    exact ⟨o, h1, h2.2.1⟩
  show wpAny _ _ (callWith cpos (.builtin "dict.values") [.ref d] [] []) _ X.xe s1
  exact method_meetsIn F.slot_dict_values F.entry_dict_values rfl (PySem.evalArgs_none ⟨rfl, raw.typeIs, F.args_dict_values_1 _, _, meets_dict_values_raw d hs, ⟨⟨es, ep, raw⟩, ⟨.ref s1.heap.objs.size, _, I1.laid (t' := s1.toks) (fun b o q => Heap.get?_push_of_some _ q) (Nat.le_refl _) (viewO_ok (Heap.get?_push_size _ rfl)), rfl, q _ (I1.hok.fresh (Nat.le_refl _))⟩⟩⟩)
theorem pair_get {α β : Type} {F : α → β → Prop} : ∀ {l : List α} {m : List β}, Paired F l m → ∀ {j : Nat} {a : α}, l[j]? = some a → ∃ b, m[j]? = some b ∧ F a b
  | _, _, .nil, _, _, h => by simp at h
  | _, _, .cons (a := c) (b := b) hq r, 0, a, h => ⟨b, rfl, by have e : c = a := Option.some.inj h; rw [← e]; exact hq⟩
  | _, _, .cons hq r, j + 1, a, h => pair_get r (j := j) (by simpa using h)
def rTupVals : List V → Hp → VK → Prop := fun xs H Q => ∃ (p d : Addr) (kvs : List (List L2.Key × V)), xs = [.ref p] ∧ H p = some (viewO "dict_values" p d) ∧ H d = some (.dT kvs) ∧ ∀ q, H q = none → Q (.ref q) (upd H q (.tup (kvs.map (·.2))))
theorem cr_tupVals (hc : X.calm = true) : CallR X (.type "tuple") rTupVals := by
  intro pins s σ H xs us Q I rx h
  obtain ⟨p, d, kvs, rfl, hp, hd, q⟩ := h
  rw [Vals.ref1 rx]
  have hv : s.heap.get? p = some (DSub.viewOb "dict_values" d) := (show ObjOk X.prog X.w H s.heap p (viewO "dict_values" p d) from I.hok p _ hp).1
  obtain ⟨z, hs, ys, rel, dd⟩ := dt_of I.hok hd
  obtain ⟨es, ep, raw, he⟩ := raw_of dd
  have hl : kvs.length = ys.length := Paired.length rel
  have hes : es.size = ys.length := by
    have := congrArg List.length he
    rwa [List.length_map, Array.length_toList] at this
  refine call_tuple_vals (PySem.KdlSrc.rawValues (r := p) (d := d) (es := es) (ep := ep)) (I.ok.hd hc) ⟨⟨_, hv, rfl, rfl⟩, raw⟩ (by omega) fun h' tk acc hk hacc => ?_
  have I1 : Inv X pins σ H { s with heap := h', toks := tk } := I.kept hk
  refine ⟨.ref h'.objs.size, upd H h'.objs.size (.tup (kvs.map (·.2))), I1.laid (t' := tk) (fun b o q => Heap.get?_push_of_some _ q) (Nat.le_refl _) (show ObjOk X.prog X.w _ _ _ (.tup (kvs.map (·.2))) from ⟨by rw [List.length_map]; exact z, acc.toList, ?_, ?_⟩), rfl, q _ (I1.hok.fresh (Nat.le_refl _))⟩
  · have el : acc.toList.length = acc.size := by simp
    refine vals_of_at (by rw [List.length_map, el, hacc.1, hl, hes]) fun j x w h1 h2 => ?_
    obtain ⟨hi, hw⟩ := hacc.2 j w (by rw [← Array.getElem?_toList]; exact h2)
    rw [List.getElem?_map] at h1
    obtain ⟨kv, hkv, rfl⟩ := Option.map_eq_some_iff.mp h1
    obtain ⟨y, hy, hr⟩ := pair_get rel hkv
    have e1 : es.toList[j]? = some (entryOfKey (tupleKind (mixKind X.prog X.w)) y) := by rw [he, List.getElem?_map, hy]; rfl
    have e2 : es.toList[j]? = some es[j] := by rw [Array.getElem?_toList, Array.getElem?_eq_getElem hi]
    have e3 := Option.some.inj (e2.symm.trans e1)
    rw [hw, e3]
    exact hr.2.2
  · have := IsTup.new h' acc.toList.toArray
    rw [Array.toArray_toList] at this ⊢
    exact this
end
end TV
set_option maxRecDepth 100000
set_option maxHeartbeats 4000000
/-! rules for sets of ints, min with default=, data compared by <, a list turned round, dict.update -/
namespace HR
open PySem PySem.Spec PyProof.Rows L2 PySem.W
section
variable {X : Cx}
theorem ints_get : ∀ {us : List Value} {ns : List Int}, IntsAre us ns → ∀ {i : Nat} {v : Value}, us[i]? = some v → ∃ z t, ns[i]? = some z ∧ v = .int z t
  | _, _, .nil, _, _, h => by simp at h
  | _, _, .cons n t _, 0, v, h => ⟨n, t, rfl, (Option.some.inj h).symm⟩
  | _, _, .cons n t r, i + 1, v, h => ints_get r (i := i) (by simpa using h)
/-- set(a list or tuple of ints) -/
def rSetI (K : PySem.W.Frag) (w : World) : List V → Hp → VK → Prop := fun vs H Q => ∃ (a : Addr) (ns : List Int), vs = [V.ref a] ∧ (SqL K H a (ns.map V.int) ∨ SqT K H a (ns.map V.int)) ∧ ns.length < 64 ∧
  ∀ (n : Nat) (p : Addr), n ≤ ns.length → H p = none → Q (.ref p) (upd H p (SetO w p (fun j => decide (j ∈ ns)) n))
theorem cr_setI (hc : X.calm = true) : CallR X (.type "set") (rSetI X.K X.w) := by
  intro pins s σ H vs us Q I r h
  obtain ⟨a, ns, rfl, hs, few, q⟩ := h
  rw [Vals.ref1 r]
  rcases hs with hs | hs
  · obtain ⟨its, rv, hl, _⟩ := I.list hs
    have hit : IntsAre its.toArray.toList ns := intsAre_of rv
    refine TSet.made_any (P := X.prog) (w := X.w) (items := its.toArray) (I.ok.hd hc) hl.isList (fun i h => ∃ c, c ≤ i ∧ SetR X.w h s.heap.objs.size (fun j => decide (j ∈ ns.take i)) c) (fun i h h' ⟨c, hc, S⟩ k => ⟨c, hc, S.at fun o e => k _ o (by omega) e⟩)
      (fun h e _ => ⟨0, Nat.le_refl _, setR_new_at e⟩) (fun B i v s1 E' Q' hB hv ⟨c, hc, S⟩ k => ?_) fun h' tk ⟨c, hc, S⟩ keep => ?_
    · obtain ⟨z, t, hz, rfl⟩ := ints_get hit (i := i) (v := v) (by rw [Array.getElem?_toList]; exact hv)
      have hi : i < ns.length := (List.getElem?_eq_some_iff.mp hz).1
      unfold setAdd
      refine wpAny_holding ?_
      refine wpAny_bind ((intKind X.prog X.w).pyHash (k := z) (intKind_is _ _ _ _) ?_)
      refine setR_add_hashed (s := { s1 with toks := s1.toks + 1 }) S (by unfold scanBound; omega) fun h' hsb hS2 => ?_
      have hS3 : SetR X.w h' s.heap.objs.size (fun j => decide (j ∈ ns.take (i + 1))) (if decide (z ∈ ns.take i) = true then c else c + 1) := hS2.congr fun j => by
        rw [List.take_add_one, hz]
        simp [List.mem_append]
      exact k _ h' _ (Nat.le_succ _) hsb ⟨_, by split <;> omega, hS3⟩
    · have e : ns.take its.toArray.size = ns := List.take_of_length_le (by
        have := IntsAre.length hit
        rw [← this]
        simp)
      rw [e] at S
      have hl2 : its.toArray.size = ns.length := by
        have := IntsAre.length hit
        simpa using this
      exact ⟨.ref _, upd H s.heap.objs.size (SetO X.w s.heap.objs.size (fun j => decide (j ∈ ns)) c), I.laid (t' := tk) keep (Nat.le_refl _) (setO_new S), rfl, q c _ (by omega) (I.hok.fresh (Nat.le_refl _))⟩
  · obtain ⟨its, rv, hl, _⟩ := I.tuple hs
    have hit : IntsAre its.toArray.toList ns := intsAre_of rv
    refine call_set_tupI ns (I.ok.hd hc) (show s.heap.IsTuple a its.toArray from hl) hit (by unfold scanBound; omega) fun h' tk c S hcl keep => ?_
    exact ⟨.ref _, upd H s.heap.objs.size (SetO X.w s.heap.objs.size (fun j => decide (j ∈ ns)) c), I.laid (t' := tk) keep (Nat.le_refl _) (setO_new S), rfl, q c _ hcl (I.hok.fresh (Nat.le_refl _))⟩
/-- min(a list of ints, default=d) -/
def minI (d : Int) : List Int → Int
  | [] => d
  | x :: r => r.foldl (fun a y => if y < a then y else a) x
theorem minD_ints (x : Int) : ∀ (r : List Int), minD (.int x) (r.map .int) = .int (r.foldl (fun a y => if y < a then y else a) x) := by
  intro r
  induction r generalizing x with
  | nil => rfl
  | cons y r ih =>
    unfold minD at ih ⊢
    rw [List.map_cons, List.foldl_cons, List.foldl_cons, dataLt_int]
    by_cases h : y < x
    · rw [decide_eq_true h, if_pos rfl, if_pos h]
      exact ih y
    · rw [decide_eq_false h, if_neg Bool.false_ne_true, if_neg h]
      exact ih x
def rMinDef (K : PySem.W.Frag) : List V → List V → Hp → VK → Prop := fun vs zs H Q => ∃ (a : Addr) (ns : List Int) (d : Int), vs = [V.ref a] ∧ zs = [V.int d] ∧ SqL K H a (ns.map V.int) ∧ Q (.int (minI d ns)) H
theorem dp_ints {K : PySem.W.Frag} {H : Hp} : ∀ ns : List Int, DpAll K H (ns.map V.int) (ns.map .int)
  | [] => .nil
  | n :: ns => .cons (.int n) (dp_ints ns)
theorem depth_ints : ∀ ns : List Int, PyData.depthAll (ns.map .int) ≤ 1
  | [] => by simp [PyData.depthAll]
  | n :: ns => by
    rw [List.map_cons, PyData.depthAll]
    exact Nat.max_le.mpr ⟨by simp [PyData.depth], depth_ints ns⟩
theorem cr_minDef (hc : X.calm = true) (hu : X.A.units + 64 < cLine) : CallRK X (.builtin "min") [Str.ofString "default"] (rMinDef X.K) := by
  intro pins s σ H xs zs us ws Q I rx rz h
  obtain ⟨a, ns, d, rfl, rfl, hs, q⟩ := h
  obtain ⟨wd, rfl, rd⟩ := vals1 rz
  obtain ⟨t, rfl⟩ := rd
  obtain ⟨its, rv, hl, _⟩ := I.list hs
  rw [Vals.ref1 rx]
  obtain ⟨as, rr⟩ := Dp.readsAll I (ns.map .int) (ns.map V.int) its (dp_ints ns) rv
  show wpAny _ _ (call (.builtin "min") [.ref a] [(Str.ofString "default", .int d t)]) _ _ s
  refine min_list_default (vs := its.toArray) (xs := ns.map .int) (as := as) (I.ok.hd hc) hl.isList rr ⟨fun x hx y hy => ?_, fun x hx => ?_⟩ (by have := depth_ints ns; omega) (fun e h' tk keep => ?_) fun y ys i v h' tk bs e hv rd keep => ?_
  · obtain ⟨n, _, rfl⟩ := List.mem_map.mp hx
    obtain ⟨m, _, rfl⟩ := List.mem_map.mp hy
    rfl
  · obtain ⟨n, _, rfl⟩ := List.mem_map.mp hx
    exact fun e => by cases e
  · have : ns = [] := by
      cases ns with
      | nil => rfl
      | cons _ _ => cases e
    subst this
    exact ⟨.int d, H, I.kept (t' := tk) keep, ⟨t, rfl⟩, q⟩
  · cases ns with
    | nil => cases e
    | cons n ns =>
      obtain ⟨rfl, rfl⟩ : .int n = y ∧ ns.map .int = ys := by
        have := List.cons.inj e
        exact ⟨this.1, this.2⟩
      rw [minD_ints] at rd
      obtain ⟨z, t2, hz, rfl⟩ := ints_get (show IntsAre its.toArray.toList (n :: ns) from intsAre_of rv) (i := i) (v := v) (by rw [Array.getElem?_toList]; exact hv)
      refine ⟨.int (minI d (n :: ns)), H, I.kept (t' := tk) keep, ?_, q⟩
      show ∃ t', Value.int z t2 = Value.int (ns.foldl (fun a y => if y < a then y else a) n) t'
      cases rd
      exact ⟨_, rfl⟩
/-- x < y, data of one shape -/
def rLtD (K : PySem.W.Frag) : R2 := fun x y H Q => ∃ d e, Dp K H x d ∧ Dp K H y e ∧ alike d e = true ∧ d ≠ .none ∧ d.depth ≤ 60 ∧ Q (.bl (dataLt d e)) H
theorem op_ltD (hu : X.A.units + 64 < cLine) : OpR X (compareOp .Lt) (rLtD X.K) := by
  intro pins s σ H x y v u Q I rx ry h
  obtain ⟨d, e, hd, he, al, nn, dep, q⟩ := h
  obtain ⟨as, r1⟩ := Dp.reads I d x v hd rx
  obtain ⟨bs, r2⟩ := Dp.reads I e y u he ry
  refine lt_data r1 r2 al nn (by have := Nat.min_le_left d.depth e.depth; omega) ⟨.bl (dataLt d e), H, I, rfl, q⟩
/-- repr(None) -/
theorem call_reprN (gd : X.A.guards = some []) (hu : X.A.units + 70 < cLine) : CallR X (.builtin "repr") (fun xs H Q => xs = [.non] ∧ Q (.str "None") H) := by
  intro pins s σ H xs us Q I r h
  obtain ⟨rfl, q⟩ := h
  obtain ⟨u, rfl, ru⟩ := vals1 r
  have e : u = .none := ru
  subst e
  exact PySem.P.repr_of_none ⟨.str "None", H, I.tok _, ⟨_, rfl⟩, q⟩
/-- xs[::-1] of a list -/
def tRev (K : PySem.W.Frag) (te : TE) : TE := fun σ H Q => te σ H fun x H1 => ∃ a xs, x = .ref a ∧ SqL K H1 a xs ∧ ∀ p, H1 p = none → Q (.ref p) (upd H1 p (.lst xs.reverse))
/-- d.update(e), dicts by ints and texts -/
def rUpdK : V → List V → Hp → VK → Prop := fun x xs H Q => ∃ (a b : Addr) (kvs more : List (L2.Key × V)), x = .ref a ∧ xs = [.ref b] ∧ a ≠ b ∧ H a = some (.dK kvs) ∧ H b = some (.dK more) ∧ kvs.length + more.length ≤ sizeLine ∧ Q .non (upd H a (.dK (mergeK kvs more)))
theorem mt_updK : MtR X "dict.update" rUpdK := by
  intro pins s σ H x xs v us Q I rx rxs h
  obtain ⟨a, b, kvs, more, rfl, rfl, nab, ha, hb, few, q⟩ := h
  cases rx
  rw [Vals.ref1 rxs]
  obtain ⟨z, hs, vs, rel, dd⟩ := dk_of I.hok ha
  obtain ⟨z2, hs2, ms, rel2, dd2⟩ := dk_of I.hok hb
  have l1 : kvs.length = vs.length := Paired.length rel
  have l2 : more.length = ms.length := Paired.length rel2
  refine call_meetsIn F.slot_dict_update dd.typeIs F.entry_dict_update (F.args_dict_update_2 _ _) (meets_dict_update (mixKind X.prog X.w) a b nab hs2) ⟨vs, ms, dd, dd2, by omega, fun h' d1 d2 same => ?_⟩
  have hz : (mergeK kvs more).length ≤ sizeLine := Nat.le_trans (length_mergeK more kvs) few
  have I2 : Inv X pins σ (upd H a (.dK (mergeK kvs more))) { s with heap := h', toks := s.toks } := d_write I (by rw [ha]; exact True.intro) same (by obtain ⟨ep, o, es, ho, _⟩ := d1.dictAt; exact ⟨o, ho⟩) (dk_new hz hs (KV.merge rel2 rel) d1)
  exact ⟨.non, _, I2, rfl, q⟩
end
end HR
set_option maxRecDepth 100000
set_option maxHeartbeats 4000000
/-! {k: v for ..} with keys that are tuples of ints and texts -/
namespace HR
open PySem PySem.Spec PyProof.Rows L2
/-- one more entry, by a tuple -/
theorem put_tup {X : Cx} {pp : List (Addr × Obj)} {st : L2.St} {G : Hp} {sh : Shared} {EE : Value → Shared → Prop} {D b : Addr} {kvs : List (List L2.Key × V)} {k : List L2.Key} {v : V} {r : Value} {Q : Unit → Shared → Prop} (roomy : X.A.units < cLine)
    (J : Inv X pp st G sh) (at_ : G D = some (.dT kvs)) (few : kvs.length < sizeLine) (key : G b = some (.tup (k.map kV))) (rv : RelV v r) (nxt : ∀ sh', Inv X pp st (upd G D (.dT (putK kvs k v))) sh' → Q () sh') :
    wpAny (model X.prog X.w) X.A (dictSet D (.ref b) r) Q EE sh := by
  obtain ⟨z, notSys, ys, rel, dd⟩ := dt_of J.hok at_
  have ly : ys.length ≤ sizeLine := by rw [← Paired.length rel]; exact z
  have lk : (putK kvs k v).length ≤ sizeLine := by have := length_putK kvs k v; omega
  refine wpAny_dictSet_heap (hsz := ly) (knd := tupleKind (mixKind X.prog X.w)) (k := k) (show X.A.units < cLine from roomy) (key_of J.hok key) dd fun h' dd' same => nxt _ ?_
  obtain ⟨o, es, ep, ho, h2, h3, h4, _, h5⟩ := dd'
  refine d_write J (by rw [at_]; exact True.intro) same ⟨o, ho⟩ ⟨lk, notSys, _, (rel.put k key rv).keeps fun c zs ec => ?_, o, es, ep, ho, h2, h3, h4, h5⟩
  rw [upd_ne (ne_of ec at_ (fun z => nomatch z))]
  exact ec
def tDcT (wi : TI) (g : TG) (tt : TT) (tk tv : TE) (own : List Nat) : TE := fun st G Q => wi st G fun J G1 => ∀ D, G1 D = none → ∃ W : Nat → Nat → Hp → Prop, (∃ m, W 0 m (upd G1 D (.dT []))) ∧ ∀ i m G, W i m G →
  (J.stop i G ∧ Q (.ref D) G) ∨ (J.go i G ∧ ∃ Nx : Hp → Prop, (∀ G', Nx G' → ∃ m', m' < m ∧ W (i + 1) m' G') ∧ ∀ x G', J.yld i G x G' → g x (wipe st own) G' fun st2 G2 => wipe st2 own = wipe st own ∧ tt st2 G2 fun yes G3 =>
    if yes = true then tk st2 G3 fun y G4 => tv st2 G4 fun z G5 => ∃ kvs k b, y = .ref b ∧ G5 b = some (.tup (k.map kV)) ∧ G5 D = some (.dT kvs) ∧ kvs.length < sizeLine ∧ Nx (upd G5 D (.dT (putK kvs k z))) else Nx G3)
section
variable {X : Cx} {kx vx tg iter : Expr} {ifs : List Expr} {scope : Scope} {own : List (Str × Nat)} {wi : TI} {g : TG} {tt : TT} {tk tv : TE}
theorem pe_dcT {pos : Pos} (calm : X.calm = true) (roomy : X.A.units < cLine) (diff : X.N.Nodup) (walk : PI X tg iter wi) (blk : BlkOk X.N X.env.scope scope own)
    (aim : ∀ (sh : Shared) (G : Hp) (C : Addr) (cl : List (Str × Addr)) (feet : List Addr), PG (X.blk sh G scope (compEnvC scope cl C X.env) feet) tg g)
    (tests : ∀ (sh : Shared) (G : Hp) (C : Addr) (cl : List (Str × Addr)) (feet : List Addr), PTs (X.blk sh G scope (compEnvC scope cl C X.env) feet) ifs tt)
    (keys : ∀ (sh : Shared) (G : Hp) (C : Addr) (cl : List (Str × Addr)) (feet : List Addr), PE (X.blk sh G scope (compEnvC scope cl C X.env) feet) kx tk)
    (vals : ∀ (sh : Shared) (G : Hp) (C : Addr) (cl : List (Str × Addr)) (feet : List Addr), PE (X.blk sh G scope (compEnvC scope cl C X.env) feet) vx tv)
    (plain : ∀ x, foldedSetIterable iter X.env x = pure x := by intro _; rfl) : PE X (.DictComp kx vx [⟨tg, iter, ifs, 0⟩] scope pos) (tDcT wi g tt tk tv (own.map (·.2))) := by
  refine ⟨fun pp sh0 st G0 Q I0 ask => ?_⟩
  rw [arm_eval_DictComp]
  have frees : ∀ y ∈ scope.names, y.2 = .free → ∃ c, X.env.cells.lookup y.1 = some c := fun y hy e => (blk.free y hy e).elim (fun k => I0.ok.has _ (.inl k)) fun k => I0.ok.has _ (.inr k)
  refine wpAny_comprehension_free (use := none) rfl plain (closure_ok frees) blk.kind (fun y hy e => by rw [blk.uniq y hy, e]) (thn (walk.run pp sh0 st G0 _ I0 ask) fun xv sh1 came => thn came fun itv sh2 more => ?_)
  obtain ⟨it, feet, ten, J, G2, rfl, I2, T, at0, free2, turn⟩ := more
  refine wpAny_newObj_type (newEnv_comp ?_)
  have new : G2 sh2.heap.objs.size = none := I2.hok.fresh (Nat.le_refl _)
  obtain ⟨W, ⟨m0, w0⟩, step⟩ := turn _ new
  -- the dict is laid
  obtain ⟨G3, eG3⟩ : ∃ G3, G3 = upd G2 sh2.heap.objs.size (.dT []) := ⟨_, rfl⟩
  rw [← eG3] at w0
  obtain ⟨sh3, e3⟩ : ∃ sh3 : Shared, sh3 = { sh2 with heap := sh2.heap.push { cls := .type "dict", data := .dict #[] } } := ⟨_, rfl⟩
  have I3 : Inv X pp st G3 sh3 := by
    rw [e3, eG3]
    exact I2.laid (t' := sh2.toks) (fun b o q => Heap.get?_push_of_some _ q) (Nat.le_refl _) (dt_empty sh2.heap I2.big)
  have heap3 : sh3.heap = sh2.heap.push { cls := .type "dict", data := .dict #[] } := by rw [e3]
  have low : ∀ b ∈ feet, b < sh2.heap.objs.size := fun b hb => Heap.lt_size (T.obj _ _ at0 b hb).choose_spec.1
  have free3 : ∀ b ∈ feet, FpOk X pp G3 b ∧ b < sh3.heap.objs.size := fun b hb => ⟨⟨by rw [eG3, upd_ne (Nat.ne_of_lt (low b hb))]; exact (free2 b hb).1, (free2 b hb).2⟩, by rw [heap3, Heap.size_push]; exact Nat.lt_succ_of_lt (low b hb)⟩
  have at3 : ten 0 sh3.heap := T.keep _ _ _ at0 fun b _ o q => by rw [heap3]; exact Heap.get?_push_of_some _ q
  have I4 := block_start I3 blk diff free3
  obtain ⟨C, eC⟩ : ∃ C, C = sh3.heap.objs.size := ⟨_, rfl⟩
  obtain ⟨cl, ecl⟩ : ∃ cl, cl = cellsFrom (sh3.heap.objs.size + 1) scope.names (cloFrom X.env.cells scope.names []) := ⟨_, rfl⟩
  obtain ⟨sh4, e4⟩ : ∃ sh4 : Shared, sh4 = { sh3 with heap := pushCells (sh3.heap.push { cls := .type "dict", data := .dict #[] }) scope.names } := ⟨_, rfl⟩
  rw [← ecl, ← eC, ← e4] at I4
  have at4 : ten 0 sh4.heap := T.keep _ _ _ at3 fun b _ o q => by rw [e4]; exact pushCells_keeps _ _ _ _ (Heap.get?_push_of_some _ q)
  have none3 : ∀ b ∈ feet, G3 b = none := fun b hb => (free3 b hb).1.1
  obtain ⟨Y, eY⟩ : ∃ Y, Y = X.blk sh3 G3 scope (compEnvC scope cl C X.env) feet := ⟨_, rfl⟩
  rw [← eY] at I4
  have held : ∀ {st' : L2.St} {G' : Hp} {sh' : Shared}, Inv Y [] st' G' sh' → (∀ b ∈ feet, G' b = none) → ∀ b ∈ feet, FpOk Y [] G' b := by
    subst eY
    exact fun {_ _ _} I' no b hb => ⟨no b hb, (I'.ok.exf b hb).1, I'.ok.exfs b hb, .inl hb, fun x c q => (I'.ok.exf b hb).2 x c q, fun p hp => absurd (show p ∈ ([] : List (Addr × Obj)) ++ [] from hp) (by simp)⟩
  have locC : (compEnvC scope cl C X.env).locals = C := rfl
  have loop : codeAny (model X.prog X.w) X.A (.compLoop (.DictComp kx vx [⟨tg, iter, ifs, 0⟩] scope pos) 0 (.ref it) (.ref sh2.heap.objs.size) (compEnvC scope cl C X.env)) (compPost (model X.prog X.w) X.A X.xe none (EP X pp st Q) (.ref sh2.heap.objs.size) C) sh4 := by
    subst eY
    refine compLoop_anyD (fun left sh => ∃ i G, Inv (X.blk sh3 G3 scope (compEnvC scope cl C X.env) feet) [] (wipe st (own.map (·.2))) G sh ∧ ten i sh.heap ∧ (∀ b ∈ feet, G b = none) ∧ W i left G) ?_ m0 ⟨0, G3, I4, at4, none3, w0⟩
    rintro left sh5 ⟨i, G5, I5, at5, no5, w5⟩
    rcases step i left G5 w5 with ⟨over, good⟩ | ⟨on, Nx, fewer, go⟩
    · -- the walk is over
      refine thnF (T.done (X.blk sh3 G3 scope (compEnvC scope cl C X.env) feet) rfl rfl rfl calm i [] sh5 _ G5 (fun _ _ => False) I5 (held I5 no5) at5 over) fun r sh6 ⟨er, I6⟩ => ?_
      subst er
      have I7 : Inv X pp st G5 sh6 := I3.call' (ch := feet) I6.os I6.base I6.hok I6.bare fun b hb => let f := (free3 b hb).1.2; ⟨f.2.2.1, f.1, f.2.2.2.1, f.2.2.2.2⟩
      have noC : G5 C = none := I6.free
      obtain ⟨m, names, _⟩ := I6.loc
      obtain ⟨f0, f1, f2, f3, f4, f5⟩ := I3.fpOk (Nat.le_of_eq eC.symm) noC
      exact ⟨m, names, fun h'' sb => ⟨.ref sh2.heap.objs.size, G5, I7.turned (t' := sh6.toks) (fun b o hb q => (sb.2 b hb).trans q) f0 f1 f3 f4 f5, rfl, good⟩⟩
    · -- one turn
      refine thnF (T.item (X.blk sh3 G3 scope (compEnvC scope cl C X.env) feet) rfl rfl rfl calm i [] sh5 _ G5 (fun _ _ => False) I5 (held I5 no5) at5 on) fun r sh6 ⟨u, er, rest⟩ => ?_
      subst er
      refine thnF rest fun _ sh7 ⟨x, G7, I7, rx, y7, at7, no7⟩ => ?_
      have P7 := I7.pinned (held I7 no7) (T.obj _ _ at7)
      refine thnF ((aim sh3 G3 C cl feet).run _ sh7 _ G7 x u _ P7 rx (go x G7 y7)) fun _ sh8 ⟨st8, G8, I8, same8, q8⟩ => ?_
      refine thnF ((tests sh3 G3 C cl feet).run _ sh8 st8 G8 _ I8 q8) fun yes sh9 ⟨G9, I9, q9⟩ => ?_
      have back : ∀ {sh' : Shared} {G' : Hp}, Inv (X.blk sh3 G3 scope (compEnvC scope cl C X.env) feet) ([] ++ pinsAt feet sh7.heap) st8 G' sh' → Nx G' →
          ∃ m, m < left ∧ ∃ i G, Inv (X.blk sh3 G3 scope (compEnvC scope cl C X.env) feet) [] (wipe st (own.map (·.2))) G sh' ∧ ten i sh'.heap ∧ (∀ b ∈ feet, G b = none) ∧ W i m G := by
        intro sh' G' I' nx
        obtain ⟨m', less, w'⟩ := fewer G' nx
        have pin : ∀ b ∈ feet, ∀ o, sh7.heap.get? b = some o → sh'.heap.get? b = some o ∧ G' b = none := fun b hb o q => by
          have z := I'.pin (b, o) (List.mem_append_right _ (List.mem_append_right _ (mem_pinsAt hb q)))
          exact ⟨z.1, z.2.1⟩
        have len : (wipe st (own.map (·.2))).length = st8.length := by rw [← same8, wipe_length]
        refine ⟨m', less, i + 1, G', (I'.unpinned (pins := [])).weak len (fun j v q => ?_), T.keep _ _ _ at7 fun b hb o q => (pin b hb o q).1, fun b hb => ?_, w'⟩
        · rw [← same8] at q
          exact (wipe_some q).1
        · obtain ⟨o, q, _⟩ := T.obj _ _ at7 b hb
          exact (pin b hb o q).2
      cases yes with
      | false => exact back I9 q9
      | true =>
        refine thnF ((keys sh3 G3 C cl feet).run _ sh9 st8 G9 _ I9 q9) fun ku sh10 ⟨yk, G10, I10, rk, q10⟩ => ?_
        refine thnF ((vals sh3 G3 C cl feet).run _ sh10 st8 G10 _ I10 q10) fun vu sh11 ⟨yv, G11, I11, rv, kvs, k, b, ek, hb, hD, few, nx⟩ => ?_
        subst ek
        obtain rfl : ku = .ref b := rk
        exact put_tup (X := X.blk sh3 G3 scope (compEnvC scope cl C X.env) feet) roomy I11 hD few hb rv fun sh12 I12 => back I12 nx
  show codeAny _ _ (.compStart (.DictComp kx vx [⟨tg, iter, ifs, 0⟩] scope pos) 0 (.ref it) (.ref sh2.heap.objs.size) (compEnvC scope (cellsFrom (sh2.heap.push { cls := .type "dict", data := .dict #[] }).objs.size.succ scope.names (cloFrom X.env.cells scope.names [])) (sh2.heap.push { cls := .type "dict", data := .dict #[] }).objs.size X.env)) _ _
  rw [heap3] at eC ecl
  subst e3
  subst e4 ecl eC
  exact codeAny_compStart_dict loop (T.self X.A 0 _ _ _ at4 loop)
end
end HR
set_option maxRecDepth 100000
set_option maxHeartbeats 4000000
/-! min(rows, key=len); xs[::-1]; list(d), d by tuples -/
namespace HR
open PySem PySem.Spec PyProof.Rows L2 PySem.W
section
variable {X : Cx} {e : Expr} {te : TE} {t : TA} {p p2 pos kpos : Pos}
theorem tups_at {pp : List (Addr × Obj)} {st : L2.St} {H : Hp} {s : Shared} (I : Inv X pp st H s) {xs : List V} {its : List Value} (r : Vals xs its) (all : ∀ v ∈ xs, ∃ b ys, v = V.ref b ∧ SqT X.K H b ys) :
    ∀ (i : Nat) (v : Value), its[i]? = some v → ∃ b ys us, v = Value.ref b ∧ xs[i]? = some (V.ref b) ∧ Vals ys us ∧ IsTup s.heap b us.toArray ∧ us.length ≤ sizeLine := by
  intro i v hv
  have hi : i < xs.length := by rw [r.length]; exact (List.getElem?_eq_some_iff.mp hv).1
  obtain ⟨u, hu, ru⟩ := r.get (List.getElem?_eq_getElem hi)
  obtain ⟨b, ys, eb, hb⟩ := all _ (List.getElem_mem hi)
  obtain ⟨us, rv, ht, z⟩ := I.tuple hb
  rw [eb] at ru
  have ev : u = Value.ref b := ru
  rw [hv] at hu
  exact ⟨b, ys, us, by rw [← ev]; exact (Option.some.inj hu), by rw [List.getElem?_eq_getElem hi, eb], rv, ht, by rw [← rv.length]; exact z⟩
/-- some row of a list of tuples (the shortest; which is not told) -/
def tMinLen (K : PySem.W.Frag) (t : TA) : TE := fun σ H Q => t σ H fun vs H1 => ∃ a xs, vs = [V.ref a] ∧ SqL K H1 a xs ∧ xs ≠ [] ∧ (∀ v ∈ xs, ∃ b ys, v = V.ref b ∧ SqT K H1 b ys) ∧ ∀ v ∈ xs, Q v H1
theorem pe_minLen (calm : X.calm = true) (hu : X.A.units + 64 < cLine) (g1 : Gl X "min") (m1 : X.mg "min" = none) (g2 : Gl X "len") (m2 : X.mg "len" = none) (ha : PA X [e] t)
    (h1 : backTo pos (starEach [e] X.env) = (false, eval e X.env) :: backTo pos (starEach [] X.env) := by rfl) (h2 : (backTo pos (starEach [e] X.env)).any (·.1) = false := by rfl) :
    PE X (.Call (.Name "min" p) [e] [⟨some "key", .Name "len" p2, kpos⟩] pos) (tMinLen X.K t) := by
  refine ⟨fun pins s σ H Q I h => ?_⟩
  refine wpAny_Call_Name_kw (ld_blt I g1 m1 (u := .builtin "min") (by first | rfl | decide +kernel) ?_)
  refine PyProof.Rows.callWith_kw (thn (ha.run pos pins s σ H _ I h) fun us s1 ⟨vs, H1, I1, r1, a, xs, ev, hs, ne, all, q⟩ => ?_) h1 h2
  subst ev
  obtain ⟨u, rfl, ru⟩ := vals1 r1
  have eu : u = Value.ref a := ru
  subst eu
  show wpAny _ _ (evalAll ((do let v ← eval (.Name "len" p2) X.env; standAt pos; pure v) :: [])) _ _ s1
  refine wpAny_evalAll_cons (wpAny_bind (ld_blt I1 g2 m2 (u := .builtin "len") (by first | rfl | decide +kernel) (wpAny_bind (wpAny_standAt (wpAny_pure ?_)))))
  refine wpAny_evalAll_nil ?_
  show wpAny _ _ (call (.builtin "min") [.ref a] [(Str.ofString "key", .builtin "len")]) _ _ s1
  obtain ⟨its, rv, hl, z⟩ := I1.list hs
  have hd : X.A.in1.handled = none := I1.ok.hd calm
  have at_ := tups_at I1 rv all
  have lx : xs.length = its.length := rv.length
  let lens : List Nat := its.map fun v => match v with | Value.ref b => (match s1.heap.get? b with | some o => (match o.data with | .seq vs _ => vs.size | _ => 0) | none => 0) | _ => 0
  have lenAt : ∀ (i : Nat) (v : Value), its[i]? = some v → ∃ b, ∃ us : List Value, v = Value.ref b ∧ IsTup s1.heap b us.toArray ∧ us.length ≤ sizeLine ∧ lens.getD i 0 = us.length := fun i v hv => by
    obtain ⟨b, ys, us, rfl, _, _, ht, zu⟩ := at_ i v hv
    refine ⟨b, us, rfl, ht, zu, ?_⟩
    obtain ⟨o, ho, _, n, hdt⟩ := id ht
    show (its.map _).getD i 0 = _
    rw [List.getD_eq_getElem?_getD, List.getElem?_map, hv]
    show (match s1.heap.get? b with | some o => (match o.data with | .seq vs _ => vs.size | _ => 0) | none => 0) = _
    rw [ho]
    show (match o.data with | .seq vs _ => vs.size | _ => 0) = _
    rw [hdt]
    simp
  refine call_min_walkKB (iter_listW (A := X.A.in1) hd hl.isList fun s2 e2 W st0 hfp hw hk => ?_)
  have hn : 0 < its.toArray.size := by
    rw [List.size_toArray, ← lx]
    exact List.length_pos_iff.mpr ne
  refine ⟨_, _, _, _, _, _, _, (fun s' => ∃ h' tk, s' = { s1 with heap := h', toks := tk } ∧ ∀ b o, s1.heap.get? b = some o → h'.get? b = some o), (fun i k _ => ∃ tk, k = Value.int (lens.getD i 0 : Nat) tk), (fun i j => (fun (m n : Nat) => decide (m < n)) (lens.getD i 0) (lens.getD j 0)), rfl, W, st0, hfp, hn, ?_, ⟨s2.heap, s2.toks, by rw [e2], hk⟩, fun v s' hv ⟨h', tk, es, keep⟩ => ?_⟩
  · exact {
      keep := fun s s' ⟨h', tk, es, keep⟩ m => by
        subst es
        obtain ⟨hp, g, d, tk', os⟩ := s'
        have hg : g = s1.gens := m.gens
        have hdr : d = s1.drawn := m.drawn
        have hos : os = s1.os := m.os
        subst hg hdr hos
        refine ⟨hp, tk', rfl, fun b o q => m.heap b o (fun hb => ?_) (keep b o q)⟩
        have hlt := Heap.lt_size q
        have e3 : s2.heap.objs.size = s1.heap.objs.size + 1 := by rw [e2]; exact Heap.size_push _ _
        simp only [List.mem_cons, List.not_mem_nil, or_false] at hb
        rcases hb with hb | hb
        · rw [hb, e3] at hlt
          exact absurd hlt (Nat.not_lt.mpr (Nat.le_succ _))
        · rw [hb] at hlt
          exact absurd hlt (Nat.lt_irrefl _)
      keepV := fun i k s s' hv _ => hv
      turn := fun i v s o Q' E' hi hv ⟨h', tk, es, keep⟩ st ho nxt => by
        subst es
        obtain ⟨b, us, rfl, ht, zu, el⟩ := lenAt i v (by simpa using hv)
        have ht2 : IsTup h' b us.toArray := by
          obtain ⟨o2, h1, h2, h3⟩ := ht
          exact ⟨o2, keep _ _ h1, h2, h3⟩
        refine len_tuple (s := { s1 with heap := h', toks := tk }) ht2 (by have := line63; rw [List.size_toArray]; omega) (nxt _ _ ⟨h', tk + 1 + 1, rfl, keep⟩ st ho ⟨tk + 1, ?_⟩ fun j k' z => z)
        rw [el, List.size_toArray]
      cmp := fun i j ki kj s Q' E' _ ⟨t1, e1⟩ ⟨t2, e2⟩ q' => by
        subst e1 e2
        refine P.lt_int ?_
        rw [show decide (((lens.getD i 0 : Nat) : Int) < ((lens.getD j 0 : Nat) : Int)) = decide (lens.getD i 0 < lens.getD j 0) from decide_eq_decide.mpr (by omega)]
        exact q' }
  · subst es
    have hb : argBest (fun i j => (fun (m n : Nat) => decide (m < n)) (lens.getD i 0) (lens.getD j 0)) (its.toArray.size - 1) < its.length := by
      have le : lens.length = its.length := List.length_map _
      cases hle : lens with
      | nil => rw [hle] at le; rw [List.size_toArray] at hn; simp at le; omega
      | cons x ls =>
        have ab := (argBest_fold (fun (m n : Nat) => decide (m < n)) 0 x ls (its.toArray.size - 1) (by rw [hle] at le; rw [List.size_toArray]; simp at le; omega)).1
        rw [List.size_toArray] at ab hn ⊢
        exact Nat.lt_of_le_of_lt ab (by omega)
    have hv2 : its[argBest (fun i j => (fun (m n : Nat) => decide (m < n)) (lens.getD i 0) (lens.getD j 0)) (its.toArray.size - 1)]? = some v := by simpa using hv
    obtain ⟨b, ys, us, rfl, hx, _⟩ := at_ _ v hv2
    exact ⟨.ref b, H1, I1.kept (t' := tk) keep, rfl, q _ (List.mem_of_getElem? hx)⟩
end
end HR
set_option maxRecDepth 100000
set_option maxHeartbeats 4000000
/-! xs[::-1]; list(d), d by tuples -/
namespace HR
open PySem PySem.Spec PyProof.Rows L2
theorem pick_back (l : List Value) : slicePick l.toArray none none (some (-1)) = l.reverse.toArray := by
  unfold slicePick
  rw [List.size_toArray]
  show ((sliceRange ((l.length : Int) - 1) (-1) (-1)).filterMap (l.toArray[·]?)).toArray = _
  congr 1
  unfold sliceRange
  by_cases h0 : l.length = 0
  · have : l = [] := List.eq_nil_of_length_eq_zero h0
    subst this
    rfl
  have c : (if (-1 : Int) > 0 then (if ((l.length : Int) - 1) < -1 then (-1 - ((l.length : Int) - 1) + -1 - 1) / -1 else 0) else (if ((l.length : Int) - 1) > -1 then ((l.length : Int) - 1 - -1 - -1 - 1) / (- -1) else 0)) = (l.length : Int) := by
    rw [if_neg (by decide), if_pos (by omega), show (- -1 : Int) = 1 from rfl, Int.ediv_one]
    omega
  dsimp only
  rw [c, Int.toNat_natCast]
  apply List.ext_getElem?
  intro i
  have fm : ∀ (n : Nat), n ≤ l.length → ((List.range n).map fun (k : Nat) => (((l.length : Int) - 1) + -1 * (k : Int)).toNat).filterMap (l.toArray[·]?) = l.reverse.take n := by
    intro n
    induction n with
    | zero => intro _; rfl
    | succ n ih =>
      intro hn
      rw [List.range_succ, List.map_append, List.filterMap_append, ih (by omega), List.take_add_one]
      congr 1
      have e : ((l.length : Int) - 1 + -1 * (n : Int)).toNat = l.length - 1 - n := by omega
      simp only [List.map_cons, List.map_nil, List.filterMap_cons, List.filterMap_nil, e]
      rw [List.getElem?_reverse (by omega)]
      have hi : l.length - 1 - n < l.length := by omega
      simp [List.getElem?_eq_getElem hi]
  rw [fm l.length (Nat.le_refl _), List.take_of_length_le (by simp)]
section
variable {X : Cx} {e st : Expr} {te ts : TE} {p2 pos : Pos}
/-- xs[::k] with k = -1 -/
def tBack (K : PySem.W.Frag) (te ts : TE) : TE := fun σ H Q => te σ H fun x H1 => ts σ H1 fun y H2 => y = .int (-1) ∧ ∃ a xs, x = .ref a ∧ SqL K H2 a xs ∧ ∀ p, H2 p = none → Q (.ref p) (upd H2 p (.lst xs.reverse))
theorem pe_back (he : PE X e te) (hs : PE X st ts) : PE X (.Subscript e (.Slice none none (some st) p2) pos) (tBack X.K te ts) := by
  refine ⟨fun pins s σ H Q I h => ?_⟩
  refine Subscript_ (thn (he.run pins s σ H _ I h) fun v s1 ⟨x, H1, I1, r1, q1⟩ => ?_)
  refine wpAny_Slice ?_
  rw [evalPart_none]
  refine wpAny_pure (wpAny_pure ?_)
  rw [evalPart_some]
  refine thn (hs.run pins s1 σ H1 _ I1 q1) fun u s2 ⟨y, H2, I2, r2, ey, a, xs, ex, hx, q⟩ => ?_
  subst ey ex
  obtain ⟨tk, rfl⟩ := r2
  obtain rfl : v = .ref a := r1
  have I3 : Inv X pins σ H2 { s2 with heap := s2.heap.push { cls := .type "slice", data := .fields #[.none, .none, .int (-1) tk] } } := I2.kept (t' := s2.toks) fun b ob q => Heap.get?_push_of_some _ q
  obtain ⟨its, r, ht, hz⟩ := I3.list hx
  show wpAny (model X.prog X.w) X.A (subscriptTail e (.Slice none none (some st) p2) (.ref a) (.ref s2.heap.objs.size)) (EP X pins σ Q) X.xe { s2 with heap := s2.heap.push { cls := .type "slice", data := .fields #[.none, .none, .int (-1) tk] } }
  refine tail_any (ops := [.ref a, .ref s2.heap.objs.size]) ht.isList.typeIs slot_list_getitem.lookup ?_ (by with_unfolding_all rfl)
  refine wpAny_getItem_list_slice ht.isList (Heap.IsSliceOf.new ..) .none .none (.int (-1) tk) (by simp) ?_ (by rw [List.size_toArray, ← r.length]; exact hz)
  rw [pick_back]
  refine ⟨.ref _, _, I3.laid (t' := s2.toks) (o := .lst xs.reverse) (fun b ob q => Heap.get?_push_of_some _ q) (Nat.le_refl _) ⟨by rw [List.length_reverse]; exact hz, its.reverse, 0, r.reverse, Heap.get?_push_size _ rfl⟩, rfl, q _ (I3.hok.fresh (Nat.le_refl _))⟩
/-- list(d), d by tuples: its keys -/
def rKeysT : List V → Hp → VK → Prop := fun xs H Q => ∃ (d : Addr) (kvs : List (List L2.Key × V)), xs = [.ref d] ∧ H d = some (.dT kvs) ∧ ∀ (ks : List Addr) q, ks.length = kvs.length → (∀ (i : Nat) (b : Addr) (kv : List L2.Key × V), ks[i]? = some b → kvs[i]? = some kv → H b = some (.tup (kv.1.map kV))) → H q = none → Q (.ref q) (upd H q (.lst (ks.map V.ref)))
theorem cr_keysT (hc : X.calm = true) : CallR X (.type "list") rKeysT := by
  intro pins s σ H xs us Q I rx h
  obtain ⟨d, kvs, rfl, hd, q⟩ := h
  rw [Vals.ref1 rx]
  obtain ⟨z, hs, ys, rel, dd⟩ := dt_of I.hok hd
  obtain ⟨es, ep, raw, he⟩ := TV.raw_of dd
  have hl : kvs.length = ys.length := Paired.length rel
  have hes : es.size = ys.length := by
    have := congrArg List.length he
    rwa [List.length_map, Array.length_toList] at this
  refine PySem.W.kdl_call (PySem.KdlSrc.rawDict (d := d) (es := es) (ep := ep) hs) (I.ok.hd hc) raw (by omega) fun h' tk acc c hk hS hacc => ?_
  have ent : ∀ (j : Nat) (w : Value), acc.toList[j]? = some w → ∃ y : List L2.Key × Addr × Value, ys[j]? = some y ∧ w = .ref y.2.1 := fun j w hw => by
    obtain ⟨hi, hv⟩ := hacc.2 j w (by rw [← Array.getElem?_toList]; exact hw)
    have hj : j < ys.length := by omega
    refine ⟨ys[j], List.getElem?_eq_getElem hj, ?_⟩
    have e1 : es.toList[j]? = some (entryOfKey (tupleKind (mixKind X.prog X.w)) ys[j]) := by rw [he, List.getElem?_map, List.getElem?_eq_getElem hj]; rfl
    have e2 : es.toList[j]? = some es[j] := by rw [Array.getElem?_toList, Array.getElem?_eq_getElem hi]
    rw [hv, Option.some.inj (e2.symm.trans e1)]
    rfl
  have la : acc.toList.length = ys.length := by rw [Array.length_toList, hacc.1, hes]
  refine ⟨.ref s.heap.objs.size, upd H s.heap.objs.size (.lst ((ys.map fun y => y.2.1).map V.ref)), I.laid (t' := tk) hk (Nat.le_refl _) (show ObjOk X.prog X.w _ _ _ (.lst _) from ⟨by rw [List.length_map, List.length_map, ← hl]; exact z, acc.toList, c, ?_, ?_⟩), rfl, q _ _ (by rw [List.length_map, hl]) (fun i b kv hb hkv => ?_) (I.hok.fresh (Nat.le_refl _))⟩
  · refine vals_of_at (by rw [List.length_map, List.length_map, la]) fun j x w h1 h2 => ?_
    obtain ⟨y, hy, rfl⟩ := ent j w h2
    rw [List.map_map, List.getElem?_map, hy] at h1
    cases h1
    rfl
  · rw [Array.toArray_toList]; exact hS
  · rw [List.getElem?_map] at hb
    obtain ⟨y, hy, rfl⟩ := Option.map_eq_some_iff.mp hb
    obtain ⟨y2, hy2, hr⟩ := TV.pair_get rel hkv
    rw [hy] at hy2
    cases hy2
    exact hr.2.1
end
end HR
set_option maxRecDepth 100000
set_option maxHeartbeats 4000000
/-! enumerate(a list or tuple) -/
namespace HR
open PySem PySem.Spec PyProof.Rows L2 PySem.W
/-- the tuple at a, its items in new pairs -/
def ItT (K : PySem.W.Frag) (a : Addr) : It :=
  ⟨fun i H => ∃ (xs : List V) (x : V), SqT K H a xs ∧ xs[i]? = some x, fun i H v H' => ∃ T x, v = .ref T ∧ H T = none ∧ H' = upd H T (.tup [.int (i : Nat), x]) ∧ ∀ xs, SqT K H a xs → xs[i]? = some x, fun i H => ∃ xs : List V, SqT K H a xs ∧ xs.length ≤ i⟩
theorem walk_enT {K : PySem.W.Frag} {a : Addr} {xs : List V} : L2.Walk (ItT K a) xs.length (fun H => SqT K H a xs) (YPair (fun i => some (.int (i : Nat))) (fun i => xs[i]?)) :=
  ⟨fun i _ hi q => ⟨xs, xs[i], q, by simp [hi]⟩, fun _ q => ⟨xs, q, Nat.le_refl _⟩, fun i H v H' _ q ⟨T, x, h1, h2, h3, h4⟩ => ⟨T, .int (i : Nat), x, h1, h2, h3, rfl, h4 xs q⟩⟩
theorem turn_enT {P : Program} {w : World} {K : PySem.W.Frag} {elts : List Expr} {kk : Nat} {tpos : Pos} (a e it : Addr) :
    Turn P w K (.Tuple elts kk tpos) (ItT K a) [e, it] e (fun i h => (∃ old, IsEnum h e it ((i : Nat) : Int) old) ∧ h.IsTupleIter it a i ∧ e ≠ it) where
  mem := List.mem_cons_self
  obj := fun i h st b hb => by
    obtain ⟨⟨old, he⟩, ⟨o, ho, _, hd⟩, _⟩ := st
    rcases List.mem_cons.mp hb with z | hb
    · rw [z]
      exact ⟨_, he, fun v q => nomatch q⟩
    · exact ⟨o, by rw [List.mem_singleton.mp hb]; exact ho, fun v q => by rw [hd] at q; cases q⟩
  keep := fun i h h' ⟨⟨old, he⟩, hi, ne⟩ k => ⟨⟨old, k e List.mem_cons_self _ he⟩, hi.at fun o q => k it (List.mem_cons_of_mem _ List.mem_cons_self) o q, ne⟩
  item := by
    intro X hP hw hK calm i pp s σ H E I feet ⟨⟨old, he⟩, hit, ne⟩ ⟨xs, x, hx, hi⟩
    subst hP hw hK
    obtain ⟨its, rv, pt, few⟩ := I.tuple hx
    obtain ⟨u, hu, ru⟩ := rv.get hi
    have he' : e < s.heap.objs.size := Heap.lt_size he
    have hit' : it < s.heap.objs.size := by obtain ⟨o, q, _⟩ := hit; exact Heap.lt_size q
    obtain ⟨f1, f2⟩ := feet it (List.mem_cons_of_mem _ List.mem_cons_self)
    obtain ⟨ob, hob, _⟩ := id hit
    have hai : a ≠ it := fun z => by
      obtain ⟨o2, h2, c2, _⟩ := pt
      obtain ⟨o3, h3, c3, _⟩ := id hit
      rw [z] at h2
      rw [h2] at h3
      cases h3
      rw [c2] at c3
      exact absurd (Value.type.inj c3) (by decide)
    have hae : e ∉ [it, a] := by
      intro z
      rcases List.mem_cons.mp z with z | z
      · exact ne z
      · rw [List.mem_singleton.mp z] at he
        obtain ⟨o2, h2, c2, _⟩ := pt
        rw [show s.heap.get? a = some _ from he] at h2
        cases h2
        exact absurd (Value.type.inj c2) (by decide)
    refine wpAny_pyNext_enum_itemD (Draws.tuple (prog := X.prog) (w := X.w) (A := X.A.in1) (I.ok.hd calm) it a hai its.toArray) he ⟨hit, pt⟩ (i := i) (by rw [List.size_toArray]; exact (List.getElem?_eq_some_iff.mp hu).1) ne hae fun y h' tk hy ho st' hT hsz hk => ?_
    have ey : y = u := by
      have : its[i]? = some y := by simpa using hy
      rw [hu] at this
      exact (Option.some.inj this).symm
    subst ey
    refine ⟨_, rfl, wpAny_letOwnedTupleGo_enum (s := { s with heap := h', toks := tk + 1 }) ho fun h'' he2 sb => ?_⟩
    have hT2 : h''.get? s.heap.objs.size = some { cls := .type "tuple", data := .seq #[.int i tk, y] } := (sb.2 _ (Nat.ne_of_gt he')).trans hT
    have new : ObjOk X.prog X.w (upd H s.heap.objs.size (.tup [.int (i : Nat), x])) h'' s.heap.objs.size (.tup [.int (i : Nat), x]) := ⟨by show 2 ≤ sizeLine; decide, [.int i tk, y], .cons ⟨_, rfl⟩ (.cons ru .nil), ⟨_, hT2, rfl, _, rfl⟩⟩
    have I2 : Inv X pp σ (upd H s.heap.objs.size (.tup [.int (i : Nat), x])) { s with heap := h'', toks := tk + 1 } :=
      I.turnedNew (ch := [e, it]) (fun b o hb q => (sb.2 b (fun z => hb (by rw [z]; exact List.mem_cons_self))).trans (hk b o (fun z => hb (by rw [z]; exact List.mem_cons_self)) (fun z => hb (by rw [z]; exact List.mem_cons_of_mem _ List.mem_cons_self)) q)) feet (Nat.le_refl _) new
    refine ⟨.ref s.heap.objs.size, _, I2, rfl, ⟨_, x, rfl, I.hok.fresh (Nat.le_refl _), rfl, fun ys hy2 => by rw [I.tuple_inj hy2 hx]; exact hi⟩, ⟨⟨y, ?_⟩, st'.1.at fun o q => (sb.2 it (Ne.symm ne)).trans q, ne⟩, fun b hb => ?_⟩
    · have e1 : ((i + 1 : Nat) : Int) = (i : Int) + 1 := by omega
      rw [e1]; exact he2
    · have lt : b < s.heap.objs.size := by
        rcases List.mem_cons.mp hb with z | z
        · rw [z]; exact he'
        · rw [List.mem_singleton.mp z]; exact hit'
      rw [upd_ne (Nat.ne_of_lt lt)]
      exact (feet b hb).1
  done := by
    intro X hP hw hK calm i pp s σ H E I feet ⟨⟨old, he⟩, hit, ne⟩ ⟨xs, hx, over⟩
    subst hP hw hK
    obtain ⟨its, rv, pt, few⟩ := I.tuple hx
    obtain ⟨f0, f1, f2, f3, f4, f5⟩ := feet it (List.mem_cons_of_mem _ List.mem_cons_self)
    have hai : a ≠ it := fun z => by
      obtain ⟨o2, h2, c2, _⟩ := pt
      obtain ⟨o3, h3, c3, _⟩ := id hit
      rw [z] at h2
      rw [h2] at h3
      cases h3
      rw [c2] at c3
      exact absurd (Value.type.inj c3) (by decide)
    have hl := rv.length
    have none_ : its.toArray[i]? = none := by simp; omega
    have hT : s.TypeIs (.ref e) "enumerate" := ⟨_, he, rfl⟩
    unfold pyNext
    refine wpAny_bind (wpAny_attempt (wpAny_callSpecial?_slot (name := Str.ofString "__next__") hT F.slot_enumerate_next (wpAny_call_entry F.slot_enumerate_next hT F.entry_enumerate_next ?_ (F.args_enumerate_next_1 _))))
    show wpAny _ _ (field (.ref e) 2 >>= _) _ _ _
    refine wpAny_bind (wpAny_field he rfl (x := .ref it) rfl ?_)
    refine wpAny_bind (wpAny_nextOf_tuple_end (I.ok.hd calm) hit pt none_ fun h' x eb hx' => ?_)
    obtain ⟨o, ho, hc⟩ := hx'
    refine wpAny_bind (wpAny_isInstance (T := "StopIteration") (b := true) ⟨o, ho, hc⟩ isSubtype_stop ?_)
    exact wpAny_pure ⟨rfl, I.turned (t' := s.toks) (fun b o hb q => eb b o hb q) f0 f1 f3 f4 f5⟩
  self := fun A i s Q E ⟨⟨_, he⟩, _⟩ h => wpAny_pyIter_enum he h
set_option maxHeartbeats 4000000 in
theorem meets_enum_new {v : Value} {o : Obj} {Hh : Heap → Prop} (B : Begins v o Hh) :
    Meets (Builtin.«enumerate.__new__» ⟨[.type "enumerate", v], []⟩) (fun _ R s => Hh s.heap ∧
      R (.ok (.ret (.ref (s.heap.push o).objs.size))) { s with heap := (s.heap.push o).push { cls := .type "enumerate", data := .fields #[.none, .bool false, .ref s.heap.objs.size, rawInt 0, .none, .none] } }) :=
  .of_wp fun prog w A R s both => by
    obtain ⟨hp, g, d, tk, os⟩ := s
    obtain ⟨h1, h⟩ := both
    have sub := sub_enumerate
    have it_ : ∀ {A' : Around} {E : Value → Shared → Prop} {Q : Value → Shared → Prop}, Q (.ref hp.objs.size) ⟨hp.push o, g, d, tk, os⟩ → wpAny (model prog w) A' (pyIter v) Q E ⟨hp, g, d, tk, os⟩ := fun q => B.iter prog w _ _ ⟨hp, g, d, tk, os⟩ _ h1 q
    wp_walk using it_
    refine wpAny_stack_any fun st => wpAny_pure ?_
    split
    · rename_i c _ _ _ _ _
      cases (c == Value.type "enumerate") <;> (wp_walk using it_; exact ⟨_, rfl, h⟩)
    · wp_walk using it_
      exact ⟨_, rfl, h⟩
section
variable {X : Cx} {e : Expr} {ta : TA} {p pos tpos : Pos} {elts : List Expr} {kk : Nat}
/-- enumerate(a list or tuple) -/
def iEnS (K : PySem.W.Frag) (ta : TA) : TI := fun σ H R => ta σ H fun vs H1 => ∃ a xs, vs = [.ref a] ∧ ((SqL K H1 a xs ∧ R (Ite K a) H1) ∨ (SqT K H1 a xs ∧ R (ItT K a) H1))
theorem pi_enS (hg : Gl X "enumerate") (hm : X.mg "enumerate" = none) (ha : PA X [e] ta) (hs : starEach [e] X.env = [(false, eval e X.env)] := by rfl) : PI X (.Tuple elts kk tpos) (.Call (.Name "enumerate" p) [e] [] pos) (iEnS X.K ta) := by
  refine ⟨fun pins s σ H R I h => ?_⟩
  refine Call_ (ld_blt I hg hm boot_enumerate (PyProof.Rows.callWith_type1 (thn (ha.run pos pins s σ H _ I h) fun us s1 ⟨vs, H1, I1, r1, a, xs, ex, q⟩ => ?_) hs rfl))
  subst ex
  obtain ⟨u, rfl, ru⟩ := vals1 r1
  have eu : u = Value.ref a := ru
  subst eu
  have low : ∀ b ∈ [s1.heap.objs.size + 1, s1.heap.objs.size], s1.heap.objs.size ≤ b := fun b hb => by
    rcases List.mem_cons.mp hb with z | z
    · rw [z]; exact Nat.le_succ _
    · rw [List.mem_singleton.mp z]; exact Nat.le_refl _
  rcases q with ⟨hq, q⟩ | ⟨hq, q⟩
  · obtain ⟨its, rv, p', hz⟩ := I1.list hq
    refine call_enumerate_list p'.isList fun h' he hit hsz hk => wpAny_pyIter_enum he ?_
    have I2 : Inv X pins σ H1 { s1 with heap := h' } := I1.kept (t' := s1.toks) hk
    exact ⟨s1.heap.objs.size + 1, [s1.heap.objs.size + 1, s1.heap.objs.size], _, _, H1, rfl, I2, turn_enum a (s1.heap.objs.size + 1) s1.heap.objs.size, ⟨⟨.none, he⟩, hit, Nat.succ_ne_self _⟩, fun b hb => I1.fpOk (low b hb) (I1.hok.fresh (low b hb)), q⟩
  · obtain ⟨its, rv, p', hz⟩ := I1.tuple hq
    refine callType_new F.called_enumerate (by decide) (F.typeCall_enumerate_1 _) (F.newCall_enumerate_1 _) (fun obj => F.args_object_init_2 obj _) F.entry_enumerate_new (meets_enum_new (begins_tuple a its.toArray)) ⟨p', ?_⟩
    have hz : (s1.heap.push { cls := .type "tuple_iterator", data := .fields #[.ref a, .int 0 0] }).objs.size = s1.heap.objs.size + 1 := Heap.size_push ..
    show _ ∧ _
    rw [hz]
    have he : IsEnum ((s1.heap.push { cls := .type "tuple_iterator", data := .fields #[.ref a, .int 0 0] }).push { cls := .type "enumerate", data := .fields #[.none, .bool false, .ref s1.heap.objs.size, rawInt 0, .none, .none] }) (s1.heap.objs.size + 1) s1.heap.objs.size 0 .none := by
      have z := Heap.get?_push_size (s1.heap.push { cls := .type "tuple_iterator", data := .fields #[.ref a, .int 0 0] }) (o := { cls := .type "enumerate", data := .fields #[.none, .bool false, .ref s1.heap.objs.size, rawInt 0, .none, .none] }) rfl
      rw [hz] at z
      exact z
    refine ⟨⟨_, he, rfl⟩, wpAny_pyIter_enum he ?_⟩
    have hk : ∀ b o, s1.heap.get? b = some o → ((s1.heap.push { cls := .type "tuple_iterator", data := .fields #[.ref a, .int 0 0] }).push { cls := .type "enumerate", data := .fields #[.none, .bool false, .ref s1.heap.objs.size, rawInt 0, .none, .none] }).get? b = some o := fun b o x => Heap.get?_push_of_some _ (Heap.get?_push_of_some _ x)
    exact ⟨s1.heap.objs.size + 1, [s1.heap.objs.size + 1, s1.heap.objs.size], _, _, H1, rfl, I1.kept (t' := s1.toks) hk, turn_enT a (s1.heap.objs.size + 1) s1.heap.objs.size, ⟨⟨.none, he⟩, ⟨_, Heap.get?_push_of_some _ (Heap.get?_push_size _ rfl), rfl, rfl⟩, Nat.succ_ne_self _⟩, fun b hb => I1.fpOk (low b hb) (I1.hok.fresh (low b hb)), q⟩
end
end HR
set_option maxRecDepth 100000
set_option maxHeartbeats 4000000
/-! sorted(a tuple of ints); what is walked, one of two ways -/
namespace HR
open PySem PySem.Spec PyProof.Rows L2 SrtO
section
variable {prog : Program} {w : World} {A : Around} {E : Value → Shared → Prop} {s : Shared}
theorem collect_tup {t : Addr} {vs : List Value} {Q : List Value → Shared → Prop} (ht : IsTup s.heap t vs.toArray) (few : vs.length ≤ sizeLine) (nxt : Q vs { s with heap := (s.heap.push (seqObj "list" #[] 0)).update s.heap.objs.size (Obj.mapSeq (· ++ vs.toArray)) }) :
    wpAny (model prog w) A (collect (.ref t)) Q E s := by
  obtain ⟨o, at_, cls, n, dat⟩ := id ht
  have new : (s.heap.push (seqObj "list" #[] 0)).get? s.heap.objs.size = some (seqObj "list" #[] 0) := Heap.get?_push_size _ rfl
  have at1 : (s.heap.push (seqObj "list" #[] 0)).get? t = some o := Heap.get?_push_of_some _ at_
  have ne : s.heap.objs.size ≠ t := Nat.ne_of_gt (Heap.lt_size at_)
  unfold collect
  refine wpAny_bind (wpAny_runValue (codeAny_builtin F.entry_proto_collect ?_))
  show wpAny _ _ (do again (.builtin "list.__iadd__" ⟨[← newList [], .ref t], []⟩)) _ _ s
  refine wpAny_bind (wpAny_newList (wpAny_pure ⟨Code.quiet_builtin _ (by decide +kernel), codeAny_builtin F.entry_list_iadd ?_⟩))
  show wpAny _ _ (Builtin.List.listExtendWith (.ref s.heap.objs.size) (.ref t) (.ref s.heap.objs.size)) _ _ { s with heap := s.heap.push (seqObj "list" #[] 0) }
  unfold Builtin.List.listExtendWith
  refine wpAny_bind (wpAny_typeOf (T := "tuple") ⟨o, at1, cls⟩ ?_)
  have same : Builtin.List.listSameRef (.ref s.heap.objs.size) (.ref t) = false := by simp [Builtin.List.listSameRef, ne]
  rw [if_pos (by rw [show (Value.type "tuple" == Value.type "tuple") = true from rfl]; simp)]
  refine wpAny_bind (listItems_at at1 dat ?_)
  refine wpAny_bind (listItems_at (xs := #[]) (n := 0) new rfl ?_)
  rw [if_neg (by simp)]
  refine wpAny_bind (listUpdate_at (xs := #[]) (n := 0) new rfl ?_ (Nat.zero_le _) (by show (#[] ++ vs.toArray).size ≤ sizeLine + 1; simp only [Array.size_append, List.size_toArray, List.length_nil]; omega))
  refine wpAny_pure ?_
  show wpAny (model prog w) A (load s.heap.objs.size >>= _) Q E _
  refine wpAny_bind (wpAny_load (get?_update_seq new _) ?_)
  show wpAny _ _ (pure ((#[] : Array Value) ++ vs.toArray).toList) Q E _
  rw [show ((#[] : Array Value) ++ vs.toArray).toList = vs by simp]
  exact wpAny_pure nxt
end
section
variable {X : Cx}
theorem pi_or {tg e : Expr} {t1 t2 : TI} (h1 : PI X tg e t1) (h2 : PI X tg e t2) : PI X tg e (fun σ H R => t1 σ H R ∨ t2 σ H R) :=
  ⟨fun pins s σ H R I h => h.elim (h1.run pins s σ H R I) (h2.run pins s σ H R I)⟩
def rSortedTI (K : PySem.W.Frag) : List V → Hp → VK → Prop := fun vs H Q => ∃ (a : Addr) (ns : List Int), vs = [V.ref a] ∧ SqT K H a (ns.map V.int) ∧ ∀ (ms : List Int) (p : Addr), ms.Perm ns → ms.Pairwise (· ≤ ·) → H p = none → Q (.ref p) (upd H p (.lst (ms.map V.int)))
theorem cr_sortedTI : CallR X (.builtin "sorted") (rSortedTI X.K) := by
  intro pins s σ H vs us Q I r h
  obtain ⟨a, ns, rfl, hs, q⟩ := h
  obtain ⟨its, rv, ht, few⟩ := I.tuple hs
  rw [Vals.ref1 r]
  have hi : IntsAre its ns := intsAre_of rv
  have hz : its.length ≤ sizeLine := by rw [← rv.length]; exact few
  refine Calls.call_function_entry kind_sorted plain_sorted entry_sorted (args_sorted1 _) ?_
  unfold Builtin.«sorted»
  refine wpAny_bind (m := checkCount "sorted" 1 1 _) (wpAny_pure ?_)
  refine wpAny_bind (collect_tup ht hz ?_)
  refine wpAny_bind (wpAny_newList ?_ hz)
  have size2 : ((s.heap.push (seqObj "list" #[] 0)).update s.heap.objs.size (Obj.mapSeq (· ++ its.toArray))).objs.size = s.heap.objs.size + 1 := by rw [Heap.size_update, size_push']
  show wpAny _ _ _ _ _ { s with heap := ((s.heap.push (seqObj "list" #[] 0)).update s.heap.objs.size (Obj.mapSeq (· ++ its.toArray))).push (seqObj "list" its.toArray 0) }
  rw [size2]
  have laid : (((s.heap.push (seqObj "list" #[] 0)).update s.heap.objs.size (Obj.mapSeq (· ++ its.toArray))).push (seqObj "list" its.toArray 0)).get? (s.heap.objs.size + 1) = some (seqObj "list" its.toArray 0) := by
    rw [← size2]
    exact Heap.get?_push_size _ rfl
  refine wpAny_bind (wpAny_holding (wpAny_call_entry slot_list_sort ⟨_, laid, rfl⟩ entry_list_sort (list_sort_ord swo_int laid hz (fun h2 => ints_sortable hi h2) fun out h1 h2 => ⟨_, rfl, ?_⟩) (args_list_sort _)))
  obtain ⟨k1, k2, k3⟩ := ints_out hi h1 h2
  obtain ⟨ep, he'⟩ := PyProof.Rows.sortedAll_at s.heap its out.toArray
  have few2 : ((out.map iv).map V.int).length ≤ sizeLine := by rw [List.length_map, k2.length_eq]; rw [List.length_map] at few; exact few
  exact wpAny_pure ⟨_, rfl, .ref _, upd H (s.heap.objs.size + 1) (.lst ((out.map iv).map V.int)), I.laid (t' := s.toks) (fun _ _ => PyProof.Rows.sortedAll_old) (Nat.le_succ _) ⟨few2, out, ep, vals_of_ints k1, he'⟩, rfl, q _ _ k2 k3 (I.hok.fresh (Nat.le_succ _))⟩
end
end HR
set_option maxRecDepth 100000
set_option maxHeartbeats 4000000
/-! x = {k: v for ..} with keys that are tuples of ints and texts -/
namespace HR
open PySem PySem.Spec PyProof.Rows L2
section
variable {X : Cx} {kx vx tg iter : Expr} {ifs : List Expr} {scope : Scope} {own : List (Str × Nat)} {wi : TI} {g : TG} {tt : TT} {tk tv : TE}
theorem ps_setDcT {pos spos py : Pos} {i : Nat} {y : Str} (calm : X.calm = true) (roomy : X.A.units < cLine) (diff : X.N.Nodup) (hN : X.N[i]? = some y) (hv : X.env.scope.names.lookup y = some NameKind.local) (hs : swapsWith (.DictComp kx vx [⟨tg, iter, ifs, 0⟩] scope pos) (some (.Name y py)) spos.line X.env = pure true) (walk : PI X tg iter wi) (blk : BlkOk X.N X.env.scope scope own)
    (aim : ∀ (sh : Shared) (G : Hp) (C : Addr) (cl : List (Str × Addr)) (feet : List Addr), PG (X.blk sh G scope (compEnvC scope cl C X.env) feet) tg g)
    (tests : ∀ (sh : Shared) (G : Hp) (C : Addr) (cl : List (Str × Addr)) (feet : List Addr), PTs (X.blk sh G scope (compEnvC scope cl C X.env) feet) ifs tt)
    (keys : ∀ (sh : Shared) (G : Hp) (C : Addr) (cl : List (Str × Addr)) (feet : List Addr), PE (X.blk sh G scope (compEnvC scope cl C X.env) feet) kx tk)
    (vals : ∀ (sh : Shared) (G : Hp) (C : Addr) (cl : List (Str × Addr)) (feet : List Addr), PE (X.blk sh G scope (compEnvC scope cl C X.env) feet) vx tv)
    (plain : ∀ x, foldedSetIterable iter X.env x = pure x := by intro _; rfl) : PS X (.Assign [.Name y py] (.DictComp kx vx [⟨tg, iter, ifs, 0⟩] scope pos) spos) (tAsg (tDcT wi g tt tk tv (own.map (·.2))) (gName i)) := by
  refine ⟨fun pp sh0 st G0 D0 I0 ask => ?_⟩
  rw [exec_Assign_Name_used _ _ _ _ hs, arm_evalThenUse_DictComp]
  refine wpAny_bind (wpAny_standAt ?_)
  have frees : ∀ y ∈ scope.names, y.2 = .free → ∃ c, X.env.cells.lookup y.1 = some c := fun y hy e => (blk.free y hy e).elim (fun k => I0.ok.has _ (.inl k)) fun k => I0.ok.has _ (.inr k)
  refine wpAny_bind (wpAny_bind (wpAny_comprehension_free (use := some (assign (.Name y py) X.env)) rfl plain (closure_ok frees) blk.kind (fun y hy e => by rw [blk.uniq y hy, e]) (thn (walk.run pp sh0 st G0 _ I0 ask) fun xv sh1 came => thn came fun itv sh2 more => ?_)))
  obtain ⟨it, feet, ten, J, G2, rfl, I2, T, at0, free2, turn⟩ := more
  refine wpAny_newObj_type (newEnv_comp ?_)
  have new : G2 sh2.heap.objs.size = none := I2.hok.fresh (Nat.le_refl _)
  obtain ⟨W, ⟨m0, w0⟩, step⟩ := turn _ new
  -- the dict is laid
  obtain ⟨G3, eG3⟩ : ∃ G3, G3 = upd G2 sh2.heap.objs.size (.dT []) := ⟨_, rfl⟩
  rw [← eG3] at w0
  obtain ⟨sh3, e3⟩ : ∃ sh3 : Shared, sh3 = { sh2 with heap := sh2.heap.push { cls := .type "dict", data := .dict #[] } } := ⟨_, rfl⟩
  have I3 : Inv X pp st G3 sh3 := by
    rw [e3, eG3]
    exact I2.laid (t' := sh2.toks) (fun b o q => Heap.get?_push_of_some _ q) (Nat.le_refl _) (dt_empty sh2.heap I2.big)
  have heap3 : sh3.heap = sh2.heap.push { cls := .type "dict", data := .dict #[] } := by rw [e3]
  have low : ∀ b ∈ feet, b < sh2.heap.objs.size := fun b hb => Heap.lt_size (T.obj _ _ at0 b hb).choose_spec.1
  have free3 : ∀ b ∈ feet, FpOk X pp G3 b ∧ b < sh3.heap.objs.size := fun b hb => ⟨⟨by rw [eG3, upd_ne (Nat.ne_of_lt (low b hb))]; exact (free2 b hb).1, (free2 b hb).2⟩, by rw [heap3, Heap.size_push]; exact Nat.lt_succ_of_lt (low b hb)⟩
  have at3 : ten 0 sh3.heap := T.keep _ _ _ at0 fun b _ o q => by rw [heap3]; exact Heap.get?_push_of_some _ q
  have I4 := block_start I3 blk diff free3
  obtain ⟨C, eC⟩ : ∃ C, C = sh3.heap.objs.size := ⟨_, rfl⟩
  obtain ⟨cl, ecl⟩ : ∃ cl, cl = cellsFrom (sh3.heap.objs.size + 1) scope.names (cloFrom X.env.cells scope.names []) := ⟨_, rfl⟩
  obtain ⟨sh4, e4⟩ : ∃ sh4 : Shared, sh4 = { sh3 with heap := pushCells (sh3.heap.push { cls := .type "dict", data := .dict #[] }) scope.names } := ⟨_, rfl⟩
  rw [← ecl, ← eC, ← e4] at I4
  have at4 : ten 0 sh4.heap := T.keep _ _ _ at3 fun b _ o q => by rw [e4]; exact pushCells_keeps _ _ _ _ (Heap.get?_push_of_some _ q)
  have none3 : ∀ b ∈ feet, G3 b = none := fun b hb => (free3 b hb).1.1
  obtain ⟨Y, eY⟩ : ∃ Y, Y = X.blk sh3 G3 scope (compEnvC scope cl C X.env) feet := ⟨_, rfl⟩
  rw [← eY] at I4
  have held : ∀ {st' : L2.St} {G' : Hp} {sh' : Shared}, Inv Y [] st' G' sh' → (∀ b ∈ feet, G' b = none) → ∀ b ∈ feet, FpOk Y [] G' b := by
    subst eY
    exact fun {_ _ _} I' no b hb => ⟨no b hb, (I'.ok.exf b hb).1, I'.ok.exfs b hb, .inl hb, fun x c q => (I'.ok.exf b hb).2 x c q, fun p hp => absurd (show p ∈ ([] : List (Addr × Obj)) ++ [] from hp) (by simp)⟩
  have locC : (compEnvC scope cl C X.env).locals = C := rfl
  have loop : codeAny (model X.prog X.w) X.A (.compLoop (.DictComp kx vx [⟨tg, iter, ifs, 0⟩] scope pos) 0 (.ref it) (.ref sh2.heap.objs.size) (compEnvC scope cl C X.env)) (compPost (model X.prog X.w) X.A X.xe (some (assign (.Name y py) X.env)) (fun _ sh => wpAny (model X.prog X.w) X.A (pure ()) (fun _ sh => wpAny (model X.prog X.w) X.A (pure Flow.next) (SP X pp D0) X.xe sh) X.xe sh) (.ref sh2.heap.objs.size) C) sh4 := by
    subst eY
    refine compLoop_anyD (fun left sh => ∃ i G, Inv (X.blk sh3 G3 scope (compEnvC scope cl C X.env) feet) [] (wipe st (own.map (·.2))) G sh ∧ ten i sh.heap ∧ (∀ b ∈ feet, G b = none) ∧ W i left G) ?_ m0 ⟨0, G3, I4, at4, none3, w0⟩
    rintro left sh5 ⟨i, G5, I5, at5, no5, w5⟩
    rcases step i left G5 w5 with ⟨over, good⟩ | ⟨on, Nx, fewer, go⟩
    · -- the walk is over
      refine thnF (T.done (X.blk sh3 G3 scope (compEnvC scope cl C X.env) feet) rfl rfl rfl calm i [] sh5 _ G5 (fun _ _ => False) I5 (held I5 no5) at5 over) fun r sh6 ⟨er, I6⟩ => ?_
      subst er
      have I7 : Inv X pp st G5 sh6 := I3.call' (ch := feet) I6.os I6.base I6.hok I6.bare fun b hb => let f := (free3 b hb).1.2; ⟨f.2.2.1, f.1, f.2.2.2.1, f.2.2.2.2⟩
      have noC : G5 C = none := I6.free
      obtain ⟨m, names, _⟩ := I6.loc
      obtain ⟨oC, esC, epC, hoC, hdC, restC⟩ := id names
      have pinC := I7.pinned (fp := [C]) (fun b hb => by rw [List.mem_singleton.mp hb]; exact I3.fpOk (Nat.le_of_eq eC.symm) noC) (fun b hb => by rw [List.mem_singleton.mp hb]; exact ⟨oC, hoC, fun v q => by rw [hdC] at q; cases q⟩)
      refine thn ((pg_name diff hN (.inl hv) (Or.inr hv)).run _ sh6 st G5 (.ref sh2.heap.objs.size) (.ref sh2.heap.objs.size) _ pinC rfl good) fun _ sh7 ⟨st7, G7, I8, q8⟩ => ?_
      have hp := I8.pin (C, oC) (List.mem_append_right _ (List.mem_append_right _ (mem_pinsAt (List.mem_singleton.mpr rfl) hoC)))
      obtain ⟨f0, f1, f2, f3, f4, f5⟩ := I3.fpOk (Nat.le_of_eq eC.symm) hp.2.1
      exact ⟨m, ⟨oC, esC, epC, hp.1, hdC, restC⟩, fun h'' sb => wpAny_pure (wpAny_pure ⟨st7, G7, I8.unpinned.turned (t' := sh7.toks) (fun b o hb q => (sb.2 b hb).trans q) f0 f1 f3 f4 f5, q8⟩)⟩
    · -- one turn
      refine thnF (T.item (X.blk sh3 G3 scope (compEnvC scope cl C X.env) feet) rfl rfl rfl calm i [] sh5 _ G5 (fun _ _ => False) I5 (held I5 no5) at5 on) fun r sh6 ⟨u, er, rest⟩ => ?_
      subst er
      refine thnF rest fun _ sh7 ⟨x, G7, I7, rx, y7, at7, no7⟩ => ?_
      have P7 := I7.pinned (held I7 no7) (T.obj _ _ at7)
      refine thnF ((aim sh3 G3 C cl feet).run _ sh7 _ G7 x u _ P7 rx (go x G7 y7)) fun _ sh8 ⟨st8, G8, I8, same8, q8⟩ => ?_
      refine thnF ((tests sh3 G3 C cl feet).run _ sh8 st8 G8 _ I8 q8) fun yes sh9 ⟨G9, I9, q9⟩ => ?_
      have back : ∀ {sh' : Shared} {G' : Hp}, Inv (X.blk sh3 G3 scope (compEnvC scope cl C X.env) feet) ([] ++ pinsAt feet sh7.heap) st8 G' sh' → Nx G' →
          ∃ m, m < left ∧ ∃ i G, Inv (X.blk sh3 G3 scope (compEnvC scope cl C X.env) feet) [] (wipe st (own.map (·.2))) G sh' ∧ ten i sh'.heap ∧ (∀ b ∈ feet, G b = none) ∧ W i m G := by
        intro sh' G' I' nx
        obtain ⟨m', less, w'⟩ := fewer G' nx
        have pin : ∀ b ∈ feet, ∀ o, sh7.heap.get? b = some o → sh'.heap.get? b = some o ∧ G' b = none := fun b hb o q => by
          have z := I'.pin (b, o) (List.mem_append_right _ (List.mem_append_right _ (mem_pinsAt hb q)))
          exact ⟨z.1, z.2.1⟩
        have len : (wipe st (own.map (·.2))).length = st8.length := by rw [← same8, wipe_length]
        refine ⟨m', less, i + 1, G', (I'.unpinned (pins := [])).weak len (fun j v q => ?_), T.keep _ _ _ at7 fun b hb o q => (pin b hb o q).1, fun b hb => ?_, w'⟩
        · rw [← same8] at q
          exact (wipe_some q).1
        · obtain ⟨o, q, _⟩ := T.obj _ _ at7 b hb
          exact (pin b hb o q).2
      cases yes with
      | false => exact back I9 q9
      | true =>
        refine thnF ((keys sh3 G3 C cl feet).run _ sh9 st8 G9 _ I9 q9) fun ku sh10 ⟨yk, G10, I10, rk, q10⟩ => ?_
        refine thnF ((vals sh3 G3 C cl feet).run _ sh10 st8 G10 _ I10 q10) fun vu sh11 ⟨yv, G11, I11, rv, kvs, k, b, ek, hb, hD, few, nx⟩ => ?_
        subst ek
        obtain rfl : ku = .ref b := rk
        exact put_tup (X := X.blk sh3 G3 scope (compEnvC scope cl C X.env) feet) roomy I11 hD few hb rv fun sh12 I12 => back I12 nx
  show codeAny _ _ (.compStart (.DictComp kx vx [⟨tg, iter, ifs, 0⟩] scope pos) 0 (.ref it) (.ref sh2.heap.objs.size) (compEnvC scope (cellsFrom (sh2.heap.push { cls := .type "dict", data := .dict #[] }).objs.size.succ scope.names (cloFrom X.env.cells scope.names [])) (sh2.heap.push { cls := .type "dict", data := .dict #[] }).objs.size X.env)) _ _
  rw [heap3] at eC ecl
  subst e3
  subst e4 ecl eC
  exact codeAny_compStart_dict loop (T.self X.A 0 _ _ _ at4 loop)
end
theorem sw_trueD {kx vx : Expr} {gs : List Comprehension} {scope : Scope} {pos py : Pos} {y : Str} {l : Nat} {env : Env} (h1 : env.scope.kind = ScopeKind.function) (h2 : List.lookup y env.scope.names = some NameKind.local) (h3 : (py.line == pos.line) = true)
   (h4 : (scope.names.any fun x => match x with | (n, k) => n == y && (k == NameKind.local || k == NameKind.cell)) = false) : swapsWith (.DictComp kx vx gs scope pos) (some (.Name y py)) l env = pure true := sw_true (elt := kx) (gs := gs) (l := l) h1 h2 h3 h4
end HR
set_option maxRecDepth 100000
set_option maxHeartbeats 4000000
/-! a + b of tuples, a empty or not, b not empty; calls by one of two rules -/
namespace HR
open PySem PySem.Spec PyProof.Rows L2
def rCatTx (K : PySem.W.Frag) : R2 := fun x y H Q => ∃ (a b : Addr) (xs ys : List V), x = .ref a ∧ y = .ref b ∧ SqT K H a xs ∧ SqT K H b ys ∧ ys ≠ [] ∧ xs.length + ys.length ≤ sizeLine ∧ (xs = [] → Q (.ref b) H) ∧ (xs ≠ [] → ∀ p : Addr, H p = none → Q (.ref p) (upd H p (.tup (xs ++ ys))))
theorem op_catTx {X : Cx} {K : PySem.W.Frag} (hK : X.K = K := by rfl) : OpR X (binaryOp .Add) (rCatTx K) := by
  subst hK
  intro pins s σ H x y v u Q I rx ry h
  obtain ⟨a, b, xs, ys, rfl, rfl, ha, hb, ny, few, q0, q1⟩ := h
  cases xs with
  | cons x0 xr => exact op_catT pins s σ H _ _ v u Q I rx ry ⟨a, b, _, ys, rfl, rfl, ha, hb, List.cons_ne_nil _ _, few, fun e => absurd e ny, fun _ => q1 (List.cons_ne_nil _ _)⟩
  | nil =>
    cases rx
    cases ry
    obtain ⟨i1, v1, t1, _⟩ := I.tuple ha
    obtain ⟨i2, v2, t2, _⟩ := I.tuple hb
    have e1 : i1 = [] := List.eq_nil_of_length_eq_zero (by rw [← v1.length]; rfl)
    subst e1
    refine wpAny_binaryOp_concat t1.typeIs t2.typeIs noFill_tuple_add seq_tuple_add ?_
    obtain ⟨⟨c1, dd1, da1, sl1⟩, g1, k1, n1, d1⟩ := id t1
    obtain ⟨⟨c2, dd2, da2, sl2⟩, g2, k2, n2, d2⟩ := id t2
    dsimp only at k1 k2 d1 d2
    subst k1 k2 d1 d2
    exact call_meetsIn F.slot_tuple_add t1.typeIs F.entry_tuple_add (F.args_tuple_add_2 _ _) ((tuple_addW0 a b #[] _ n1 n2 dd1 dd2 sl1 sl2 rfl).inModel _ _) ⟨g1, g2, ⟨.ref b, H, I, rfl, q0 rfl⟩⟩
theorem cr_or {X : Cx} {f : Value} {r1 r2 : List V → Hp → VK → Prop} (h1 : CallR X f r1) (h2 : CallR X f r2) : CallR X f (fun vs H Q => r1 vs H Q ∨ r2 vs H Q) := by
  intro pins s σ H vs us Q I r h
  rcases h with h | h
  · exact h1 pins s σ H vs us Q I r h
  · exact h2 pins s σ H vs us Q I r h
end HR
set_option maxRecDepth 100000
set_option maxHeartbeats 4000000
/-! tuple(a list), the object told too; dict(such a tuple of pairs) -/
namespace HR
open PySem PySem.Spec PyProof.Rows L2
section
variable {X : Cx}
/-- tuple(a list): a tuple that has no attributes of its own -/
def rTupF (K : PySem.W.Frag) : List V → Hp → VK → Prop := fun xs H Q => ∃ (p : Addr) (ys : List V), xs = [.ref p] ∧ SqL K H p ys ∧ ∀ (l : Addr) (o : Obj), o.cls = .type "tuple" → o.dict = none → H l = none → Q (.ref l) (upd H l (.frz o (.tup ys)))
theorem cr_tupF {K : PySem.W.Frag} (hK : X.K = K := by rfl) : CallR X (.type "tuple") (rTupF K) := by
  subst hK
  intro pins s σ H xs us Q I rx h
  obtain ⟨p, ys, rfl, hs, q⟩ := h
  rw [Vals.ref1 rx]
  obtain ⟨its, rv, hl, few⟩ := I.list hs
  have len := rv.length
  refine call_tuple_list hl.isList (fun h' keep => ?_) (by rw [List.size_toArray, ← len]; exact few)
  have I1 : Inv X pins σ H { s with heap := h', toks := s.toks } := I.kept keep
  refine ⟨.ref h'.objs.size, upd H h'.objs.size (.frz { cls := .type "tuple", data := .seq its.toArray } (.tup ys)), I1.laid (t' := s.toks) (fun b o q => Heap.get?_push_of_some _ q) (Nat.le_refl _) ⟨Heap.get?_push_size _ rfl, few, its, rv, ⟨_, Heap.get?_push_size _ rfl, rfl, _, rfl⟩⟩, rfl, q _ _ rfl rfl (I1.hok.fresh (Nat.le_refl _))⟩
/-- dict(a tuple of pairs) -/
def rDictF (K : PySem.W.Frag) : List V → Hp → VK → Prop := fun xs H Q => ∃ (a : Addr) (o : Obj) (ps : List Addr) (kvs : List (L2.Key × V)), xs = [.ref a] ∧ H a = some (.frz o (.tup (ps.map V.ref))) ∧ o.dict = none ∧ Paired (fun p kv => SqT K H p [kV kv.1, kv.2]) ps kvs ∧
  ∀ p, H p = none → Q (.ref p) (upd H p (.dK (mergeK [] kvs)))
theorem key_rel {k : L2.Key} {u : Value} (h : RelV (kV k) u) : keyIs k u = true := by
  cases k with
  | inl i =>
    obtain ⟨t, rfl⟩ := h
    exact decide_eq_true rfl
  | inr x =>
    obtain ⟨t, rfl⟩ := h
    exact decide_eq_true rfl
theorem pairs_told {pins : List (Addr × Obj)} {σ : L2.St} {H : Hp} {s : Shared} (I : Inv X pins σ H s) : ∀ {ps : List Addr} {kvs : List (L2.Key × V)}, Paired (fun p kv => SqT X.K H p [kV kv.1, kv.2]) ps kvs →
    ∃ (us : List Value) (vs : List (L2.Key × Value)), KV kvs vs ∧ us.length = ps.length ∧ vs.length = ps.length ∧ ∀ (j : Nat) (p : Addr) (u : Value) (kv : L2.Key × Value), ps[j]? = some p → us[j]? = some u → vs[j]? = some kv → keyIs kv.1 u = true ∧ IsTup s.heap p #[u, kv.2]
  | _, _, .nil => ⟨[], [], .nil, rfl, rfl, fun j p u kv h => by simp at h⟩
  | _, _, .cons (a := p) (b := kv) (l₁ := ps) (l₂ := kvs) h r => by
    obtain ⟨us, vs, k, l1, l2, w⟩ := pairs_told I r
    obtain ⟨its, rv, t, _⟩ := I.tuple h
    obtain ⟨u, v, rfl, ru, rw'⟩ := vals2 rv
    refine ⟨u :: us, (kv.1, v) :: vs, .cons ⟨rfl, rw'⟩ k, by simp [l1], by simp [l2], fun j q x y h1 h2 h3 => ?_⟩
    cases j with
    | zero =>
      cases h1
      cases h2
      cases h3
      exact ⟨key_rel ru, t⟩
    | succ j => exact w j q x y (by simpa using h1) (by simpa using h2) (by simpa using h3)
theorem cr_dictF {K : PySem.W.Frag} (hc : X.calm = true) (hK : X.K = K := by rfl) : CallR X (.type "dict") (rDictF K) := by
  subst hK
  intro pins s σ H xs us Q I rx h
  obtain ⟨a, o, ps, kvs, rfl, ha, hd, pr, q⟩ := h
  rw [Vals.ref1 rx]
  obtain ⟨g, few, its, rv, t⟩ := I.hok a _ ha
  obtain ⟨us, vs, kv, l1, l2, w⟩ := pairs_told I pr
  have li := rv.length
  rw [List.length_map] at li few
  obtain ⟨o2, g2, c2, n, d2⟩ := t
  rw [g] at g2
  cases g2
  have lz : (List.zip us (vs.map Prod.snd)).length = ps.length := by rw [List.length_zip, List.length_map, l1, l2, Nat.min_self]
  refine call_dict_pairs (knd := mixKind X.prog X.w) (kvs := vs) (PairArg.tuple a its.toArray (fun j => ps.getD j 0) (List.zip us (vs.map Prod.snd))) (I.ok.hd hc) ⟨⟨o, n, g, c2, hd, d2⟩, by rw [List.size_toArray, lz, ← li], fun j k v hj => ?_⟩ ⟨by rw [lz, l2], fun i key v hj => ?_⟩ (by rw [lz]; exact few) fun h' tk dd keep => ?_
  · obtain ⟨h1, h2⟩ := List.getElem?_zip_eq_some.mp hj
    have hjl : j < ps.length := by rw [← l1]; exact (List.getElem?_eq_some_iff.mp h1).1
    rw [List.getElem?_map] at h2
    obtain ⟨y, hy, rfl⟩ := Option.map_eq_some_iff.mp h2
    have hp : ps[j]? = some (ps.getD j 0) := by rw [List.getD_eq_getElem?_getD, List.getElem?_eq_getElem hjl]; rfl
    obtain ⟨u, hu, ru⟩ := rv.get (i := j) (x := V.ref (ps.getD j 0)) (by rw [List.getElem?_map, hp]; rfl)
    have eu : u = .ref (ps.getD j 0) := ru
    subst eu
    refine ⟨by simpa using hu, .inl ?_⟩
    exact (w j _ _ _ hp h1 hy).2
  · obtain ⟨h1, h2⟩ := List.getElem?_zip_eq_some.mp hj
    have hjl : i < ps.length := by rw [← l1]; exact (List.getElem?_eq_some_iff.mp h1).1
    rw [List.getElem?_map] at h2
    obtain ⟨y, hy, rfl⟩ := Option.map_eq_some_iff.mp h2
    exact ⟨y.1, hy, (w i _ _ _ (List.getElem?_eq_getElem hjl) h1 hy).1⟩
  · have hz : (mergeK [] kvs).length ≤ sizeLine := Nat.le_trans (length_mergeK kvs []) (by rw [← Paired.length pr]; simpa using few)
    have hs : (s.heap.objs.size == sysModules) = false := by
      have := I.big
      exact beq_false_of_ne (Nat.ne_of_gt this)
    exact ⟨.ref s.heap.objs.size, upd H s.heap.objs.size (.dK (mergeK [] kvs)), I.laid (t' := tk) (fun b o q => keep b o (by simp) q) (Nat.le_refl _) (dk_new hz hs (KV.merge kv .nil) dd), rfl, q _ (I.hok.fresh (Nat.le_refl _))⟩
/-- repr(True) -/
theorem call_reprBl (gd : X.A.guards = some []) (hu : X.A.units + 70 < cLine) : CallR X (.builtin "repr") (fun xs H Q => ∃ b, xs = [.bl b] ∧ Q (.str (PyData.bool b).shown) H) := by
  intro pins s σ H xs us Q I r h
  obtain ⟨b, rfl, q⟩ := h
  obtain ⟨u, rfl, ru⟩ := vals1 r
  have e : u = .bool b := ru
  subst e
  have e2 : (PyData.bool b).shown = if b = true then Str.ofString "True" else Str.ofString "False" := by
    simp only [PyData.shown]
  rw [e2] at q
  exact PySem.P.repr_of_bool ⟨.str _, H, I.tok _, ⟨_, rfl⟩, q⟩
end
end HR
set_option maxRecDepth 100000
set_option maxHeartbeats 4000000
/-! {text for .. if .. for ..} -/
namespace SC
open PySem PySem.Spec PyProof.Rows L2 TSet
abbrev tests (ifs : List Expr) (env : Env) : Sem Bool := forIn ifs true fun c r => if r = true then (do
  let ok ← PySem.isTrue c env (eval c env)
  pure (ForInStep.yield ok)) else pure (ForInStep.yield r)
section
variable {prog : Program} {w : World} {A : Around} {R : Result → Shared → Prop} {s : Shared} {elt t0 i0 t1 i1 : Expr} {ifs0 ifs1 : List Expr} {scope : Scope} {pos : Pos} {it acc : Value} {env : Env}
theorem turn_out : compTurn (.SetComp elt [⟨t0, i0, ifs0, 0⟩, ⟨t1, i1, ifs1, 0⟩] scope pos) 0 it acc env =
    (standAt i0.pos >>= fun _ => pyNext it >>= fun r => match r with
      | none => pure (Fin.done Flow.next)
      | some v => letOwnedTupleGo t0 it v >>= fun _ => assign t0 env v >>= fun _ => tests ifs0 env >>= fun ok =>
        if ok = true then eval i1 env >>= fun x => standAt i1.pos >>= fun _ => foldedSetIterable i1 env x >>= fun x => holding [x] (pyIter x) >>= fun u => runOwn (.compStart (.SetComp elt [⟨t0, i0, ifs0, 0⟩, ⟨t1, i1, ifs1, 0⟩] scope pos) 1 u acc env) env >>= fun _ => PySem.again (.compLoop (.SetComp elt [⟨t0, i0, ifs0, 0⟩, ⟨t1, i1, ifs1, 0⟩] scope pos) 0 it acc env)
        else PySem.again (.compLoop (.SetComp elt [⟨t0, i0, ifs0, 0⟩, ⟨t1, i1, ifs1, 0⟩] scope pos) 0 it acc env)) := rfl
theorem turn_in : compTurn (.SetComp elt [⟨t0, i0, ifs0, 0⟩, ⟨t1, i1, ifs1, 0⟩] scope pos) 1 it acc env =
    (standAt i1.pos >>= fun _ => pyNext it >>= fun r => match r with
      | none => pure (Fin.done Flow.next)
      | some v => letOwnedTupleGo t1 it v >>= fun _ => assign t1 env v >>= fun _ => tests ifs1 env >>= fun ok =>
        if ok = true then (eval elt env >>= fun v => standAt elt.pos >>= fun _ => call (.builtin "set.add") [acc, v] >>= fun _ => pure ()) >>= fun _ => PySem.again (.compLoop (.SetComp elt [⟨t0, i0, ifs0, 0⟩, ⟨t1, i1, ifs1, 0⟩] scope pos) 1 it acc env)
        else PySem.again (.compLoop (.SetComp elt [⟨t0, i0, ifs0, 0⟩, ⟨t1, i1, ifs1, 0⟩] scope pos) 1 it acc env)) := rfl
theorem loop_in (I : Nat → Shared → Prop) (hyp : ∀ n s, I n s → wpAny (model prog w) A (pyNext it) (fun r s1 => match r with
      | none => R (.ok .next) s1
      | some v => wpAny (model prog w) A (letOwnedTupleGo t1 it v) (fun _ s2 => wpAny (model prog w) A (assign t1 env v) (fun _ s3 => wpAny (model prog w) A (tests ifs1 env) (fun ok s4 =>
          if ok = true then wpAny (model prog w) A (eval elt env) (fun x s5 => wpAny (model prog w) A (call (.builtin "set.add") [acc, x]) (fun _ s6 => ∃ m, m < n ∧ I m s6) (fun _ _ => False) s5) (fun _ _ => False) s4
          else ∃ m, m < n ∧ I m s4) (fun _ _ => False) s3) (fun _ _ => False) s2) (fun _ _ => False) s1) (fun _ _ => False) s) (n : Nat) (hI : I n s) :
    codeAny (model prog w) A (.compLoop (.SetComp elt [⟨t0, i0, ifs0, 0⟩, ⟨t1, i1, ifs1, 0⟩] scope pos) 1 it acc env) R s := by
  refine codeAny_loop rfl I (fun n s hI => ?_) n hI
  show wpAny _ _ ((compTurn (.SetComp elt [⟨t0, i0, ifs0, 0⟩, ⟨t1, i1, ifs1, 0⟩] scope pos) 1 it acc env).onRaise _) _ _ _
  refine wpAny_onRaise ?_
  rw [turn_in]
  refine wpAny_bind (wpAny_standAt ?_)
  refine wpAny_bind (thnF (hyp n s hI) fun r s1 h1 => ?_)
  cases r with
  | none => exact wpAny_pure h1
  | some v =>
    refine wpAny_bind (thnF h1 fun _ s2 h2 => ?_)
    refine wpAny_bind (thnF h2 fun _ s3 h3 => ?_)
    refine wpAny_bind (thnF h3 fun ok s4 h4 => ?_)
    cases ok with
    | false => exact wpAny_pure ⟨rfl, h4⟩
    | true =>
      refine wpAny_bind (wpAny_bind (thnF h4 fun x s5 h5 => ?_))
      refine wpAny_bind (wpAny_standAt ?_)
      refine wpAny_bind (thnF h5 fun _ s6 h6 => ?_)
      exact wpAny_pure (wpAny_pure ⟨rfl, h6⟩)
theorem loop_out (plain : ∀ x, foldedSetIterable i1 env x = pure x) (I : Nat → Shared → Prop) (hyp : ∀ n s, I n s → wpAny (model prog w) A (pyNext it) (fun r s1 => match r with
      | none => R (.ok .next) s1
      | some v => wpAny (model prog w) A (letOwnedTupleGo t0 it v) (fun _ s2 => wpAny (model prog w) A (assign t0 env v) (fun _ s3 => wpAny (model prog w) A (tests ifs0 env) (fun ok s4 =>
          if ok = true then wpAny (model prog w) A (eval i1 env) (fun x s5 => wpAny (model prog w) A (pyIter x) (fun u s6 => codeAny (model prog w) A (.compStart (.SetComp elt [⟨t0, i0, ifs0, 0⟩, ⟨t1, i1, ifs1, 0⟩] scope pos) 1 u acc env) (fun r s7 => match r with | .ok _ => ∃ m, m < n ∧ I m s7 | .error _ => False) s6) (fun _ _ => False) s5) (fun _ _ => False) s4
          else ∃ m, m < n ∧ I m s4) (fun _ _ => False) s3) (fun _ _ => False) s2) (fun _ _ => False) s1) (fun _ _ => False) s) (n : Nat) (hI : I n s) :
    codeAny (model prog w) A (.compLoop (.SetComp elt [⟨t0, i0, ifs0, 0⟩, ⟨t1, i1, ifs1, 0⟩] scope pos) 0 it acc env) R s := by
  refine codeAny_loop rfl I (fun n s hI => ?_) n hI
  show wpAny _ _ ((compTurn (.SetComp elt [⟨t0, i0, ifs0, 0⟩, ⟨t1, i1, ifs1, 0⟩] scope pos) 0 it acc env).onRaise _) _ _ _
  refine wpAny_onRaise ?_
  rw [turn_out]
  refine wpAny_bind (wpAny_standAt ?_)
  refine wpAny_bind (thnF (hyp n s hI) fun r s1 h1 => ?_)
  cases r with
  | none => exact wpAny_pure h1
  | some v =>
    refine wpAny_bind (thnF h1 fun _ s2 h2 => ?_)
    refine wpAny_bind (thnF h2 fun _ s3 h3 => ?_)
    refine wpAny_bind (thnF h3 fun ok s4 h4 => ?_)
    cases ok with
    | false => exact wpAny_pure ⟨rfl, h4⟩
    | true =>
      refine wpAny_bind (thnF h4 fun x s5 h5 => ?_)
      refine wpAny_bind (wpAny_standAt ?_)
      rw [plain]
      refine wpAny_bind (wpAny_pure ?_)
      refine wpAny_bind (wpAny_holding (thnF h5 fun u s6 h6 => ?_))
      refine wpAny_bind (wpAny_runOwn (codeAny_mono h6 fun r s7 h7 => ?_))
      cases r with
      | error e => exact h7.elim
      | ok f => exact wpAny_pure ⟨rfl, h7⟩
theorem start_at {d : Nat} (hd : ((clausesOf (.SetComp elt [⟨t0, i0, ifs0, 0⟩, ⟨t1, i1, ifs1, 0⟩] scope pos))[d]?.elim false fun x => x.is_async != 0) = false)
    (h : codeAny (model prog w) A (.compLoop (.SetComp elt [⟨t0, i0, ifs0, 0⟩, ⟨t1, i1, ifs1, 0⟩] scope pos) d it acc env) R s)
    (h2 : wpAny (model prog w) A (pyIter it) (fun it' s' => codeAny (model prog w) A (.compLoop (.SetComp elt [⟨t0, i0, ifs0, 0⟩, ⟨t1, i1, ifs1, 0⟩] scope pos) d it' acc env) R s') (fun _ _ => False) s) :
    codeAny (model prog w) A (.compStart (.SetComp elt [⟨t0, i0, ifs0, 0⟩, ⟨t1, i1, ifs1, 0⟩] scope pos) d it acc env) R s := by
  refine codeAny_of_tree ?_
  show wpAny _ _ ((compStart (.SetComp elt [⟨t0, i0, ifs0, 0⟩, ⟨t1, i1, ifs1, 0⟩] scope pos) d it acc env).onRaise _) _ _ _
  refine wpAny_onRaise ?_
  unfold compStart
  rw [hd, if_neg Bool.false_ne_true]
  refine wpAny_bind (wpAny_askSetting ?_)
  by_cases g : (model prog w).w.params.followText "comprehension-iter-twice" = true
  · rw [if_pos g]
    exact wpAny_pure ⟨rfl, h⟩
  · rw [if_neg g]
    refine wpAny_bind (wpAny_rule ?_)
    cases hg : (clausesOf (.SetComp elt [⟨t0, i0, ifs0, 0⟩, ⟨t1, i1, ifs1, 0⟩] scope pos))[d]? with
    | none => exact wpAny_bind (thnF h2 fun it' s' h3 => wpAny_pure ⟨rfl, h3⟩)
    | some g => exact wpAny_bind (wpAny_standAt (wpAny_bind (thnF h2 fun it' s' h3 => wpAny_pure ⟨rfl, h3⟩)))
end
end SC
set_option maxRecDepth 100000
set_option maxHeartbeats 4000000
namespace SC
open PySem PySem.Spec PyProof.Rows L2 TSet Froz
section
variable {P : Program} {w : World} {A : Around} {E : Value → Shared → Prop} {s : Shared}
theorem set_add_txt {a : Addr} {D : SD} {l : List Str} {k : Str} {u : Tok} {Q : Value → Shared → Prop} (at_ : s.heap.get? a = some (sObj "set" D)) (Z : Txs P w D l) (few : l.length + 1 < scanBound)
    (h : ∀ h' tk D' l', Heap.SameBut a s.heap h' → h'.get? a = some (sObj "set" D') → Txs P w D' l' → (∀ z, z ∈ l' ↔ z = k ∨ z ∈ l) → l'.length ≤ l.length + 1 → Q .none { s with heap := h', toks := tk }) :
    wpAny (model P w) A (call (.builtin "set.add") [.ref a, .str k u]) Q E s := by
  refine call_meetsIn (S := fun A R s => s.heap.get? a = some (sObj "set" D) ∧ ∀ h' tk D' l', Heap.SameBut a s.heap h' → h'.get? a = some (sObj "set" D') → Txs P w D' l' → (∀ z, z ∈ l' ↔ z = k ∨ z ∈ l) → l'.length ≤ l.length + 1 → R (.ok (.ret .none)) { s with heap := h', toks := tk }) F.slot_set_add ⟨_, at_, rfl⟩ F.entry_set_add (F.args_set_add_2 _ _) (fun A R s ⟨g, q⟩ => ?_) ⟨at_, fun h' tk D' l' a b c d e => h h' tk D' l' a b c d e⟩
  unfold Builtin.«set.add» Builtin.Frozenset.oneOther
  have add_ : ∀ {A' : Around} {E' : Value → Shared → Prop} {Q' : Bool → Shared → Prop}, (∀ b h' tk D' l', Heap.SameBut a s.heap h' → h'.get? a = some (sObj "set" D') → Txs P w D' l' → (∀ z, z ∈ l' ↔ z = k ∨ z ∈ l) → l'.length ≤ l.length + 1 → Q' b { s with heap := h', toks := tk }) → wpAny (model P w) A' (setAdd a (.str k u)) Q' E' s := fun q' => by
    unfold setAdd
    refine wpAny_holding (wpAny_bind ((strKind P w).pyHash (k := k) (is_str k u) ?_))
    exact add_any (s := { s with toks := s.toks + 1 }) g Z few fun b h' D' l' c d e f g => q' b h' _ D' l' c d e f g
  wp_walk using add_
  exact fun b h' tk D' l' c d e f g => wpAny_pure (q h' tk D' l' c d e f g)
theorem new_set {Q : Value → Shared → Prop} (h : Q (.ref s.heap.objs.size) { s with heap := s.heap.push (freshSet w) }) : wpAny (model P w) A (newSet (.type "set")) Q E s := by
  unfold newSet setsByText
  refine wpAny_bind (wpAny_bind (wpAny_askSetting ?_))
  refine wpAny_pure ?_
  exact wpAny_newObj_type h
end
/-- {elt for .. if .. for ..}, texts -/
def tSc2 (P : Program) (w : World) (wi : TI) (g : TG) (tt : TT) (wi1 : TI) (g1 : TG) (tt1 : TT) (te : TE) (vs vs1 : List Nat) : TE := fun σ H Q => wi σ H fun J H1 => ∀ D, H1 D = none → ∃ W : Nat → Nat → Hp → Prop, (∃ m, W 0 m (upd H1 D (SetX P w D []))) ∧ ∀ i m H, W i m H →
  (J.stop i H ∧ Q (.ref D) H) ∨ (J.go i H ∧ ∃ Nx : Hp → Prop, (∀ H', Nx H' → ∃ m', m' < m ∧ W (i + 1) m' H') ∧ ∀ x H', J.yld i H x H' → g x (wipe σ vs) H' fun σ2 H2 => wipe σ2 vs = wipe σ vs ∧ tt σ2 H2 fun b H3 =>
    if b = true then wi1 σ2 H3 fun J1 H4 => ∃ W1 : Nat → Nat → Hp → Prop, (∃ m, W1 0 m H4) ∧ ∀ j k H, W1 j k H →
      (J1.stop j H ∧ Nx H) ∨ (J1.go j H ∧ ∃ Nx1 : Hp → Prop, (∀ H', Nx1 H' → ∃ k', k' < k ∧ W1 (j + 1) k' H') ∧ ∀ x H', J1.yld j H x H' → g1 x (wipe σ2 vs1) H' fun σ3 H5 => wipe σ3 vs1 = wipe σ2 vs1 ∧ tt1 σ3 H5 fun b H6 =>
        if b = true then te σ3 H6 fun y H7 => ∃ l z, y = .str z ∧ H7 D = some (SetX P w D l) ∧ l.length < 64 ∧ ∀ l' : List Str, l'.Nodup → (∀ q, q ∈ l' ↔ q = z ∨ q ∈ l) → l'.length ≤ l.length + 1 → Nx1 (upd H7 D (SetX P w D l'))
        else Nx1 H6)
    else Nx H3)
section
variable {X : Cx} {elt tg iter tg1 iter1 : Expr} {ifs ifs1 : List Expr} {scope : Scope} {own : List (Str × Nat)} {vs1 : List Nat} {wi wi1 : TI} {g g1 : TG} {tt tt1 : TT} {te : TE}
theorem pe_sc2 {pos : Pos} (calm : X.calm = true) (diff : X.N.Nodup) (walk : PI X tg iter wi) (blk : BlkOk X.N X.env.scope scope own) (sub : ∀ i ∈ vs1, i ∈ own.map (·.2))
    (aim : ∀ (sh : Shared) (G : Hp) (C : Addr) (cl : List (Str × Addr)) (feet : List Addr), PG (X.blk sh G scope (compEnvC scope cl C X.env) feet) tg g)
    (tests : ∀ (sh : Shared) (G : Hp) (C : Addr) (cl : List (Str × Addr)) (feet : List Addr), PTs (X.blk sh G scope (compEnvC scope cl C X.env) feet) ifs tt)
    (walk1 : ∀ (sh : Shared) (G : Hp) (C : Addr) (cl : List (Str × Addr)) (feet : List Addr), PI (X.blk sh G scope (compEnvC scope cl C X.env) feet) tg1 iter1 wi1)
    (aim1 : ∀ (sh : Shared) (G : Hp) (C : Addr) (cl : List (Str × Addr)) (feet : List Addr), PG (X.blk sh G scope (compEnvC scope cl C X.env) feet) tg1 g1)
    (tests1 : ∀ (sh : Shared) (G : Hp) (C : Addr) (cl : List (Str × Addr)) (feet : List Addr), PTs (X.blk sh G scope (compEnvC scope cl C X.env) feet) ifs1 tt1)
    (elts : ∀ (sh : Shared) (G : Hp) (C : Addr) (cl : List (Str × Addr)) (feet : List Addr), PE (X.blk sh G scope (compEnvC scope cl C X.env) feet) elt te)
    (plain : ∀ x, foldedSetIterable iter X.env x = pure x := by intro _; rfl) (plain1 : ∀ env x, foldedSetIterable iter1 env x = pure x := by intro _ _; rfl) :
    PE X (.SetComp elt [⟨tg, iter, ifs, 0⟩, ⟨tg1, iter1, ifs1, 0⟩] scope pos) (tSc2 X.prog X.w wi g tt wi1 g1 tt1 te (own.map (·.2)) vs1) := by
  refine ⟨fun pp sh0 st G0 Q I0 ask => ?_⟩
  rw [arm_eval_SetComp]
  have frees : ∀ y ∈ scope.names, y.2 = .free → ∃ c, X.env.cells.lookup y.1 = some c := fun y hy e => (blk.free y hy e).elim (fun k => I0.ok.has _ (.inl k)) fun k => I0.ok.has _ (.inr k)
  refine wpAny_comprehension_free (use := none) rfl plain (closure_ok frees) blk.kind (fun y hy e => by rw [blk.uniq y hy, e]) (thn (walk.run pp sh0 st G0 _ I0 ask) fun xv sh1 came => thn came fun itv sh2 more => ?_)
  obtain ⟨it, feet, ten, J, G2, rfl, I2, T, at0, free2, turn⟩ := more
  refine new_set (newEnv_comp ?_)
  have new : G2 sh2.heap.objs.size = none := I2.hok.fresh (Nat.le_refl _)
  obtain ⟨W, ⟨m0, w0⟩, step⟩ := turn _ new
  obtain ⟨G3, eG3⟩ : ∃ G3, G3 = upd G2 sh2.heap.objs.size (SetX X.prog X.w sh2.heap.objs.size []) := ⟨_, rfl⟩
  rw [← eG3] at w0
  obtain ⟨sh3, e3⟩ : ∃ sh3 : Shared, sh3 = { sh2 with heap := sh2.heap.push (freshSet X.w) } := ⟨_, rfl⟩
  have I3 : Inv X pp st G3 sh3 := by
    rw [e3, eG3]
    exact I2.laid (t' := sh2.toks) (fun b o q => Heap.get?_push_of_some _ q) (Nat.le_refl _) (setX_new ⟨(#[], 0, .fresh 0 0 (!X.w.params.followText "set-order")), Heap.get?_push_size _ rfl, Txs.fresh⟩)
  have heap3 : sh3.heap = sh2.heap.push (freshSet X.w) := by rw [e3]
  have low : ∀ b ∈ feet, b < sh2.heap.objs.size := fun b hb => Heap.lt_size (T.obj _ _ at0 b hb).choose_spec.1
  have free3 : ∀ b ∈ feet, FpOk X pp G3 b ∧ b < sh3.heap.objs.size := fun b hb => ⟨⟨by rw [eG3, upd_ne (Nat.ne_of_lt (low b hb))]; exact (free2 b hb).1, (free2 b hb).2⟩, by rw [heap3, Heap.size_push]; exact Nat.lt_succ_of_lt (low b hb)⟩
  have at3 : ten 0 sh3.heap := T.keep _ _ _ at0 fun b _ o q => by rw [heap3]; exact Heap.get?_push_of_some _ q
  have I4 := block_start I3 blk diff free3
  obtain ⟨C, eC⟩ : ∃ C, C = sh3.heap.objs.size := ⟨_, rfl⟩
  obtain ⟨cl, ecl⟩ : ∃ cl, cl = cellsFrom (sh3.heap.objs.size + 1) scope.names (cloFrom X.env.cells scope.names []) := ⟨_, rfl⟩
  obtain ⟨sh4, e4⟩ : ∃ sh4 : Shared, sh4 = { sh3 with heap := pushCells (sh3.heap.push { cls := .type "dict", data := .dict #[] }) scope.names } := ⟨_, rfl⟩
  rw [← ecl, ← eC, ← e4] at I4
  have at4 : ten 0 sh4.heap := T.keep _ _ _ at3 fun b _ o q => by rw [e4]; exact pushCells_keeps _ _ _ _ (Heap.get?_push_of_some _ q)
  have none3 : ∀ b ∈ feet, G3 b = none := fun b hb => (free3 b hb).1.1
  obtain ⟨Y, eY⟩ : ∃ Y, Y = X.blk sh3 G3 scope (compEnvC scope cl C X.env) feet := ⟨_, rfl⟩
  rw [← eY] at I4
  have held : ∀ {st' : L2.St} {G' : Hp} {sh' : Shared}, Inv Y [] st' G' sh' → (∀ b ∈ feet, G' b = none) → ∀ b ∈ feet, FpOk Y [] G' b := by
    subst eY
    exact fun {_ _ _} I' no b hb => ⟨no b hb, (I'.ok.exf b hb).1, I'.ok.exfs b hb, .inl hb, fun x c q => (I'.ok.exf b hb).2 x c q, fun p hp => absurd (show p ∈ ([] : List (Addr × Obj)) ++ [] from hp) (by simp)⟩
  have locC : (compEnvC scope cl C X.env).locals = C := rfl
  have loop : codeAny (model X.prog X.w) X.A (.compLoop (.SetComp elt [⟨tg, iter, ifs, 0⟩, ⟨tg1, iter1, ifs1, 0⟩] scope pos) 0 (.ref it) (.ref sh2.heap.objs.size) (compEnvC scope cl C X.env)) (compPost (model X.prog X.w) X.A X.xe none (EP X pp st Q) (.ref sh2.heap.objs.size) C) sh4 := by
    subst eY
    refine loop_out (plain1 _) (fun left sh => ∃ i G, Inv (X.blk sh3 G3 scope (compEnvC scope cl C X.env) feet) [] (wipe st (own.map (·.2))) G sh ∧ ten i sh.heap ∧ (∀ b ∈ feet, G b = none) ∧ W i left G) ?_ m0 ⟨0, G3, I4, at4, none3, w0⟩
    rintro left sh5 ⟨i, G5, I5, at5, no5, w5⟩
    rcases step i left G5 w5 with ⟨over, good⟩ | ⟨on, Nx, fewer, go⟩
    · -- the walk is over
      refine thnF (T.done (X.blk sh3 G3 scope (compEnvC scope cl C X.env) feet) rfl rfl rfl calm i [] sh5 _ G5 (fun _ _ => False) I5 (held I5 no5) at5 over) fun r sh6 ⟨er, I6⟩ => ?_
      subst er
      have I7 : Inv X pp st G5 sh6 := I3.call' (ch := feet) I6.os I6.base I6.hok I6.bare fun b hb => let f := (free3 b hb).1.2; ⟨f.2.2.1, f.1, f.2.2.2.1, f.2.2.2.2⟩
      have noC : G5 C = none := I6.free
      obtain ⟨m, names, _⟩ := I6.loc
      obtain ⟨f0, f1, f2, f3, f4, f5⟩ := I3.fpOk (Nat.le_of_eq eC.symm) noC
      exact ⟨m, names, fun h'' sb => ⟨.ref sh2.heap.objs.size, G5, I7.turned (t' := sh6.toks) (fun b o hb q => (sb.2 b hb).trans q) f0 f1 f3 f4 f5, rfl, good⟩⟩
    · -- one turn
      refine thnF (T.item (X.blk sh3 G3 scope (compEnvC scope cl C X.env) feet) rfl rfl rfl calm i [] sh5 _ G5 (fun _ _ => False) I5 (held I5 no5) at5 on) fun r sh6 ⟨u, er, rest⟩ => ?_
      subst er
      refine thnF rest fun _ sh7 ⟨x, G7, I7, rx, y7, at7, no7⟩ => ?_
      have P7 := I7.pinned (held I7 no7) (T.obj _ _ at7)
      refine thnF ((aim sh3 G3 C cl feet).run _ sh7 _ G7 x u _ P7 rx (go x G7 y7)) fun _ sh8 ⟨st8, G8, I8, same8, q8⟩ => ?_
      refine thnF ((tests sh3 G3 C cl feet).run _ sh8 st8 G8 _ I8 q8) fun yes sh9 ⟨G9, I9, q9⟩ => ?_
      have back : ∀ {st' : L2.St} {sh' : Shared} {G' : Hp}, Inv (X.blk sh3 G3 scope (compEnvC scope cl C X.env) feet) ([] ++ pinsAt feet sh7.heap) st' G' sh' → st'.length = st8.length → (∀ (j : Nat) (v : V), (wipe st8 (own.map (·.2)))[j]? = some (some v) → st'[j]? = some (some v)) → Nx G' →
          ∃ m, m < left ∧ ∃ i G, Inv (X.blk sh3 G3 scope (compEnvC scope cl C X.env) feet) [] (wipe st (own.map (·.2))) G sh' ∧ ten i sh'.heap ∧ (∀ b ∈ feet, G b = none) ∧ W i m G := by
        intro st' sh' G' I' hl hw nx
        obtain ⟨m', less, w'⟩ := fewer G' nx
        have pin : ∀ b ∈ feet, ∀ o, sh7.heap.get? b = some o → sh'.heap.get? b = some o ∧ G' b = none := fun b hb o q => by
          have z := I'.pin (b, o) (List.mem_append_right _ (List.mem_append_right _ (mem_pinsAt hb q)))
          exact ⟨z.1, z.2.1⟩
        have len : (wipe st (own.map (·.2))).length = st'.length := by rw [← same8, wipe_length, hl]
        refine ⟨m', less, i + 1, G', (I'.unpinned (pins := [])).weak len (fun j v q => ?_), T.keep _ _ _ at7 fun b hb o q => (pin b hb o q).1, fun b hb => ?_, w'⟩
        · rw [← same8] at q
          exact hw j v q
        · obtain ⟨o, q, _⟩ := T.obj _ _ at7 b hb
          exact (pin b hb o q).2
      cases yes with
      | false => exact back I9 rfl (fun j v q => (wipe_some q).1) q9
      | true =>
        refine thnF ((walk1 sh3 G3 C cl feet).run _ sh9 st8 G9 _ I9 q9) fun xv1 sh10 came1 => thnF came1 fun itv1 sh11 more1 => ?_
        obtain ⟨it1, feet1, ten1, J1, G11, rfl, I11, T1, at1, free1, W1, ⟨k0, w10⟩, step1⟩ := more1
        have I11w := I11.weak (wipe_length st8 vs1) (fun j v q => (wipe_some q).1)
        have held1 : ∀ {G' : Hp}, (∀ b ∈ feet1, G' b = none) → ∀ b ∈ feet1, FpOk (X.blk sh3 G3 scope (compEnvC scope cl C X.env) feet) ([] ++ pinsAt feet sh7.heap) G' b := fun no b hb => ⟨no b hb, (free1 b hb).2⟩
        have loop1 : codeAny (model X.prog X.w) X.A (.compLoop (.SetComp elt [⟨tg, iter, ifs, 0⟩, ⟨tg1, iter1, ifs1, 0⟩] scope pos) 1 (.ref it1) (.ref sh2.heap.objs.size) (compEnvC scope cl C X.env)) (fun r s7 => match r with
            | .ok _ => ∃ m, m < left ∧ ∃ i G, Inv (X.blk sh3 G3 scope (compEnvC scope cl C X.env) feet) [] (wipe st (own.map (·.2))) G s7 ∧ ten i s7.heap ∧ (∀ b ∈ feet, G b = none) ∧ W i m G
            | .error _ => False) sh11 := by
          refine loop_in (fun k sh => ∃ j G, Inv (X.blk sh3 G3 scope (compEnvC scope cl C X.env) feet) ([] ++ pinsAt feet sh7.heap) (wipe st8 vs1) G sh ∧ ten1 j sh.heap ∧ (∀ b ∈ feet1, G b = none) ∧ W1 j k G) ?_ k0 ⟨0, G11, I11w, at1, fun b hb => (free1 b hb).1, w10⟩
          rintro k sh12 ⟨j, G12, I12, at12, no12, w12⟩
          rcases step1 j k G12 w12 with ⟨over, nx⟩ | ⟨on1, Nx1, fewer1, go1⟩
          · refine thnF (T1.done (X.blk sh3 G3 scope (compEnvC scope cl C X.env) feet) rfl rfl rfl calm j _ sh12 _ G12 (fun _ _ => False) I12 (held1 no12) at12 over) fun r sh13 ⟨er, I13⟩ => ?_
            subst er
            exact back I13 (wipe_length st8 vs1) (fun j v q => by
              obtain ⟨q1, q2⟩ := wipe_some q
              rw [wipe_out fun z => q2 (sub j z)]
              exact q1) nx
          · refine thnF (T1.item (X.blk sh3 G3 scope (compEnvC scope cl C X.env) feet) rfl rfl rfl calm j _ sh12 _ G12 (fun _ _ => False) I12 (held1 no12) at12 on1) fun r sh13 ⟨u1, er, rest1⟩ => ?_
            subst er
            refine thnF rest1 fun _ sh14 ⟨x1, G14, I14, rx1, y14, at14, no14⟩ => ?_
            have P14 := I14.pinned (held1 no14) (T1.obj _ _ at14)
            refine thnF ((aim1 sh3 G3 C cl feet).run _ sh14 _ G14 x1 u1 _ P14 rx1 (go1 x1 G14 y14)) fun _ sh15 ⟨st15, G15, I15, same15, q15⟩ => ?_
            refine thnF ((tests1 sh3 G3 C cl feet).run _ sh15 st15 G15 _ I15 q15) fun yes1 sh16 ⟨G16, I16, q16⟩ => ?_
            have back1 : ∀ {sh' : Shared} {G' : Hp}, Inv (X.blk sh3 G3 scope (compEnvC scope cl C X.env) feet) (([] ++ pinsAt feet sh7.heap) ++ pinsAt feet1 sh14.heap) st15 G' sh' → Nx1 G' →
                ∃ k', k' < k ∧ ∃ j G, Inv (X.blk sh3 G3 scope (compEnvC scope cl C X.env) feet) ([] ++ pinsAt feet sh7.heap) (wipe st8 vs1) G sh' ∧ ten1 j sh'.heap ∧ (∀ b ∈ feet1, G b = none) ∧ W1 j k' G := by
              intro sh' G' I' nx
              obtain ⟨k', less, w'⟩ := fewer1 G' nx
              have pin : ∀ b ∈ feet1, ∀ o, sh14.heap.get? b = some o → sh'.heap.get? b = some o ∧ G' b = none := fun b hb o q => by
                have z := I'.pin (b, o) (List.mem_append_right _ (List.mem_append_right _ (mem_pinsAt hb q)))
                exact ⟨z.1, z.2.1⟩
              have len : (wipe st8 vs1).length = st15.length := by rw [← same15, wipe_length]
              refine ⟨k', less, j + 1, G', I'.unpinned.weak len (fun j v q => ?_), T1.keep _ _ _ at14 fun b hb o q => (pin b hb o q).1, fun b hb => ?_, w'⟩
              · rw [← same15] at q
                exact (wipe_some q).1
              · obtain ⟨o, q, _⟩ := T1.obj _ _ at14 b hb
                exact (pin b hb o q).2
            cases yes1 with
            | false => exact back1 I16 q16
            | true =>
              refine thnF ((elts sh3 G3 C cl feet).run _ sh16 st15 G16 _ I16 q16) fun ku sh17 ⟨yk, G17, I17, rk, l, z, ek, hD, few, nx⟩ => ?_
              subst ek
              obtain ⟨tk, rfl⟩ := rk
              obtain ⟨DD, e, F⟩ := (I17.hok _ _ hD).1
              refine set_add_txt e F (by unfold scanBound; omega) fun h' tk' D' l' same a2 f2 m2 n2 => back1 (d_write (t' := tk') I17 (by rw [hD]; exact True.intro) same ⟨_, a2⟩ (setX_new ⟨D', a2, f2⟩)) (nx l' f2.nd m2 n2)
        exact start_at rfl loop1 (T1.self X.A 0 _ _ _ at1 loop1)
  show codeAny _ _ (.compStart (.SetComp elt [⟨tg, iter, ifs, 0⟩, ⟨tg1, iter1, ifs1, 0⟩] scope pos) 0 (.ref it) (.ref sh2.heap.objs.size) (compEnvC scope (cellsFrom (sh2.heap.push (freshSet X.w)).objs.size.succ scope.names (cloFrom X.env.cells scope.names [])) (sh2.heap.push (freshSet X.w)).objs.size X.env)) _ _
  rw [heap3] at eC ecl
  subst e3
  subst e4 ecl eC
  exact start_at rfl loop (T.self X.A 0 _ _ _ at4 loop)
end
end SC
set_option maxRecDepth 100000
set_option maxHeartbeats 4000000
/-! rules with the frag told, for use within a comprehension -/
namespace HR
open PySem PySem.Spec PyProof.Rows L2
theorem ix_listK {X : Cx} {K : PySem.W.Frag} (h : X.K = K := by rfl) : IxR X (rIxL K) := by
  subst h
  exact ix_list
theorem op_notIn_seqK {X : Cx} {K : PySem.W.Frag} (h : X.K = K := by rfl) : OpR X (compareOp .NotIn) (rIn K true) := by
  subst h
  exact op_notIn_seq
theorem op_in_seqK {X : Cx} {K : PySem.W.Frag} (h : X.K = K := by rfl) : OpR X (compareOp .In) (rIn K false) := by
  subst h
  exact op_in_seq
theorem call_tuple_ofK {X : Cx} {K : PySem.W.Frag} (h : X.K = K := by rfl) : CallR X (.type "tuple") fun xs H Q => ∃ p ys, xs = [V.ref p] ∧ ((SqL K H p ys ∧ ∀ l : Addr, H l = none → Q (V.ref l) (upd H l (.tup ys))) ∨ SqT K H p ys ∧ Q (V.ref p) H) := by
  subst h
  exact call_tuple_of
theorem call_list_ofK {X : Cx} {K : PySem.W.Frag} (h : X.K = K := by rfl) : CallR X (.type "list") fun xs H Q => ∃ p ys, xs = [V.ref p] ∧ (SqL K H p ys ∨ SqT K H p ys) ∧ ∀ l : Addr, H l = none → Q (V.ref l) (upd H l (.lst ys)) := by
  subst h
  exact call_list_of
theorem call_len_seqK {X : Cx} {K : PySem.W.Frag} (h : X.K = K := by rfl) : CallR X (.builtin "len") fun xs H Q => ∃ p ys, xs = [V.ref p] ∧ (SqL K H p ys ∨ SqT K H p ys) ∧ Q (V.int (ys.length : Nat)) H := by
  subst h
  exact call_len_seq
theorem pi_tupK {X : Cx} {K : PySem.W.Frag} {tg l : Expr} {tl : TE} (he : PE X l tl) (h : X.K = K := by rfl) : PI X tg l (iTup K tl) := by
  subst h
  exact pi_tup he
theorem pi_listK {X : Cx} {K : PySem.W.Frag} {tg l : Expr} {tl : TE} (he : PE X l tl) (h : X.K = K := by rfl) : PI X tg l (iList K tl) := by
  subst h
  exact pi_list he
theorem pe_backK {X : Cx} {K : PySem.W.Frag} {e st : Expr} {te ts : TE} {p2 pos : Pos} (he : PE X e te) (hs : PE X st ts) (h : X.K = K := by rfl) : PE X (.Subscript e (.Slice none none (some st) p2) pos) (tBack K te ts) := by
  subst h
  exact pe_back he hs
theorem cr_sortedTIK {X : Cx} {K : PySem.W.Frag} (h : X.K = K := by rfl) : CallR X (.builtin "sorted") (rSortedTI K) := by
  subst h
  exact cr_sortedTI
theorem cr_setIK {X : Cx} {K : PySem.W.Frag} {w : World} (hc : X.calm = true := by rfl) (h : X.K = K := by rfl) (hw : X.w = w := by rfl) : CallR X (.type "set") (rSetI K w) := by
  subst h hw
  exact cr_setI hc
theorem cr_sortedSetK {X : Cx} {w : World} (hc : X.calm = true := by rfl) (hw : X.w = w := by rfl) : CallR X (.builtin "sorted") (rSortedSet w) := by
  subst hw
  exact cr_sortedSet hc
theorem cr_anyK {X : Cx} {K : PySem.W.Frag} (hc : X.calm = true := by rfl) (h : X.K = K := by rfl) : CallR X (.builtin "any") (rAny K) := by
  subst h
  exact cr_any hc
theorem cr_sumK {X : Cx} {K : PySem.W.Frag} (hc : X.calm = true := by rfl) (h : X.K = K := by rfl) : CallR X (.builtin "sum") (rSum K) := by
  subst h
  exact cr_sum hc
theorem ix_tupK {X : Cx} {K : PySem.W.Frag} (h : X.K = K := by rfl) : IxR X (rIxT K) := by
  subst h
  exact ix_tup
theorem ix_seqK {X : Cx} {K : PySem.W.Frag} (h : X.K = K := by rfl) : IxR X (rIx K) := by
  subst h
  exact ix_seq
theorem op_catTK {X : Cx} {K : PySem.W.Frag} (h : X.K = K := by rfl) : OpR X (binaryOp .Add) (rCatT K) := by
  subst h
  exact op_catT
end HR
set_option maxRecDepth 100000
set_option maxHeartbeats 8000000
namespace HR
open PySem L2 Evl GP
/-! ### comprehensions -/
section
variable {K : PySem.W.Frag} {σ : L2.St} {H1 : Hp} {J : It} {G : Hp → Prop} {te : TE} {tt : TT}
/-- one name, a condition, the items' values are written -/
theorem lcF {α : Type} {xs : List α} {f : α → V} (w : L2.Walk J (xs.map f).length G (YAt (xs.map f))) (c : α → Bool) (r : α → V) {j : Nat} {vs : List Nat} (hz : xs.length < sizeLine) (hG : ∀ H', Ex H1 H' → G H') (hw : ∀ v, wipe ((wipe σ vs).set j (some v)) vs = wipe σ vs)
    (ht : ∀ v ∈ xs, ∀ H', Ex H1 H' → ∀ Q : Bool → Hp → Prop, (∀ H'', Ex H' H'' → Q (c v) H'') → tt ((wipe σ vs).set j (some (f v))) H' Q)
    (he : ∀ v ∈ xs, c v = true → ∀ H', Ex H1 H' → ∀ Q : VK, (∀ H'', Ex H' H'' → Q (r v) H'') → te ((wipe σ vs).set j (some (f v))) H' Q) {Qd : Hp → Prop} {D : Addr} (hD : H1 D = none) (k : ∀ H', Ex H1 H' → H' D = some (.lst ((xs.filter c).map r)) → Qd H') :
    ∃ W : Nat → Nat → Hp → Prop, (∃ m, W 0 m (upd H1 D (.lst []))) ∧ ∀ i m H, W i m H →
      (J.stop i H ∧ Qd H) ∨ (J.go i H ∧ ∃ Nx : Hp → Prop, (∀ H', Nx H' → ∃ m', m' < m ∧ W (i + 1) m' H') ∧ ∀ x H', J.yld i H x H' → gName j x (wipe σ vs) H' fun σ2 H2 => wipe σ2 vs = wipe σ vs ∧ tt σ2 H2 fun b H3 =>
        if b = true then te σ2 H3 fun y H4 => ∃ acc, H4 D = some (.lst acc) ∧ acc.length < sizeLine ∧ Nx (upd H4 D (.lst (acc ++ [y]))) else Nx H3) := by
  refine lc_it w (fun i H => Ex H1 H ∧ H D = some (.lst (((xs.take i).filter c).map r))) ⟨Ex.new hD, upd_same⟩ (fun i H _ p => hG H p.1) ?_ (fun H p => k H p.1 (by have := p.2; rwa [List.length_map, List.take_length] at this))
  rintro i x H H' hi ⟨e, hl⟩ ⟨rfl, hx⟩
  rw [List.length_map] at hi
  rw [List.getElem?_map, List.getElem?_eq_getElem hi] at hx
  cases hx
  have hm : xs[i] ∈ xs := List.getElem_mem hi
  unfold gName
  dsimp only
  refine ⟨hw _, ht _ hm H' e _ fun H3 e3 => ?_⟩
  have tk : (xs.take (i + 1)).filter c = (xs.take i).filter c ++ (if c xs[i] = true then [xs[i]] else []) := by
    rw [List.take_add_one, List.getElem?_eq_getElem hi, List.filter_append]
    simp only [Option.toList_some]
    by_cases hc : c xs[i] = true
    · rw [if_pos hc]; simp [hc]
    · rw [if_neg hc]; simp [hc]
  cases hc : c xs[i] with
  | true =>
    rw [if_pos rfl]
    refine he _ hm hc H3 (e.trans e3) _ fun H4 e4 => ⟨_, e4 D _ (e3 D _ hl), ?_, Ex.mut ((e.trans e3).trans e4) hD, ?_⟩
    · have := List.length_filter_le c (xs.take i)
      rw [List.length_map]
      rw [List.length_take] at this
      omega
    · rw [upd_same, tk, hc, if_pos rfl, List.map_append]
      rfl
  | false =>
    rw [if_neg Bool.false_ne_true]
    refine ⟨e.trans e3, ?_⟩
    rw [tk, hc, if_neg Bool.false_ne_true, List.append_nil]
    exact e3 D _ hl
end
section
variable {K : PySem.W.Frag} {σ : L2.St} {H1 : Hp} {J : It} {G : Hp → Prop} {te : TE} {tt : TT}
/-- one name, no condition -/
theorem lcM {α : Type} {xs : List α} {f : α → V} (w : L2.Walk J (xs.map f).length G (YAt (xs.map f))) (r : α → V) {j : Nat} {vs : List Nat} (hz : xs.length < sizeLine) (hG : ∀ H', Ex H1 H' → G H') (hw : ∀ v, wipe ((wipe σ vs).set j (some v)) vs = wipe σ vs)
    (he : ∀ v ∈ xs, ∀ H', Ex H1 H' → ∀ Q : VK, (∀ H'', Ex H' H'' → Q (r v) H'') → te ((wipe σ vs).set j (some (f v))) H' Q) {Qd : Hp → Prop} {D : Addr} (hD : H1 D = none) (k : ∀ H', Ex H1 H' → H' D = some (.lst (xs.map r)) → Qd H') :
    ∃ W : Nat → Nat → Hp → Prop, (∃ m, W 0 m (upd H1 D (.lst []))) ∧ ∀ i m H, W i m H →
      (J.stop i H ∧ Qd H) ∨ (J.go i H ∧ ∃ Nx : Hp → Prop, (∀ H', Nx H' → ∃ m', m' < m ∧ W (i + 1) m' H') ∧ ∀ x H', J.yld i H x H' → gName j x (wipe σ vs) H' fun σ2 H2 => wipe σ2 vs = wipe σ vs ∧ tYes σ2 H2 fun b H3 =>
        if b = true then te σ2 H3 fun y H4 => ∃ acc, H4 D = some (.lst acc) ∧ acc.length < sizeLine ∧ Nx (upd H4 D (.lst (acc ++ [y]))) else Nx H3) :=
  lcF w (fun _ => true) r hz hG hw (fun v _ H' _ Q q => q H' (Ex.refl _)) (fun v hv _ => he v hv) hD fun H' e h => k H' e (by rwa [List.filter_eq_self.mpr (fun _ _ => rfl)] at h)
end
end HR
set_option maxRecDepth 100000
set_option maxHeartbeats 4000000
namespace HR
open PySem L2
theorem toList_inj {x y : Str} (h : x.cps.toList = y.cps.toList) : x = y := by
  obtain ⟨a⟩ := x
  obtain ⟨b⟩ := y
  have : a = b := Array.ext' h
  rw [this]
/-! ### ascending texts -/
def Asc (l : List Str) : Prop := l.Pairwise fun a b => a.cps.toList < b.cps.toList
instance (l : List Str) : Decidable (Asc l) := by unfold Asc; infer_instance
theorem lt_irr (a : Str) : ¬ a.cps.toList < a.cps.toList := List.lt_irrefl _
theorem lt_tri {a b : Str} (h1 : ¬ a.cps.toList < b.cps.toList) (h2 : ¬ b.cps.toList < a.cps.toList) : a = b := toList_inj (List.le_antisymm (List.not_lt.mp h2) (List.not_lt.mp h1))
theorem rise_pw : ∀ (l : List Str), PyProof.Rows.sortedS l = true → l.Pairwise fun a b => ¬ b.cps.toList < a.cps.toList
  | [], _ => List.Pairwise.nil
  | x :: l, h => by
    have go : ∀ (l : List Str) (p : Str), PyProof.Rows.risingS p l = true → (p :: l).Pairwise fun a b => ¬ b.cps.toList < a.cps.toList := by
      intro l
      induction l with
      | nil => intro p _; exact List.pairwise_singleton _ _
      | cons y l ih =>
        intro p h
        rw [PyProof.Rows.risingS, Bool.and_eq_true, Bool.not_eq_true', PyProof.Rows.ltCps_eq, decide_eq_false_iff_not] at h
        have hp := ih y h.2
        refine List.pairwise_cons.mpr ⟨fun z hz => ?_, hp⟩
        rcases List.mem_cons.mp hz with e | e
        · rw [e]; exact h.1
        · have hyz := (List.pairwise_cons.mp hp).1 z e
          exact fun q => h.1 (List.lt_of_le_of_lt (List.not_lt.mp hyz) q)
    exact go l x h
theorem asc_of {ys : List Str} (so : PyProof.Rows.sortedS ys = true) (nd : ys.Nodup) : Asc ys := by
  have h := rise_pw ys so
  unfold Asc
  refine List.Pairwise.imp₂ (R := fun a b => ¬ b.cps.toList < a.cps.toList) (S := fun a b => a ≠ b) (fun a b h1 h2 => ?_) h nd
  rcases Classical.em (a.cps.toList < b.cps.toList) with c | c
  · exact c
  · exact absurd (lt_tri c h1) h2
theorem asc_nodup {l : List Str} (h : Asc l) : l.Nodup := List.Pairwise.imp (fun {a b} q e => by rw [e] at q; exact lt_irr _ q) h
theorem asc_same : ∀ {xs ys : List Str}, Asc xs → Asc ys → (∀ z, z ∈ xs ↔ z ∈ ys) → xs = ys
  | [], [], _, _, _ => rfl
  | [], y :: ys, _, _, m => absurd ((m y).mpr List.mem_cons_self) (by simp)
  | x :: xs, [], _, _, m => absurd ((m x).mp List.mem_cons_self) (by simp)
  | x :: xs, y :: ys, hx, hy, m => by
    obtain ⟨x1, x2⟩ := List.pairwise_cons.mp hx
    obtain ⟨y1, y2⟩ := List.pairwise_cons.mp hy
    have e : x = y := by
      rcases List.mem_cons.mp ((m x).mp List.mem_cons_self) with e | e
      · exact e
      · rcases List.mem_cons.mp ((m y).mpr List.mem_cons_self) with e2 | e2
        · exact e2.symm
        · exact absurd (List.lt_trans (x1 y e2) (y1 x e)) (lt_irr _)
    subst e
    rw [asc_same x2 y2 fun z => ?_]
    constructor
    · intro h
      rcases List.mem_cons.mp ((m z).mp (List.mem_cons_of_mem _ h)) with e | e
      · exact absurd (x1 z h) (by rw [e]; exact lt_irr _)
      · exact e
    · intro h
      rcases List.mem_cons.mp ((m z).mpr (List.mem_cons_of_mem _ h)) with e | e
      · exact absurd (y1 z h) (by rw [e]; exact lt_irr _)
      · exact e
end HR
set_option maxRecDepth 100000
set_option maxHeartbeats 4000000
/-! a set whose elements are found by any kind of key that stands on the heap -/
namespace SetH
open PySem PySem.Spec PyProof.Rows L2
variable {P : Program} {w : World} {κ : Type} [DecidableEq κ]
/-- what of a kind is asked for sets -/
structure SK (knd : HeapKind P w κ) : Prop where
  noClass : ∀ {A : Around} {E : Value → Shared → Prop} {s : Shared} {k : κ} {b : Addr} {Q : Bool → Shared → Prop}, knd.is s.heap k b → Q false s → wpAny (model P w) A (ofAClassStatement 8 (.ref b)) Q E s
  valued : ∀ {A : Around} {E : Value → Shared → Prop} {s : Shared} {k : κ} {b : Addr} {Q : Bool → Shared → Prop}, knd.is s.heap k b → (∀ v, Q v s) → wpAny (model P w) A (hashByValue 8 (.ref b)) Q E s
  apart : ∀ {h h' : Heap} {k : κ} {a b : Addr} {o : Obj} {es : Array (Int × Value)} {ep : Nat} {t : SetTable}, knd.is h k b → h.get? a = some o → o.data = .set es ep t → Heap.SameBut a h h' → knd.is h' k b
  keep : ∀ {h h' : Heap} {k : κ} {b : Addr}, knd.is h k b → (∀ o, h.get? b = some o → h'.get? b = some o) → knd.is h' k b
  lies : ∀ {h : Heap} {k : κ} {b : Addr}, knd.is h k b → b < h.objs.size
section
variable {knd : HeapKind P w κ} {A : Around} {E : Value → Shared → Prop} {s : Shared}
/-- while a search goes on among such keys nothing is shown -/
theorem unseen (S : SK knd) {k : κ} {b : Addr} {Q : Bool → Shared → Prop} (hk : knd.is s.heap k b) {ys : List Value} (hy : ∀ y ∈ ys, ∃ k' c, y = Value.ref c ∧ knd.is s.heap k' c) (h : Q false s) :
    wpAny (model P w) A (searchCouldBeSeen (.ref b) ys) Q E s := by
  unfold searchCouldBeSeen
  refine wpAny_bind (wpAny_forIn_list _ (fun todo r s1 => r.1 = none ∧ s1 = s ∧ ∀ y ∈ todo, ∃ k' c, y = Value.ref c ∧ knd.is s.heap k' c) _ ?_ ?_ _ _ ⟨rfl, rfl, hy⟩)
  · rintro v todo ⟨r1, r2⟩ s1 ⟨e1, e2, all⟩
    dsimp only at e1
    subst e1 e2
    obtain ⟨k', c, rfl, hc⟩ := all v List.mem_cons_self
    have more : ∀ y ∈ todo, ∃ k' c, y = Value.ref c ∧ knd.is s1.heap k' c := fun y hm => all y (List.mem_cons_of_mem _ hm)
    dsimp only
    by_cases hv : (b == c || (carriedByValue (.ref b) && carriedByValue (.ref c))) = true
    · exact wp_if_pos hv (wpAny_pure ⟨rfl, rfl, more⟩)
    · refine wp_if_neg hv (wpAny_bind (knd.quiet hk ?_))
      simp only [Bool.not_true, Bool.false_eq_true, if_false]
      refine wpAny_bind (knd.quiet hc ?_)
      simp only [Bool.not_true, Bool.false_eq_true, if_false]
      refine wpAny_bind (S.noClass hk ?_)
      simp only [Bool.false_eq_true, if_false]
      refine wpAny_bind (S.noClass hc ?_)
      simp only [Bool.false_eq_true, if_false]
      exact wpAny_pure ⟨rfl, rfl, more⟩
  · rintro ⟨r1, r2⟩ s1 ⟨e1, e2, _⟩
    dsimp only at e1
    subst e1 e2
    exact wpAny_pure h
/-- the rows of the table, in the order in which they lie -/
def row (knd : HeapKind P w κ) (p : Addr × κ) : Int × Value := (knd.hash p.2, .ref p.1)
structure Held (knd : HeapKind P w κ) (h : Heap) (a : Addr) (L : List (Addr × κ)) (es : Array (Int × Value)) (ep : Nat) (t : SetTable) : Prop where
  at_ : ∃ o, h.get? a = some o ∧ o.ExactSet ∧ o.data = .set es ep t
  rows : es.toList = L.map (row knd)
  tab : TabOk t (L.map fun p => knd.hash p.2)
  nd : (L.map Prod.snd).Nodup
  own : ∀ p ∈ L, knd.is h p.2 p.1
  led : w.params.followText "set-order" = true ∨ t.led = true
  wide : L.length * 5 < t.mask * 3
  few : L.length < 64
variable {a : Addr} {L : List (Addr × κ)} {es : Array (Int × Value)} {ep : Nat} {t : SetTable}
theorem rows_size (hr : es.toList = L.map (row knd)) : es.size = L.length := by
  rw [← Array.length_toList, hr, List.length_map]
theorem rows_at (hr : es.toList = L.map (row knd)) {i : Nat} {p : Addr × κ} (h : L[i]? = some p) : es[i]? = some (knd.hash p.2, .ref p.1) := by
  rw [← Array.getElem?_toList, hr, List.getElem?_map, h]
  rfl
theorem Held.tsize {h : Heap} (R : Held knd h a L es ep t) : t.place.size = L.length := by
  have := R.tab.sz
  rwa [List.length_map] at this
theorem Held.fits {h : Heap} (R : Held knd h a L es ep t) : t.fits es.size = true := by
  have h1 := R.tsize
  have h2 := rows_size R.rows
  have h3 := R.wide
  unfold SetTable.fits SetTable.fill
  rw [R.tab.dm, Bool.and_eq_true, beq_iff_eq, decide_eq_true_eq]
  exact ⟨h1.trans h2.symm, by show t.place.size + 0 ≤ t.mask; omega⟩
/-- the c-th step of the way of hh -/
def stp (t : SetTable) (hh : Int) (c : Nat) : SetTable.Probe := nth t.mask (runAt t.mask (SetTable.bits hh % (t.mask + 1)) (SetTable.bits hh)) c
theorem stp_clear (t : SetTable) (hh : Int) (c : Nat) : (stp t hh c).dummy = none := by
  have all : ∀ (n : Nat) (p : SetTable.Probe), p.dummy = none → (nth t.mask p n).dummy = none := by
    intro n
    induction n with
    | zero => exact fun p h => h
    | succ n ih =>
      intro p h
      have h1 : (adv t.mask p).dummy = none := by unfold adv; split <;> exact h
      exact ih (adv t.mask p) h1
  exact all c _ rfl
theorem stp_on (t : SetTable) (hh : Int) (c q : Nat) : nth t.mask (stp t hh c) q = stp t hh (c + q) := (nth_add t.mask c _ q).symm
theorem even_no {m : Nat} {t : SetTable} (h : t.mask = m) (hm : MaskOk m) : ¬ t.gaveWay = true := by
  unfold SetTable.gaveWay
  rw [h, mask_odd hm]
  decide
/-- from any step of the way on, n steps ahead of the free slot -/
theorem seek (S : SK knd) (R : Held knd s.heap a L es ep t) {x : Addr} {k : κ} (hx : knd.is s.heap k x) (hu : knd.room A) {K : Nat} (hf : K < 10 * SetTable.turns t.mask) (hK : way t.mask (knd.hash k) K ∉ t.place.toList)
    (hb : ∀ c, c < K → way t.mask (knd.hash k) c ∈ t.place.toList) {Q : SetFound → Shared → Prop} (yes : k ∈ L.map Prod.snd → Q (.there none) s) (no : k ∉ L.map Prod.snd → Q (.free (way t.mask (knd.hash k) K) false) s) :
    ∀ (n fuel c : Nat) (st : Option SetTable.Probe), c + n = K → n < fuel → st.getD (t.probeStart (knd.hash k)) = stp t (knd.hash k) c →
      (∀ (i : Nat) p, L[i]? = some p → p.2 = k → ∃ c', c ≤ c' ∧ c' < K ∧ t.place.toList[i]? = some (way t.mask (knd.hash k) c')) →
      wpAny (model P w) A (setSearchFrom a (.ref x) (knd.hash k) true fuel st) Q E s := by
  intro n
  induction n using Nat.strongRecOn with
  | _ n ih =>
    intro fuel c st hc hfu hst ahead
    obtain ⟨fuel, rfl⟩ : ∃ f, fuel = f + 1 := ⟨fuel - 1, by omega⟩
    obtain ⟨o, ho, hex, hd⟩ := R.at_
    rw [setSearchFrom_succ]
    refine wpAny_bind (wpAny_setState_of ho hd R.fits ?_)
    dsimp only
    refine wp_if_neg (even_no rfl R.tab.mok) ?_
    try refine wpAny_bind (wpAny_pure ?_)
    have jw : ∀ q, (nth t.mask (stp t (knd.hash k) c) q).j = way t.mask (knd.hash k) (c + q) := fun q => congrArg SetTable.Probe.j (stp_on t _ c q)
    have hashed : ∀ (i : Nat) p, L[i]? = some p → (es[i]?.map Prod.fst).getD 0 = knd.hash p.2 := fun i p hp => by rw [rows_at R.rows hp]; rfl
    have out := go_spec t R.tab.ris R.tab.dm (fun i => (es[i]?.map (·.1)).getD 0) (knd.hash k) (10 * SetTable.turns t.mask) n (stp t (knd.hash k) c) (stp_clear t _ c) (by omega) (fun q hq => by rw [jw]; exact hb _ (by omega)) (by rw [jw, hc]; exact hK)
    rcases out with ⟨q, i, hq, hi, hh, first, hp⟩ | ⟨none_, hp⟩
    · have hp' : t.probe (fun i => (es[i]?.map (·.1)).getD 0) (knd.hash k) (st.getD (t.probeStart (knd.hash k))) = some (.candidate (way t.mask (knd.hash k) (c + q)) i (stp t (knd.hash k) (c + (q + 1)))) := by
        rw [hst, ← jw, ← stp_on]
        exact hp
      rw [hp']
      dsimp only
      rw [jw] at hi
      have hil : i < L.length := by
        have := (List.getElem?_eq_some_iff.mp hi).1
        rw [Array.length_toList, R.tsize] at this
        exact this
      obtain ⟨p, hpi⟩ : ∃ p, L[i]? = some p := ⟨L[i], List.getElem?_eq_getElem hil⟩
      have hpm := List.mem_of_getElem? hpi
      have hpk := R.own p hpm
      have go : wpAny (model P w) A (searchRest a (.ref x) (knd.hash k) true fuel es t (way t.mask (knd.hash k) (c + q)) i (stp t (knd.hash k) (c + (q + 1)))) Q E s := by
        unfold searchRest
        rw [rows_at R.rows hpi]
        dsimp only
        refine wpAny_bind (wpAny_holding (knd.eqBool hu hpk hx (wpAny_bind (wpAny_setState_of ho hd R.fits ?_))))
        dsimp only
        by_cases same : p.2 = k
        · exact wp_if_pos (by simp [same]) (wpAny_pure (yes (List.mem_map.mpr ⟨p, hpm, same⟩)))
        · refine wp_if_neg (by simp [same]) ?_
          try refine wpAny_bind (wpAny_pure ?_)
          rw [sameMem]
          dsimp only
          have live : t.slot (way t.mask (knd.hash k) (c + q)) = .live i := slot_live R.tab.ris hi
          simp only [if_true, live, rows_at R.rows hpi]
          refine wpAny_bind (wpAny_isSame_ref_self (wpAny_bind (wpAny_pure ?_)))
          simp only [if_true]
          refine wp_if_neg (by simp [same]) ?_
          refine ih (n - (q + 1)) (by omega) fuel (c + (q + 1)) _ (by omega) (by omega) rfl fun i0 p0 h0 k0 => ?_
          obtain ⟨c', l1, l2, l3⟩ := ahead i0 p0 h0 k0
          refine ⟨c', ?_, l2, l3⟩
          by_cases lt : c' < c + q
          · exact absurd ((hashed i0 p0 h0).trans (congrArg knd.hash k0)) (first (c' - c) i0 (by omega) (by rw [jw, show c + (c' - c) = c' by omega]; exact l3))
          · by_cases eq : c' = c + q
            · subst eq
              have l4 := slot_live R.tab.ris l3
              rw [live] at l4
              obtain rfl : i = i0 := by injection l4
              rw [hpi] at h0
              obtain rfl := Option.some.inj h0
              exact absurd k0 same
            · omega
      by_cases hl : t.led = true
      · refine wp_if_neg (by simp [hl]) ?_
        try refine wpAny_bind (wpAny_pure ?_)
        exact go
      · refine wp_if_pos (by simp [hl]) (wpAny_bind (unseen S hx (fun y hy => ?_) ?_))
        · obtain ⟨e, he, rfl⟩ := List.mem_map.mp hy
          have he2 : e ∈ es.toList := by
            have : e ∈ es ∧ e.1 = knd.hash k := by simpa using he
            simpa using this.1
          rw [R.rows] at he2
          obtain ⟨p2, hm2, rfl⟩ := List.mem_map.mp he2
          exact ⟨p2.2, p2.1, rfl, R.own p2 hm2⟩
        · refine wp_if_neg (by decide) ?_
          try refine wpAny_bind (wpAny_pure ?_)
          exact go
    · have hp' : t.probe (fun i => (es[i]?.map (·.1)).getD 0) (knd.hash k) (st.getD (t.probeStart (knd.hash k))) = some (.empty (way t.mask (knd.hash k) K) none) := by
        have e := jw n
        rw [hc] at e
        rw [hst, ← e]
        exact hp
      rw [hp']
      dsimp only
      refine wpAny_pure (no fun hm => ?_)
      obtain ⟨p0, hm0, k0⟩ := List.mem_map.mp hm
      obtain ⟨i0, h0⟩ := List.getElem?_of_mem hm0
      obtain ⟨c', l1, l2, l3⟩ := ahead i0 p0 h0 k0
      exact none_ (c' - c) i0 (by omega) (by rw [jw, show c + (c' - c) = c' by omega]; exact l3) ((hashed i0 p0 h0).trans (congrArg knd.hash k0))
/-- the search of an add -/
theorem sought (S : SK knd) (R : Held knd s.heap a L es ep t) {x : Addr} {k : κ} (hx : knd.is s.heap k x) (hu : knd.room A) {Q : SetFound → Shared → Prop} (yes : k ∈ L.map Prod.snd → Q (.there none) s)
    (no : ∀ K, k ∉ L.map Prod.snd → way t.mask (knd.hash k) K ∉ t.place.toList → (∀ c, c < K → way t.mask (knd.hash k) c ∈ t.place.toList) → Q (.free (way t.mask (knd.hash k) K) false) s) :
    wpAny (model P w) A (setSearch a (.ref x) (knd.hash k) true) Q E s := by
  have wd := R.wide
  obtain ⟨K, hf, hK, hb⟩ := R.tab.first (by rw [List.length_map]; omega) (knd.hash k)
  have turns : 10 * SetTable.turns t.mask ≤ 1420 := by
    unfold SetTable.turns
    rcases R.tab.mok with e | e | e <;> omega
  unfold setSearch
  refine seek S R hx hu hf hK hb yes (fun hn => no K hn hK hb) K 100000 0 none (Nat.zero_add K) (by omega) rfl fun i p hp hk => ?_
  have h1 : (L.map fun p => knd.hash p.2)[i]? = some (knd.hash k) := by rw [List.getElem?_map, hp, ← hk]; rfl
  have h2 : i < t.place.toList.length := by
    rw [Array.length_toList, R.tsize]
    exact (List.getElem?_eq_some_iff.mp hp).1
  obtain ⟨c, hc, e⟩ := R.tab.before hK h1 (List.getElem?_eq_getElem h2)
  exact ⟨c, Nat.zero_le _, hc, by rw [List.getElem?_eq_getElem h2, e]⟩
/-- the elements in a new order -/
theorem range_all {α : Type} : ∀ l : List α, (List.range l.length).filterMap (fun i => l[i]?) = l
  | [] => rfl
  | x :: l => by
    have e : (fun i => (x :: l)[i]?) 0 = some x := rfl
    rw [List.length_cons, List.range_succ_eq_map, List.filterMap_cons_some e, List.filterMap_map]
    exact congrArg (x :: ·) (range_all l)
theorem turned (hr : es.toList = L.map (row knd)) {order : Array Nat} (hp : order.toList.Perm (List.range L.length)) :
    ∃ Lm : List (Addr × κ), (order.filterMap (es[·]?)).toList = Lm.map (row knd) ∧ Lm.Perm L ∧ (Lm.map fun p => knd.hash p.2) = order.toList.map fun i => (es.map (·.1)).getD i 0 := by
  have low : ∀ i ∈ order.toList, i < L.length := fun i hi => List.mem_range.mp (hp.mem_iff.mp hi)
  have each : ∀ l : List Nat, (∀ i ∈ l, i < L.length) → l.filterMap (fun i => es[i]?) = (l.filterMap fun i => L[i]?).map (row knd) ∧ ((l.filterMap fun i => L[i]?).map fun p => knd.hash p.2) = l.map fun i => (es.map (·.1)).getD i 0 := by
    intro l
    induction l with
    | nil => exact fun _ => ⟨rfl, rfl⟩
    | cons i l ih =>
      intro hl
      have hi := hl i List.mem_cons_self
      obtain ⟨e1, e2⟩ := ih fun j hj => hl j (List.mem_cons_of_mem _ hj)
      have hL : L[i]? = some L[i] := List.getElem?_eq_getElem hi
      have hE := rows_at hr hL
      have hG : (es.map (·.1)).getD i 0 = knd.hash L[i].2 := by
        have h0 : (es.map (·.1))[i]? = some (knd.hash L[i].2) := by rw [Array.getElem?_map, hE]; rfl
        rw [Array.getD_eq_getD_getElem?, h0]
        rfl
      rw [List.filterMap_cons_some hE, List.filterMap_cons_some hL, List.map_cons, List.map_cons, List.map_cons, e1, e2, hG]
      exact ⟨rfl, rfl⟩
  obtain ⟨e1, e2⟩ := each order.toList low
  refine ⟨_, by rw [Array.toList_filterMap]; exact e1, ?_, e2⟩
  have h := hp.filterMap fun i => L[i]?
  rwa [range_all] at h
theorem fits_of {h : Heap} (hs : t.place.size = es.size) (dm : t.dummies = #[]) (hl : es.size ≤ t.mask) : t.fits es.size = true := by
  unfold SetTable.fits SetTable.fill
  rw [dm, Bool.and_eq_true, beq_iff_eq, decide_eq_true_eq]
  exact ⟨hs, by show t.place.size + 0 ≤ t.mask; omega⟩
/-- all laid anew in a larger table -/
theorem relay (S : SK knd) {o : Obj} (ho : s.heap.get? a = some o) (hex : o.ExactSet) (hd : o.data = .set es ep t) (hr : es.toList = L.map (row knd)) (hs : t.place.size = L.length) (dm : t.dummies = #[]) (hl : L.length ≤ t.mask) (nd : (L.map Prod.snd).Nodup)
    (own : ∀ p ∈ L, knd.is s.heap p.2 p.1) (ld : w.params.followText "set-order" = true ∨ t.led = true) (few : L.length < 64) {want M : Nat} (hw : SetTable.sizeAbove want - 1 = M) (hM : MaskOk M) (h128 : SetTable.sizeAbove want ≤ 128) (hn : L.length * 5 < M * 3)
    {Q : Unit → Shared → Prop} (hQ : ∀ h' L' es' ep' t', Heap.SameBut a s.heap h' → Held knd h' a L' es' ep' t' → L'.Perm L → Q () { s with heap := h' }) : wpAny (model P w) A (setRelay a want) Q E s := by
  have sz := rows_size hr
  obtain ⟨t', order, er, hp, T, tm, tl, tp, td⟩ := relaid_ok t (hs := es.map (·.1)) (wanted := want) hw hM (by rw [Array.size_map, sz]; omega)
  rw [Array.size_map, sz] at hp
  obtain ⟨Lm, r1, r2, r3⟩ := turned hr hp
  rw [← r3] at T
  have sz2 : (order.filterMap (es[·]?)).size = es.size := by rw [rows_size r1, r2.length_eq, sz]
  rw [setRelay_eq]
  refine wpAny_bind (wpAny_setState_of ho hd (fits_of (h := s.heap) (hs.trans sz.symm) dm (by omega)) ?_)
  dsimp only
  refine wp_if_neg (by rw [sizeLine_eq]; omega) ?_
  try refine wpAny_bind (wpAny_pure ?_)
  rw [er]
  dsimp only
  refine wpAny_bind (wp_if_neg (by rw [sz2]; simp) ?_)
  try refine wpAny_bind (wpAny_pure ?_)
  refine wpAny_pure ?_
  dsimp only
  refine wpAny_storeSet_of ho hd ?_ (by rw [sz2, sz, sizeLine_eq]; omega)
  have sb : Heap.SameBut a s.heap (s.heap.update a (Obj.putSet (order.filterMap (es[·]?)) t')) := Heap.SameBut.update ..
  exact hQ _ Lm _ (ep + 1) t' sb ⟨⟨_, store_at ho hd, ⟨hex.1, hex.2.1, hex.2.2⟩, rfl⟩, r1, T, (r2.map Prod.snd).nodup_iff.mpr nd, fun p hm => S.apart (own p (r2.mem_iff.mp hm)) ho hd sb, by rw [tl]; exact ld, by rw [r2.length_eq, tm]; exact hn, by rw [r2.length_eq]; exact few⟩ r2
/-- an element added -/
theorem added (S : SK knd) (R : Held knd s.heap a L es ep t) {x : Addr} {k : κ} (hx : knd.is s.heap k x) (hu : knd.room A) (few : L.length + 1 < 64) {Q : Bool → Shared → Prop}
    (hQ : ∀ b h' L' es' ep' t', Heap.SameBut a s.heap h' → Held knd h' a L' es' ep' t' → (k ∈ L.map Prod.snd → L' = L) → (k ∉ L.map Prod.snd → L'.Perm ((x, k) :: L)) → Q b { s with heap := h' }) :
    wpAny (model P w) A (setAddHashed a (.ref x) (knd.hash k)) Q E s := by
  obtain ⟨o, ho, hex, hd⟩ := R.at_
  have sz := rows_size R.rows
  have wd := R.wide
  unfold setAddHashed
  rw [show (100000 : Nat) = 99999 + 1 from rfl, setAddHashedIn_succ]
  refine wpAny_holding (wpAny_bind (wpAny_setState_of ho hd R.fits ?_))
  dsimp only
  refine wp_if_neg (by simp [byScan, Value.scannable]) ?_
  try refine wpAny_bind (wpAny_pure ?_)
  refine wpAny_bind (sought S R hx hu (fun hm => wpAny_pure (hQ false s.heap L es ep t (Heap.SameBut.refl a s.heap) R (fun _ => rfl) fun z => absurd hm z)) fun K hm hK hb => ?_)
  dsimp only
  refine wpAny_bind (wpAny_setState_of ho hd R.fits ?_)
  dsimp only
  obtain ⟨q1, q2, q3, q4, q5, _, _, _, q9⟩ := R.tab.put hK hb
  generalize hj : SetTable.below t.place (way t.mask (knd.hash k) K) = j at q1 q2 q3
  generalize hpt : t.put (way t.mask (knd.hash k) K) = pt at q1 q3 q4 q5 q9 ⊢
  obtain ⟨t0, j'⟩ := pt
  dsimp only at q1 q3 q4 q5 q9 ⊢
  subst q1
  suffices tail : ∀ t1 : SetTable, TabOk t1 ((L.map fun p => knd.hash p.2).take j' ++ knd.hash k :: (L.map fun p => knd.hash p.2).drop j') → t1.mask = t.mask → t1.led = t.led → t1.fill = (L.map fun p => knd.hash p.2).length + 1 → wpAny (model P w) A (do
      storeSet a (SetTable.insertAt es j' (knd.hash k, Value.ref x)) t1
      if (!false && t1.tooFull) = true then do
          setRelay a (SetTable.grown (es.size + 1))
          pure true
        else pure true) Q E s by
    have t9 := tail t0 q3 q4 q5 q9
    have t8 := tail { t0 with plain := false } ⟨q3.ris, q3.dm, q3.sz, q3.mok, q3.bd, q3.reach⟩ q4 q5 q9
    by_cases hp : t0.plain = true
    · refine wp_if_pos hp (wpAny_bind (S.valued hx fun v => ?_))
      cases v with
      | true => simpa using t9
      | false => simpa using t8
    · refine wp_if_neg hp ?_
      first
        | exact t9
        | simpa using t9
  intro t1 q3 q4 q5 q9
  have pm : (L.take j' ++ (x, k) :: L.drop j').Perm ((x, k) :: L) := put_perm L j' (x, k)
  have r1 : (SetTable.insertAt es j' (knd.hash k, Value.ref x)).toList = (L.take j' ++ (x, k) :: L.drop j').map (row knd) := by
    rw [SetTable.toList_insertAt, R.rows, List.map_append, List.map_cons, List.map_take, List.map_drop]
    rfl
  have hh : (L.take j' ++ (x, k) :: L.drop j').map (fun p => knd.hash p.2) = (L.map fun p => knd.hash p.2).take j' ++ knd.hash k :: (L.map fun p => knd.hash p.2).drop j' := by
    rw [List.map_append, List.map_cons, List.map_take, List.map_drop]
  rw [← hh] at q3
  generalize L.take j' ++ (x, k) :: L.drop j' = L1 at pm r1 q3
  have sz1 := rows_size r1
  have l1 : L1.length = L.length + 1 := pm.length_eq
  generalize SetTable.insertAt es j' (knd.hash k, Value.ref x) = es1 at r1 sz1 ⊢
  have nd1 : (L1.map Prod.snd).Nodup := (pm.map Prod.snd).nodup_iff.mpr (List.nodup_cons.mpr ⟨hm, R.nd⟩)
  have ts1 : t1.place.size = L1.length := by
    have := q3.sz
    rwa [List.length_map] at this
  refine wpAny_bind (wpAny_storeSet_of ho hd ?_ (by rw [sz1, l1, sizeLine_eq]; omega))
  have sb : Heap.SameBut a s.heap (s.heap.update a (Obj.putSet es1 t1)) := Heap.SameBut.update ..
  have ho1 := store_at (es' := es1) (t' := t1) ho hd
  generalize s.heap.update a (Obj.putSet es1 t1) = h1 at sb ho1 ⊢
  have own1 : ∀ p ∈ L1, knd.is h1 p.2 p.1 := fun p hp => by
    rcases List.mem_cons.mp (pm.mem_iff.mp hp) with rfl | hp
    · exact S.apart hx ho hd sb
    · exact S.apart (R.own p hp) ho hd sb
  have led1 : w.params.followText "set-order" = true ∨ t1.led = true := by rw [q5]; exact R.led
  have full : t1.tooFull = decide ((L.length + 1) * 5 ≥ t.mask * 3) := by
    unfold SetTable.tooFull
    rw [q9, q4, List.length_map]
  by_cases hf : t1.tooFull = true
  · rw [full, decide_eq_true_eq] at hf
    have which : (t.mask = 7 ∧ L.length = 4) ∨ (t.mask = 31 ∧ L.length = 18) := by
      rcases R.tab.mok with e | e | e <;> rw [e] at hf wd
      · exact .inl ⟨e, by omega⟩
      · exact .inr ⟨e, by omega⟩
      · omega
    have onto : ∀ M, SetTable.sizeAbove (SetTable.grown (L.length + 1)) - 1 = M → MaskOk M → SetTable.sizeAbove (SetTable.grown (L.length + 1)) ≤ 128 → (L.length + 1) * 5 < M * 3 →
        wpAny (model P w) A (setRelay a (SetTable.grown (L.length + 1))) (fun _ s1 => wpAny (model P w) A (pure true) Q E s1) E { s with heap := h1 } := fun M w1 w2 w3 w4 =>
      relay S (s := { s with heap := h1 }) ho1 ⟨hex.1, hex.2.1, hex.2.2⟩ rfl r1 ts1 q3.dm (by rw [l1, q4]; rcases which with ⟨e, e2⟩ | ⟨e, e2⟩ <;> omega) nd1 own1 led1 (by rw [l1]; exact few) w1 w2 w3 (by rw [l1]; exact w4)
        fun h2 Lm es2 ep2 t2 sb2 R2 pm2 => wpAny_pure (hQ true h2 Lm es2 ep2 t2 (sb.trans sb2) R2 (fun z => absurd z hm) fun _ => pm2.trans pm)
    have hf1 : (!false && t1.tooFull) = true := by rw [full, decide_eq_true hf]; rfl
    rw [sz]
    first
      | refine wp_if_pos hf1 (wpAny_bind ?_)
      | refine wpAny_bind (wp_if_pos hf1 ?_)
    rcases which with ⟨_, e2⟩ | ⟨_, e2⟩
    · exact onto 31 (by rw [e2, size_20]) (.inr (.inl rfl)) (by rw [e2, size_20]; decide) (by omega)
    · exact onto 127 (by rw [e2, size_76]) (.inr (.inr rfl)) (by rw [e2, size_76]; decide) (by omega)
  · have hf1 : ¬ (!false && t1.tooFull) = true := fun z => hf (by simpa using z)
    refine wp_if_neg hf1 (wpAny_pure (hQ true h1 L1 es1 (ep + 1) t1 sb ⟨⟨_, ho1, ⟨hex.1, hex.2.1, hex.2.2⟩, rfl⟩, r1, q3, nd1, own1, led1, ?_, by rw [l1]; exact few⟩ (fun z => absurd z hm) fun _ => pm))
    rw [full, decide_eq_true_eq] at hf
    rw [l1, q4]
    omega
theorem Held.move (S : SK knd) {h h' : Heap} (R : Held knd h a L es ep t) (k0 : ∀ o, h.get? a = some o → h'.get? a = some o) (k1 : ∀ p ∈ L, ∀ o, h.get? p.1 = some o → h'.get? p.1 = some o) : Held knd h' a L es ep t :=
  { R with at_ := let ⟨o, ho, r⟩ := R.at_; ⟨o, k0 o ho, r⟩, own := fun p hp => S.keep (R.own p hp) (k1 p hp) }
theorem Held.fresh {h : Heap} (ho : h.get? a = some (TSet.freshSet w)) : Held knd h a [] #[] 0 (.fresh 0 0 (!w.params.followText "set-order")) where
  at_ := ⟨_, ho, ⟨rfl, rfl, rfl⟩, rfl⟩
  rows := rfl
  tab := (setTR_fresh (P := P) (w := w) ho).tab
  nd := List.nodup_nil
  own := fun p hp => absurd hp List.not_mem_nil
  led := (setTR_fresh (P := P) (w := w) ho).led
  wide := by show 0 * 5 < 7 * 3; decide
  few := by show 0 < 64; decide
/-- what a set has taken from the first of the keys -/
structure Took (ks : List (Addr × κ)) (L : List (Addr × κ)) : Prop where
  from_ : ∀ p ∈ L, p ∈ ks
  got : ∀ q ∈ ks, q.2 ∈ L.map Prod.snd
  le : L.length ≤ ks.length
theorem Took.next {ks L L' : List (Addr × κ)} {q : Addr × κ} (T : Took ks L) (h1 : q.2 ∈ L.map Prod.snd → L' = L) (h2 : q.2 ∉ L.map Prod.snd → L'.Perm (q :: L)) : Took (ks ++ [q]) L' := by
  by_cases h : q.2 ∈ L.map Prod.snd
  · rw [h1 h]
    refine ⟨fun p hp => List.mem_append_left _ (T.from_ p hp), fun r hr => ?_, Nat.le_trans T.le (by simp)⟩
    rcases List.mem_append.mp hr with hr | hr
    · exact T.got r hr
    · rw [List.mem_singleton.mp hr]; exact h
  · have pm := h2 h
    refine ⟨fun p hp => ?_, fun r hr => ?_, by rw [pm.length_eq, List.length_cons, List.length_append]; exact Nat.succ_le_succ T.le⟩
    · rcases List.mem_cons.mp (pm.mem_iff.mp hp) with rfl | hp
      · exact List.mem_append_right _ (List.mem_singleton.mpr rfl)
      · exact List.mem_append_left _ (T.from_ p hp)
    · rw [(pm.map Prod.snd).mem_iff, List.map_cons]
      rcases List.mem_append.mp hr with hr | hr
      · exact List.mem_cons_of_mem _ (T.got r hr)
      · rw [List.mem_singleton.mp hr]; exact List.mem_cons_self
/-- set(a list) -/
theorem set_list (S : SK knd) {l : Addr} {items : Array Value} (ks : List (Addr × κ)) {Q : Value → Shared → Prop} (hh : A.handled = none) (hl : s.heap.IsList l items) (hi : items.toList = ks.map fun p => Value.ref p.1) (hk : ∀ p ∈ ks, knd.is s.heap p.2 p.1) (few : ks.length < 63)
    (hu : ∀ B : Around, B.units ≤ A.units + 3 → knd.room B)
    (k : ∀ (h' : Heap) (tk : Nat) L es ep t, Held knd h' s.heap.objs.size L es ep t → Took ks L → (∀ b o, s.heap.get? b = some o → h'.get? b = some o) → Q (.ref s.heap.objs.size) { s with heap := h', toks := tk }) :
    wpAny (model P w) A (call (.type "set") [.ref l]) Q E s := by
  have len : items.size = ks.length := by rw [← Array.length_toList, hi, List.length_map]
  have low : ∀ p ∈ ks, p.1 < s.heap.objs.size := fun p hp => S.lies (hk p hp)
  refine TSet.made_any hh hl (fun i h => (∃ L es ep t, Held knd h s.heap.objs.size L es ep t ∧ Took (ks.take i) L) ∧ ∀ p ∈ ks, ∀ o, s.heap.get? p.1 = some o → h.get? p.1 = some o) ?_ ?_ ?_ ?_
  · rintro i h h' ⟨⟨L, es, ep, t, R, T⟩, kp⟩ e
    refine ⟨⟨L, es, ep, t, R.move S (fun o => e _ o (Nat.ne_of_lt (Nat.lt_succ_self _))) (fun p hp o => e _ o ?_), T⟩, fun p hp o g => e _ o ?_ (kp p hp o g)⟩
    · exact Nat.ne_of_lt (Nat.lt_succ_of_lt (low p (List.mem_of_mem_take (T.from_ p hp))))
    · exact Nat.ne_of_lt (Nat.lt_succ_of_lt (low p hp))
  · exact fun h e kp => ⟨⟨[], _, _, _, Held.fresh e, fun _ h => absurd h List.not_mem_nil, fun _ h => absurd h List.not_mem_nil, Nat.le_refl _⟩, fun p _ o g => kp _ o g⟩
  · rintro B i v s1 E1 Q1 hB hv ⟨⟨L, es, ep, t, R, T⟩, kp⟩ q
    have hv2 : items.toList[i]? = some v := by rw [Array.getElem?_toList]; exact hv
    rw [hi, List.getElem?_map] at hv2
    obtain ⟨p, hp, rfl⟩ := Option.map_eq_some_iff.mp hv2
    have hpm := List.mem_of_getElem? hp
    have hx : knd.is s1.heap p.2 p.1 := S.keep (hk p hpm) (kp p hpm)
    have room := hu B hB
    have tk : ks.take (i + 1) = ks.take i ++ [p] := by rw [List.take_add_one, hp]; rfl
    unfold setAdd
    refine wpAny_holding (wpAny_bind (knd.pyHash room hx ?_))
    refine added (s := { s1 with toks := s1.toks + knd.draws p.2 }) S R hx room (by have := T.le; rw [List.length_take] at this; omega) fun b h' L' es' ep' t' sb R' n1 n2 => ?_
    refine q b h' (s1.toks + knd.draws p.2) (Nat.le_add_right _ _) sb ⟨⟨L', es', ep', t', R', by rw [tk]; exact T.next n1 n2⟩, fun r hr o g => ?_⟩
    have ne : r.1 ≠ s.heap.objs.size := Nat.ne_of_lt (low r hr)
    rw [sb.2 r.1 ne]
    exact kp r hr o g
  · rintro h' tk ⟨⟨L, es, ep, t, R, T⟩, _⟩ keep
    rw [len, List.take_length] at T
    exact k h' tk L es ep t R T keep
end
end SetH
set_option maxRecDepth 100000
set_option maxHeartbeats 4000000
/-! set(a tuple) -/
namespace SetH
open PySem PySem.Spec PyProof.Rows L2 TSet
section
variable {P : Program} {w : World} {A : Around} {E : Value → Shared → Prop} {s : Shared}
/-- set(a tuple), for any way of adding -/
theorem made_tup {l : Addr} {items : Array Value} {Q : Value → Shared → Prop} (hh : A.handled = none) (hl : s.heap.IsTuple l items) (T : Nat → Heap → Prop)
    (fr : ∀ i h h', T i h → (∀ b o, b ≠ s.heap.objs.size + 1 → h.get? b = some o → h'.get? b = some o) → T i h')
    (zero : ∀ h, h.get? s.heap.objs.size = some (freshSet w) → (∀ b o, s.heap.get? b = some o → h.get? b = some o) → T 0 h)
    (add : ∀ (B : Around) i v (s1 : Shared) (E : Value → Shared → Prop) (Q : Bool → Shared → Prop), B.units ≤ A.units + 3 → items[i]? = some v → T i s1.heap →
      (∀ b h' tk, s1.toks ≤ tk → Heap.SameBut s.heap.objs.size s1.heap h' → T (i + 1) h' → Q b { s1 with heap := h', toks := tk }) → wpAny (model P w) B (setAdd s.heap.objs.size v) Q E s1)
    (k : ∀ (h' : Heap) (tk : Nat), T items.size h' → (∀ b o, s.heap.get? b = some o → h'.get? b = some o) → Q (.ref s.heap.objs.size) { s with heap := h', toks := tk }) :
    wpAny (model P w) A (call (.type "set") [.ref l]) Q E s := by
  obtain ⟨_, _, hmro⟩ := PySem.F.called_set.mro
  have made_ := PySem.F.called_set.made
  have sub_ := PySem.F.called_set.sub
  refine wpAny_call (codeAny_of_tree ?_)
  show wpAny (model P w) _ (callAny (.type "set") _) _ _ _
  refine wpAny_pure ⟨Code.quiet_builtin _ (by decide +kernel), codeAny_builtin PySem.F.entry_type_call ?_⟩
  rw [Around.under_plain (weight_type_call_type "set" [.ref l] []) rfl]
  have notT := PySem.F.called_set.notType
  have canC := PySem.F.called_set.canCreate
  have typC := PySem.F.typeCall_set_1 (.ref l)
  repeat (any_goals (first | assumption | wp_step))
  let S := s.heap.objs.size
  let hp1 := s.heap.push (freshSet w)
  refine codeAny_mono (code_set_led1 (.ref l) (E := E) (Q₁ := fun obj s1 => obj = .ref S ∧ s1 = { s with heap := hp1 }) ⟨rfl, rfl⟩) fun r s1 hr => ?_
  rcases r with _ | e
  case error => exact hr
  cases e with
  | ret obj =>
    obtain ⟨rfl, rfl⟩ := hr
    have atS : hp1.get? S = some (freshSet w) := Heap.get?_push_size _ rfl
    have tyS : Shared.TypeIs { s with heap := hp1 } (.ref S) "set" := ⟨_, atS, rfl⟩
    have iLook := PySem.F.called_set.init.lookup
    have iBind := PySem.F.called_set.init.bind (.ref S)
    repeat (any_goals (first | assumption | wp_step))
    refine codeAny_mono (codeAny_call_builtin (R := wants (fun r s2 => r = .none ∧ ∃ h' tk, s2 = { s with heap := h', toks := tk } ∧ T items.size h' ∧ (∀ b o, s.heap.get? b = some o → h'.get? b = some o)) E)
      PySem.F.called_set.init.plain PySem.F.entry_set_init (check_set_init_1 tyS ?_)) fun r2 s2 hr2 => ?_
    · obtain ⟨ol, hol, cl, nl, dl⟩ := hl
      obtain ⟨ocl, odi, oda, osl⟩ := ol
      simp only at cl dl
      subst cl
      subst dl
      have ltl : l < S := Heap.lt_size hol
      have atl : hp1.get? l = some { cls := .type "tuple", dict := odi, data := .seq items nl, slots := osl } := Heap.get?_push_of_some _ hol
      have ls1 := PySem.F.sub_tuple_set
      have ls2 := PySem.F.sub_tuple_frozenset
      have nd1 : (Value.type "tuple" == Value.type "dict") = false := by decide
      have isl : hp1.IsTuple l items := ⟨_, atl, rfl, nl, rfl⟩
      have szI : hp1.objs.size = S + 1 := Heap.size_push ..
      unfold Builtin.«set.__init__» noKeywords Builtin.Frozenset.updateFrom
      generalize ePI : pyIter = PI
      wp_walk
      subst ePI
      refine wpAny_pyIter_tuple isl (wpAny_bind (wpAny_runValue ?_))
      have h3 : A.in1.in1.in1.handled = none := by simp [hh]
      have nI : l ≠ hp1.objs.size := by rw [szI]; exact Nat.ne_of_lt (Nat.lt_succ_of_lt ltl)
      have nS : S ∉ [hp1.objs.size, l] := by
        rw [szI]
        intro z
        rcases List.mem_cons.mp z with z | z
        · exact absurd z (Nat.ne_of_lt (Nat.lt_succ_self _))
        · exact absurd (List.mem_singleton.mp z) (Nat.ne_of_gt ltl)
      refine loop_any ((Walks.tuple h3 _ l nI items).toS) nS T (fun i h h' t e => fr i h h' t fun b o nb => e b o (by rw [szI]; simpa using nb)) (fun i v s1 E1 Q1 _ pv t q => add _ i v s1 E1 Q1 (Nat.le_refl _) pv t q)
        (items.size - 0) 0 _ (by omega) (Nat.zero_le _) ⟨⟨_, Heap.get?_push_size _ rfl, rfl, rfl⟩, isl.push _⟩ (zero _ (Heap.get?_push_of_some _ atS) fun b o e => Heap.get?_push_of_some _ (Heap.get?_push_of_some _ e)) ?_
      intro s' m t'
      obtain ⟨h', g', d', tk', os'⟩ := s'
      obtain rfl : g' = s.gens := m.gens
      obtain rfl : d' = s.drawn := m.drawn
      obtain rfl : os' = s.os := m.os
      show wpAny _ _ _ _ _ _
      refine wpAny_pure ?_
      show wpAny _ _ (ret Value.none) _ _ _
      refine wpAny_pure ⟨rfl, h', tk', rfl, t', fun b o e => ?_⟩
      have ltb : b < S := Heap.lt_size e
      refine m.heap b o (fun z => ?_) (Heap.get?_push_of_some _ (Heap.get?_push_of_some _ e))
      rcases List.mem_cons.mp z with z | z
      · exact absurd z (Nat.ne_of_lt ltb)
      · have z2 := List.mem_singleton.mp z
        rw [szI] at z2
        exact absurd z2 (Nat.ne_of_lt (Nat.lt_succ_of_lt ltb))
    · rcases r2 with _ | e2
      case error => exact hr2
      cases e2 with
      | ret r =>
        obtain ⟨rfl, h', tk, rfl, t', keep⟩ := hr2
        repeat (any_goals (first | assumption | wp_step))
        exact k _ _ t' keep
      | _ => exact hr2.elim
  | _ => exact hr.elim
end
variable {P : Program} {w : World} {κ : Type} [DecidableEq κ]
section
variable {knd : HeapKind P w κ} {A : Around} {E : Value → Shared → Prop} {s : Shared}
/-- set(a tuple) -/
theorem set_tup (S : SK knd) {l : Addr} {items : Array Value} (ks : List (Addr × κ)) {Q : Value → Shared → Prop} (hh : A.handled = none) (hl : s.heap.IsTuple l items) (hi : items.toList = ks.map fun p => Value.ref p.1) (hk : ∀ p ∈ ks, knd.is s.heap p.2 p.1) (few : ks.length < 63)
    (hu : ∀ B : Around, B.units ≤ A.units + 3 → knd.room B)
    (k : ∀ (h' : Heap) (tk : Nat) L es ep t, Held knd h' s.heap.objs.size L es ep t → Took ks L → (∀ b o, s.heap.get? b = some o → h'.get? b = some o) → Q (.ref s.heap.objs.size) { s with heap := h', toks := tk }) :
    wpAny (model P w) A (call (.type "set") [.ref l]) Q E s := by
  have len : items.size = ks.length := by rw [← Array.length_toList, hi, List.length_map]
  have low : ∀ p ∈ ks, p.1 < s.heap.objs.size := fun p hp => S.lies (hk p hp)
  refine made_tup hh hl (fun i h => (∃ L es ep t, Held knd h s.heap.objs.size L es ep t ∧ Took (ks.take i) L) ∧ ∀ p ∈ ks, ∀ o, s.heap.get? p.1 = some o → h.get? p.1 = some o) ?_ ?_ ?_ ?_
  · rintro i h h' ⟨⟨L, es, ep, t, R, T⟩, kp⟩ e
    refine ⟨⟨L, es, ep, t, R.move S (fun o => e _ o (Nat.ne_of_lt (Nat.lt_succ_self _))) (fun p hp o => e _ o ?_), T⟩, fun p hp o g => e _ o ?_ (kp p hp o g)⟩
    · exact Nat.ne_of_lt (Nat.lt_succ_of_lt (low p (List.mem_of_mem_take (T.from_ p hp))))
    · exact Nat.ne_of_lt (Nat.lt_succ_of_lt (low p hp))
  · exact fun h e kp => ⟨⟨[], _, _, _, Held.fresh e, fun _ h => absurd h List.not_mem_nil, fun _ h => absurd h List.not_mem_nil, Nat.le_refl _⟩, fun p _ o g => kp _ o g⟩
  · rintro B i v s1 E1 Q1 hB hv ⟨⟨L, es, ep, t, R, T⟩, kp⟩ q
    have hv2 : items.toList[i]? = some v := by rw [Array.getElem?_toList]; exact hv
    rw [hi, List.getElem?_map] at hv2
    obtain ⟨p, hp, rfl⟩ := Option.map_eq_some_iff.mp hv2
    have hpm := List.mem_of_getElem? hp
    have hx : knd.is s1.heap p.2 p.1 := S.keep (hk p hpm) (kp p hpm)
    have room := hu B hB
    have tk : ks.take (i + 1) = ks.take i ++ [p] := by rw [List.take_add_one, hp]; rfl
    unfold setAdd
    refine wpAny_holding (wpAny_bind (knd.pyHash room hx ?_))
    refine added (s := { s1 with toks := s1.toks + knd.draws p.2 }) S R hx room (by have := T.le; rw [List.length_take] at this; omega) fun b h' L' es' ep' t' sb R' n1 n2 => ?_
    refine q b h' (s1.toks + knd.draws p.2) (Nat.le_add_right _ _) sb ⟨⟨L', es', ep', t', R', by rw [tk]; exact T.next n1 n2⟩, fun r hr o g => ?_⟩
    have ne : r.1 ≠ s.heap.objs.size := Nat.ne_of_lt (low r hr)
    rw [sb.2 r.1 ne]
    exact kp r hr o g
  · rintro h' tk ⟨⟨L, es, ep, t, R, T⟩, _⟩ keep
    rw [len, List.take_length] at T
    exact k h' tk L es ep t R T keep
end
end SetH
set_option maxRecDepth 100000
set_option maxHeartbeats 4000000
/-! sorted of a list of data: texts, literals, clauses .. -/
namespace SD
open PySem PySem.Spec PyProof.Rows L2
theorem vals_each : ∀ {bs : List (V × PyData)} {us : List Value}, Vals (bs.map Prod.fst) us → PySem.W.EachIs (fun u b => RelV b.1 u) us bs
  | [], _, r => by
    cases r
    exact .nil
  | b :: bs, _, r => by
    cases r with
    | cons r1 r2 => exact .cons r1 (vals_each r2)
theorem each_vals : ∀ {us : List Value} {bs : List (V × PyData)}, PySem.W.EachIs (fun u b => RelV b.1 u) us bs → Vals (bs.map Prod.fst) us
  | _, _, .nil => .nil
  | _, _, .cons r1 r2 => .cons r1 (each_vals r2)
/-- what the list reads as, sorted -/
def sortedD (bs : List (V × PyData)) : List (V × PyData) := bs.mergeSort (PySem.W.dataLe false Prod.snd)
theorem sorted_perm (bs : List (V × PyData)) : (sortedD bs).Perm bs := List.mergeSort_perm _ _
/-- sorted(xs), xs a list of alike data -/
def rSortedD (K : PySem.W.Frag) : List V → Hp → VK → Prop := fun vs H Q => ∃ (a : Addr) (bs : List (V × PyData)), vs = [.ref a] ∧ SqL K H a (bs.map Prod.fst) ∧ (∀ b ∈ bs, Dp K H b.1 b.2 ∧ b.2.depth ≤ 60) ∧ PySem.W.AllAlike (bs.map Prod.snd) ∧ PySem.W.Sortable (bs.map Prod.snd) ∧
  ∀ p, H p = none → Q (.ref p) (upd H p (.lst ((sortedD bs).map Prod.fst)))
section
variable {X : Cx}
theorem each_reads {pins : List (Addr × Obj)} {σ : L2.St} {H : Hp} {s : Shared} (I : Inv X pins σ H s) : ∀ {us : List Value} {bs : List (V × PyData)}, PySem.W.EachIs (fun u b => RelV b.1 u) us bs → (∀ b ∈ bs, Dp X.K H b.1 b.2) → PySem.W.EachIs (fun u b => ∃ as, Reads s.heap u b.2 as) us bs
  | _, _, .nil, _ => .nil
  | _, b :: bs, .cons r1 r2, h => .cons (Dp.reads I b.2 b.1 _ (h b List.mem_cons_self) r1) (each_reads I r2 fun c hc => h c (List.mem_cons_of_mem _ hc))
theorem cr_sortedD (hu : X.A.units + 64 < cLine) : CallR X (.builtin "sorted") (rSortedD X.K) := by
  intro pins s σ H vs us Q I r h
  obtain ⟨a, bs, rfl, hs, hd, hal, hk, q⟩ := h
  obtain ⟨its, rv, hl, hz⟩ := I.list hs
  obtain ⟨u, rfl, ru⟩ := vals1 r
  obtain rfl : u = Value.ref a := ru
  have hlen : bs.length ≤ sizeLine := by rw [List.length_map] at hz; exact hz
  refine PySem.W.sorted_data (R := fun u b => RelV b.1 u) (enc := fun b : V × PyData => b.2) (bs := bs) hl.isList (vals_each rv) (each_reads I (vals_each rv) fun b hb => (hd b hb).1) hal hk hlen (fun b hb => by have := (hd b hb).2; omega) fun out ho he => ?_
  obtain ⟨c, hc⟩ := sortedAll_at s.heap its out.toArray
  have fr : H (s.heap.objs.size + 1) = none := I.hok.fresh (Nat.le_succ _)
  refine ⟨.ref (s.heap.objs.size + 1), upd H (s.heap.objs.size + 1) (.lst ((sortedD bs).map Prod.fst)), I.laid (t' := s.toks) (fun _ _ => sortedAll_old) (Nat.le_succ _) ⟨?_, out, c, each_vals he, hc⟩, rfl, q _ fr⟩
  rw [List.length_map, (sorted_perm bs).length_eq]
  exact hlen
end
end SD
set_option maxRecDepth 100000
set_option maxHeartbeats 4000000
/-! sets of tuples of texts and ints, and sorted of them -/
namespace SetM
open PySem PySem.Spec PyProof.Rows L2 SetH
section
variable {P : Program} {w : World} {A : Around} {E : Value → Shared → Prop} {s : Shared}
theorem noClass_key {k : L2.Key} {v : Value} (h : keyIs k v = true) (n : Nat) : ofAClassStatement n v = pure false := by
  rcases keyIs_shape h with ⟨i, t, rfl, rfl⟩ | ⟨x, t, rfl, rfl⟩ <;> cases n <;> rfl
theorem valued_key {k : L2.Key} {v : Value} (h : keyIs k v = true) (n : Nat) : ∃ b, hashByValue n v = pure b := by
  rcases keyIs_shape h with ⟨i, t, rfl, rfl⟩ | ⟨x, t, rfl, rfl⟩ <;> cases n <;> exact ⟨_, rfl⟩
theorem items_key {k : List L2.Key} {vs : List Value} (h : ItemsAre (mixKind P w) k vs) : ∀ v ∈ vs, ∃ q, keyIs q v = true := by
  induction h with
  | nil => exact fun v hv => absurd hv List.not_mem_nil
  | cons h1 _ ih =>
    intro v hv
    rcases List.mem_cons.mp hv with rfl | hv
    · exact ⟨_, h1⟩
    · exact ih v hv
theorem kinds : SK (tupleKind (mixKind P w)) where
  noClass := by
    intro A E s k b Q hk h
    have ty := IsTupleKey.typeIs hk
    obtain ⟨o, items, n, ho, _, hd, hi⟩ := hk
    unfold ofAClassStatement
    refine wpAny_bind (wpAny_typeOf ty ?_)
    dsimp only
    simp only [show (("tuple" : String) == "tuple") = true by decide, if_true, Bool.not_true, Bool.false_eq_true, if_false]
    try refine wpAny_bind (wpAny_pure ?_)
    try simp only [Bool.not_true, Bool.false_eq_true, if_false]
    refine wpAny_bind (wpAny_seqItems ho hd ?_)
    dsimp only
    rw [← Array.forIn_toList]
    refine wpAny_bind (wpAny_forIn_list _ (fun todo r s1 => r.1 = none ∧ s1 = s ∧ ∀ v ∈ todo, ∃ q, keyIs q v = true) _ ?_ ?_ _ _ ⟨rfl, rfl, items_key hi⟩)
    · rintro v todo ⟨r1, r2⟩ s1 ⟨e1, e2, all⟩
      dsimp only at e1
      subst e1 e2
      obtain ⟨q, hq⟩ := all v List.mem_cons_self
      rw [noClass_key hq]
      refine wpAny_bind (wpAny_pure ?_)
      simp only [Bool.false_eq_true, if_false]
      exact wpAny_pure ⟨rfl, rfl, fun u hu => all u (List.mem_cons_of_mem _ hu)⟩
    · rintro ⟨r1, r2⟩ s1 ⟨e1, e2, _⟩
      dsimp only at e1
      subst e1 e2
      exact wpAny_pure h
  valued := by
    intro A E s k b Q hk h
    have ty := IsTupleKey.typeIs hk
    obtain ⟨o, items, n, ho, _, hd, hi⟩ := hk
    unfold hashByValue
    refine wpAny_bind (wpAny_specialOf ty F.slot_tuple_hash.lookup ?_)
    refine wpAny_bind (wpAny_seqItems ho hd ?_)
    dsimp only
    rw [← Array.forIn_toList]
    refine wpAny_bind (wpAny_forIn_list _ (fun todo r s1 => r.1 = none ∧ s1 = s ∧ ∀ v ∈ todo, ∃ q, keyIs q v = true) _ ?_ ?_ _ _ ⟨rfl, rfl, items_key hi⟩)
    · rintro v todo ⟨r1, r2⟩ s1 ⟨e1, e2, all⟩
      dsimp only at e1
      subst e1 e2
      obtain ⟨q, hq⟩ := all v List.mem_cons_self
      obtain ⟨c, hc⟩ := valued_key hq 7
      rw [hc]
      refine wpAny_bind (wpAny_pure ?_)
      cases c with
      | true =>
        simp only [Bool.not_true, Bool.false_eq_true, if_false]
        exact wpAny_pure ⟨rfl, rfl, fun u hu => all u (List.mem_cons_of_mem _ hu)⟩
      | false =>
        simp only [Bool.not_false, if_true]
        exact wpAny_pure (wpAny_pure (h _))
    · rintro ⟨r1, r2⟩ s1 ⟨e1, e2, _⟩
      dsimp only at e1
      subst e1 e2
      exact wpAny_pure (h _)
  apart := by
    rintro h h' k a b o es ep t ⟨o', items, n, ho', hc, hd', hi⟩ ho hd sb
    have ne : b ≠ a := fun z => by
      rw [z, ho] at ho'
      obtain rfl := Option.some.inj ho'
      rw [hd] at hd'
      cases hd'
    exact ⟨o', items, n, (sb.2 b ne).trans ho', hc, hd', hi⟩
  keep := fun ⟨o, items, n, ho, r⟩ kp => ⟨o, items, n, kp o ho, r⟩
  lies := fun ⟨o, items, n, ho, r⟩ => Heap.lt_size ho
end
section
variable {P : Program} {w : World} {A : Around} {E : Value → Shared → Prop} {s : Shared}
theorem each_perm {α β : Type} {R : α → β → Prop} {vs out : List α} (pm : out.Perm vs) : ∀ {bs : List β}, PySem.W.EachIs R vs bs → ∃ bs', bs'.Perm bs ∧ PySem.W.EachIs R out bs' := by
  induction pm with
  | nil => intro bs h; cases h; exact ⟨[], .nil, .nil⟩
  | cons x _ ih =>
    intro bs h
    cases h with
    | cons h1 h2 =>
      obtain ⟨bs', p, e⟩ := ih h2
      exact ⟨_ :: bs', p.cons _, .cons h1 e⟩
  | swap x y l =>
    intro bs h
    cases h with
    | cons h1 h2 =>
      cases h2 with
      | cons h2 h3 => exact ⟨_, List.Perm.swap _ _ _, .cons h2 (.cons h1 h3)⟩
  | trans _ _ ih1 ih2 =>
    intro bs h
    obtain ⟨b1, p1, e1⟩ := ih2 h
    obtain ⟨b2, p2, e2⟩ := ih1 e1
    exact ⟨b2, p2.trans p1, e2⟩
theorem alike_perm {β : Type} {enc : β → PyData} {bs bs' : List β} (pm : bs'.Perm bs) (h : PySem.W.AllAlike (bs.map enc)) : PySem.W.AllAlike (bs'.map enc) := fun d hd e he => h d ((pm.map enc).mem_iff.mp hd) e ((pm.map enc).mem_iff.mp he)
theorem sortable_perm {β : Type} {enc : β → PyData} {bs bs' : List β} (pm : bs'.Perm bs) (h : PySem.W.Sortable (bs.map enc)) : PySem.W.Sortable (bs'.map enc) := h.imp (fun h d hd => h d ((pm.map enc).mem_iff.mp hd)) (fun h d hd => h d ((pm.map enc).mem_iff.mp hd))
/-- sorted(a set), the elements read as data -/
theorem sorted_set {β : Type} {R : Value → β → Prop} {enc : β → PyData} {a : Addr} {o : Obj} {es : Array (Int × Value)} {ep : Nat} {t : SetTable} (ho : s.heap.get? a = some o) (hc : o.ExactSet) (hd : o.data = .set es ep t) (hf : t.fits es.size = true) (few : es.size < 64) (ris : Ris t.place.toList)
    (led : w.params.followText "set-order" = true ∨ t.led = true) (hh : A.handled = none) {bs0 : List β} (e0 : PySem.W.EachIs R (es.toList.map (·.2)) bs0) (rd : ∀ v b, b ∈ bs0 → R v b → ∃ as, Reads s.heap v (enc b) as) (hal : PySem.W.AllAlike (bs0.map enc)) (hk : PySem.W.Sortable (bs0.map enc))
    (hu : ∀ b, b ∈ bs0 → A.units + 4 + (enc b).depth < cLine) {Q : Value → Shared → Prop}
    (k : ∀ s' p (out : Array Value) (c : Nat) (bs : List β), (∀ b o, s.heap.get? b = some o → s'.heap.get? b = some o) → s'.gens = s.gens → s'.os = s.os → s.heap.objs.size ≤ p → s'.heap.get? p = some (seqObj "list" out c) → bs.Perm bs0 → PySem.W.EachIs R out.toList (bs.mergeSort (PySem.W.dataLe false enc)) → Q (.ref p) s') :
    wpAny (model P w) A (call (.builtin "sorted") [.ref a]) Q E s := by
  have sc : es.size < scanBound := by unfold scanBound; omega
  refine Calls.call_function_entry kind_sorted plain_sorted entry_sorted (args_sorted1 _) ?_
  unfold Builtin.«sorted»
  refine wpAny_bind (m := checkCount "sorted" 1 1 _) (wpAny_pure (wpAny_bind ?_))
  refine collect_set (A := A.in1) hh ⟨o, ho, hc.1, hd⟩ hf sc ris led fun s1 vs k1 z1 g1 o1 pm => ?_
  obtain ⟨bs, pb, eb⟩ := each_perm pm e0
  have lv : vs.length = es.size := by rw [pm.length_eq, List.length_map, Array.length_toList]
  refine wpAny_bind (wpAny_newList ?_ (by rw [lv, sizeLine_eq]; omega))
  have oL : (s1.heap.push (seqObj "list" vs.toArray 0)).get? s1.heap.objs.size = some (seqObj "list" vs.toArray 0) := Heap.get?_push_size _ rfl
  have old : ∀ b o, s1.heap.get? b = some o → (PySem.W.sortingHeap (s1.heap.push (seqObj "list" vs.toArray 0)) s1.heap.objs.size vs).get? b = some o := fun b o e => PySem.W.sortingHeap_old (Nat.ne_of_lt (Heap.lt_size e)) (Heap.get?_push_of_some _ e)
  have er : PySem.W.EachIs (fun v b => ∃ as, Reads (PySem.W.sortingHeap (s1.heap.push (seqObj "list" vs.toArray 0)) s1.heap.objs.size vs) v (enc b) as) vs bs := by
    exact (PySem.W.each_mem eb).mono fun v b ⟨h, hb⟩ => by
      obtain ⟨as, r⟩ := rd v b (pb.mem_iff.mp hb) h
      exact ⟨as, PyProof.Rows.Reads.keeps (fun b o e => old b o (k1 b o e)) r⟩
  have hal' := alike_perm pb hal
  have hk' := sortable_perm pb hk
  refine wpAny_bind (wpAny_holding (wpAny_call_entry slot_list_sort ⟨_, oL, rfl⟩ entry_list_sort
    (PySem.W.list_sort_vals (κ := PySem.W.dataKind (PySem.W.sortingHeap (s1.heap.push (seqObj "list" vs.toArray 0)) s1.heap.objs.size vs) (bs.map enc)) oL
      (PySem.W.SortsAt.data (PySem.W.each_map (R := fun v d => ∃ as, Reads (PySem.W.sortingHeap (s1.heap.push (seqObj "list" vs.toArray 0)) s1.heap.objs.size vs) v d as) enc er) hal' hk' fun d hd => ?_) (by rw [lv, sizeLine_eq]; omega) ⟨.none, rfl, ?_⟩) (args_list_sort _)))
  · obtain ⟨b, hb, rfl⟩ := List.mem_map.mp hd
    have := hu b (pb.mem_iff.mp hb)
    show A.units + 1 + 1 + _ < _
    omega
  · obtain ⟨c, hc'⟩ := sortedHeap_at (vs := vs) (out := (PySem.W.sortVals (PySem.W.dataKind (PySem.W.sortingHeap (s1.heap.push (seqObj "list" vs.toArray 0)) s1.heap.objs.size vs) (bs.map enc)) false vs vs).toArray) oL
    refine wpAny_pure ⟨_, rfl, k _ s1.heap.objs.size _ c bs (fun b u e => ?_) g1 o1 z1 hc' pb (by simpa using PySem.W.sortVals_data false eb er hal')⟩
    have q := k1 b u e
    have lt := Heap.lt_size q
    refine (sortedHeap_old (Nat.ne_of_lt lt) (by rw [size_push']; exact Nat.lt_succ_of_lt lt)).trans ?_
    exact Heap.get?_push_of_some _ q
end
/-! ### as calls -/
def kD : L2.Key → PyData
  | .inl i => .int i
  | .inr x => .str x
def enK (k : List L2.Key) : PyData := .tuple (k.map kD)
def enP (p : Addr × List L2.Key) : V × PyData := (.ref p.1, enK p.2)
abbrev MK (P : Program) (w : World) : HeapKind P w (List L2.Key) := tupleKind (mixKind P w)
/-- at a a set of the tuples L -/
def SetMO (P : Program) (w : World) (a : Addr) (L : List (Addr × List L2.Key)) : HO := .ext fun h => ∃ es ep t, (∃ o, h.get? a = some o ∧ o.ExactSet ∧ o.data = .set es ep t) ∧ es.toList = L.map (row (MK P w)) ∧ Ris t.place.toList ∧ t.fits es.size = true ∧ (w.params.followText "set-order" = true ∨ t.led = true) ∧ L.length < 64
theorem setMO_new {P : Program} {w : World} {H : Hp} {h : Heap} {a : Addr} {L : List (Addr × List L2.Key)} {es : Array (Int × Value)} {ep : Nat} {t : SetTable} (R : Held (MK P w) h a L es ep t) : ObjOk P w H h a (SetMO P w a L) := by
  have fits := R.fits
  obtain ⟨⟨o, ho, hex, hd⟩, rows, tab, nd, own, led, wide, few⟩ := R
  exact ⟨⟨es, ep, t, ⟨o, ho, hex, hd⟩, rows, tab.ris, fits, led, few⟩, ⟨o, ho⟩, fun h1 h2 ⟨es2, ep2, t2, ⟨o2, ho2, r⟩, r2⟩ keep => ⟨es2, ep2, t2, ⟨o2, keep _ ho2, r⟩, r2⟩⟩
section
variable {X : Cx}
theorem key_vals {P : Program} {w : World} : ∀ {k : List L2.Key} {us : List Value}, Vals (k.map kV) us → ItemsAre (mixKind P w) k us
  | [], _, .nil => .nil
  | _ :: _, _, .cons h r => .cons (HR.key_rel h) (key_vals r)
theorem tup_key {pins : List (Addr × Obj)} {σ : L2.St} {H : Hp} {s : Shared} (I : Inv X pins σ H s) {b : Addr} {k : List L2.Key} (h : SqT X.K H b (k.map kV)) : (MK X.prog X.w).is s.heap k b := by
  obtain ⟨its, rv, ⟨o, ho, hc, n, hd⟩, _⟩ := I.tuple h
  exact ⟨o, its.toArray, n, ho, hc, hd, key_vals rv⟩
theorem refs_are : ∀ {ks : List (Addr × List L2.Key)} {us : List Value}, Vals (ks.map fun p => V.ref p.1) us → us = ks.map fun p => Value.ref p.1
  | [], _, .nil => rfl
  | _ :: _, _, .cons h r => by
    rw [List.map_cons, ← refs_are r]
    exact congrArg (· :: _) h
def rSetM (K : PySem.W.Frag) (P : Program) (w : World) : List V → Hp → VK → Prop := fun xs H Q => ∃ (l : Addr) (ks : List (Addr × List L2.Key)), xs = [V.ref l] ∧ (SqL K H l (ks.map fun p => V.ref p.1) ∨ SqT K H l (ks.map fun p => V.ref p.1)) ∧ (∀ p ∈ ks, SqT K H p.1 (p.2.map kV)) ∧ ks.length < 63 ∧
  ∀ (L : List (Addr × List L2.Key)) (p : Addr), Took ks L → (L.map Prod.snd).Nodup → H p = none → Q (.ref p) (upd H p (SetMO P w p L))
theorem cr_setM {K : PySem.W.Frag} {P : Program} {w : World} (hc : X.calm = true) (hu : X.A.units + 64 < cLine) (hK : X.K = K := by rfl) (hP : X.prog = P := by rfl) (hw : X.w = w := by rfl) : CallR X (.type "set") (rSetM K P w) := by
  subst hK hP hw
  intro pins s σ H xs us Q I r h
  obtain ⟨l, ks, rfl, hs, hk, few, q⟩ := h
  rw [Vals.ref1 r]
  have own : ∀ p ∈ ks, (MK X.prog X.w).is s.heap p.2 p.1 := fun p hp => tup_key I (hk p hp)
  have room : ∀ B : Around, B.units ≤ X.A.units + 3 → (MK X.prog X.w).room B := fun B hB => by show B.units < cLine; omega
  have fin : ∀ (h' : Heap) (tk : Nat) L es ep t, Held (MK X.prog X.w) h' s.heap.objs.size L es ep t → Took ks L → (∀ b o, s.heap.get? b = some o → h'.get? b = some o) → EP X pins σ Q (.ref s.heap.objs.size) { s with heap := h', toks := tk } := fun h' tk L es ep t R T keep =>
    ⟨.ref _, upd H s.heap.objs.size (SetMO X.prog X.w s.heap.objs.size L), I.laid (t' := tk) keep (Nat.le_refl _) (setMO_new R), rfl, q L _ T R.nd (I.hok.fresh (Nat.le_refl _))⟩
  rcases hs with hs | hs
  · obtain ⟨its, rv, hl, _⟩ := I.list hs
    exact set_list kinds ks (I.ok.hd hc) hl.isList (refs_are rv) own few room fin
  · obtain ⟨its, rv, ht, _⟩ := I.tuple hs
    exact set_tup kinds ks (I.ok.hd hc) ht (refs_are rv) own few room fin
def rSortedM (K : PySem.W.Frag) (P : Program) (w : World) : List V → Hp → VK → Prop := fun vs H Q => ∃ (a : Addr) (L : List (Addr × List L2.Key)), vs = [V.ref a] ∧ H a = some (SetMO P w a L) ∧ (∀ p ∈ L, Dp K H (.ref p.1) (enK p.2) ∧ (enK p.2).depth ≤ 50) ∧ PySem.W.AllAlike (L.map fun p => enK p.2) ∧ PySem.W.Sortable (L.map fun p => enK p.2) ∧
  ∀ (bs : List (V × PyData)) (p : Addr), bs.Perm (L.map enP) → H p = none → Q (.ref p) (upd H p (.lst ((SD.sortedD bs).map Prod.fst)))
theorem cr_sortedM {K : PySem.W.Frag} {P : Program} {w : World} (hc : X.calm = true) (hu : X.A.units + 64 < cLine) (hK : X.K = K := by rfl) (hP : X.prog = P := by rfl) (hw : X.w = w := by rfl) : CallR X (.builtin "sorted") (rSortedM K P w) := by
  subst hK hP hw
  intro pins s σ H vs us Q I r h
  obtain ⟨a, L, rfl, at_, hd, hal, hk, q⟩ := h
  obtain ⟨es, ep, t, ⟨o, ho, hex, hdt⟩, rows, ris, fits, led, few⟩ := (I.hok a _ at_).1
  rw [Vals.ref1 r]
  have sz : es.size = L.length := rows_size rows
  have e0 : PySem.W.EachIs (fun (u : Value) (b : V × PyData) => RelV b.1 u) (es.toList.map (·.2)) (L.map enP) := by
    rw [rows]
    have : ∀ L : List (Addr × List L2.Key), PySem.W.EachIs (fun (u : Value) (b : V × PyData) => RelV b.1 u) ((L.map (row (MK X.prog X.w))).map (·.2)) (L.map enP) := fun L => by
      induction L with
      | nil => exact .nil
      | cons p L ih => exact .cons rfl ih
    exact this L
  have eL : (L.map enP).map Prod.snd = L.map fun p => enK p.2 := by rw [List.map_map]; rfl
  refine sorted_set (R := fun (u : Value) (b : V × PyData) => RelV b.1 u) (enc := fun b : V × PyData => b.2) ho hex hdt fits (by omega) ris led (I.ok.hd hc) e0 (fun v b hb hv => ?_) (by show PySem.W.AllAlike ((L.map enP).map Prod.snd); rw [eL]; exact hal) (by show PySem.W.Sortable ((L.map enP).map Prod.snd); rw [eL]; exact hk) (fun b hb => ?_)
    fun s' p out c bs keep g o hp hc' pm he => ?_
  · obtain ⟨p, hp, rfl⟩ := List.mem_map.mp hb
    exact Dp.reads I _ _ _ (hd p hp).1 hv
  · obtain ⟨p, hp, rfl⟩ := List.mem_map.mp hb
    have := (hd p hp).2
    show X.A.units + 4 + (enK p.2).depth < cLine
    omega
  · have hn : H p = none := I.hok.fresh hp
    have len : ((SD.sortedD bs).map Prod.fst).length ≤ sizeLine := by
      rw [List.length_map, (SD.sorted_perm bs).length_eq, pm.length_eq, List.length_map, sizeLine_eq]
      omega
    have J : Inv X pins σ (upd H p (.lst ((SD.sortedD bs).map Prod.fst))) { s with heap := s'.heap, gens := s'.gens, drawn := s'.drawn, toks := s'.toks } :=
      I.call (ch := []) (Un.laid keep hp hn) (I.hok.laid keep hp ⟨len, out.toList, c, SD.each_vals he, hc'⟩) (by rw [g]; exact I.bare) (fun _ z => nomatch z)
    have es' : s' = { s with heap := s'.heap, gens := s'.gens, drawn := s'.drawn, toks := s'.toks } := by
      cases s'
      cases s
      cases o
      rfl
    rw [es']
    exact ⟨.ref p, _, J, rfl, q bs p pm hn⟩
end
end SetM
set_option maxRecDepth 100000
set_option maxHeartbeats 4000000
/-! repr of data with dicts in it (no lists) -/
namespace RQ
open PySem PySem.Spec PyProof.Rows L2 SetM
mutual
inductive Dq (K : PySem.W.Frag) (H : Hp) : V → PyData → Prop
  | non : Dq K H .non .none
  | bl (b : Bool) : Dq K H (.bl b) (.bool b)
  | int (i : Int) : Dq K H (.int i) (.int i)
  | str (x : Str) : Dq K H (.str x) (.str x)
  | tup {p : Addr} {vs : List V} {ds : List PyData} : SqT K H p vs → DqAll K H vs ds → Dq K H (.ref p) (.tuple ds)
  | dK {p : Addr} {kvs : List (L2.Key × V)} {ds : List PyData} : H p = some (.dK kvs) → DqAll K H (kvs.map Prod.snd) ds → Dq K H (.ref p) (.dict ((kvs.map fun kv => kD kv.1).zip ds))
  | dT {p : Addr} {kvs : List (List L2.Key × V)} {ds : List PyData} : H p = some (.dT kvs) → DqAll K H (kvs.map Prod.snd) ds → Dq K H (.ref p) (.dict ((kvs.map fun kv => enK kv.1).zip ds))
inductive DqAll (K : PySem.W.Frag) (H : Hp) : List V → List PyData → Prop
  | nil : DqAll K H [] []
  | cons {v : V} {d : PyData} {vs : List V} {ds : List PyData} : Dq K H v d → DqAll K H vs ds → DqAll K H (v :: vs) (d :: ds)
end
section
variable {X : Cx} {pins : List (Addr × Obj)} {σ : L2.St} {H : Hp} {s : Shared}
theorem DqAll.len {K : PySem.W.Frag} : ∀ {vs : List V} {ds : List PyData}, DqAll K H vs ds → vs.length = ds.length
  | _, _, .nil => rfl
  | _, _, .cons _ r => by rw [List.length_cons, List.length_cons, DqAll.len r]
theorem key_reads {h : Heap} {k : L2.Key} {u : Value} (e : keyIs k u = true) : Reads h u (kD k) [] := by
  rcases keyIs_shape e with ⟨i, t, rfl, rfl⟩ | ⟨x, t, rfl, rfl⟩
  · exact .int i t
  · exact .str x t
theorem keys_read {h : Heap} {P : Program} {w : World} : ∀ {k : List L2.Key} {us : List Value}, ItemsAre (mixKind P w) k us → ReadsAll h us (k.map kD) []
  | _, _, .nil => .nil
  | _, _, .cons e r => .cons (as := []) (bs := []) (key_reads e) (keys_read r)
theorem tup_reads (I : Inv X pins σ H s) {b : Addr} {k : List L2.Key} (h : SqT X.K H b (k.map kV)) : Reads s.heap (.ref b) (enK k) [] := by
  obtain ⟨o, items, n, ho, hc, hd, hi⟩ := tup_key I h
  exact .tuple ho hc hd (keys_read hi)
theorem pairs_read {h : Heap} {P : Program} {w : World} : ∀ {es : List DictEntry} {vs : List (L2.Key × Value)} {kvs : List (L2.Key × V)}, Pairs (mixKind P w) es vs → KV kvs vs → ReadsAll h (es.map (·.key)) (kvs.map fun kv => kD kv.1) [] ∧ Vals (kvs.map Prod.snd) (es.map (·.val))
  | _, _, _, .nil, k => by cases k; exact ⟨.nil, .nil⟩
  | _, _, _, .cons e1 e2 r, k => by
    cases k with
    | cons k1 k2 =>
      obtain ⟨h1, h2⟩ := pairs_read (h := h) r k2
      refine ⟨.cons (as := []) (bs := []) (by show Reads h _ (kD _) []; rw [k1.1]; exact key_reads e1) h1, .cons ?_ h2⟩
      show RelV _ (DictEntry.val _)
      rw [e2]
      exact k1.2
theorem tups_read (I : Inv X pins σ H s) : ∀ {xs : List (List L2.Key × Addr × Value)} {kvs : List (List L2.Key × V)}, Paired (fun (p : List L2.Key × V) (q : List L2.Key × Addr × Value) => p.1 = q.1 ∧ H q.2.1 = some (.tup (p.1.map kV)) ∧ RelV p.2 q.2.2) kvs xs →
    ReadsAll s.heap ((xs.map (entryOfKey (MK X.prog X.w))).map (·.key)) (kvs.map fun kv => enK kv.1) [] ∧ Vals (kvs.map Prod.snd) ((xs.map (entryOfKey (MK X.prog X.w))).map (·.val))
  | _, _, .nil => ⟨.nil, .nil⟩
  | _, _, .cons k1 k2 => by
    obtain ⟨h1, h2⟩ := tups_read I k2
    exact ⟨.cons (as := []) (bs := []) (tup_reads I (SqT.of k1.2.1)) h1, .cons k1.2.2 h2⟩
mutual
theorem Dq.reads (I : Inv X pins σ H s) : ∀ {v : V} {d : PyData}, Dq X.K H v d → ∀ {u : Value}, RelV v u → ∃ as, Reads s.heap u d as ∧ sysModules ∉ as
  | _, _, .non, _, r => by cases r; exact ⟨_, .none, List.not_mem_nil⟩
  | _, _, .bl b, _, r => by cases r; exact ⟨_, .bool b, List.not_mem_nil⟩
  | _, _, .int i, _, r => by obtain ⟨t, rfl⟩ := r; exact ⟨_, .int i t, List.not_mem_nil⟩
  | _, _, .str x, _, r => by obtain ⟨t, rfl⟩ := r; exact ⟨_, .str x t, List.not_mem_nil⟩
  | _, _, .tup h a, _, r => by
    cases r
    obtain ⟨its, rv, ⟨o, ho, hc, n, hd⟩, _⟩ := I.tuple h
    obtain ⟨as, ra, na⟩ := DqAll.reads I a rv
    exact ⟨as, .tuple ho hc hd (by simpa using ra), na⟩
  | _, _, .dK (kvs := kvs) (ds := ds) h a, _, r => by
    cases r
    obtain ⟨_, hs, vs, kv, o, es, ep, ho, hex, hd, _, prs, _⟩ := dk_of I.hok h
    obtain ⟨rk, rv⟩ := pairs_read (h := s.heap) prs kv
    obtain ⟨bs, rb, nb⟩ := DqAll.reads I a rv
    have l1 := a.len
    rw [List.length_map] at l1
    refine ⟨_, .dict ho hex.1 hd (by rw [List.map_fst_zip (by rw [List.length_map]; omega)]; exact rk) (by rw [List.map_snd_zip (by rw [List.length_map]; omega)]; exact rb), fun z => ?_⟩
    rcases List.mem_cons.mp z with e | z
    · rw [← e] at hs
      simp at hs
    · exact nb z
  | _, _, .dT (kvs := kvs) (ds := ds) h a, _, r => by
    cases r
    obtain ⟨_, hs, xs, pr, o, es, ep, ho, hex, hd, he, _⟩ := I.hok _ _ h
    obtain ⟨rk, rv⟩ := tups_read I pr
    rw [← he] at rk rv
    obtain ⟨bs, rb, nb⟩ := DqAll.reads I a rv
    have l1 := a.len
    rw [List.length_map] at l1
    refine ⟨_, .dict ho hex.1 hd (by rw [List.map_fst_zip (by rw [List.length_map]; omega)]; exact rk) (by rw [List.map_snd_zip (by rw [List.length_map]; omega)]; exact rb), fun z => ?_⟩
    rcases List.mem_cons.mp z with e | z
    · rw [← e] at hs
      simp at hs
    · exact nb z
theorem DqAll.reads (I : Inv X pins σ H s) : ∀ {vs : List V} {ds : List PyData}, DqAll X.K H vs ds → ∀ {us : List Value}, Vals vs us → ∃ as, ReadsAll s.heap us ds as ∧ sysModules ∉ as
  | _, _, .nil, _, r => by cases r; exact ⟨_, .nil, List.not_mem_nil⟩
  | _, _, .cons a b, _, r => by
    cases r with
    | cons r1 r2 =>
      obtain ⟨as, h1, n1⟩ := Dq.reads I a r1
      obtain ⟨bs, h2, n2⟩ := DqAll.reads I b r2
      exact ⟨_, .cons h1 h2, fun z => (List.mem_append.mp z).elim n1 n2⟩
end
/-- repr of such data -/
def rReprQ (K : PySem.W.Frag) : List V → Hp → VK → Prop := fun xs H Q => ∃ p d, xs = [.ref p] ∧ Dq K H (.ref p) d ∧ d.showable = true ∧ d.depth ≤ 60 ∧ d.shown.length ≤ sizeLine ∧ Q (.str d.shown) H
theorem cr_reprQ {K : PySem.W.Frag} (gd : X.A.guards = some []) (hu : X.A.units + 70 < cLine) (hK : X.K = K := by rfl) : CallR X (.builtin "repr") (rReprQ K) := by
  subst hK
  intro pins s σ H xs us Q I r h
  obtain ⟨p, d, rfl, hd, sh, dep, sz, q⟩ := h
  rw [Vals.ref1 r]
  obtain ⟨as, ra, na⟩ := Dq.reads I hd rfl
  exact repr_of_reads' ra sh (fun _ => na) gd (by omega) (fun _ _ z => z) (fun h' u tk hk => ⟨.str d.shown, H, I.kept (t' := tk) hk, ⟨u, rfl⟩, q⟩) sz
end
end RQ
set_option maxRecDepth 100000
set_option maxHeartbeats 4000000
namespace V1
open PySem L2 Evl
def top (i : Nat) : Stmt := PySem.Challenge.pw_ringclause_k01_normal_forms_and_errors.main.body.getD i (.Pass ⟨0, 0, 0, 0⟩)

/-! ### general -/
section
variable {K : PySem.W.Frag} {σ : L2.St} {H H1 : Hp} {J : It} {G : Hp → Prop} {te : TE}
theorem lcMap {xs : List V} (w : Walk J xs.length G (YAt xs)) (f : V → V) {j : Nat} {vs : List Nat} (hz : xs.length < sizeLine) (hG : ∀ H', Ex H1 H' → G H')
    (hw : ∀ v, wipe ((wipe σ vs).set j (some v)) vs = wipe σ vs) (he : ∀ v ∈ xs, ∀ H', Ex H1 H' → Ev te ((wipe σ vs).set j (some v)) H' (f v)) {Qd : Hp → Prop} {D : Addr} (hD : H1 D = none)
    (k : ∀ H', Ex H1 H' → H' D = some (.lst (xs.map f)) → Qd H') :
    ∃ W : Nat → Nat → Hp → Prop, (∃ m, W 0 m (upd H1 D (.lst []))) ∧ ∀ i m H, W i m H →
      (J.stop i H ∧ Qd H) ∨ (J.go i H ∧ ∃ Nx : Hp → Prop, (∀ H', Nx H' → ∃ m', m' < m ∧ W (i + 1) m' H') ∧ ∀ x H', J.yld i H x H' → gName j x (wipe σ vs) H' fun σ2 H2 => wipe σ2 vs = wipe σ vs ∧ tYes σ2 H2 fun b H3 =>
        if b = true then te σ2 H3 fun y H4 => ∃ acc, H4 D = some (.lst acc) ∧ acc.length < sizeLine ∧ Nx (upd H4 D (.lst (acc ++ [y]))) else Nx H3) := by
  refine lc_it w (fun i H => Ex H1 H ∧ H D = some (.lst ((xs.take i).map f))) ⟨Ex.new hD, upd_same⟩ (fun i H _ p => hG H p.1) ?_ (fun H p => k H p.1 (by have := p.2; rwa [List.take_length] at this))
  rintro i x H H' hi ⟨e, hl⟩ ⟨rfl, hx⟩
  have hm : x ∈ xs := by
    obtain ⟨h, q⟩ := List.getElem?_eq_some_iff.mp hx
    rw [← q]
    exact List.getElem_mem h
  unfold gName tYes
  dsimp only
  refine ⟨hw x, ?_⟩
  rw [if_pos rfl]
  refine he x hm H' e H' (Ex.refl _) _ fun H4 e4 => ⟨_, e4 D _ hl, ?_, Ex.mut (e.trans e4) hD, ?_⟩
  · rw [List.length_map, List.length_take]
    omega
  · rw [upd_same, List.take_add_one, hx]
    simp
theorem walk_signs {z : Str} : Walk (Its z) (z.cps.toList.map fun c => V.str ⟨#[c]⟩).length (fun _ => True) (YAt (z.cps.toList.map fun c => V.str ⟨#[c]⟩)) := by
  have e : (z.cps.toList.map fun c => V.str ⟨#[c]⟩).length = z.cps.size := by simp
  rw [e]
  refine walk_str.mono (fun _ h => h) ?_
  rintro i H x H' hi _ ⟨rfl, c, hc, rfl⟩
  refine ⟨rfl, ?_⟩
  simp [hc]
end

theorem at_lit {α : Type} {l : List α} {n : Nat} {z : Int} {v : α} (e : z = (n : Int)) (h : l[n]? = some v) : atI l z = some v := by
  rw [e]
  exact atI_nat h
/-! ### data by its kind -/
def tyN : PyData → String
  | .none => "NoneType" | .bool _ => "bool" | .int _ => "int" | .str _ => "str" | .list _ => "list" | .tuple _ => "tuple" | .dict _ => "dict"
def isStrD : PyData → Bool | .str _ => true | _ => false
def isIntLikeD : PyData → Bool | .int _ => true | .bool _ => true | _ => false
def isBoolD : PyData → Bool | .bool _ => true | _ => false
def isTupD : PyData → Bool | .tuple _ => true | _ => false
def isListD : PyData → Bool | .list _ => true | _ => false
section
variable {K : PySem.W.Frag} {H H' : Hp} {v : V} {d : PyData}
theorem dp_ty (h : Dp K H v d) : TyX K H v (.type (tyN d)) := by
  cases h with
  | non => exact .base .non
  | bl b => exact .base (.bl b)
  | int i => exact .base (.int i)
  | str x => exact .base (.str x)
  | lst h _ =>
    rcases h with (h | ⟨o, h⟩) | ⟨o, its, n, h1, h2, _⟩
    · exact .base (.lst h)
    · exact .base (.frz h)
    · exact .kList h1 h2
  | tup h _ =>
    rcases h with (h | ⟨o, h⟩) | ⟨o, its, n, h1, h2, _⟩
    · exact .base (.tup h)
    · exact .fTuple h
    · exact .kTuple h1 h2
theorem kit_str (d : PyData) : PySem.W.kitOne K (.type (tyN d)) (.type "str") = some (isStrD d) := by cases d <;> (refine kit_ty ?_; simp only [tyN, isStrD]; decide +kernel)
theorem kit_int (d : PyData) : PySem.W.kitOne K (.type (tyN d)) (.type "int") = some (isIntLikeD d) := by cases d <;> (refine kit_ty ?_; simp only [tyN, isIntLikeD]; decide +kernel)
theorem kit_bool (d : PyData) : PySem.W.kitOne K (.type (tyN d)) (.type "bool") = some (isBoolD d) := by cases d <;> (refine kit_ty ?_; simp only [tyN, isBoolD]; decide +kernel)
theorem kit_tuple (d : PyData) : PySem.W.kitOne K (.type (tyN d)) (.type "tuple") = some (isTupD d) := by cases d <;> (refine kit_ty ?_; simp only [tyN, isTupD]; decide +kernel)
theorem kit_list (d : PyData) : PySem.W.kitOne K (.type (tyN d)) (.type "list") = some (isListD d) := by cases d <;> (refine kit_ty ?_; simp only [tyN, isListD]; decide +kernel)
mutual
theorem Dp.ex (e : Ex H H') {v : V} {d : PyData} : Dp K H v d → Dp K H' v d
  | .non => .non
  | .bl b => .bl b
  | .int i => .int i
  | .str x => .str x
  | .lst h a => .lst (ex_l e h) (DpAll.ex e a)
  | .tup h a => .tup (ex_t e h) (DpAll.ex e a)
theorem DpAll.ex (e : Ex H H') {vs : List V} {ds : List PyData} : DpAll K H vs ds → DpAll K H' vs ds
  | .nil => .nil
  | .cons a b => .cons (Dp.ex e a) (DpAll.ex e b)
end
theorem DpAll.len : ∀ {vs : List V} {ds : List PyData}, DpAll K H vs ds → vs.length = ds.length
  | _, _, .nil => rfl
  | _, _, .cons _ r => by rw [List.length_cons, List.length_cons, DpAll.len r]
theorem DpAll.get : ∀ {vs : List V} {ds : List PyData}, DpAll K H vs ds → ∀ {i : Nat} {v : V}, vs[i]? = some v → ∃ d, ds[i]? = some d ∧ Dp K H v d
  | _, _, .nil, _, _, h => by simp at h
  | _, _, .cons (d := d) a _, 0, v, h => by
    have e : _ = v := Option.some.inj h
    subst e
    exact ⟨d, rfl, a⟩
  | _, _, .cons _ b, i + 1, v, h => DpAll.get b (i := i) (by simpa using h)
end
/-! ### the names and bounds of the program, over data -/
def letters : Str := "abcdefghijklmnopqrstuvwxyz"
def signs : Str := "abcdefghijklmnopqrstuvwxyz0123456789"
def isNameS (z : Str) : Bool := decide (1 ≤ z.length ∧ z.length ≤ 8) && (decide ((z.cps.toList.headD 0) ∈ letters.cps.toList) && z.cps.toList.all fun c => decide (c ∈ signs.cps.toList))
def isNameD : PyData → Bool | .str z => isNameS z | _ => false
def isIntD (d : PyData) : Bool := isIntLikeD d && !isBoolD d
def partsD : PyData → Option (PyData × PyData × PyData × PyData)
  | .tuple [a, b, c, e] => some (a, b, c, e)
  | _ => none
def isMostD : PyData → Bool | .str w => decide (w = ("most" : Str)) | _ => false
def sameD : PyData → PyData → Bool
  | .str x, .str y => decide (x = y)
  | _, _ => false
def isBoundD (d : PyData) : Bool := match partsD d with
  | some (a, b, c, e) => isMostD a && (isNameD b && (isNameD c && (!sameD b c && isIntD e)))
  | none => false
theorem isBound4 {a b c e : PyData} : isBoundD (.tuple [a, b, c, e]) = (isMostD a && (isNameD b && (isNameD c && (!sameD b c && isIntD e)))) := rfl
/-- texts in it, not too long -/
def szS : PyData → Prop | .str z => z.length ≤ sizeLine | _ => True
def szD : PyData → Prop | .tuple ds => ∀ d ∈ ds, szS d | _ => True

/-! ### the text -/
abbrev s_is_name : Stmt := top 28
theorem sc_is_name : FnScope ["value"] ["value"] (defScope s_is_name) := ⟨rfl, rfl, rfl, by decide +kernel, rfl, by decide +kernel, by decide +kernel⟩
abbrev s_is_integer : Stmt := top 29
theorem sc_is_integer : FnScope ["value"] ["value"] (defScope s_is_integer) := ⟨rfl, rfl, rfl, by decide +kernel, rfl, by decide +kernel, by decide +kernel⟩
abbrev s_is_bound : Stmt := top 30
theorem sc_is_bound : FnScope ["value", "word", "first", "second", "limit"] ["value"] (defScope s_is_bound) := ⟨rfl, rfl, rfl, by decide +kernel, rfl, by decide +kernel, by decide +kernel⟩
abbrev s_is_literal : Stmt := top 31
theorem sc_is_literal : FnScope ["value", "word", "name"] ["value"] (defScope s_is_literal) := ⟨rfl, rfl, rfl, by decide +kernel, rfl, by decide +kernel, by decide +kernel⟩
abbrev s_check_literal : Stmt := top 32
theorem sc_check_literal : FnScope ["value"] ["value"] (defScope s_check_literal) := ⟨rfl, rfl, rfl, by decide +kernel, rfl, by decide +kernel, by decide +kernel⟩
abbrev s_clause_of : Stmt := top 33
theorem sc_clause_of : FnScope ["literals", "literal"] ["literals"] (defScope s_clause_of) := ⟨rfl, rfl, rfl, by decide +kernel, rfl, by decide +kernel, by decide +kernel⟩
abbrev s_normal_form : Stmt := top 34
theorem sc_normal_form : FnScope ["literals"] ["literals"] (defScope s_normal_form) := ⟨rfl, rfl, rfl, by decide +kernel, rfl, by decide +kernel, by decide +kernel⟩
abbrev s_law_bag : Stmt := top 36
theorem sc_law_bag : FnScope ["script"] ["script"] (defScope s_law_bag) := ⟨rfl, rfl, rfl, by decide +kernel, rfl, by decide +kernel, by decide +kernel⟩
abbrev s_law_take : Stmt := top 37
theorem sc_law_take : FnScope ["bag", "size", "cell", "draw"] ["bag", "size"] (defScope s_law_take) := ⟨rfl, rfl, rfl, by decide +kernel, rfl, by decide +kernel, by decide +kernel⟩
abbrev s_law_names : Stmt := top 38
theorem sc_law_names : FnScope ["bag", "many", "letters", "signs", "found", "k", "name", "at", "j", "sign"] ["bag", "many"] (defScope s_law_names) := ⟨rfl, rfl, rfl, by decide +kernel, rfl, by decide +kernel, by decide +kernel⟩
abbrev s_law_integer : Stmt := top 39
theorem sc_law_integer : FnScope ["bag", "way", "great"] ["bag"] (defScope s_law_integer) := ⟨rfl, rfl, rfl, by decide +kernel, rfl, by decide +kernel, by decide +kernel⟩
abbrev s_law_literal : Stmt := top 40
theorem sc_law_literal : FnScope ["bag", "pool", "way", "at", "next_at"] ["bag", "pool"] (defScope s_law_literal) := ⟨rfl, rfl, rfl, by decide +kernel, rfl, by decide +kernel, by decide +kernel⟩
abbrev s_law_opposite : Stmt := top 41
theorem sc_law_opposite : FnScope ["row"] ["row"] (defScope s_law_opposite) := ⟨rfl, rfl, rfl, by decide +kernel, rfl, by decide +kernel, by decide +kernel⟩
abbrev s_law_rows : Stmt := top 42
theorem sc_law_rows : FnScope ["bag", "pool", "most", "rows", "k", "way", "row"] ["bag", "pool", "most"] (defScope s_law_rows) := ⟨rfl, rfl, rfl, by decide +kernel, rfl, by decide +kernel, by decide +kernel⟩
abbrev s_law_same : Stmt := top 43
theorem sc_law_same : FnScope ["actual", "due", "k"] ["actual", "due"] (defScope s_law_same) := ⟨rfl, rfl, rfl, by decide +kernel, rfl, by decide +kernel, by decide +kernel⟩
abbrev s_law_once : Stmt := top 44
theorem sc_law_once : FnScope ["rows", "found", "row"] ["rows"] (defScope s_law_once) := ⟨rfl, rfl, rfl, by decide +kernel, rfl, by decide +kernel, by decide +kernel⟩
abbrev s_law_bad_name : Stmt := top 45
theorem sc_law_bad_name : FnScope ["bag", "name", "signs", "way", "at"] ["bag", "name"] (defScope s_law_bad_name) := ⟨rfl, rfl, rfl, by decide +kernel, rfl, by decide +kernel, by decide +kernel⟩
abbrev s_law_bad : Stmt := top 46
theorem sc_law_bad : FnScope ["bag", "pool", "at", "x", "y", "p", "k", "way", "word", "menu"] ["bag", "pool"] (defScope s_law_bad) := ⟨rfl, rfl, rfl, by decide +kernel, rfl, by decide +kernel, by decide +kernel⟩
abbrev s_law_classes : Stmt := top 47
theorem sc_law_classes : FnScope ["e", "first", "k"] ["e"] (defScope s_law_classes) := ⟨rfl, rfl, rfl, by decide +kernel, rfl, by decide +kernel, by decide +kernel⟩
abbrev s_law_alike : Stmt := top 48
theorem sc_law_alike : FnScope ["one", "two"] ["one", "two"] (defScope s_law_alike) := ⟨rfl, rfl, rfl, by decide +kernel, rfl, by decide +kernel, by decide +kernel⟩
abbrev s_law_family_a : Stmt := top 49
theorem sc_law_family_a : FnScope ["name", "row", "number", "ring", "one", "two", "three", "four", "five", "six", "seven"] ["name", "row", "number", "ring"] (defScope s_law_family_a) := ⟨rfl, rfl, rfl, by decide +kernel, rfl, by decide +kernel, by decide +kernel⟩
abbrev s_law_family_b : Stmt := top 50
theorem sc_law_family_b : FnScope ["row", "number", "due", "one", "two", "three", "four", "five", "six", "seven", "eight"] ["row", "number", "due"] (defScope s_law_family_b) := ⟨rfl, rfl, rfl, by decide +kernel, rfl, by decide +kernel, by decide +kernel⟩
abbrev s_law_family_c : Stmt := top 51
theorem sc_law_family_c : FnScope ["name", "number", "due", "given", "one", "two"] ["name", "number", "due"] (defScope s_law_family_c) := ⟨rfl, rfl, rfl, by decide +kernel, rfl, by decide +kernel, by decide +kernel⟩
abbrev s_law_refused : Stmt := top 52
theorem sc_law_refused : FnScope ["given", "number", "value", "e"] ["given", "number", "value"] (defScope s_law_refused) := ⟨rfl, rfl, rfl, by decide +kernel, rfl, by decide +kernel, by decide +kernel⟩
abbrev s_law_normal : Stmt := top 53
theorem sc_law_normal : FnScope ["bag", "rows", "due", "row", "given", "at"] ["bag", "rows"] (defScope s_law_normal) := ⟨rfl, rfl, rfl, by decide +kernel, rfl, by decide +kernel, by decide +kernel⟩
abbrev s_law_bad_items : Stmt := top 54
theorem sc_law_bad_items : FnScope ["bag", "pool", "rows", "bad", "late", "at", "given", "before"] ["bag", "pool", "rows"] (defScope s_law_bad_items) := ⟨rfl, rfl, rfl, by decide +kernel, rfl, by decide +kernel, by decide +kernel⟩
abbrev s_law_bad_lists : Stmt := top 55
theorem sc_law_bad_lists : FnScope ["bag", "pool", "row", "p", "k", "menu", "bad"] ["bag", "pool", "row"] (defScope s_law_bad_lists) := ⟨rfl, rfl, rfl, by decide +kernel, rfl, by decide +kernel, by decide +kernel⟩
abbrev s_law_far_numbers : Stmt := top 56
theorem sc_law_far_numbers : FnScope ["far", "k"] [] (defScope s_law_far_numbers) := ⟨rfl, rfl, rfl, by decide +kernel, rfl, by decide +kernel, by decide +kernel⟩
abbrev s_law : Stmt := top 57
theorem sc_law : FnScope ["script", "bag", "pool", "rows", "row", "number", "ring"] ["script"] (defScope s_law) := ⟨rfl, rfl, rfl, by decide +kernel, rfl, by decide +kernel, by decide +kernel⟩
/-- where the defs stand; e k: the k-th own error -/
structure Ad where
  a_is_name : Addr
  a_is_integer : Addr
  a_is_bound : Addr
  a_is_literal : Addr
  a_check_literal : Addr
  a_clause_of : Addr
  a_normal_form : Addr
  a_law_bag : Addr
  a_law_take : Addr
  a_law_names : Addr
  a_law_integer : Addr
  a_law_literal : Addr
  a_law_opposite : Addr
  a_law_rows : Addr
  a_law_same : Addr
  a_law_once : Addr
  a_law_bad_name : Addr
  a_law_bad : Addr
  a_law_classes : Addr
  a_law_alike : Addr
  a_law_family_a : Addr
  a_law_family_b : Addr
  a_law_family_c : Addr
  a_law_refused : Addr
  a_law_normal : Addr
  a_law_bad_items : Addr
  a_law_bad_lists : Addr
  a_law_far_numbers : Addr
  a_law : Addr
  tL : Tok
  tS : Tok
  tN : Tok
  cR : Addr
  e0 : Addr
  e1 : Addr
  e2 : Addr
  e3 : Addr
  e4 : Addr
  e5 : Addr
  e6 : Addr
  e7 : Addr
  e8 : Addr
  e9 : Addr
  e10 : Addr
  e11 : Addr
  e12 : Addr
  e13 : Addr
  e14 : Addr
  e15 : Addr
  e16 : Addr
  e17 : Addr
  e18 : Addr
  e19 : Addr
  e20 : Addr
  e21 : Addr
abbrev Ad.cL (a : Ad) : Addr := a.e1
abbrev Ad.cC (a : Ad) : Addr := a.e2
structure Fd where
  a_is_name : FuncData
  a_is_integer : FuncData
  a_is_bound : FuncData
  a_is_literal : FuncData
  a_check_literal : FuncData
  a_clause_of : FuncData
  a_normal_form : FuncData
  a_law_bag : FuncData
  a_law_take : FuncData
  a_law_names : FuncData
  a_law_integer : FuncData
  a_law_literal : FuncData
  a_law_opposite : FuncData
  a_law_rows : FuncData
  a_law_same : FuncData
  a_law_once : FuncData
  a_law_bad_name : FuncData
  a_law_bad : FuncData
  a_law_classes : FuncData
  a_law_alike : FuncData
  a_law_family_a : FuncData
  a_law_family_b : FuncData
  a_law_family_c : FuncData
  a_law_refused : FuncData
  a_law_normal : FuncData
  a_law_bad_items : FuncData
  a_law_bad_lists : FuncData
  a_law_far_numbers : FuncData
  a_law : FuncData
structure TX (K : PySem.W.Frag) (mg : Str → Option Value) (a : Ad) : Prop where
  b_isinstance : mg "isinstance" = none
  b_str : mg "str" = none
  b_int : mg "int" = none
  b_bool : mg "bool" = none
  b_tuple : mg "tuple" = none
  b_list : mg "list" = none
  b_len : mg "len" = none
  b_range : mg "range" = none
  b_sorted : mg "sorted" = none
  b_abs : mg "abs" = none
  b_set : mg "set" = none
  b_repr : mg "repr" = none
  b_ValueError : mg "ValueError" = none
  g_LETTERS : mg "LETTERS" = some (.str letters a.tL)
  g_SIGNS : mg "SIGNS" = some (.str signs a.tS)
  g_LONGEST_NAME : mg "LONGEST_NAME" = some (.int 8 a.tN)
  c_RingclauseError : mg "RingclauseError" = some (.ref a.cR)
  c_InvalidName : mg "InvalidName" = some (.ref a.e0)
  c_InvalidLiteral : mg "InvalidLiteral" = some (.ref a.e1)
  c_InvalidClause : mg "InvalidClause" = some (.ref a.e2)
  c_InvalidText : mg "InvalidText" = some (.ref a.e3)
  c_UnknownMoment : mg "UnknownMoment" = some (.ref a.e4)
  c_InvalidChain : mg "InvalidChain" = some (.ref a.e5)
  c_Inconsistent : mg "Inconsistent" = some (.ref a.e6)
  c_InvalidPivot : mg "InvalidPivot" = some (.ref a.e7)
  c_WrongStep : mg "WrongStep" = some (.ref a.e8)
  c_UnknownLiteral : mg "UnknownLiteral" = some (.ref a.e9)
  c_UnknownNumber : mg "UnknownNumber" = some (.ref a.e10)
  c_NotAllowed : mg "NotAllowed" = some (.ref a.e11)
  c_NoPaper : mg "NoPaper" = some (.ref a.e12)
  c_InvalidLimit : mg "InvalidLimit" = some (.ref a.e13)
  c_InvalidWeights : mg "InvalidWeights" = some (.ref a.e14)
  c_HasAnswer : mg "HasAnswer" = some (.ref a.e15)
  c_NoAnswer : mg "NoAnswer" = some (.ref a.e16)
  c_NothingPushed : mg "NothingPushed" = some (.ref a.e17)
  c_NothingToUndo : mg "NothingToUndo" = some (.ref a.e18)
  c_NothingToRedo : mg "NothingToRedo" = some (.ref a.e19)
  c_NotKept : mg "NotKept" = some (.ref a.e20)
  c_InvalidRow : mg "InvalidRow" = some (.ref a.e21)
  f_is_name : mg "is_name" = some (.ref a.a_is_name)
  k_is_name : PySem.W.keepIn K (.ref a.a_is_name) = true
  f_is_integer : mg "is_integer" = some (.ref a.a_is_integer)
  k_is_integer : PySem.W.keepIn K (.ref a.a_is_integer) = true
  f_is_bound : mg "is_bound" = some (.ref a.a_is_bound)
  k_is_bound : PySem.W.keepIn K (.ref a.a_is_bound) = true
  f_is_literal : mg "is_literal" = some (.ref a.a_is_literal)
  k_is_literal : PySem.W.keepIn K (.ref a.a_is_literal) = true
  f_check_literal : mg "check_literal" = some (.ref a.a_check_literal)
  k_check_literal : PySem.W.keepIn K (.ref a.a_check_literal) = true
  f_clause_of : mg "clause_of" = some (.ref a.a_clause_of)
  k_clause_of : PySem.W.keepIn K (.ref a.a_clause_of) = true
  f_normal_form : mg "normal_form" = some (.ref a.a_normal_form)
  k_normal_form : PySem.W.keepIn K (.ref a.a_normal_form) = true
  f__law_bag : mg "_law_bag" = some (.ref a.a_law_bag)
  k__law_bag : PySem.W.keepIn K (.ref a.a_law_bag) = true
  f__law_take : mg "_law_take" = some (.ref a.a_law_take)
  k__law_take : PySem.W.keepIn K (.ref a.a_law_take) = true
  f__law_names : mg "_law_names" = some (.ref a.a_law_names)
  k__law_names : PySem.W.keepIn K (.ref a.a_law_names) = true
  f__law_integer : mg "_law_integer" = some (.ref a.a_law_integer)
  k__law_integer : PySem.W.keepIn K (.ref a.a_law_integer) = true
  f__law_literal : mg "_law_literal" = some (.ref a.a_law_literal)
  k__law_literal : PySem.W.keepIn K (.ref a.a_law_literal) = true
  f__law_opposite : mg "_law_opposite" = some (.ref a.a_law_opposite)
  k__law_opposite : PySem.W.keepIn K (.ref a.a_law_opposite) = true
  f__law_rows : mg "_law_rows" = some (.ref a.a_law_rows)
  k__law_rows : PySem.W.keepIn K (.ref a.a_law_rows) = true
  f__law_same : mg "_law_same" = some (.ref a.a_law_same)
  k__law_same : PySem.W.keepIn K (.ref a.a_law_same) = true
  f__law_once : mg "_law_once" = some (.ref a.a_law_once)
  k__law_once : PySem.W.keepIn K (.ref a.a_law_once) = true
  f__law_bad_name : mg "_law_bad_name" = some (.ref a.a_law_bad_name)
  k__law_bad_name : PySem.W.keepIn K (.ref a.a_law_bad_name) = true
  f__law_bad : mg "_law_bad" = some (.ref a.a_law_bad)
  k__law_bad : PySem.W.keepIn K (.ref a.a_law_bad) = true
  f__law_classes : mg "_law_classes" = some (.ref a.a_law_classes)
  k__law_classes : PySem.W.keepIn K (.ref a.a_law_classes) = true
  f__law_alike : mg "_law_alike" = some (.ref a.a_law_alike)
  k__law_alike : PySem.W.keepIn K (.ref a.a_law_alike) = true
  f__law_family_a : mg "_law_family_a" = some (.ref a.a_law_family_a)
  k__law_family_a : PySem.W.keepIn K (.ref a.a_law_family_a) = true
  f__law_family_b : mg "_law_family_b" = some (.ref a.a_law_family_b)
  k__law_family_b : PySem.W.keepIn K (.ref a.a_law_family_b) = true
  f__law_family_c : mg "_law_family_c" = some (.ref a.a_law_family_c)
  k__law_family_c : PySem.W.keepIn K (.ref a.a_law_family_c) = true
  f__law_refused : mg "_law_refused" = some (.ref a.a_law_refused)
  k__law_refused : PySem.W.keepIn K (.ref a.a_law_refused) = true
  f__law_normal : mg "_law_normal" = some (.ref a.a_law_normal)
  k__law_normal : PySem.W.keepIn K (.ref a.a_law_normal) = true
  f__law_bad_items : mg "_law_bad_items" = some (.ref a.a_law_bad_items)
  k__law_bad_items : PySem.W.keepIn K (.ref a.a_law_bad_items) = true
  f__law_bad_lists : mg "_law_bad_lists" = some (.ref a.a_law_bad_lists)
  k__law_bad_lists : PySem.W.keepIn K (.ref a.a_law_bad_lists) = true
  f__law_far_numbers : mg "_law_far_numbers" = some (.ref a.a_law_far_numbers)
  k__law_far_numbers : PySem.W.keepIn K (.ref a.a_law_far_numbers) = true
  f_law : mg "law" = some (.ref a.a_law)
  k_law : PySem.W.keepIn K (.ref a.a_law) = true
structure FDS (K : PySem.W.Frag) (a : Ad) (d : Fd) : Prop where
  F_is_name : Fun K "is_name" "is_name" s_is_name a.a_is_name d.a_is_name
  B_is_name : Binds K d.a_is_name ["value"] []
  F_is_integer : Fun K "is_integer" "is_integer" s_is_integer a.a_is_integer d.a_is_integer
  B_is_integer : Binds K d.a_is_integer ["value"] []
  F_is_bound : Fun K "is_bound" "is_bound" s_is_bound a.a_is_bound d.a_is_bound
  B_is_bound : Binds K d.a_is_bound ["value"] []
  F_is_literal : Fun K "is_literal" "is_literal" s_is_literal a.a_is_literal d.a_is_literal
  B_is_literal : Binds K d.a_is_literal ["value"] []
  F_check_literal : Fun K "check_literal" "check_literal" s_check_literal a.a_check_literal d.a_check_literal
  B_check_literal : Binds K d.a_check_literal ["value"] []
  F_clause_of : Fun K "clause_of" "clause_of" s_clause_of a.a_clause_of d.a_clause_of
  B_clause_of : Binds K d.a_clause_of ["literals"] []
  F_normal_form : Fun K "normal_form" "normal_form" s_normal_form a.a_normal_form d.a_normal_form
  B_normal_form : Binds K d.a_normal_form ["literals"] []
  F__law_bag : Fun K "_law_bag" "_law_bag" s_law_bag a.a_law_bag d.a_law_bag
  B__law_bag : Binds K d.a_law_bag ["script"] []
  F__law_take : Fun K "_law_take" "_law_take" s_law_take a.a_law_take d.a_law_take
  B__law_take : Binds K d.a_law_take ["bag", "size"] []
  F__law_names : Fun K "_law_names" "_law_names" s_law_names a.a_law_names d.a_law_names
  B__law_names : Binds K d.a_law_names ["bag", "many"] []
  F__law_integer : Fun K "_law_integer" "_law_integer" s_law_integer a.a_law_integer d.a_law_integer
  B__law_integer : Binds K d.a_law_integer ["bag"] []
  F__law_literal : Fun K "_law_literal" "_law_literal" s_law_literal a.a_law_literal d.a_law_literal
  B__law_literal : Binds K d.a_law_literal ["bag", "pool"] []
  F__law_opposite : Fun K "_law_opposite" "_law_opposite" s_law_opposite a.a_law_opposite d.a_law_opposite
  B__law_opposite : Binds K d.a_law_opposite ["row"] []
  F__law_rows : Fun K "_law_rows" "_law_rows" s_law_rows a.a_law_rows d.a_law_rows
  B__law_rows : Binds K d.a_law_rows ["bag", "pool", "most"] []
  F__law_same : Fun K "_law_same" "_law_same" s_law_same a.a_law_same d.a_law_same
  B__law_same : Binds K d.a_law_same ["actual", "due"] []
  F__law_once : Fun K "_law_once" "_law_once" s_law_once a.a_law_once d.a_law_once
  B__law_once : Binds K d.a_law_once ["rows"] []
  F__law_bad_name : Fun K "_law_bad_name" "_law_bad_name" s_law_bad_name a.a_law_bad_name d.a_law_bad_name
  B__law_bad_name : Binds K d.a_law_bad_name ["bag", "name"] []
  F__law_bad : Fun K "_law_bad" "_law_bad" s_law_bad a.a_law_bad d.a_law_bad
  B__law_bad : Binds K d.a_law_bad ["bag", "pool"] []
  F__law_classes : Fun K "_law_classes" "_law_classes" s_law_classes a.a_law_classes d.a_law_classes
  B__law_classes : Binds K d.a_law_classes ["e"] []
  F__law_alike : Fun K "_law_alike" "_law_alike" s_law_alike a.a_law_alike d.a_law_alike
  B__law_alike : Binds K d.a_law_alike ["one", "two"] []
  F__law_family_a : Fun K "_law_family_a" "_law_family_a" s_law_family_a a.a_law_family_a d.a_law_family_a
  B__law_family_a : Binds K d.a_law_family_a ["name", "row", "number", "ring"] []
  F__law_family_b : Fun K "_law_family_b" "_law_family_b" s_law_family_b a.a_law_family_b d.a_law_family_b
  B__law_family_b : Binds K d.a_law_family_b ["row", "number", "due"] []
  F__law_family_c : Fun K "_law_family_c" "_law_family_c" s_law_family_c a.a_law_family_c d.a_law_family_c
  B__law_family_c : Binds K d.a_law_family_c ["name", "number", "due"] []
  F__law_refused : Fun K "_law_refused" "_law_refused" s_law_refused a.a_law_refused d.a_law_refused
  B__law_refused : Binds K d.a_law_refused ["given", "number", "value"] []
  F__law_normal : Fun K "_law_normal" "_law_normal" s_law_normal a.a_law_normal d.a_law_normal
  B__law_normal : Binds K d.a_law_normal ["bag", "rows"] []
  F__law_bad_items : Fun K "_law_bad_items" "_law_bad_items" s_law_bad_items a.a_law_bad_items d.a_law_bad_items
  B__law_bad_items : Binds K d.a_law_bad_items ["bag", "pool", "rows"] []
  F__law_bad_lists : Fun K "_law_bad_lists" "_law_bad_lists" s_law_bad_lists a.a_law_bad_lists d.a_law_bad_lists
  B__law_bad_lists : Binds K d.a_law_bad_lists ["bag", "pool", "row"] []
  F__law_far_numbers : Fun K "_law_far_numbers" "_law_far_numbers" s_law_far_numbers a.a_law_far_numbers d.a_law_far_numbers
  B__law_far_numbers : Binds K d.a_law_far_numbers [] []
  F_law : Fun K "law" "law" s_law a.a_law d.a_law
  B_law : Binds K d.a_law ["script"] []
/-- where the errors' __init__ stand -/
structure Ed where
  f0 : Addr
  f1 : Addr
  f2 : Addr
  f3 : Addr
  f4 : Addr
  f5 : Addr
  f6 : Addr
  f7 : Addr
  f8 : Addr
  f9 : Addr
  f10 : Addr
  f11 : Addr
  f12 : Addr
  f13 : Addr
  f14 : Addr
  f15 : Addr
  f16 : Addr
  f17 : Addr
  f18 : Addr
  f19 : Addr
  f20 : Addr
  f21 : Addr
/-- the errors that the program raises -/
structure ER (K : PySem.W.Frag) (mg : Str → Option Value) (P : Program) (a : Ad) (fL fC : Addr) : Prop where
  eL : PySem.Sup.SupTxt K mg P "InvalidLiteral" "value" "not a literal" a.e1 fL
  eC : PySem.Sup.SupTxt K mg P "InvalidClause" "value" "not a clause" a.e2 fC
/-- all own errors -/
structure EA (K : PySem.W.Frag) (mg : Str → Option Value) (P : Program) (a : Ad) (f : Ed) : Prop where
  s0 : PySem.Sup.SupTxt K mg P "InvalidName" "name" "not a name" a.e0 f.f0
  n0 : PySem.W.findIn K (.ref a.e0) "name" = some none
  x0 : XfC K a.e0
  s1 : PySem.Sup.SupTxt K mg P "InvalidLiteral" "value" "not a literal" a.e1 f.f1
  n1 : PySem.W.findIn K (.ref a.e1) "value" = some none
  x1 : XfC K a.e1
  s2 : PySem.Sup.SupTxt K mg P "InvalidClause" "value" "not a clause" a.e2 f.f2
  n2 : PySem.W.findIn K (.ref a.e2) "value" = some none
  x2 : XfC K a.e2
  s3 : PySem.Sup.SupTxt K mg P "InvalidText" "line" "not a text of this form" a.e3 f.f3
  n3 : PySem.W.findIn K (.ref a.e3) "line" = some none
  x3 : XfC K a.e3
  s4 : PySem.Sup.SupTxt K mg P "UnknownMoment" "name" "not a listed moment" a.e4 f.f4
  n4 : PySem.W.findIn K (.ref a.e4) "name" = some none
  x4 : XfC K a.e4
  s5 : PySem.Sup.SupTxt K mg P "InvalidChain" "bounds" "not such a chain" a.e5 f.f5
  n5 : PySem.W.findIn K (.ref a.e5) "bounds" = some none
  x5 : XfC K a.e5
  s6 : PySem.Sup.SupTxt K mg P "Inconsistent" "ring" "the net has a negative ring" a.e6 f.f6
  n6 : PySem.W.findIn K (.ref a.e6) "ring" = some none
  x6 : XfC K a.e6
  s7 : PySem.Sup.SupTxt K mg P "InvalidPivot" "pivot" "not a pivot of these clauses" a.e7 f.f7
  n7 : PySem.W.findIn K (.ref a.e7) "pivot" = some none
  x7 : XfC K a.e7
  s8 : PySem.Sup.SupTxt K mg P "WrongStep" "index" "a step of the paper is wrong" a.e8 f.f8
  n8 : PySem.W.findIn K (.ref a.e8) "index" = some none
  x8 : XfC K a.e8
  s9 : PySem.Sup.SupTxt K mg P "UnknownLiteral" "literal" "not a literal of the machine" a.e9 f.f9
  n9 : PySem.W.findIn K (.ref a.e9) "literal" = some none
  x9 : XfC K a.e9
  s10 : PySem.Sup.SupTxt K mg P "UnknownNumber" "number" "not the number of a clause" a.e10 f.f10
  n10 : PySem.W.findIn K (.ref a.e10) "number" = some none
  x10 : XfC K a.e10
  s11 : PySem.Sup.SupTxt K mg P "NotAllowed" "deed" "the deed is not allowed" a.e11 f.f11
  n11 : PySem.W.findIn K (.ref a.e11) "deed" = some none
  x11 : XfC K a.e11
  s12 : PySem.Sup.SupZ K mg P "NoPaper" "there is no paper" a.e12 f.f12
  s13 : PySem.Sup.SupTxt K mg P "InvalidLimit" "value" "not a limit of this kind" a.e13 f.f13
  n13 : PySem.W.findIn K (.ref a.e13) "value" = some none
  x13 : XfC K a.e13
  s14 : PySem.Sup.SupZ K mg P "InvalidWeights" "not such weights" a.e14 f.f14
  s15 : PySem.Sup.SupTxt K mg P "HasAnswer" "answer" "the question has an answer" a.e15 f.f15
  n15 : PySem.W.findIn K (.ref a.e15) "answer" = some none
  x15 : XfC K a.e15
  s16 : PySem.Sup.SupTxt K mg P "NoAnswer" "paper" "the question has no answer" a.e16 f.f16
  n16 : PySem.W.findIn K (.ref a.e16) "paper" = some none
  x16 : XfC K a.e16
  s17 : PySem.Sup.SupZ K mg P "NothingPushed" "no frame is open" a.e17 f.f17
  s18 : PySem.Sup.SupZ K mg P "NothingToUndo" "nothing to undo" a.e18 f.f18
  s19 : PySem.Sup.SupZ K mg P "NothingToRedo" "nothing to redo" a.e19 f.f19
  s20 : PySem.Sup.SupTxt K mg P "NotKept" "clause" "not a kept clause" a.e20 f.f20
  n20 : PySem.W.findIn K (.ref a.e20) "clause" = some none
  x20 : XfC K a.e20
  s21 : PySem.Sup.SupTxt K mg P "InvalidRow" "index" "not a row of a run" a.e21 f.f21
  n21 : PySem.W.findIn K (.ref a.e21) "index" = some none
  x21 : XfC K a.e21

def spD (pre : PyData → Prop) (F : PyData → Bool) (K : PySem.W.Frag) : Sp := fun vs H Q _ => ∃ v d, vs = [v] ∧ Dp K H v d ∧ pre d ∧ ∀ H', Ex H H' → Q (.bl (F d)) H'
def spIsName (K : PySem.W.Frag) : Sp := spD szS isNameD K
def spIsInt (K : PySem.W.Frag) : Sp := spD (fun _ => True) isIntD K
def spIsBound (K : PySem.W.Frag) : Sp := spD szD isBoundD K
theorem iteT' {c : Bool} {A B : Prop} (hc : c = true) (h : A) : if c = true then A else B := by
  rw [if_pos hc]
  exact h
theorem ex_q {H H1 : Hp} {Q : VK} {b : Bool} (q : ∀ H', Ex H H' → Q (.bl b) H') {c : Bool} (e : b = c) (x : Ex H H1) : Q (.bl c) H1 := by
  rw [← e]
  exact q H1 x

section
variable {P : Program} {w : World} {K : PySem.W.Frag} {mg : Str → Option Value} {base : Heap} {a : Ad} {d : Fd}
theorem strip_all (z y : Str) : (Txt.stripChars z y = (⟨#[]⟩ : Str)) ↔ ∀ c ∈ z.cps.toList, c ∈ y.cps.toList := by
  have e0 : Txt.stripChars z y = Builtin.Str.strSub z (stripLo y.cps.contains true z) (stripHi y.cps.contains true z (stripLo y.cps.contains true z)) := PyProof.Rows.stripBy_eq _ _ _ _
  obtain ⟨l1, l2, l3⟩ := PyProof.Rows.lo_facts y.cps.contains z
  rw [e0]
  generalize stripLo y.cps.contains true z = lo at l1 l2 l3
  obtain ⟨h1, h2, h3, _⟩ := PyProof.Rows.hi_facts y.cps.contains z lo l1
  generalize stripHi y.cps.contains true z lo = hi at h1 h2 h3
  have hlen : z.cps.toList.length = z.length := by show _ = z.cps.size; simp
  have hin : ∀ c, y.cps.contains c = true ↔ c ∈ y.cps.toList := fun c => by rw [Array.contains_iff_mem]; simp
  have hk : ∀ k, k < z.length → ∃ c, z.cps.toList[k]? = some c ∧ z.cps.getD k 0 = c := fun k h => by
    have h' : k < z.cps.toList.length := by omega
    refine ⟨z.cps.toList[k], by simp, ?_⟩
    rw [← PyProof.Rows.getD_list]
    rw [List.getD, List.getElem?_eq_getElem h']; rfl
  constructor
  · intro h c hc
    have hd : (Builtin.Str.strSub z lo hi).cps.toList = [] := by rw [h]
    have hl : hi ≤ lo := by
      have := congrArg List.length hd
      rw [PySem.StrLaws.strSub_toList, List.length_take, List.length_drop, List.length_nil] at this
      omega
    obtain ⟨k, hk1, hk2⟩ := List.mem_iff_getElem.mp hc
    rw [hlen] at hk1
    obtain ⟨c', e1, e2⟩ := hk k hk1
    have : c' = c := by
      rw [List.getElem?_eq_getElem (by omega)] at e1
      rw [← hk2]
      exact (Option.some.inj e1).symm
    subst this
    rw [← hin, ← e2]
    by_cases hlo : k < lo
    · exact l2 k hlo
    · exact h3 k (by omega) hk1
  · intro h
    have hlo : lo = z.length := by
      rcases l3 with l3 | l3
      · exact l3
      · by_cases hb : lo < z.length
        · obtain ⟨c, e1, e2⟩ := hk lo hb
          rw [e2] at l3
          have := (hin c).mpr (h c (List.mem_of_getElem? e1))
          rw [this] at l3
          cases l3
        · omega
    have : hi = lo := by omega
    subst this
    have hd : (Builtin.Str.strSub z hi hi).cps.toList = [] := by rw [PySem.StrLaws.strSub_toList]; simp
    have : (Builtin.Str.strSub z hi hi).cps = #[] := by
      apply Array.ext'
      rw [hd]
    show (⟨(Builtin.Str.strSub z hi hi).cps⟩ : Str) = _
    rw [this]
theorem ok_is_name (T : TX K mg a) (D : FDS K a d) : FnOk P w K mg base CX0 1 a.a_is_name d.a_is_name ["value"] (spIsName K) := by
  refine D.F_is_name.ok sc_is_name (fun vs H Q E h => ?_) (fun cdv A outer s H vs Q E hr h => ?_)
  · obtain ⟨v, d, rfl, _⟩ := h
    rfl
  · obtain ⟨v, d, rfl, hd, hz, q⟩ := h
    refine ⟨_, (pss_cons (ps_if (PW.pt (pw_or (pt_not (pt_val (pe_callB call_isi (by rfl) T.b_isinstance (by decide +kernel) (pa_cons (pv 0) (pa_cons (pe_bltn (v := .ty "str") (by rfl) T.b_str (by decide +kernel) rfl) pa_nil))))) (pw_or1 (pt_not (pt_chain op_le op_le pe_int (pe_callB call_len_str (by rfl) T.b_len (by decide +kernel) (pa_cons (pv 0) pa_nil)) (pe_glob (v := .int 8) rfl T.g_LONGEST_NAME ⟨_, rfl⟩)))))) (pss_one (ps_ret pe_bl)) pss_nil)
        (pss_one (ps_ret (pe_and (pe_cmpR op_in_sign (pe_ix ix_str (pv 0) pe_int (fun _ _ => rfl)) (pe_glob (v := .str letters) rfl T.g_LETTERS ⟨_, rfl⟩) rfl) (pe_one (pe_cmpR op_eq (pe_m1 PySem.F.slot_str_strip PySem.F.type_str_strip mt_stripChars (pv 0) (pe_glob (v := .str signs) rfl T.g_SIGNS ⟨_, rfl⟩)) pe_str (nomark _))))))), ?_⟩
    refine ⟨_, rfl, v, _, _, _, _, rfl, .ty "str", dp_ty hd, kit_str d, _, rfl, ?_⟩
    cases hd with
    | str z =>
      have hz : z.length ≤ sizeLine := hz
      have hlen : z.cps.toList.length = z.length := by show _ = z.cps.size; simp
      refine ⟨_, rfl, z, rfl, hz, 1, _, rfl, rfl, _, rfl, ?_⟩
      by_cases h1 : (1 : Int) ≤ (z.length : Int)
      · rw [decide_eq_true h1]
        refine ⟨_, 8, rfl, rfl, _, rfl, ?_⟩
        by_cases h2 : (z.length : Int) ≤ 8
        · rw [decide_eq_true h2]
          obtain ⟨c, cs, hc⟩ : ∃ c cs, z.cps.toList = c :: cs := by
            cases e : z.cps.toList with
            | nil =>
              rw [e] at hlen
              simp at hlen
              omega
            | cons c cs => exact ⟨c, cs, rfl⟩
          refine ⟨_, rfl, z, 0, c, rfl, rfl, hz, at_lit (n := 0) rfl (show z.cps.toList[0]? = some c by rw [hc]; rfl), c, letters, rfl, rfl, _, rfl, ?_⟩
          have hv : isNameS z = (decide (c ∈ letters.cps.toList) && z.cps.toList.all fun c => decide (c ∈ signs.cps.toList)) := by
            unfold isNameS
            rw [decide_eq_true (show 1 ≤ z.length ∧ z.length ≤ 8 by omega), hc]
            rfl
          by_cases h3 : c ∈ letters.cps.toList
          · rw [decide_eq_true h3]
            refine iteT ⟨_, rfl, ⟨_, rfl⟩, z, signs, rfl, rfl, hz, rfl, ex_q q ?_ (Ex.refl _)⟩
            show isNameS z = decide (V.str (Txt.stripChars z signs) = V.str (⟨#[]⟩ : Str))
            rw [hv, decide_eq_true h3]
            apply Bool.eq_iff_iff.mpr
            rw [Bool.true_and, decide_eq_true_eq, List.all_eq_true]
            refine ⟨fun g => ?_, fun g => ?_⟩
            · rw [(strip_all z signs).mpr fun c h => of_decide_eq_true (g c h)]
            · intro c h
              exact decide_eq_true ((strip_all z signs).mp (V.str.inj g) c h)
          · rw [decide_eq_false h3]
            exact iteF (ex_q q (show isNameS z = false by rw [hv, decide_eq_false h3]; rfl) (Ex.refl _))
        · rw [decide_eq_false h2]
          refine ex_q q (show isNameS z = false from ?_) (Ex.refl _)
          unfold isNameS
          rw [decide_eq_false (show ¬ (1 ≤ z.length ∧ z.length ≤ 8) by omega)]
          rfl
      · rw [decide_eq_false h1]
        refine ⟨false, rfl, ex_q q (show isNameS z = false from ?_) (Ex.refl _)⟩
        unfold isNameS
        rw [decide_eq_false (show ¬ (1 ≤ z.length ∧ z.length ≤ 8) by omega)]
        rfl
    | _ => exact q H (Ex.refl _)
theorem ok_is_integer (T : TX K mg a) (D : FDS K a d) : FnOk P w K mg base CX0 1 a.a_is_integer d.a_is_integer ["value"] (spIsInt K) := by
  refine D.F_is_integer.ok sc_is_integer (fun vs H Q E h => ?_) (fun cdv A outer s H vs Q E hr h => ?_)
  · obtain ⟨v, d, rfl, _⟩ := h
    rfl
  · obtain ⟨v, d, rfl, hd, _, q⟩ := h
    refine ⟨_, (pss_one (ps_ret (pe_and (pe_callB call_isi (by rfl) T.b_isinstance (by decide +kernel) (pa_cons (pv 0) (pa_cons (pe_bltn (v := .ty "int") (by rfl) T.b_int (by decide +kernel) rfl) pa_nil))) (pe_one (pe_not (pe_callB call_isi (by rfl) T.b_isinstance (by decide +kernel) (pa_cons (pv 0) (pa_cons (pe_bltn (v := .ty "bool") (by rfl) T.b_bool (by decide +kernel) rfl) pa_nil)))))))), ?_⟩
    refine ⟨_, rfl, v, _, _, _, _, rfl, .ty "int", dp_ty hd, kit_int d, _, rfl, ?_⟩
    cases e : isIntLikeD d with
    | false => exact iteF (ex_q q (by show (isIntLikeD d && _) = false; rw [e]; rfl) (Ex.refl _))
    | true =>
      refine iteT ⟨_, rfl, v, _, _, _, _, rfl, .ty "bool", dp_ty hd, kit_bool d, _, rfl, ?_⟩
      exact ex_q q (by show (isIntLikeD d && _) = _; rw [e]; rfl) (Ex.refl _)
theorem ok_is_bound (T : TX K mg a) (D : FDS K a d) : FnOk P w K mg base CX0 2 a.a_is_bound d.a_is_bound ["value"] (spIsBound K) := by
  have G_is_name : FnOk P w K mg base CX0 1 a.a_is_name d.a_is_name ["value"] (spIsName K) := ok_is_name T D
  have G_is_integer : FnOk P w K mg base CX0 1 a.a_is_integer d.a_is_integer ["value"] (spIsInt K) := ok_is_integer T D
  refine D.F_is_bound.ok sc_is_bound (fun vs H Q E h => ?_) (fun cdv A outer s H vs Q E hr h => ?_)
  · obtain ⟨v, d, rfl, _⟩ := h
    rfl
  · obtain ⟨v, d, rfl, hd, hz, q⟩ := h
    refine ⟨_, (pss_cons (ps_if (PW.pt (pw_or (pt_not (pt_val (pe_callB call_isi (by rfl) T.b_isinstance (by decide +kernel) (pa_cons (pv 0) (pa_cons (pe_bltn (v := .ty "tuple") (by rfl) T.b_tuple (by decide +kernel) rfl) pa_nil))))) (pw_or1 (pt_cmpR op_ne (pe_callB call_len_seq (by rfl) T.b_len (by decide +kernel) (pa_cons (pv 0) pa_nil)) pe_int (nomark _))))) (pss_one (ps_ret pe_bl)) pss_nil)
        (pss_cons (ps_asg (pv 0) (pg_tup rfl (pgs_cons (pg_name (i := 1) sc_is_bound.nd rfl (Or.inl rfl)) (pgs_cons (pg_name (i := 2) sc_is_bound.nd rfl (Or.inl rfl)) (pgs_cons (pg_name (i := 3) sc_is_bound.nd rfl (Or.inl rfl)) (pgs_cons (pg_name (i := 4) sc_is_bound.nd rfl (Or.inl rfl)) pgs_nil))))))
        (pss_cons (ps_if (PW.pt (pw_or (pt_not (pt_val (pe_callB call_isi (by rfl) T.b_isinstance (by decide +kernel) (pa_cons (pv 1) (pa_cons (pe_bltn (v := .ty "str") (by rfl) T.b_str (by decide +kernel) rfl) pa_nil))))) (pw_or1 (pt_cmpR op_ne (pv 1) pe_str (nomark _))))) (pss_one (ps_ret pe_bl)) pss_nil)
        (pss_one (ps_ret (pe_and (pe_call G_is_name (hr.mono (by decide)) rfl T.f_is_name T.k_is_name D.B_is_name .nil pass0 (pa_cons (pv 2) pa_nil)) (pe_and (pe_call G_is_name (hr.mono (by decide)) rfl T.f_is_name T.k_is_name D.B_is_name .nil pass0 (pa_cons (pv 3) pa_nil)) (pe_and (pe_cmpR op_ne (pv 2) (pv 3) (nomark _)) (pe_one (pe_call G_is_integer (hr.mono (by decide)) rfl T.f_is_integer T.k_is_integer D.B_is_integer .nil pass0 (pa_cons (pv 4) pa_nil))))))))))), ?_⟩
    refine ⟨_, rfl, v, _, _, _, _, rfl, .ty "tuple", dp_ty hd, kit_tuple d, _, rfl, ?_⟩
    cases hd with
    | @tup a xs ds ha hall =>
      have hl := DpAll.len hall
      refine ⟨_, rfl, a, xs, rfl, .inr ha, rfl, _, rfl, ?_⟩
      by_cases h4 : xs.length = 4
      · refine iteNS (by rw [h4]; rfl) ?_
        obtain ⟨v1, v2, v3, v4, rfl⟩ : ∃ v1 v2 v3 v4, xs = [v1, v2, v3, v4] := by
          match xs, h4 with
          | [v1, v2, v3, v4], _ => exact ⟨v1, v2, v3, v4, rfl⟩
        cases hall with
        | cons g1 r1 =>
        cases r1 with
        | cons g2 r2 =>
        cases r2 with
        | cons g3 r3 =>
        cases r3 with
        | cons g4 r4 =>
        cases r4
        rename_i d1 d2 d3 d4
        have z2 : szS d2 := hz d2 (by simp)
        have z3 : szS d3 := hz d3 (by simp)
        refine ⟨_, rfl, a, _, rfl, ha, rfl, _, _, rfl, _, _, rfl, _, _, rfl, _, _, rfl, rfl, ?_⟩
        refine ⟨_, rfl, v1, _, _, _, _, rfl, .ty "str", dp_ty g1, kit_str d1, _, rfl, ?_⟩
        cases g1 with
        | str wd =>
          refine ⟨_, rfl, rfl, _, rfl, ?_⟩
          by_cases hw : wd = ("most" : Str)
          · refine iteNS (by rw [hw]) ?_
            subst hw
            -- is_name(first) and is_name(second) and first != second and is_integer(limit)
            refine ⟨_, rfl, v2, d2, rfl, g2, z2, fun H1 e1 => ⟨_, rfl, ?_⟩⟩
            cases e2 : isNameD d2 with
            | false => exact iteF (ex_q q (by rw [isBound4, e2]; simp) e1)
            | true =>
              refine iteT ⟨_, rfl, v3, d3, rfl, Dp.ex e1 g3, z3, fun H2 e3 => ⟨_, rfl, ?_⟩⟩
              cases g2 with
              | str x =>
                have e2' : isNameS x = true := e2
                cases e4 : isNameD d3 with
                | false => exact iteF (ex_q q (by rw [isBound4, e4]; simp) (e1.trans e3))
                | true =>
                  cases g3 with
                  | str y =>
                    have e4' : isNameS y = true := e4
                    refine iteT ⟨_, rfl, _, rfl, rfl, _, rfl, ?_⟩
                    by_cases hxy : x = y
                    · subst hxy
                      have e5 : decide (V.str x = V.str x) = true := decide_eq_true rfl
                      rw [e5]
                      exact iteF (ex_q q (by rw [isBound4, show sameD (.str x) (.str x) = true from decide_eq_true rfl]; simp) (e1.trans e3))
                    · have e5 : decide (V.str x = V.str y) = false := decide_eq_false fun z => hxy (V.str.inj z)
                      rw [e5]
                      refine iteT ⟨_, rfl, v4, d4, rfl, Dp.ex (e1.trans e3) g4, trivial, fun H3 e6 => ?_⟩
                      refine ex_q q ?_ ((e1.trans e3).trans e6)
                      rw [isBound4, e2, e4, show sameD (.str x) (.str y) = false from decide_eq_false hxy, (by simp [isMostD] : isMostD (.str ("most" : Str)) = true)]
                      rfl
                  | _ => cases e4
              | _ => cases e2
          · refine iteT' ?_ (ex_q q ?_ (Ex.refl _))
            · have e5 : decide (V.str wd = V.str ("most" : Str)) = false := decide_eq_false fun z => hw (V.str.inj z)
              rw [e5]
              rfl
            · rw [isBound4, show isMostD (.str wd) = false from decide_eq_false hw]
              rfl
        | _ => exact ex_q q rfl (Ex.refl _)
      · refine iteT' ?_ (ex_q q ?_ (Ex.refl _))
        · have e5 : decide (V.int (xs.length : Nat) = V.int 4) = false := decide_eq_false fun z => h4 (by have := V.int.inj z; omega)
          rw [e5]
          rfl
        · have l4 : ds.length ≠ 4 := by omega
          show isBoundD (.tuple ds) = false
          match ds, l4 with
          | [], _ => rfl
          | [_], _ => rfl
          | [_, _], _ => rfl
          | [_, _, _], _ => rfl
          | [_, _, _, _], h => exact absurd rfl h
          | _ :: _ :: _ :: _ :: _ :: _, _ => rfl
    | _ => exact ex_q q rfl (Ex.refl _)
end
end V1
set_option maxRecDepth 100000
set_option maxHeartbeats 4000000
namespace V1
open PySem L2 Evl GP HR SC
inductive Lit where
  | yn (b : Bool) (x : Str)
  | most (x y : Str) (k : Int)
deriving DecidableEq
def ynS (b : Bool) : Str := if b = true then "yes" else "no"
def litD : Lit → PyData
  | .yn b x => .tuple [.str (ynS b), .str x]
  | .most x y k => .tuple [.str "most", .str x, .str y, .int k]
def litV : Lit → List V
  | .yn b x => [.str (ynS b), .str x]
  | .most x y k => [.str "most", .str x, .str y, .int k]
/-- no drawn integer is greater -/
def B0 : Nat := 2 ^ 1000
def LitOk : Lit → Prop
  | .yn _ x => isNameS x = true
  | .most x y k => isNameS x = true ∧ isNameS y = true ∧ x ≠ y ∧ k.natAbs ≤ B0 + 100
def oppL : Lit → Lit
  | .yn b x => .yn (!b) x
  | .most x y k => .most y x (-k - 1)
def ltS (x y : Str) : Bool := decide (x.cps.toList < y.cps.toList)
def atomL : Lit → Lit
  | .yn _ x => .yn true x
  | .most x y k => if ltS x y = true then .most x y k else .most y x (-k - 1)
theorem lit_dp {K : PySem.W.Frag} {H : Hp} {p : Addr} {l : Lit} (h : SqT K H p (litV l)) : Dp K H (.ref p) (litD l) := by
  cases l with
  | yn b x => exact .tup h (.cons (.str _) (.cons (.str _) .nil))
  | most x y k => exact .tup h (.cons (.str _) (.cons (.str _) (.cons (.str _) (.cons (.int _) .nil))))
theorem name_len {x : Str} (h : isNameS x = true) : x.length ≤ 8 := by
  unfold isNameS at h
  have := of_decide_eq_true (Bool.and_eq_true_iff.mp h).1
  exact this.2
theorem lit_sz {l : Lit} (h : LitOk l) : szD (litD l) := by
  cases l with
  | yn b x =>
    have := name_len h
    intro d hd
    simp only [List.mem_cons, List.not_mem_nil, or_false] at hd
    rcases hd with rfl | rfl
    · show (ynS b).length ≤ sizeLine
      cases b <;> decide +kernel
    · exact Nat.le_trans this (by decide)
  | most x y k =>
    obtain ⟨h1, h2, _⟩ := h
    intro d hd
    simp only [List.mem_cons, List.not_mem_nil, or_false] at hd
    rcases hd with rfl | rfl | rfl | rfl
    · show ("most" : Str).length ≤ sizeLine
      decide +kernel
    · exact Nat.le_trans (name_len h1) (by decide)
    · exact Nat.le_trans (name_len h2) (by decide)
    · exact True.intro
theorem bound_lit {l : Lit} (h : LitOk l) : isBoundD (litD l) = match l with | .yn _ _ => false | .most _ _ _ => true := by
  cases l with
  | yn b x => rfl
  | most x y k =>
    obtain ⟨h1, h2, h3, _⟩ := h
    show isBoundD (.tuple [.str "most", .str x, .str y, .int k]) = true
    rw [isBound4, show isNameD (.str x) = true from h1, show isNameD (.str y) = true from h2, show sameD (.str x) (.str y) = false from decide_eq_false h3, (by simp [isMostD] : isMostD (.str ("most" : Str)) = true)]
    rfl
theorem iteF' {c : Bool} {A B : Prop} (hc : c = false) (h : B) : if c = true then A else B := by
  rw [hc, if_neg Bool.false_ne_true]
  exact h
/-- the values are literals, each its own tuple -/
structure Lits (H : Hp) (vs : List V) (ls : List Lit) : Prop where
  len : vs.length = ls.length
  at_ : ∀ (i : Nat) (l : Lit), ls[i]? = some l → ∃ t, vs[i]? = some (.ref t) ∧ H t = some (.tup (litV l))
theorem Lits.nil {H : Hp} : Lits H [] [] := ⟨rfl, fun i q h => by simp at h⟩
theorem Lits.ex {H H' : Hp} {vs : List V} {ls : List Lit} (A : Lits H vs ls) (e : Ex H H') : Lits H' vs ls := ⟨A.len, fun i q h => by
  obtain ⟨t, h1, h2⟩ := A.at_ i q h
  exact ⟨t, h1, e _ _ h2⟩⟩
theorem Lits.dp {K : PySem.W.Frag} {H : Hp} : ∀ {vs : List V} {ls : List Lit}, Lits H vs ls → DpAll K H vs (ls.map litD)
  | [], [], _ => .nil
  | [], _ :: _, A => by have := A.len; simp at this
  | _ :: _, [], A => by have := A.len; simp at this
  | v :: vs, l :: ls, A => by
    obtain ⟨t, h1, h2⟩ := A.at_ 0 l rfl
    obtain rfl : v = .ref t := Option.some.inj h1
    exact .cons (lit_dp (SqT.of h2)) (Lits.dp ⟨by have := A.len; simpa using this, fun i r g => A.at_ (i + 1) r g⟩)
theorem name_low {x : Str} (h : isNameS x = true) : ∀ c ∈ x.cps.toList, c < 16 ^ 8 := by
  unfold isNameS at h
  have h2 := (Bool.and_eq_true_iff.mp (Bool.and_eq_true_iff.mp h).2).2
  have h3 : ∀ c ∈ signs.cps.toList, c < 16 ^ 8 := by decide +kernel
  exact fun c hc => h3 c (of_decide_eq_true (List.all_eq_true.mp h2 c hc))
theorem rp_name {x : Str} (h : isNameS x = true) : Rp 0 2000 (.str x) := (Rp.str (name_low h)).mono (Nat.le_refl _) (by have := name_len h; omega)
theorem rp_lit {l : Lit} (h : LitOk l) : Rp 1 8010 (litD l) := by
  cases l with
  | yn b x =>
    refine (Rp.tuple (n := 0) (c := 2000) fun d hd => ?_).mono (Nat.le_refl _) (by show 2 * 2002 + 2 ≤ _; decide)
    simp only [List.mem_cons, List.not_mem_nil, or_false] at hd
    rcases hd with rfl | rfl
    · refine (Rp.str ?_).mono (Nat.le_refl _) ?_ <;> cases b <;> decide +kernel
    · exact rp_name h
  | most x y k =>
    obtain ⟨h1, h2, _, h4⟩ := h
    refine (Rp.tuple (n := 0) (c := 2000) fun d hd => ?_).mono (Nat.le_refl _) (by show 4 * 2002 + 2 ≤ _; decide)
    simp only [List.mem_cons, List.not_mem_nil, or_false] at hd
    rcases hd with rfl | rfl | rfl | rfl
    · refine (Rp.str ?_).mono (Nat.le_refl _) ?_ <;> decide +kernel
    · exact rp_name h1
    · exact rp_name h2
    · have lg : k.natAbs.log2 < 1001 := PySem.Flt.log2_lt_of (by decide) (Nat.lt_of_le_of_lt h4 (by unfold B0; decide +kernel))
      exact (Rp.int (Nat.lt_trans lg (by decide))).mono (Nat.le_refl _) (by decide)
theorem rp_lits {ls : List Lit} (h : ∀ l ∈ ls, LitOk l) (few : ls.length ≤ 1000) : Rp 2 8012002 (.tuple (ls.map litD)) ∧ Rp 2 8012002 (.list (ls.map litD)) := by
  have g : ∀ d ∈ ls.map litD, Rp 1 8010 d := fun d hd => by
    obtain ⟨l, hl, rfl⟩ := List.mem_map.mp hd
    exact rp_lit (h l hl)
  exact ⟨(Rp.tuple g).mono (Nat.le_refl _) (by rw [List.length_map]; omega), (Rp.list g).mono (Nat.le_refl _) (by rw [List.length_map]; omega)⟩
theorem Lits.get {H : Hp} {vs : List V} {ls : List Lit} (A : Lits H vs ls) {i : Nat} {v : V} (h : vs[i]? = some v) : ∃ t l, v = .ref t ∧ ls[i]? = some l ∧ H t = some (.tup (litV l)) := by
  have hi : i < ls.length := by rw [← A.len]; exact (List.getElem?_eq_some_iff.mp h).1
  obtain ⟨t, h1, h2⟩ := A.at_ i ls[i] (List.getElem?_eq_getElem hi)
  exact ⟨t, ls[i], Option.some.inj (h.symm.trans h1), List.getElem?_eq_getElem hi, h2⟩

theorem sl_tupK {X : Cx} {K : PySem.W.Frag} (h : X.K = K := by rfl) : SlR X (rSlA K) := by
  subst h
  exact sl_tupA
theorem pi_tupK {X : Cx} {K : PySem.W.Frag} {tg l : Expr} {tl : TE} (he : PE X l tl) (h : X.K = K := by rfl) : PI X tg l (iTup K tl) := by
  subst h
  exact pi_tup he
def namesOf : Lit → List Str
  | .yn _ _ => []
  | .most x y _ => [x, y]
theorem sub_len : ∀ {l m : List Str}, l.Nodup → (∀ z ∈ l, z ∈ m) → l.length ≤ m.length := by
  intro l
  induction l with
  | nil => exact fun _ _ => Nat.zero_le _
  | cons x l ih =>
    intro m nd h
    obtain ⟨nx, nd'⟩ := List.nodup_cons.mp nd
    have hx := h x List.mem_cons_self
    have := ih (m := m.erase x) nd' fun z hz => (List.mem_erase_of_ne fun e => nx (by rw [← e]; exact hz)).mpr (h z (List.mem_cons_of_mem _ hz))
    rw [List.length_erase_of_mem hx] at this
    have := List.length_pos_of_mem hx
    rw [List.length_cons]
    omega
section
variable {P : Program} {w : World} {K : PySem.W.Frag} {mg : Str → Option Value} {base : Heap} {a : Ad} {d : Fd}
end
end V1
set_option maxRecDepth 100000
set_option maxHeartbeats 8000000
namespace V1
open PySem L2 Evl GP HR SC
theorem fnOr {P : Program} {w : World} {K : PySem.W.Frag} {mg : Str → Option Value} {base : Heap} {CX : CXT} {k : Nat} {f : Addr} {fd : FuncData} {ps : List Str} {s1 s2 : Sp} (F1 : FnOk P w K mg base CX k f fd ps s1) (F2 : FnOk P w K mg base CX k f fd ps s2) : FnOk P w K mg base CX k f fd ps (fun vs H Q E => s1 vs H Q E ∨ s2 vs H Q E) :=
  ⟨fun vs H Q E h => h.elim (F1.len vs H Q E) (F2.len vs H Q E), fun A outer s H args us vs Q E hr e0 b r h => h.elim (F1.run A outer s H args us vs Q E hr e0 b r) (F2.run A outer s H args us vs Q E hr e0 b r)⟩
/-- a dict, or a tuple of a dict and something -/
def OddV (H : Hp) (v : V) : Prop := (∃ p kvs, v = .ref p ∧ H p = some (.dK kvs)) ∨ ∃ t p kvs x, v = .ref t ∧ H t = some (.tup [.ref p, x]) ∧ H p = some (.dK kvs)
theorem OddV.ex {H H' : Hp} {v : V} (h : OddV H v) (e : Ex H H') : OddV H' v := h.imp (fun ⟨p, kvs, h1, h2⟩ => ⟨p, kvs, h1, e _ _ h2⟩) (fun ⟨t, p, kvs, x, h1, h2, h3⟩ => ⟨t, p, kvs, x, h1, e _ _ h2, e _ _ h3⟩)
def spOdd (b : V) : Sp := fun vs H Q _ => ∃ v, vs = [v] ∧ OddV H v ∧ ∀ H', Ex H H' → Q b H'
def isYN : PyData → Bool | .str w => decide (w = ("yes" : Str)) || decide (w = ("no" : Str)) | _ => false
def isPairL : PyData → Bool
  | .tuple [w, n] => isYN w && isNameD n
  | _ => false
def isLitD (d : PyData) : Bool := isBoundD d || isPairL d
theorem yn_in (x : Str) : inV (.str x) [.str "yes", .str "no"] = isYN (.str x) := by
  show (("yes" == x) || (("no" == x) || false)) = (decide (x = ("yes" : Str)) || decide (x = ("no" : Str)))
  have h : ∀ a b : Str, (a == b) = decide (b = a) := fun a b => by
    rw [Bool.eq_iff_iff, decide_eq_true_iff, beq_iff_eq]
    exact eq_comm
  rw [h, h, Bool.or_false]
def spIsLitD (K : PySem.W.Frag) : Sp := spD szD isLitD K
def AnyV (K : PySem.W.Frag) (H : Hp) (v : V) (b : Bool) : Prop := (∃ d, Dp K H v d ∧ szD d ∧ isLitD d = b) ∨ (b = false ∧ OddV H v)
theorem AnyV.ex {K : PySem.W.Frag} {H H' : Hp} {v : V} {b : Bool} (h : AnyV K H v b) (e : Ex H H') : AnyV K H' v b := h.imp (fun ⟨d, h1, h2⟩ => ⟨d, Dp.ex e h1, h2⟩) (fun ⟨h1, h2⟩ => ⟨h1, h2.ex e⟩)
theorem lit_is {l : Lit} (h : LitOk l) : isLitD (litD l) = true := by
  unfold isLitD
  rw [bound_lit h]
  cases l with
  | most x y k => rfl
  | yn b x =>
    show (false || (isYN (.str (ynS b)) && isNameD (.str x))) = true
    rw [show isNameD (.str x) = true from h]
    cases b <;> decide +kernel
theorem kitDT {K : PySem.W.Frag} : PySem.W.kitOne K (.type "dict") (.type "tuple") = some false := kit_ty (by decide +kernel)
theorem kitDL {K : PySem.W.Frag} : PySem.W.kitOne K (.type "dict") (.type "list") = some false := kit_ty (by decide +kernel)
theorem kitDS {K : PySem.W.Frag} : PySem.W.kitOne K (.type "dict") (.type "str") = some false := kit_ty (by decide +kernel)
theorem kitTT {K : PySem.W.Frag} : PySem.W.kitOne K (.type "tuple") (.type "tuple") = some true := kit_ty (by decide +kernel)
section
variable {P : Program} {w : World} {K : PySem.W.Frag} {mg : Str → Option Value} {base : Heap} {a : Ad} {d : Fd}
theorem ok_is_bound2 (T : TX K mg a) (D : FDS K a d) : FnOk P w K mg base CX0 2 a.a_is_bound d.a_is_bound ["value"] (spOdd (.bl false)) := by
  have G_is_name : FnOk P w K mg base CX0 1 a.a_is_name d.a_is_name ["value"] (spIsName K) := ok_is_name T D
  have G_is_integer : FnOk P w K mg base CX0 1 a.a_is_integer d.a_is_integer ["value"] (spIsInt K) := ok_is_integer T D
  refine D.F_is_bound.ok sc_is_bound (fun vs H Q E h => ?_) (fun cdv A outer s H vs Q E hr h => ?_)
  · obtain ⟨v, rfl, _⟩ := h
    rfl
  · obtain ⟨v, rfl, ho, q⟩ := h
    refine ⟨_, (pss_cons (ps_if (PW.pt (pw_or (pt_not (pt_val (pe_callB call_isi (by rfl) T.b_isinstance (by decide +kernel) (pa_cons (pv 0) (pa_cons (pe_bltn (v := .ty "tuple") (by rfl) T.b_tuple (by decide +kernel) rfl) pa_nil))))) (pw_or1 (pt_cmpR op_ne (pe_callB call_len_seq (by rfl) T.b_len (by decide +kernel) (pa_cons (pv 0) pa_nil)) pe_int (nomark _))))) (pss_one (ps_ret pe_bl)) pss_nil)
        (pss_cons (ps_asg (pv 0) (pg_tup rfl (pgs_cons (pg_name (i := 1) sc_is_bound.nd rfl (Or.inl rfl)) (pgs_cons (pg_name (i := 2) sc_is_bound.nd rfl (Or.inl rfl)) (pgs_cons (pg_name (i := 3) sc_is_bound.nd rfl (Or.inl rfl)) (pgs_cons (pg_name (i := 4) sc_is_bound.nd rfl (Or.inl rfl)) pgs_nil))))))
        (pss_cons (ps_if (PW.pt (pw_or (pt_not (pt_val (pe_callB call_isi (by rfl) T.b_isinstance (by decide +kernel) (pa_cons (pv 1) (pa_cons (pe_bltn (v := .ty "str") (by rfl) T.b_str (by decide +kernel) rfl) pa_nil))))) (pw_or1 (pt_cmpR op_ne (pv 1) pe_str (nomark _))))) (pss_one (ps_ret pe_bl)) pss_nil)
        (pss_one (ps_ret (pe_and (pe_call G_is_name (hr.mono (by decide)) rfl T.f_is_name T.k_is_name D.B_is_name .nil pass0 (pa_cons (pv 2) pa_nil)) (pe_and (pe_call G_is_name (hr.mono (by decide)) rfl T.f_is_name T.k_is_name D.B_is_name .nil pass0 (pa_cons (pv 3) pa_nil)) (pe_and (pe_cmpR op_ne (pv 2) (pv 3) (nomark _)) (pe_one (pe_call G_is_integer (hr.mono (by decide)) rfl T.f_is_integer T.k_is_integer D.B_is_integer .nil pass0 (pa_cons (pv 4) pa_nil))))))))))), ?_⟩
    rcases ho with ⟨p, kvs, rfl, hp⟩ | ⟨t, p, kvs, x, rfl, ht, hp⟩
    · exact ⟨_, rfl, .ref p, _, _, _, _, rfl, .ty "tuple", .base (.dK hp), kitDT, _, rfl, q H (Ex.refl _)⟩
    · exact ⟨_, rfl, .ref t, _, _, _, _, rfl, .ty "tuple", .base (.tup ht), kitTT, _, rfl, _, rfl, t, _, rfl, .inr (SqT.of ht), rfl, _, rfl, iteT' rfl (q H (Ex.refl _))⟩
theorem ok_is_literal (T : TX K mg a) (D : FDS K a d) : FnOk P w K mg base CX0 3 a.a_is_literal d.a_is_literal ["value"] (fun vs H Q E => spIsLitD K vs H Q E ∨ spOdd (.bl false) vs H Q E) := by
  have G_is_name : FnOk P w K mg base CX0 1 a.a_is_name d.a_is_name ["value"] (spIsName K) := ok_is_name T D
  have G_is_bound : FnOk P w K mg base CX0 2 a.a_is_bound d.a_is_bound ["value"] (fun vs H Q E => spIsBound K vs H Q E ∨ spOdd (.bl false) vs H Q E) := fnOr (ok_is_bound T D) (ok_is_bound2 T D)
  refine D.F_is_literal.ok sc_is_literal (fun vs H Q E h => ?_) (fun cdv A outer s H vs Q E hr h => ?_)
  · rcases h with ⟨v, d, rfl, _⟩ | ⟨v, rfl, _⟩ <;> rfl
  · refine ⟨_, (pss_cons (ps_if (pt_val (pe_call G_is_bound (hr.mono (by decide)) rfl T.f_is_bound T.k_is_bound D.B_is_bound .nil pass0 (pa_cons (pv 0) pa_nil))) (pss_one (ps_ret pe_bl)) pss_nil)
        (pss_cons (ps_if (PW.pt (pw_or (pt_not (pt_val (pe_callB call_isi (by rfl) T.b_isinstance (by decide +kernel) (pa_cons (pv 0) (pa_cons (pe_bltn (v := .ty "tuple") (by rfl) T.b_tuple (by decide +kernel) rfl) pa_nil))))) (pw_or1 (pt_cmpR op_ne (pe_callB call_len_seq (by rfl) T.b_len (by decide +kernel) (pa_cons (pv 0) pa_nil)) pe_int (nomark _))))) (pss_one (ps_ret pe_bl)) pss_nil)
        (pss_cons (ps_asg (pv 0) (pg_tup rfl (pgs_cons (pg_name (i := 1) sc_is_literal.nd rfl (Or.inl rfl)) (pgs_cons (pg_name (i := 2) sc_is_literal.nd rfl (Or.inl rfl)) pgs_nil))))
        (pss_one (ps_ret (pe_and (pe_callB call_isi (by rfl) T.b_isinstance (by decide +kernel) (pa_cons (pv 1) (pa_cons (pe_bltn (v := .ty "str") (by rfl) T.b_str (by decide +kernel) rfl) pa_nil))) (pe_and (pe_cmpR op_in_seq (pv 1) (pe_tup (pa_cons pe_str (pa_cons pe_str pa_nil))) rfl) (pe_one (pe_call G_is_name (hr.mono (by decide)) rfl T.f_is_name T.k_is_name D.B_is_name .nil pass0 (pa_cons (pv 2) pa_nil)))))))))), ?_⟩
    rcases h with ⟨v, d, rfl, hd, sz, q⟩ | ⟨v, rfl, ho, q⟩
    · refine ⟨_, rfl, .inl ⟨v, d, rfl, hd, sz, fun H1 e1 => ⟨_, rfl, ?_⟩⟩⟩
      cases hb : isBoundD d with
      | true => exact iteT' rfl (ex_q q (by unfold isLitD; rw [hb]; rfl) e1)
      | false =>
        have hl : isLitD d = isPairL d := by unfold isLitD; rw [hb, Bool.false_or]
        refine iteF' rfl ⟨_, rfl, v, _, _, _, _, rfl, .ty "tuple", dp_ty (Dp.ex e1 hd), kit_tuple d, _, rfl, ?_⟩
        cases hd with
        | @tup t xs ds ht hall =>
          have len := DpAll.len hall
          have ht1 := ex_t e1 ht
          refine ⟨_, rfl, t, xs, rfl, .inr ht1, rfl, _, rfl, ?_⟩
          by_cases h2 : xs.length = 2
          · refine iteNS (by rw [h2]; rfl) ?_
            obtain ⟨v1, v2, rfl⟩ : ∃ v1 v2, xs = [v1, v2] := by
              match xs, h2 with
              | [v1, v2], _ => exact ⟨v1, v2, rfl⟩
            cases hall with
            | cons g1 r1 =>
            cases r1 with
            | cons g2 r2 =>
            cases r2
            rename_i d1 d2
            have z2 : szS d2 := sz d2 (by simp)
            refine ⟨_, rfl, t, _, rfl, ht1, rfl, _, _, rfl, _, _, rfl, rfl, ?_⟩
            refine ⟨_, rfl, v1, _, _, _, _, rfl, .ty "str", dp_ty (Dp.ex e1 g1), kit_str d1, _, rfl, ?_⟩
            cases g1 with
            | str wd =>
              refine iteT' rfl ⟨_, rfl, (by show 2 ≤ sizeLine; decide), fun t2 ht2 => ?_⟩
              have x2 := Ex.new (o := .tup [.str "yes", .str "no"]) ht2
              refine ⟨t2, _, rfl, .inr (SqT.of upd_same), rfl, rfl, _, rfl, ?_⟩
              rw [if_neg Bool.false_ne_true, yn_in]
              have hp : isPairL (.tuple [.str wd, d2]) = (isYN (.str wd) && isNameD d2) := rfl
              cases hy : isYN (.str wd) with
              | false => exact iteF' rfl (ex_q q (by rw [hl, hp, hy]; rfl) (e1.trans x2))
              | true =>
                refine iteT' rfl ⟨_, rfl, v2, d2, rfl, Dp.ex (e1.trans x2) g2, z2, fun H2 e2 => ?_⟩
                exact ex_q q (by rw [hl, hp, hy]; rfl) ((e1.trans x2).trans e2)
            | _ => exact iteF' rfl (ex_q q (by rw [hl]; rfl) e1)
          · refine iteT' ?_ (ex_q q ?_ e1)
            · have e5 : decide (V.int (xs.length : Nat) = V.int 2) = false := decide_eq_false fun z => h2 (by have := V.int.inj z; omega)
              rw [e5]
              rfl
            · rw [hl]
              have l2 : ds.length ≠ 2 := by omega
              match ds, l2 with
              | [], _ => rfl
              | [_], _ => rfl
              | [_, _], h => exact absurd rfl h
              | _ :: _ :: _ :: _, _ => rfl
        | _ => exact ex_q q (by rw [hl]; rfl) e1
    · refine ⟨_, rfl, .inr ⟨v, rfl, ho, fun H1 e1 => ⟨_, rfl, iteF' rfl ?_⟩⟩⟩
      rcases ho.ex e1 with ⟨p, kvs, rfl, hp⟩ | ⟨t, p, kvs, x, rfl, ht, hp⟩
      · exact ⟨_, rfl, .ref p, _, _, _, _, rfl, .ty "tuple", .base (.dK hp), kitDT, _, rfl, q H1 e1⟩
      · refine ⟨_, rfl, .ref t, _, _, _, _, rfl, .ty "tuple", .base (.tup ht), kitTT, _, rfl, _, rfl, t, _, rfl, .inr (SqT.of ht), rfl, _, rfl, iteNS rfl ?_⟩
        exact ⟨_, rfl, t, _, rfl, SqT.of ht, rfl, _, _, rfl, _, _, rfl, rfl, _, rfl, .ref p, _, _, _, _, rfl, .ty "str", .base (.dK hp), kitDS, _, rfl, iteF' rfl (q H1 e1)⟩
end
end V1
set_option maxRecDepth 100000
set_option maxHeartbeats 8000000
namespace V1
open PySem L2 Evl GP HR SC SetM SetH
theorem lit_alike (l m : Lit) : PySem.W.alike (litD l) (litD m) = true := by
  cases l <;> cases m <;> simp [litD, PySem.W.alike, PySem.W.alikeAll]
/-- a literal as a key -/
def litK : Lit → List L2.Key
  | .yn b x => [.inr (ynS b), .inr x]
  | .most x y k => [.inr "most", .inr x, .inr y, .inl k]
theorem litK_V (l : Lit) : (litK l).map kV = litV l := by cases l <;> rfl
theorem litK_D (l : Lit) : enK (litK l) = litD l := by cases l <;> rfl
def litOfD : PyData → Lit
  | .tuple [.str w, .str x] => .yn (decide (w = ("yes" : Str))) x
  | .tuple [_, .str x, .str y, .int k] => .most x y k
  | _ => .yn true ""
theorem litOf (l : Lit) : litOfD (litD l) = l := by
  cases l with
  | most x y k => rfl
  | yn b x =>
    show Lit.yn (decide (ynS b = ("yes" : Str))) x = .yn b x
    have : decide (ynS b = ("yes" : Str)) = b := by cases b <;> decide +kernel
    rw [this]
theorem litK_inj {l m : Lit} (h : litK l = litK m) : l = m := by
  have := congrArg (fun k => litOfD (enK k)) h
  rwa [litK_D, litK_D, litOf, litOf] at this
theorem lit_depth (l : Lit) : (litD l).depth ≤ 50 := by cases l <;> simp [litD, PyData.depth, PyData.depthAll]
theorem Lits.keys {H : Hp} : ∀ {vs : List V} {ls : List Lit}, Lits H vs ls → ∃ ks : List (Addr × List L2.Key), vs = ks.map (fun p => V.ref p.1) ∧ ks.map Prod.snd = ls.map litK ∧ ∀ p ∈ ks, ∃ l ∈ ls, p.2 = litK l ∧ H p.1 = some (.tup (litV l))
  | [], [], _ => ⟨[], rfl, rfl, fun _ h => absurd h List.not_mem_nil⟩
  | [], _ :: _, A => by have := A.len; simp at this
  | _ :: _, [], A => by have := A.len; simp at this
  | v :: vs, l :: ls, A => by
    obtain ⟨t, h1, h2⟩ := A.at_ 0 l rfl
    obtain rfl : v = .ref t := Option.some.inj h1
    obtain ⟨ks, e1, e2, hk⟩ := Lits.keys (vs := vs) (ls := ls) ⟨by have := A.len; simpa using this, fun i r h => A.at_ (i + 1) r h⟩
    refine ⟨(t, litK l) :: ks, by rw [e1]; rfl, by rw [List.map_cons, e2]; rfl, fun p hp => ?_⟩
    rcases List.mem_cons.mp hp with rfl | hp
    · exact ⟨l, List.mem_cons_self, rfl, h2⟩
    · obtain ⟨m, hm, r⟩ := hk p hp
      exact ⟨m, List.mem_cons_of_mem _ hm, r⟩
theorem Lits.of_each {H : Hp} {bs : List (V × PyData)} (h : ∀ b ∈ bs, ∃ t l, b.1 = .ref t ∧ b.2 = litD l ∧ H t = some (.tup (litV l))) : Lits H (bs.map Prod.fst) (bs.map fun b => litOfD b.2) := ⟨by rw [List.length_map, List.length_map], fun i l hl => by
  rw [List.getElem?_map] at hl
  obtain ⟨b, hb, rfl⟩ := Option.map_eq_some_iff.mp hl
  obtain ⟨t, l, e1, e2, ht⟩ := h b (List.mem_of_getElem? hb)
  exact ⟨t, by rw [List.getElem?_map, hb, ← e1]; rfl, by rw [e2, litOf]; exact ht⟩⟩
theorem dlt_trans {a b c : PyData} (h1 : PySem.W.dataLt a b = true) (h2 : PySem.W.dataLt b c = true) : PySem.W.dataLt a c = true := PyProof.Rows.lex_trans _ _ _ h1 h2
theorem dlt_asym {a b : PyData} (h : PySem.W.dataLt a b = true) : PySem.W.dataLt b a = false := by
  cases g : PySem.W.dataLt b a with
  | false => rfl
  | true =>
    have := dlt_trans h g
    rw [show PySem.W.dataLt a a = false from PyProof.Rows.lex_irrefl _] at this
    cases this
theorem sortedD_pw (bs : List (V × PyData)) : (SD.sortedD bs).Pairwise fun a b => PySem.W.dataLt b.2 a.2 = false := by
  have h := List.pairwise_mergeSort (le := PySem.W.dataLe false (Prod.snd : V × PyData → PyData)) (fun a b c h1 h2 => by
    simp only [PySem.W.dataLe_eq, cond_false, Bool.not_eq_true'] at h1 h2 ⊢
    cases g : PySem.W.dataLt c.2 a.2 with
    | false => rfl
    | true =>
      rcases PyProof.Rows.lex_negTrans _ (PySem.W.keyToks b.2) _ g with k | k
      · exact absurd (h2.symm.trans k) Bool.false_ne_true
      · exact absurd (h1.symm.trans k) Bool.false_ne_true) (fun a b => by
    simp only [PySem.W.dataLe_eq, cond_false]
    cases g : PySem.W.dataLt b.2 a.2 with
    | false => rfl
    | true => rw [dlt_asym g]; rfl) bs
  exact h.imp fun {a b} q => by simpa [PySem.W.dataLe_eq] using q
theorem yn_inj {b c : Bool} (h : (ynS b).cps.toList = (ynS c).cps.toList) : b = c := by
  cases b <;> cases c <;> first | rfl | exact absurd h (by decide +kernel)
theorem toks_inj {l m : Lit} (h : PySem.W.keyToks (litD l) = PySem.W.keyToks (litD m)) : l = m := by
  cases l with
  | yn b x =>
    cases m with
    | yn c y =>
      simp only [litD, PySem.W.keyToks, PySem.W.keyToksAll, List.cons_append, List.nil_append, List.cons.injEq, Sum.inr.injEq, true_and, and_true] at h
      rw [yn_inj h.1, toList_inj h.2]
    | most y z k => simp [litD, PySem.W.keyToks, PySem.W.keyToksAll] at h
  | most x y k =>
    cases m with
    | yn c z => simp [litD, PySem.W.keyToks, PySem.W.keyToksAll] at h
    | most u z j =>
      simp only [litD, PySem.W.keyToks, PySem.W.keyToksAll, List.cons_append, List.nil_append, List.cons.injEq, Sum.inr.injEq, Sum.inl.injEq, true_and, and_true] at h
      rw [toList_inj h.1, toList_inj h.2.1, h.2.2]
def AscL (ls : List Lit) : Prop := ls.Pairwise fun a b => PySem.W.dataLt (litD a) (litD b) = true
theorem asc_lits {ls : List Lit} (so : ls.Pairwise fun a b => PySem.W.dataLt (litD b) (litD a) = false) (nd : ls.Nodup) : AscL ls :=
  (so.and nd).imp fun {a b} q => by
    cases g : PySem.W.dataLt (litD a) (litD b) with
    | true => rfl
    | false => exact absurd (toks_inj (PyProof.Rows.lex_total _ _ g q.1)) q.2
theorem ascL_same : ∀ {xs ys : List Lit}, AscL xs → AscL ys → (∀ z, z ∈ xs ↔ z ∈ ys) → xs = ys
  | [], [], _, _, _ => rfl
  | [], y :: ys, _, _, h => absurd ((h y).mpr List.mem_cons_self) List.not_mem_nil
  | x :: xs, [], _, _, h => absurd ((h x).mp List.mem_cons_self) List.not_mem_nil
  | x :: xs, y :: ys, a, b, h => by
    obtain ⟨a1, a2⟩ := List.pairwise_cons.mp a
    obtain ⟨b1, b2⟩ := List.pairwise_cons.mp b
    have irr : ∀ z, ¬ PySem.W.dataLt (litD z) (litD z) = true := fun z q => by
      rw [show PySem.W.dataLt (litD z) (litD z) = false from PyProof.Rows.lex_irrefl _] at q
      cases q
    have e : x = y := by
      rcases List.mem_cons.mp ((h x).mp List.mem_cons_self) with e | e
      · exact e
      · rcases List.mem_cons.mp ((h y).mpr List.mem_cons_self) with g | g
        · exact g.symm
        · have q := dlt_asym (b1 x e)
          rw [a1 y g] at q
          cases q
    subst e
    refine congrArg (x :: ·) (ascL_same a2 b2 fun z => ⟨fun hz => ?_, fun hz => ?_⟩)
    · rcases List.mem_cons.mp ((h z).mp (List.mem_cons_of_mem _ hz)) with e | e
      · exact absurd (a1 z hz) (by rw [e]; exact irr x)
      · exact e
    · rcases List.mem_cons.mp ((h z).mpr (List.mem_cons_of_mem _ hz)) with e | e
      · exact absurd (b1 z hz) (by rw [e]; exact irr x)
      · exact e
theorem sub_lenA {α : Type} : ∀ {l m : List α}, l.Nodup → (∀ z ∈ l, z ∈ m) → l.length ≤ m.length
  | [], _, _, _ => Nat.zero_le _
  | x :: l, m, nd, h => by
    obtain ⟨s, t, rfl⟩ := List.append_of_mem (h x List.mem_cons_self)
    obtain ⟨n1, n2⟩ := List.nodup_cons.mp nd
    have := sub_lenA (m := s ++ t) n2 fun z hz => by
      rcases List.mem_append.mp (h z (List.mem_cons_of_mem _ hz)) with g | g
      · exact List.mem_append_left _ g
      · rcases List.mem_cons.mp g with rfl | g
        · exact absurd hz n1
        · exact List.mem_append_right _ g
    simp only [List.length_cons, List.length_append] at this ⊢
    omega
theorem asc_nodup {ls : List Lit} (h : AscL ls) : ls.Nodup := h.imp fun {a b} q e => by
  subst e
  rw [show PySem.W.dataLt (litD a) (litD a) = false from PyProof.Rows.lex_irrefl _] at q
  cases q
theorem asc_len {xs ys : List Lit} (h : AscL xs) (m : ∀ l, l ∈ xs ↔ l ∈ ys) : xs.length ≤ ys.length := sub_lenA (asc_nodup h) fun z hz => (m z).mp hz
def spNormal (K : PySem.W.Frag) : Sp := fun vs H Q _ => ∃ (p : Addr) (us : List V) (ls : List Lit), vs = [.ref p] ∧ (SqL K H p us ∨ SqT K H p us) ∧ Lits H us ls ∧ ls.length < 63 ∧
  ∀ (u : Addr) (us' : List V) (ls' : List Lit) H', Ex H H' → H' u = some (.tup us') → Lits H' us' ls' → (∀ l, l ∈ ls' ↔ l ∈ ls) → AscL ls' → Q (.ref u) H'
section
variable {P : Program} {w : World} {K : PySem.W.Frag} {mg : Str → Option Value} {base : Heap} {a : Ad} {d : Fd}
theorem ok_normal_form (T : TX K mg a) (D : FDS K a d) : FnOk P w K mg base CX0 1 a.a_normal_form d.a_normal_form ["literals"] (spNormal K) := by
  refine D.F_normal_form.ok sc_normal_form (fun vs H Q E h => ?_) (fun cdv A outer s H vs Q E hr h => ?_)
  · obtain ⟨p, us, ls, rfl, _⟩ := h
    rfl
  · obtain ⟨p, us, ls, rfl, hp, L, few, fin⟩ := h
    refine ⟨_, (pss_one (ps_ret (pe_callTy call_tuple_of (by rfl) T.b_tuple (by decide +kernel) (pa_cons (pe_callB (SetM.cr_sortedM (K := K) (P := P) (w := w) rfl hr.units) (by rfl) T.b_sorted (by decide +kernel) (pa_cons (pe_callTy (SetM.cr_setM (K := K) (P := P) (w := w) rfl hr.units) (by rfl) T.b_set (by decide +kernel) (pa_cons (pv 0) pa_nil)) pa_nil)) pa_nil)))), ?_⟩
    obtain ⟨ks, eu, ek, hk⟩ := L.keys
    subst eu
    have lk : ks.length = ls.length := by
      have := congrArg List.length ek
      rwa [List.length_map, List.length_map] at this
    refine ⟨_, rfl, p, ks, rfl, hp, fun q hq => ?_, by omega, fun L' S took nd hS => ?_⟩
    · obtain ⟨l, _, e, ht⟩ := hk q hq
      rw [e, litK_V]
      exact SqT.of ht
    · have x1 := Ex.new (o := SetMO P w S L') hS
      have each : ∀ q ∈ L', ∃ l ∈ ls, q.2 = litK l ∧ upd H S (SetMO P w S L') q.1 = some (.tup (litV l)) := fun q hq => by
        obtain ⟨l, hl, e, ht⟩ := hk q (took.from_ q hq)
        exact ⟨l, hl, e, x1 _ _ ht⟩
      have at1 : upd H S (SetMO P w S L') S = some (SetMO P w S L') := upd_same
      generalize upd H S (SetMO P w S L') = H1 at *
      refine ⟨S, L', rfl, at1, fun q hq => ?_, ?_, ?_, fun bs R pm hR => ⟨R, _, rfl, .inl ⟨SqL.of upd_same, fun u hu => ?_⟩⟩⟩
      · obtain ⟨l, _, e, ht⟩ := each q hq
        rw [e, litK_D]
        exact ⟨lit_dp (SqT.of ht), lit_depth l⟩
      · intro x hx y hy
        obtain ⟨q, hq, rfl⟩ := List.mem_map.mp hx
        obtain ⟨r, hr, rfl⟩ := List.mem_map.mp hy
        obtain ⟨l, _, e, _⟩ := each q hq
        obtain ⟨m, _, e2, _⟩ := each r hr
        rw [e, e2, litK_D, litK_D]
        exact lit_alike l m
      · refine .inl fun x hx => ?_
        obtain ⟨q, hq, rfl⟩ := List.mem_map.mp hx
        obtain ⟨l, _, e, _⟩ := each q hq
        rw [e, litK_D]
        cases l <;> exact ⟨_, _, rfl⟩
      · have x2 := Ex.new (o := .lst ((SD.sortedD bs).map Prod.fst)) hR
        have x3 := Ex.new (o := .tup ((SD.sortedD bs).map Prod.fst)) hu
        have pm2 := (SD.sorted_perm bs).trans pm
        have so0 := sortedD_pw bs
        generalize SD.sortedD bs = cs at *
        have each2 : ∀ b ∈ cs, ∃ t l, b.1 = .ref t ∧ b.2 = litD l ∧ H1 t = some (.tup (litV l)) ∧ l ∈ ls := fun b hb => by
          obtain ⟨q, hq, rfl⟩ := List.mem_map.mp (pm2.mem_iff.mp hb)
          obtain ⟨l, hl, e, ht⟩ := each q hq
          exact ⟨q.1, l, rfl, by show enK q.2 = _; rw [e, litK_D], ht, hl⟩
        have LL : Lits H1 (cs.map Prod.fst) (cs.map fun b => litOfD b.2) := Lits.of_each fun b hb => by
          obtain ⟨t, l, e1, e2, h, _⟩ := each2 b hb
          exact ⟨t, l, e1, e2, h⟩
        refine fin u _ _ _ (x1.trans (x2.trans x3)) upd_same (LL.ex (x2.trans x3)) (fun l => ⟨fun h => ?_, fun h => ?_⟩) (asc_lits ?_ ?_)
        · obtain ⟨b, hb, rfl⟩ := List.mem_map.mp h
          obtain ⟨t, l, e1, e2, _, hl⟩ := each2 b hb
          rw [e2, litOf]
          exact hl
        · have : litK l ∈ ks.map Prod.snd := by rw [ek]; exact List.mem_map_of_mem h
          obtain ⟨q, hq, e⟩ := List.mem_map.mp this
          have := took.got q hq
          obtain ⟨r, hr, e2⟩ := List.mem_map.mp this
          refine List.mem_map.mpr ⟨enP r, pm2.mem_iff.mpr (List.mem_map_of_mem hr), ?_⟩
          show litOfD (enK r.2) = l
          rw [e2, e, litK_D, litOf]
        · refine List.pairwise_map.mpr (so0.imp_of_mem fun {p q} hp hq z => ?_)
          obtain ⟨_, l, _, e1, _⟩ := each2 p hp
          obtain ⟨_, m, _, e2, _⟩ := each2 q hq
          rw [e1, e2, litOf, litOf, ← e1, ← e2]
          exact z
        · have e : (cs.map fun b => litOfD b.2).Perm (L'.map fun q => litOfD (enK q.2)) := by
            have := pm2.map fun b : V × PyData => litOfD b.2
            rwa [List.map_map] at this
          rw [e.nodup_iff]
          have nd2 : L'.Pairwise fun q r => q.2 ≠ r.2 := List.pairwise_map.mp nd
          refine List.pairwise_map.mpr (List.Pairwise.imp_of_mem (fun {q r} hq hr n z => n ?_) nd2)
          obtain ⟨l, _, e1, _⟩ := each q hq
          obtain ⟨m, _, e2, _⟩ := each r hr
          rw [e1, e2, litK_D, litK_D, litOf, litOf] at z
          rw [e1, e2, z]
end
end V1
set_option maxRecDepth 100000
set_option maxHeartbeats 8000000
namespace V1
open PySem L2 Evl GP HR SC SetM SetH
theorem fresh_back {H H' : Hp} {p : Addr} (e : Ex H H') (h : H' p = none) : H p = none := by
  cases g : H p with
  | none => rfl
  | some o =>
    have := e p o g
    rw [h] at this
    cases this
/-- what is raised where v is no literal -/
def Raised (c : Addr) (f : Str) (v : V) (H : Hp) (E : XK) : Prop := ∀ dd H', Ex H H' → H dd = none → H' dd = some (.xd [(f, v)]) → E (.ref c) (some dd) H'
theorem Raised.ex {c : Addr} {f : Str} {v : V} {H H1 : Hp} {E : XK} (r : Raised c f v H E) (e : Ex H H1) : Raised c f v H1 E := fun dd H' e' n h => r dd H' (e.trans e') (fresh_back e n) h
def spChk (K : PySem.W.Frag) (cL : Addr) : Sp := fun vs H Q E => ∃ v b, vs = [v] ∧ AnyV K H v b ∧ (b = true → ∀ H', Ex H H' → Q .non H') ∧ (b = false → Raised cL "value" v H E)
def Seq (K : PySem.W.Frag) (H : Hp) (p : Addr) (us : List V) : Prop := SqL K H p us ∨ SqT K H p us
theorem Seq.ex {K : PySem.W.Frag} {H H' : Hp} {p : Addr} {us : List V} (h : Seq K H p us) (e : Ex H H') : Seq K H' p us := h.imp (ex_l e) (ex_t e)
/-- neither a list nor a tuple -/
def NoSeq (K : PySem.W.Frag) (H : Hp) (v : V) : Prop := (∃ d, Dp K H v d ∧ isListD d = false ∧ isTupD d = false) ∨ ∃ p, v = .ref p ∧ ((∃ kvs, H p = some (.dK kvs)) ∨ ∃ kvs, H p = some (.dT kvs))
theorem NoSeq.ex {K : PySem.W.Frag} {H H' : Hp} {v : V} (h : NoSeq K H v) (e : Ex H H') : NoSeq K H' v := h.imp (fun ⟨d, h1, h2⟩ => ⟨d, Dp.ex e h1, h2⟩) (fun ⟨p, h1, h2⟩ => ⟨p, h1, h2.imp (fun ⟨k, g⟩ => ⟨k, e _ _ g⟩) (fun ⟨k, g⟩ => ⟨k, e _ _ g⟩)⟩)
theorem kit_seq {K : PySem.W.Frag} (d : PyData) : PySem.W.kitAny K (.type (tyN d)) [.type "list", .type "tuple"] = some (isListD d || isTupD d) := by
  refine kitAny_cons (kit_list d) (fun h => ?_) (fun h => by rw [h]; rfl)
  refine kitAny_cons (kit_tuple d) (fun h2 => ?_) (fun h2 => by rw [h, h2]; rfl)
  rw [h, h2]
  rfl
theorem NoSeq.ty {K : PySem.W.Frag} {H : Hp} {v : V} (h : NoSeq K H v) : ∃ t, TyX K H v t ∧ PySem.W.kitAny K t [.type "list", .type "tuple"] = some false := by
  rcases h with ⟨d, hd, h1, h2⟩ | ⟨p, rfl, h⟩
  · exact ⟨_, dp_ty hd, by rw [kit_seq, h1, h2]; rfl⟩
  · have k : PySem.W.kitAny K (.type "dict") [.type "list", .type "tuple"] = some false := kitAny_cons kitDL (fun _ => kitAny_cons kitDT (fun _ => rfl) (fun z => nomatch z)) (fun z => nomatch z)
    rcases h with ⟨kvs, h⟩ | ⟨kvs, h⟩
    · exact ⟨_, .base (.dK h), k⟩
    · exact ⟨_, .base (.dT h), k⟩
theorem Seq.ty {K : PySem.W.Frag} {H : Hp} {p : Addr} {us : List V} (h : Seq K H p us) : ∃ t, TyX K H (.ref p) t ∧ PySem.W.kitAny K t [.type "list", .type "tuple"] = some true := by
  have kl : PySem.W.kitAny K (.type "list") [.type "list", .type "tuple"] = some true := kit_seq (K := K) (.list [])
  have kt : PySem.W.kitAny K (.type "tuple") [.type "list", .type "tuple"] = some true := kit_seq (K := K) (.tuple [])
  rcases h with h | h
  · rcases h with (h | ⟨o, h⟩) | ⟨o, its, n, h1, h2, _⟩
    · exact ⟨_, .base (.lst h), kl⟩
    · exact ⟨_, .base (.frz h), kl⟩
    · exact ⟨_, .kList h1 h2, kl⟩
  · rcases h with (h | ⟨o, h⟩) | ⟨o, its, n, h1, h2, _⟩
    · exact ⟨_, .base (.tup h), kt⟩
    · exact ⟨_, .fTuple h, kt⟩
    · exact ⟨_, .kTuple h1 h2, kt⟩
theorem seq_go {K : PySem.W.Frag} {t : TE} {a : Addr} {xs : List V} {σ : L2.St} {H : Hp} {R : It → Hp → Prop} (ht : ∀ Q : VK, Q (.ref a) H → t σ H Q) (h : Seq K H a xs)
    (hR : ∀ (J : It) (G : Hp → Prop), L2.Walk J xs.length G (YAt xs) → (∀ H', Ex H H' → G H') → R J H) : iList K t σ H R ∨ iTup K t σ H R := by
  rcases h with h | h
  · exact .inl (ht _ ⟨a, rfl, ⟨_, h⟩, hR _ _ walk_list fun _ e => ex_l e h⟩)
  · exact .inr (ht _ ⟨a, rfl, ⟨_, h⟩, hR _ _ walk_tup fun _ e => ex_t e h⟩)
def Good (H : Hp) (ls : List Lit) (Q : VK) : Prop := ∀ (u : Addr) (us' : List V) (ls' : List Lit) H', Ex H H' → H' u = some (.tup us') → Lits H' us' ls' → (∀ l, l ∈ ls' ↔ l ∈ ls) → AscL ls' → Q (.ref u) H'
def spClause (K : PySem.W.Frag) (cL cC : Addr) : Sp := fun vs H Q E => ∃ v, vs = [v] ∧
  ((∃ p us ls, v = .ref p ∧ Seq K H p us ∧ Lits H us ls ∧ (∀ l ∈ ls, LitOk l) ∧ ls.length < 63 ∧ Good H ls Q) ∨
   (∃ p us ls i bad, v = .ref p ∧ Seq K H p us ∧ us[i]? = some bad ∧ AnyV K H bad false ∧ Lits H (us.take i) ls ∧ (∀ l ∈ ls, LitOk l) ∧ Raised cL "value" bad H E) ∨
   (NoSeq K H v ∧ Raised cC "value" v H E))
section
variable {P : Program} {w : World} {K : PySem.W.Frag} {mg : Str → Option Value} {base : Heap} {a : Ad} {d : Fd} {fL fC : Addr}
theorem ok_check_literal (T : TX K mg a) (D : FDS K a d) (R : ER K mg P a fL fC) : FnOk P w K mg base (L2N.CX P w) 4 a.a_check_literal d.a_check_literal ["value"] (spChk K a.cL) := by
  have G_is_literal : FnOk P w K mg base CX0 3 a.a_is_literal d.a_is_literal ["value"] (fun vs H Q E => spIsLitD K vs H Q E ∨ spOdd (.bl false) vs H Q E) := ok_is_literal T D
  refine NX.okX D.F_check_literal sc_check_literal (fun vs H Q E h => ?_) (fun cdv A outer s H vs Q E hr h => ?_)
  · obtain ⟨v, b, rfl, _⟩ := h
    rfl
  · obtain ⟨v, b, rfl, hv, q1, q2⟩ := h
    refine ⟨_, (pss_one (ps_if (pt_not (pt_val (pe_call G_is_literal (hr.mono (by decide)) rfl T.f_is_literal T.k_is_literal D.B_is_literal .nil pass0 (pa_cons (pv 0) pa_nil)))) (pss_one (NX.ps_raiseSup rfl R.eL hr (L2N.takes_of rfl rfl rfl rfl) (by exact (pa_cons (pv 0) pa_nil)))) pss_nil)), ?_⟩
    rcases hv with ⟨d, hd, sz, rfl⟩ | ⟨rfl, ho⟩
    · refine ⟨_, rfl, .inl ⟨v, d, rfl, hd, sz, fun H1 e1 => ⟨_, rfl, ?_⟩⟩⟩
      cases hb : isLitD d with
      | true => exact iteF' rfl (q1 hb H1 e1)
      | false => exact iteT' rfl ⟨_, rfl, _, rfl, fun dd hdd => q2 hb dd _ (e1.trans (Ex.new hdd)) (fresh_back e1 hdd) upd_same⟩
    · exact ⟨_, rfl, .inr ⟨v, rfl, ho, fun H1 e1 => ⟨_, rfl, iteT' rfl ⟨_, rfl, _, rfl, fun dd hdd => q2 rfl dd _ (e1.trans (Ex.new hdd)) (fresh_back e1 hdd) upd_same⟩⟩⟩⟩
theorem ok_clause_of (T : TX K mg a) (D : FDS K a d) (R : ER K mg P a fL fC) : FnOk P w K mg base (L2N.CX P w) 5 a.a_clause_of d.a_clause_of ["literals"] (spClause K a.cL a.cC) := by
  have G_check_literal : FnOk P w K mg base (L2N.CX P w) 4 a.a_check_literal d.a_check_literal ["value"] (spChk K a.cL) := ok_check_literal T D R
  have G_normal_form : FnOk P w K mg base CX0 1 a.a_normal_form d.a_normal_form ["literals"] (spNormal K) := ok_normal_form T D
  refine NX.okX D.F_clause_of sc_clause_of (fun vs H Q E h => ?_) (fun cdv A outer s H vs Q E hr h => ?_)
  · obtain ⟨v, rfl, _⟩ := h
    rfl
  · obtain ⟨v, rfl, h⟩ := h
    refine ⟨_, (pss_cons (ps_if (pt_not (pt_val (pe_callB call_isiT (by rfl) T.b_isinstance (by decide +kernel) (pa_cons (pv 0) (pa_cons (pe_tup (pa_cons (pe_bltn (v := .ty "list") (by rfl) T.b_list (by decide +kernel) rfl) (pa_cons (pe_bltn (v := .ty "tuple") (by rfl) T.b_tuple (by decide +kernel) rfl) pa_nil))) pa_nil))))) (pss_one (NX.ps_raiseSup rfl R.eC hr (L2N.takes_of rfl rfl rfl rfl) (by exact (pa_cons (pv 0) pa_nil)))) pss_nil)
        (pss_cons (ps_for PassesOwn.leaving rfl (pi_or (pi_list (pv 0)) (pi_tup (pv 0))) (pg_name (i := 1) sc_clause_of.nd rfl (Or.inl rfl)) (pss_one (ps_expr (pe_call G_check_literal (hr.mono (by decide)) rfl T.f_check_literal T.k_check_literal D.B_check_literal .nil (L2N.passes_call (L2N.takes_of rfl rfl rfl rfl) (fun _ _ _ _ h => h)) (pa_cons (pv 1) pa_nil)))))
        (pss_one (ps_ret (pe_call G_normal_form (hr.mono (by decide)) rfl T.f_normal_form T.k_normal_form D.B_normal_form .nil pass0 (pa_cons (pv 0) pa_nil)))))), ?_⟩
    have big : 1000 ≤ sizeLine := by decide
    refine ⟨_, rfl, (by show 2 ≤ sizeLine; decide), fun tp htp => ?_⟩
    have xt := Ex.new (o := .tup [.ty "list", .ty "tuple"]) htp
    have pc : Paired ClsV [V.ty "list", .ty "tuple"] [.type "list", .type "tuple"] := .cons (.ty _) (.cons (.ty _) .nil)
    rcases h with ⟨p, us, ls, rfl, hs, L, ok, few, fin⟩ | ⟨p, us, ls, i, bad, rfl, hs, hb, hv, L, ok, fin⟩ | ⟨hn, fin⟩
    · have hs1 := hs.ex xt
      obtain ⟨t, ty, kit⟩ := hs1.ty
      refine ⟨_, tp, _, t, _, true, rfl, upd_same, pc, ty, kit, _, rfl, iteF' rfl ?_⟩
      have L1 := L.ex xt
      generalize upd H tp (.tup [.ty "list", .ty "tuple"]) = H1 at *
      refine seq_go (fun Q q => ⟨_, rfl, q⟩) hs1 fun J G wk hG => for_it wk (fun i σ H' => ∃ o, σ = [some (.ref p), o] ∧ Ex H1 H') ⟨none, rfl, Ex.refl _⟩ (fun i σ H' _ ⟨_, _, e⟩ => hG H' e) ?_ ?_
      · rintro i x σ H2 H2' hi ⟨o, rfl, e2⟩ ⟨rfl, hx⟩
        obtain ⟨t, l, rfl, hl, ht⟩ := L1.get hx
        have okl := ok l (List.mem_of_getElem? hl)
        exact ⟨_, rfl, _, true, rfl, .inl ⟨litD l, lit_dp (SqT.of (e2 _ _ ht)), lit_sz okl, lit_is okl⟩, fun _ H3 e3 => ⟨_, rfl, e2.trans e3⟩, fun z => nomatch z⟩
      · rintro σ H2 ⟨o, rfl, e2⟩
        exact ⟨_, rfl, p, us, ls, rfl, hs1.ex e2, L1.ex e2, few, fun u us' ls' H' e hu LL m nd => fin u us' ls' H' (xt.trans (e2.trans e)) hu LL m nd⟩
    · have hs1 := hs.ex xt
      obtain ⟨t, ty, kit⟩ := hs1.ty
      refine ⟨_, tp, _, t, _, true, rfl, upd_same, pc, ty, kit, _, rfl, iteF' rfl ?_⟩
      have L1 := L.ex xt
      have hv1 := hv.ex xt
      have fin1 := fin.ex xt
      have hil := (List.getElem?_eq_some_iff.mp hb).1
      generalize upd H tp (.tup [.ty "list", .ty "tuple"]) = H1 at *
      refine seq_go (fun Q q => ⟨_, rfl, q⟩) hs1 fun J G wk hG => for_it wk (fun j σ H' => ∃ o, σ = [some (.ref p), o] ∧ Ex H1 H' ∧ j ≤ i) ⟨none, rfl, Ex.refl _, Nat.zero_le _⟩ (fun i σ H' _ ⟨_, _, e, _⟩ => hG H' e) ?_ ?_
      · rintro j x σ H2 H2' hj ⟨o, rfl, e2, lj⟩ ⟨rfl, hx⟩
        rcases Nat.lt_or_eq_of_le lj with lt | rfl
        · obtain ⟨t, l, rfl, hl, ht⟩ := L1.get (i := j) (v := x) (by rw [List.getElem?_take, if_pos lt]; exact hx)
          have okl := ok l (List.mem_of_getElem? hl)
          exact ⟨_, rfl, _, true, rfl, .inl ⟨litD l, lit_dp (SqT.of (e2 _ _ ht)), lit_sz okl, lit_is okl⟩, fun _ H3 e3 => ⟨_, rfl, e2.trans e3, lt⟩, fun z => nomatch z⟩
        · rw [hb] at hx
          obtain rfl := Option.some.inj hx
          exact ⟨_, rfl, _, false, rfl, hv1.ex e2, fun (z : false = true) => absurd z Bool.false_ne_true, fun _ => fin1.ex e2⟩
      · rintro σ H2 ⟨o, rfl, e2, lj⟩
        omega
    · have hn1 := hn.ex xt
      obtain ⟨t, ty, kit⟩ := hn1.ty
      refine ⟨v, tp, _, t, _, false, rfl, upd_same, pc, ty, kit, _, rfl, iteT' rfl ⟨_, rfl, _, rfl, fun dd hdd => fin dd _ (xt.trans (Ex.new hdd)) (fresh_back xt hdd) upd_same⟩⟩
end
end V1
set_option maxRecDepth 100000
set_option maxHeartbeats 4000000
namespace V1
open PySem L2 Evl GP HR SC SetM SetH
theorem inV_strs {x : Str} {ns : List Str} : inV (.str x) (ns.map V.str) = decide (x ∈ ns) := by
  rw [Bool.eq_iff_iff, decide_eq_true_iff]
  unfold inV
  rw [List.any_map, List.any_eq_true]
  constructor
  · rintro ⟨q, hq, e⟩
    have : (q == x) = true := e
    rw [← eq_of_beq this]
    exact hq
  · exact fun h => ⟨x, h, (beq_self_eq_true x : (x == x) = true)⟩
theorem flat_strs {ns : List Str} : (ns.map V.str).all flatV = true := by
  rw [List.all_map, List.all_eq_true]
  exact fun _ _ => rfl
theorem hu70 {k : Nat} {A : Around} (r : Room k A) : A.units + 70 < cLine := by have := r.un; omega
/-- all but b is as it was, and b's first item is as it was -/
structure Kp (b : Addr) (H H' : Hp) : Prop where
  k : ∀ a o, a ≠ b → H a = some o → H' a = some o
  fst : ∀ v r, H b = some (.lst (v :: r)) → ∃ r', H' b = some (.lst (v :: r'))
theorem Kp.at {b : Addr} {H H' : Hp} (x : Kp b H H') {a : Addr} {o : HO} (n : a ≠ b) (h : H a = some o) : H' a = some o := x.k a o n h
theorem Kp.refl (b : Addr) (H : Hp) : Kp b H H := ⟨fun _ _ _ h => h, fun _ r h => ⟨r, h⟩⟩
theorem Kp.trans {b : Addr} {H H1 H2 : Hp} (x : Kp b H H1) (y : Kp b H1 H2) : Kp b H H2 :=
  ⟨fun a o n h => y.at n (x.at n h), fun v r h => by
    obtain ⟨r1, h1⟩ := x.fst v r h
    exact y.fst v r1 h1⟩
theorem Kp.ex {b : Addr} {H H1 : Hp} (x : Ex H H1) : Kp b H H1 := ⟨fun a o _ h => x a o h, fun v r h => ⟨r, x _ _ h⟩⟩
theorem Kp.set {b : Addr} {H : Hp} {v : V} {r r' : List V} (h : H b = some (.lst (v :: r))) : Kp b H (upd H b (.lst (v :: r'))) :=
  ⟨fun a u n h => by
    rw [upd_ne n]
    exact h, fun u q hu => by
    rw [h] at hu
    cases hu
    exact ⟨r', upd_same⟩⟩
/-- at b the box of a script's cells -/
def BxD (b c : Addr) (ns : List Int) (i : Nat) (r m t : Int) (H : Hp) : Prop := H b = some (.lst [.ref c, .int (i : Int), .int r, .int m, .int t]) ∧ c ≠ b ∧ H c = some (.lst (ns.map V.int))
def Bx (b : Addr) (H : Hp) : Prop := ∃ c ns i r m t, BxD b c ns i r m t H
theorem Bx.ex {b : Addr} {H H1 : Hp} (x : Bx b H) (e : Ex H H1) : Bx b H1 := by
  obtain ⟨c, ns, i, r, m, t, h1, h2, h3⟩ := x
  exact ⟨c, ns, i, r, m, t, e _ _ h1, h2, e _ _ h3⟩
/-- what is new since H may change -/
theorem Kp.mut {b l : Addr} {H H' : Hp} {o : HO} (x : Kp b H H') (hl : H l = none) (hn : l ≠ b) : Kp b H (upd H' l o) :=
  ⟨fun a u n h => by
    rw [upd_ne (ne_of_none h hl)]
    exact x.at n h, fun v r h => by
    obtain ⟨r1, h1⟩ := x.fst v r h
    exact ⟨r1, by rw [upd_ne hn.symm]; exact h1⟩⟩
theorem Bx.ne {b l : Addr} {H : Hp} (x : Bx b H) (hl : H l = none) : l ≠ b := by
  obtain ⟨c, ns, i, r, m, t, h1, _⟩ := x
  exact (ne_of_none h1 hl).symm
theorem Bx.mut {b l : Addr} {H H' : Hp} {o : HO} (x0 : Bx b H) (hl : H l = none) (k : Kp b H H') (x : Bx b H') : Bx b (upd H' l o) := by
  have hn := x0.ne hl
  obtain ⟨c0, ns0, i0, r0, m0, t0, h1, h2, h3⟩ := x0
  obtain ⟨c, ns, i, r, m, t, g1, g2, g3⟩ := x
  obtain ⟨r', h'⟩ := k.fst _ _ h1
  have e := g1.symm.trans h'
  have ec : c = c0 := by cases e; rfl
  have ncl : c ≠ l := by
    rw [ec]
    exact ne_of_none h3 hl
  exact ⟨c, ns, i, r, m, t, by rw [upd_ne hn.symm]; exact g1, g2, by rw [upd_ne ncl]; exact g3⟩
def spBag (K : PySem.W.Frag) : Sp := fun vs H Q _ => ∃ (a : Addr) (ns : List Int), vs = [.ref a] ∧ SqL K H a (ns.map V.int) ∧ ∀ b H', Ex H H' → H b = none → Bx b H' → Q (.ref b) H'
def spTake : Sp := fun vs H Q _ => ∃ (b : Addr) (size : Int), vs = [.ref b, .int size] ∧ Bx b H ∧ 0 < size ∧ size.natAbs.log2 < 9000 ∧ ∀ (d : Int) H', Kp b H H' → Bx b H' → 0 ≤ d → d < size → Q (.int d) H'
section
variable {P : Program} {w : World} {K : PySem.W.Frag} {mg : Str → Option Value} {base : Heap} {a : Ad} {d : Fd}
theorem ok_law_bag (T : TX K mg a) (D : FDS K a d) : FnOk P w K mg base CX0 1 a.a_law_bag d.a_law_bag ["script"] (spBag K) := by
  refine D.F__law_bag.ok sc_law_bag (fun vs H Q E h => ?_) (fun cdv A outer s H vs Q E hr h => ?_)
  · obtain ⟨a, ns, rfl, _⟩ := h
    rfl
  · obtain ⟨a, ns, rfl, ha, q⟩ := h
    refine ⟨_, (pss_one (ps_ret (pe_lst (pa_cons (pe_callTy call_list_of (by rfl) T.b_list (by decide +kernel) (pa_cons (pv 0) pa_nil)) (pa_cons pe_int (pa_cons pe_int (pa_cons pe_int (pa_cons pe_int pa_nil)))))))), ?_⟩
    refine ⟨_, rfl, a, _, rfl, .inl ha, fun c hc => ⟨(by show 5 ≤ sizeLine; decide), fun b hb => ?_⟩⟩
    have ncb : c ≠ b := fun z => by
      rw [z, upd_same] at hb
      cases hb
    have e := (Ex.new (o := .lst (ns.map V.int)) hc).trans (Ex.new (o := .lst [.ref c, .int 0, .int 0, .int 1, .int 0]) hb)
    exact q b _ e (fresh_back (Ex.new hc) hb) ⟨c, ns, 0, 0, 1, 0, upd_same, ncb, by rw [upd_ne ncb, upd_same]⟩
theorem ok_law_take (T : TX K mg a) (D : FDS K a d) : FnOk P w K mg base CX0 1 a.a_law_take d.a_law_take ["bag", "size"] spTake := by
  refine D.F__law_take.ok sc_law_take (fun vs H Q E h => ?_) (fun cdv A outer s H vs Q E hr h => ?_)
  · obtain ⟨b, size, rfl, _⟩ := h
    rfl
  · obtain ⟨b, size, rfl, ⟨c, ns, i, r, m, t, h1, h2, h3⟩, s0, s9, q⟩ := h
    refine ⟨_, (Evl.pss_cut (ps_if (PW.pt (pw_and (pt_cmpR op_eq (pe_ix (ix_listK (K := K)) (pv 0) pe_int (fun _ _ => rfl)) pe_int (nomark _)) (pw_and1 (pt_cmpR op_lt (pe_ix (ix_listK (K := K)) (pv 0) pe_int (fun _ _ => rfl)) (pe_callB call_len_seq (by rfl) T.b_len (by decide +kernel) (pa_cons (pe_ix (ix_listK (K := K)) (pv 0) pe_int (fun _ _ => rfl)) pa_nil)) (nomark _))))) (pss_cons (ps_set (i := 2) sc_law_take.nd rfl (Or.inl rfl) (pe_callB call_abs (by rfl) T.b_abs (by decide +kernel) (pa_cons (pe_ix (ix_listK (K := K)) (pe_ix (ix_listK (K := K)) (pv 0) pe_int (fun _ _ => rfl)) (pe_ix (ix_listK (K := K)) (pv 0) pe_int (fun _ _ => rfl)) (fun _ _ => rfl)) pa_nil)))
        (pss_cons (ps_asg (pe_op op_add (pe_ix (ix_listK (K := K)) (pv 0) pe_int (fun _ _ => rfl)) pe_int) (pg_sub (pv 0) pe_int set_list))
        (pss_cons (ps_asg (pe_op op_modN (pe_callTy call_int1 (by rfl) T.b_int (by decide +kernel) (pa_cons (pe_op op_add (pe_op op_add (pe_op op_mul (pe_ix (ix_listK (K := K)) (pv 0) pe_int (fun _ _ => rfl)) pe_int) (pe_op op_modN (pe_callTy call_int1 (by rfl) T.b_int (by decide +kernel) (pa_cons (pv 2) pa_nil)) pe_int)) pe_int) pa_nil)) pe_int) (pg_sub (pv 0) pe_int set_list))
        (pss_one (ps_if (pt_cmpR op_ge (pv 2) (pe_op op_pow pe_int pe_int) (nomark _)) (pss_one (ps_asg (pe_op op_sub (pv 2) (pe_op op_pow pe_int pe_int)) (pg_sub (pv 0) pe_int set_list))) pss_nil))))) pss_nil)
        (pss_cons (ps_if (pt_cmpR op_gt (pe_ix (ix_listK (K := K)) (pv 0) pe_int (fun _ _ => rfl)) pe_int (nomark _)) (pss_cons (ps_set (i := 3) sc_law_take.nd rfl (Or.inl rfl) (pe_op op_modN (pe_callTy call_int1 (by rfl) T.b_int (by decide +kernel) (pa_cons (pe_ix (ix_listK (K := K)) (pv 0) pe_int (fun _ _ => rfl)) pa_nil)) (pv 1)))
        (pss_cons (ps_asg (pe_op op_fdivW (pe_ix (ix_listK (K := K)) (pv 0) pe_int (fun _ _ => rfl)) (pv 1)) (pg_sub (pv 0) pe_int set_list))
        (pss_one (ps_ret (pv 3))))) pss_nil)
        (pss_cons (ps_asg (pe_op op_add (pe_ix (ix_listK (K := K)) (pv 0) pe_int (fun _ _ => rfl)) pe_int) (pg_sub (pv 0) pe_int set_list))
        (pss_cons (ps_asg (pe_op op_modN (pe_callTy call_int1 (by rfl) T.b_int (by decide +kernel) (pa_cons (pe_op op_add (pe_op op_add (pe_op op_mul (pe_ix (ix_listK (K := K)) (pv 0) pe_int (fun _ _ => rfl)) pe_int) (pe_op op_mul (pe_ix (ix_listK (K := K)) (pv 0) pe_int (fun _ _ => rfl)) pe_int)) pe_int) pa_nil)) pe_int) (pg_sub (pv 0) pe_int set_list))
        (pss_one (ps_ret (pe_op op_modN (pe_op op_fdivN (pe_callTy call_int1 (by rfl) T.b_int (by decide +kernel) (pa_cons (pe_op op_add (pe_op op_fdivN (pe_ix (ix_listK (K := K)) (pv 0) pe_int (fun _ _ => rfl)) pe_int) (pe_op op_modN (pe_callTy call_int1 (by rfl) T.b_int (by decide +kernel) (pa_cons (pe_op op_mul (pe_ix (ix_listK (K := K)) (pv 0) pe_int (fun _ _ => rfl)) pe_int) pa_nil)) pe_int)) pa_nil)) pe_int) (pv 1)))))))), ?_⟩
    refine ⟨fun σ' H' => (∃ u, σ' = [some (.ref b), some (.int size), u, none]) ∧ Kp b H H' ∧ Bx b H', ?_, ?_⟩
    · have fin : (∃ u, [some (V.ref b), some (V.int size), none, none] = [some (V.ref b), some (.int size), u, none]) ∧ Kp b H H ∧ Bx b H := ⟨⟨none, rfl⟩, Kp.refl _ _, c, ns, i, r, m, t, h1, h2, h3⟩
      refine ⟨_, rfl, b, _, 2, _, rfl, rfl, SqL.of h1, at_lit (n := 2) rfl rfl, rfl, _, rfl, ?_⟩
      refine ite2 (fun g1 => ?_) (fun g1 => iteF fin)
      refine ⟨_, rfl, b, _, 1, _, rfl, rfl, SqL.of h1, at_lit (n := 1) rfl rfl, _, rfl, b, _, 0, _, rfl, rfl, SqL.of h1, at_lit (n := 0) rfl rfl, c, _, rfl, .inl (SqL.of h3), _, _, rfl, rfl, _, rfl, ?_⟩
      refine ite2 (fun g2 => ?_) (fun g2 => fin)
      have hi : (i : Int) < ((ns.map V.int).length : Nat) := of_decide_eq_true g2
      rw [List.length_map] at hi
      obtain ⟨cell, hcell⟩ : ∃ z : Int, ns[i]? = some z := ⟨ns[i]'(by omega), by simp⟩
      have hcell' : (ns.map V.int)[i]? = some (.int cell) := by rw [List.getElem?_map, hcell]; rfl
      refine ⟨_, rfl, b, _, 0, _, rfl, rfl, SqL.of h1, at_lit (n := 0) rfl rfl, _, rfl, b, _, 1, _, rfl, rfl, SqL.of h1, at_lit (n := 1) rfl rfl, c, _, i, _, rfl, rfl, SqL.of h3, at_lit (n := i) rfl hcell', _, rfl, ?_⟩
      generalize (if cell < 0 then -cell else cell) = cell
      refine ⟨_, rfl, b, _, 1, _, rfl, rfl, SqL.of h1, at_lit (n := 1) rfl rfl, _, _, rfl, rfl, _, rfl, b, _, 1, 1, rfl, rfl, h1, rfl, ?_⟩
      generalize hH2 : upd H b _ = H2
      have hb2 : H2 b = some (.lst [.ref c, .int ((i : Int) + 1), .int r, .int m, .int t]) := by rw [← hH2]; exact upd_same
      have k2 : Kp b H H2 := by rw [← hH2]; exact Kp.set h1
      refine ⟨_, rfl, b, _, 3, _, rfl, rfl, SqL.of hb2, at_lit (n := 3) rfl rfl, _, _, rfl, rfl, .inr (by decide), _, rfl, .inl ⟨_, rfl, _, _, rfl, rfl, (by show (2147483629 : Int) ≠ 0; decide), _, _, rfl, rfl, _, _, rfl, rfl, .inl ⟨_, rfl, _, _, rfl, rfl, (by show (2147483647 : Int) ≠ 0; decide), _, rfl, b, _, 3, 3, rfl, rfl, hb2, rfl, ?_⟩⟩⟩
      dsimp only
      generalize Int.fmod _ 2147483647 = m'
      generalize hH3 : upd H2 b _ = H3
      have hb3 : H3 b = some (.lst [.ref c, .int ((i : Int) + 1), .int r, .int m', .int t]) := by rw [← hH3]; exact upd_same
      have k3 : Kp b H H3 := k2.trans (by rw [← hH3]; exact Kp.set hb2)
      have hc3 : H3 c = some (.lst (ns.map V.int)) := k3.at h2 h3
      refine ⟨_, rfl, _, _, rfl, rfl, ⟨by decide, by decide, by decide⟩, _, _, rfl, rfl, _, rfl, ?_⟩
      refine ite2 (fun g4 => ?_) (fun g4 => ⟨⟨_, rfl⟩, k3, c, ns, i + 1, r, m', t, hb3, h2, hc3⟩)
      refine ⟨_, rfl, _, _, rfl, rfl, ⟨by decide, by decide, by decide⟩, _, _, rfl, rfl, _, rfl, b, _, 2, 2, rfl, rfl, hb3, rfl, ⟨_, rfl⟩, k3.trans (Kp.set hb3), c, ns, i + 1, _, m', t, upd_same, h2, ?_⟩
      rw [upd_ne h2]
      exact hc3
    · rintro σ' H1 ⟨⟨u, rfl⟩, k1, c, ns, i, r, m, t, h1, h2, h3⟩
      have rng : ∀ z : Int, 0 ≤ Int.fmod z size ∧ Int.fmod z size < size := fun z => by
        rw [Int.fmod_eq_emod_of_nonneg _ (by omega)]
        exact ⟨Int.emod_nonneg _ (by omega), Int.emod_lt_of_pos _ s0⟩
      refine ⟨_, rfl, b, _, 2, _, rfl, rfl, SqL.of h1, at_lit (n := 2) rfl rfl, _, _, rfl, rfl, _, rfl, ?_⟩
      refine ite2 (fun g1 => ?_) (fun g1 => ?_)
      · refine ⟨_, rfl, b, _, 2, _, rfl, rfl, SqL.of h1, at_lit (n := 2) rfl rfl, .inl ⟨_, rfl, _, rfl, _, _, rfl, rfl, by omega, ?_⟩⟩
        refine ⟨_, rfl, b, _, 2, _, rfl, rfl, SqL.of h1, at_lit (n := 2) rfl rfl, _, rfl, _, _, rfl, rfl, ⟨s0, s9⟩, _, rfl, b, _, 2, 2, rfl, rfl, h1, rfl, _, rfl, ?_⟩
        refine q _ _ (k1.trans (Kp.set h1)) ⟨c, ns, i, _, m, t, upd_same, h2, ?_⟩ (rng _).1 (rng _).2
        rw [upd_ne h2]
        exact h3
      · refine ⟨_, rfl, b, _, 4, _, rfl, rfl, SqL.of h1, at_lit (n := 4) rfl rfl, _, _, rfl, rfl, _, rfl, b, _, 4, 4, rfl, rfl, h1, rfl, ?_⟩
        generalize hH2 : upd H1 b _ = H2
        have hb2 : H2 b = some (.lst [.ref c, .int (i : Int), .int r, .int m, .int (t + 1)]) := by rw [← hH2]; exact upd_same
        have k2 : Kp b H H2 := k1.trans (by rw [← hH2]; exact Kp.set h1)
        have hc2 : H2 c = some (.lst (ns.map V.int)) := by rw [← hH2, upd_ne h2]; exact h3
        refine ⟨_, rfl, b, _, 3, _, rfl, rfl, SqL.of hb2, at_lit (n := 3) rfl rfl, _, _, rfl, rfl, .inr (by decide), _, rfl, b, _, 4, _, rfl, rfl, SqL.of hb2, at_lit (n := 4) rfl rfl, _, _, rfl, rfl, .inr (by decide), _, _, rfl, rfl, _, _, rfl, rfl,
          .inl ⟨_, rfl, _, _, rfl, rfl, (by show (2147483647 : Int) ≠ 0; decide), _, rfl, b, _, 3, 3, rfl, rfl, hb2, rfl, ?_⟩⟩
        dsimp only
        generalize Int.fmod _ 2147483647 = m'
        generalize hH3 : upd H2 b _ = H3
        have hb3 : H3 b = some (.lst [.ref c, .int (i : Int), .int r, .int m', .int (t + 1)]) := by rw [← hH3]; exact upd_same
        have k3 : Kp b H H3 := k2.trans (by rw [← hH3]; exact Kp.set hb2)
        have hc3 : H3 c = some (.lst (ns.map V.int)) := by rw [← hH3, upd_ne h2]; exact hc2
        exact ⟨_, rfl, b, _, 3, _, rfl, rfl, SqL.of hb3, at_lit (n := 3) rfl rfl, _, _, rfl, rfl, ⟨by decide, by decide⟩, _, rfl, b, _, 3, _, rfl, rfl, SqL.of hb3, at_lit (n := 3) rfl rfl, _, _, rfl, rfl, .inr (by decide), .inl ⟨_, rfl, _, _, rfl, rfl, (by show (2147483629 : Int) ≠ 0; decide), _, _, rfl, rfl,
          .inl ⟨_, rfl, _, _, rfl, rfl, ⟨by decide, by decide⟩, _, rfl, _, _, rfl, rfl, (by omega), q _ _ k3 ⟨c, ns, i, r, m', _, hb3, h2, hc3⟩ (rng _).1 (rng _).2⟩⟩⟩
end
end V1
set_option maxRecDepth 100000
set_option maxHeartbeats 8000000
namespace V1
open PySem L2 Evl GP HR SC SetM SetH
theorem str_len (z : Str) : z.cps.toList.length = z.length := by show _ = z.cps.size; simp
theorem app_len (x y : Str) : (x ++ y).length = x.length + y.length := by
  show (x.cps ++ y.cps).size = _
  simp
  rfl
section
variable {K : PySem.W.Frag} {σ : L2.St} {H1 : Hp} {J : It} {G : Hp → Prop} {te : TE} {tt : TT}
/-- with a condition; the items' values are written -/
theorem lcFil {xs : List V} (w : Walk J xs.length G (YAt xs)) (c : V → Bool) (f : V → V) {j : Nat} {vs : List Nat} (hz : xs.length < sizeLine) (hG : ∀ H', Ex H1 H' → G H') (hw : ∀ v, wipe ((wipe σ vs).set j (some v)) vs = wipe σ vs)
    (ht : ∀ v ∈ xs, ∀ H', Ex H1 H' → ∀ Q : Bool → Hp → Prop, (∀ H'', Ex H' H'' → Q (c v) H'') → tt ((wipe σ vs).set j (some v)) H' Q)
    (he : ∀ v ∈ xs, c v = true → ∀ H', Ex H1 H' → Ev te ((wipe σ vs).set j (some v)) H' (f v)) {Qd : Hp → Prop} {D : Addr} (hD : H1 D = none) (k : ∀ H', Ex H1 H' → H' D = some (.lst ((xs.filter c).map f)) → Qd H') :
    ∃ W : Nat → Nat → Hp → Prop, (∃ m, W 0 m (upd H1 D (.lst []))) ∧ ∀ i m H, W i m H →
      (J.stop i H ∧ Qd H) ∨ (J.go i H ∧ ∃ Nx : Hp → Prop, (∀ H', Nx H' → ∃ m', m' < m ∧ W (i + 1) m' H') ∧ ∀ x H', J.yld i H x H' → gName j x (wipe σ vs) H' fun σ2 H2 => wipe σ2 vs = wipe σ vs ∧ tt σ2 H2 fun b H3 =>
        if b = true then te σ2 H3 fun y H4 => ∃ acc, H4 D = some (.lst acc) ∧ acc.length < sizeLine ∧ Nx (upd H4 D (.lst (acc ++ [y]))) else Nx H3) := by
  refine lc_it w (fun i H => Ex H1 H ∧ H D = some (.lst (((xs.take i).filter c).map f))) ⟨Ex.new hD, upd_same⟩ (fun i H _ p => hG H p.1) ?_ (fun H p => k H p.1 (by have := p.2; rwa [List.take_length] at this))
  rintro i x H H' hi ⟨e, hl⟩ ⟨rfl, hx⟩
  have hm : x ∈ xs := List.mem_of_getElem? hx
  unfold gName
  dsimp only
  refine ⟨hw x, ht x hm H' e _ fun H3 e3 => ?_⟩
  have tk : (xs.take (i + 1)).filter c = (xs.take i).filter c ++ (if c x = true then [x] else []) := by
    rw [List.take_add_one, hx, List.filter_append]
    simp only [Option.toList_some]
    by_cases hc : c x = true
    · rw [if_pos hc]; simp [hc]
    · rw [if_neg hc]; simp [hc]
  cases hc : c x with
  | true =>
    rw [if_pos rfl]
    refine he x hm hc H3 (e.trans e3) H3 (Ex.refl _) _ fun H4 e4 => ⟨_, e4 D _ (e3 D _ hl), ?_, Ex.mut ((e.trans e3).trans e4) hD, ?_⟩
    · have := List.length_filter_le c (xs.take i)
      rw [List.length_map]
      rw [List.length_take] at this
      omega
    · rw [upd_same, tk, hc]
      simp
  | false =>
    refine (if_neg (by decide)).mpr ⟨e.trans e3, ?_⟩
    rw [tk, hc]
    simp only [Bool.false_eq_true, if_false, List.append_nil]
    exact e3 D _ hl
end
theorem cut_from {z : Str} {k : Nat} (h : k ≤ z.length) : (cutS z (some (k : Int)) none).cps.toList = z.cps.toList.drop k := by
  unfold cutS
  rw [HT.sIx_none, HT.sIx_nat, Nat.min_eq_left h]
  show (z.cps.toList.drop k).take (z.length - k) = _
  exact List.take_of_length_le (by rw [List.length_drop, str_len]; exact Nat.le_refl _)
theorem cut_to {z : Str} {k : Nat} (h : k ≤ z.length) : (cutS z none (some (k : Int))).cps.toList = z.cps.toList.take k := by
  unfold cutS
  rw [HT.sIx_none, HT.sIx_nat]
  simp only [Nat.sub_zero, List.drop_zero, Nat.min_eq_left h]
theorem lett_dig : letters ++ ("0123456789" : Str) = signs := toList_inj (by decide +kernel)
theorem nameS_iff (z : Str) : isNameS z = true ↔ (1 ≤ z.length ∧ z.length ≤ 8) ∧ z.cps.toList.headD 0 ∈ letters.cps.toList ∧ ∀ c ∈ z.cps.toList, c ∈ signs.cps.toList := by
  unfold isNameS
  simp only [Bool.and_eq_true, decide_eq_true_eq, List.all_eq_true]
theorem name_len2 {z : Str} (h : isNameS z = true) : 1 ≤ z.length ∧ z.length ≤ 8 := ((nameS_iff z).mp h).1
theorem str_app (x y : Str) : (x ++ y).cps.toList = x.cps.toList ++ y.cps.toList := by
  show (x.cps ++ y.cps).toList = _
  simp
theorem lett_sign : ∀ c ∈ letters.cps.toList, c ∈ signs.cps.toList := by decide +kernel
theorem name_of {z : Str} {l : List Nat} (h : z.cps.toList = l) (h1 : 1 ≤ l.length ∧ l.length ≤ 8) (h2 : l.headD 0 ∈ letters.cps.toList) (h3 : ∀ c ∈ l, c ∈ signs.cps.toList) : isNameS z = true := by
  rw [nameS_iff, h]
  have := str_len z
  rw [h] at this
  exact ⟨by omega, h2, h3⟩
theorem name_parts {z : Str} (h : isNameS z = true) : ∃ c r, z.cps.toList = c :: r ∧ c ∈ letters.cps.toList ∧ (∀ x ∈ c :: r, x ∈ signs.cps.toList) ∧ r.length ≤ 7 ∧ z.length = r.length + 1 := by
  obtain ⟨h1, h2, h3⟩ := (nameS_iff z).mp h
  have := str_len z
  cases e : z.cps.toList with
  | nil => rw [e] at this; simp at this; omega
  | cons c r =>
    rw [e] at h2 h3 this
    rw [List.length_cons] at this
    exact ⟨c, r, rfl, h2, h3, by omega, by omega⟩
theorem name_one {c : Nat} (hc : c ∈ letters.cps.toList) : isNameS ⟨#[c]⟩ = true := name_of (l := [c]) rfl ⟨Nat.le_refl 1, by show 1 ≤ 8; decide⟩ hc fun d hd => by rw [List.mem_singleton.mp hd]; exact lett_sign c hc
theorem name_more {z : Str} {c : Nat} (hz : isNameS z = true) (hl : z.length < 8) (hc : c ∈ signs.cps.toList) : isNameS (z ++ ⟨#[c]⟩) = true := by
  obtain ⟨d, r, e, h2, h3, h4, h5⟩ := name_parts hz
  refine name_of (l := (d :: r) ++ [c]) (by rw [str_app, e]) ⟨by simp, by simp; omega⟩ h2 fun x hx => ?_
  rcases List.mem_append.mp hx with hx | hx
  · exact h3 x hx
  · rw [List.mem_singleton.mp hx]; exact hc
theorem name_head_put {z : Str} {c : Nat} (hz : isNameS z = true) (hc : c ∈ letters.cps.toList) : isNameS (⟨#[c]⟩ ++ cutS z (some 1) none) = true := by
  obtain ⟨d, r, e, h2, h3, h4, h5⟩ := name_parts hz
  have ec : (cutS z (some 1) none).cps.toList = r := by
    have := cut_from (z := z) (k := 1) (by omega)
    rw [show ((1 : Nat) : Int) = 1 from rfl, e] at this
    exact this
  refine name_of (l := c :: r) (by rw [str_app, ec]; rfl) ⟨by simp, by simp; omega⟩ hc fun x hx => ?_
  rcases List.mem_cons.mp hx with hx | hx
  · rw [hx]; exact lett_sign c hc
  · exact h3 x (List.mem_cons_of_mem _ hx)
theorem name_put {z : Str} {k c : Nat} (hz : isNameS z = true) (hk : k < z.length) (k0 : 0 < k) (hc : c ∈ signs.cps.toList) : isNameS (cutS z none (some (k : Int)) ++ ⟨#[c]⟩ ++ cutS z (some ((k + 1 : Nat) : Int)) none) = true := by
  obtain ⟨d, r, e, h2, h3, h4, h5⟩ := name_parts hz
  obtain ⟨j, rfl⟩ : ∃ j, k = j + 1 := ⟨k - 1, by omega⟩
  refine name_of (l := d :: (r.take j ++ [c] ++ r.drop (j + 1))) (by rw [str_app, str_app, cut_to (by omega), cut_from (by omega), e]; rfl) ⟨by simp, ?_⟩ h2 fun x hx => ?_
  · simp only [List.length_cons, List.length_append, List.length_take, List.length_drop, List.length_nil]
    omega
  · rcases List.mem_cons.mp hx with hx | hx
    · rw [hx]; exact h3 d List.mem_cons_self
    · rcases List.mem_append.mp hx with hx | hx
      · rcases List.mem_append.mp hx with hx | hx
        · exact h3 x (List.mem_cons_of_mem _ (List.mem_of_mem_take hx))
        · rw [List.mem_singleton.mp hx]; exact hc
      · exact h3 x (List.mem_cons_of_mem _ (List.mem_of_mem_drop hx))
theorem lett_at {k : Nat} (h : k < 26) : ∃ c, letters.cps.toList[k]? = some c ∧ c ∈ letters.cps.toList := by
  have l : letters.cps.toList.length = 26 := by decide +kernel
  exact ⟨letters.cps.toList[k]'(by omega), by simp, List.getElem_mem _⟩
theorem sign_at {k : Nat} (h : k < 36) : ∃ c, signs.cps.toList[k]? = some c ∧ c ∈ signs.cps.toList := by
  have l : signs.cps.toList.length = 36 := by decide +kernel
  exact ⟨signs.cps.toList[k]'(by omega), by simp, List.getElem_mem _⟩
def singles : List Str := letters.cps.toList.map fun c => ⟨#[c]⟩
theorem singles_nd : singles.Nodup := by decide +kernel
theorem spare {xs : List Str} (h : xs.length < 26) : ∃ z r, singles.filter (fun y => !decide (y ∈ xs)) = z :: r := by
  cases e : singles.filter (fun y => !decide (y ∈ xs)) with
  | cons z r => exact ⟨z, r, rfl⟩
  | nil =>
    have sub : singles ⊆ xs := fun y hy => by
      have g := List.filter_eq_nil_iff.mp e y hy
      simpa using g
    have := List.Nodup.length_le_of_subset singles_nd sub
    have t : singles.length = 26 := by decide +kernel
    omega
def Nm (l : Addr) (xs : List Str) (H : Hp) : Prop := H l = some (.lst (xs.map V.str)) ∧ (∀ z ∈ xs, isNameS z = true) ∧ xs.Nodup
def spNames : Sp := fun vs H Q _ => ∃ (b : Addr) (k : Nat), vs = [.ref b, .int (k : Int)] ∧ Bx b H ∧ k ≤ 12 ∧ ∀ (l : Addr) (xs : List Str) H', H l = none → l ≠ b → Nm l xs H' → xs.length = k → Kp b H H' → Bx b H' → Q (.ref l) H'
theorem small_size {k : Nat} (h : k ≤ 100) : (k : Int).natAbs.log2 < 9000 := Nat.lt_of_le_of_lt (Nat.log2_le_self _) (by omega)
theorem small_size' {z : Int} (h : 0 ≤ z ∧ z ≤ 100) : z.natAbs.log2 < 9000 := Nat.lt_of_le_of_lt (Nat.log2_le_self _) (by omega)
section
variable {P : Program} {w : World} {K : PySem.W.Frag} {mg : Str → Option Value} {base : Heap} {a : Ad} {d : Fd}
theorem ok_law_names (T : TX K mg a) (D : FDS K a d) : FnOk P w K mg base CX0 2 a.a_law_names d.a_law_names ["bag", "many"] spNames := by
  have G__law_take : FnOk P w K mg base CX0 1 a.a_law_take d.a_law_take ["bag", "size"] spTake := ok_law_take T D
  refine D.F__law_names.ok sc_law_names (fun vs H Q E h => ?_) (fun cdv A outer s H vs Q E hr h => ?_)
  · obtain ⟨b, k, rfl, _⟩ := h
    rfl
  · obtain ⟨b, k, rfl, X, hk, q⟩ := h
    refine ⟨_, (pss_cons (ps_set (i := 2) sc_law_names.nd rfl (Or.inl rfl) pe_str)
        (pss_cons (ps_set (i := 3) sc_law_names.nd rfl (Or.inl rfl) (pe_op op_add_str (pv 2) pe_str))
        (pss_cons (ps_set (i := 4) sc_law_names.nd rfl (Or.inr rfl) (pe_lst pa_nil))
        (pss_cons (ps_for PassesOwn.never rfl (pi_range1 rfl T.b_range (pa_cons (pv 1) pa_nil)) (pg_name (i := 5) sc_law_names.nd rfl (Or.inl rfl)) (Evl.pss_cut (ps_if (PW.pt (pw_and (pt_cmpR op_gt (pv 5) pe_int (nomark _)) (pw_and1 (pt_cmpR op_eq (pe_call G__law_take (hr.mono (by decide)) rfl T.f__law_take T.k__law_take D.B__law_take .nil pass0 (pa_cons (pv 0) (pa_cons pe_int pa_nil))) pe_int (nomark _))))) (pss_cons (ps_set (i := 6) sc_law_names.nd rfl (Or.inl rfl) (pe_ix (ix_listK (K := K)) (pv 4) (pe_call G__law_take (hr.mono (by decide)) rfl T.f__law_take T.k__law_take D.B__law_take .nil pass0 (pa_cons (pv 0) (pa_cons (pv 5) pa_nil))) (fun _ _ => rfl)))
        (pss_cons (ps_set (i := 7) sc_law_names.nd rfl (Or.inl rfl) (pe_call G__law_take (hr.mono (by decide)) rfl T.f__law_take T.k__law_take D.B__law_take .nil pass0 (pa_cons (pv 0) (pa_cons pe_int pa_nil))))
        (pss_one (ps_if (pt_cmpR op_eq (pv 7) pe_int (nomark _)) (pss_one (ps_set (i := 6) sc_law_names.nd rfl (Or.inl rfl) (pe_op op_add_str (pe_ix ix_str (pv 2) (pe_call G__law_take (hr.mono (by decide)) rfl T.f__law_take T.k__law_take D.B__law_take .nil pass0 (pa_cons (pv 0) (pa_cons pe_int pa_nil))) (fun _ _ => rfl)) (pe_slice sl_str (pv 6) (po_some pe_int) po_none)))) (pss_one (ps_if (pt_cmpR op_lt (pv 7) (pe_callB call_len_str (by rfl) T.b_len (by decide +kernel) (pa_cons (pv 6) pa_nil)) (nomark _)) (pss_one (ps_set (i := 6) sc_law_names.nd rfl (Or.inl rfl) (pe_op op_add_str (pe_op op_add_str (pe_slice sl_str (pv 6) po_none (po_some (pv 7))) (pe_ix ix_str (pv 3) (pe_call G__law_take (hr.mono (by decide)) rfl T.f__law_take T.k__law_take D.B__law_take .nil pass0 (pa_cons (pv 0) (pa_cons pe_int pa_nil))) (fun _ _ => rfl))) (pe_slice sl_str (pv 6) (po_some (pe_op op_add (pv 7) pe_int)) po_none)))) (pss_one (ps_if (pt_cmpR op_lt (pe_callB call_len_str (by rfl) T.b_len (by decide +kernel) (pa_cons (pv 6) pa_nil)) pe_int (nomark _)) (pss_one (ps_set (i := 6) sc_law_names.nd rfl (Or.inl rfl) (pe_op op_add_str (pv 6) (pe_ix ix_str (pv 3) (pe_call G__law_take (hr.mono (by decide)) rfl T.f__law_take T.k__law_take D.B__law_take .nil pass0 (pa_cons (pv 0) (pa_cons pe_int pa_nil))) (fun _ _ => rfl))))) pss_nil)))))))) (pss_cons (ps_set (i := 6) sc_law_names.nd rfl (Or.inl rfl) (pe_ix ix_str (pv 2) (pe_call G__law_take (hr.mono (by decide)) rfl T.f__law_take T.k__law_take D.B__law_take .nil pass0 (pa_cons (pv 0) (pa_cons pe_int pa_nil))) (fun _ _ => rfl)))
        (pss_one (ps_for PassesOwn.never rfl (pi_range1 rfl T.b_range (pa_cons (pe_op op_mul (pe_call G__law_take (hr.mono (by decide)) rfl T.f__law_take T.k__law_take D.B__law_take .nil pass0 (pa_cons (pv 0) (pa_cons pe_int pa_nil))) (pe_call G__law_take (hr.mono (by decide)) rfl T.f__law_take T.k__law_take D.B__law_take .nil pass0 (pa_cons (pv 0) (pa_cons pe_int pa_nil)))) pa_nil)) (pg_name (i := 8) sc_law_names.nd rfl (Or.inl rfl)) (pss_one (ps_set (i := 6) sc_law_names.nd rfl (Or.inl rfl) (pe_op op_add_str (pv 6) (pe_ix ix_str (pv 3) (pe_call G__law_take (hr.mono (by decide)) rfl T.f__law_take T.k__law_take D.B__law_take .nil pass0 (pa_cons (pv 0) (pa_cons pe_int pa_nil))) (fun _ _ => rfl)))))))))
        (Evl.pss_cut (ps_if (pt_cmpR op_in_seq (pv 6) (pv 4) rfl) (pss_one (ps_set (i := 6) sc_law_names.nd rfl (Or.inl rfl) (pe_ix (ix_listK (K := K)) (pe_lc (own := [("sign", 9)]) (g := gName 9) (tt := tTest (tOp (rIn K true) (tVar 9) (tVar 4))) rfl sc_law_names.nd (pi_str (pv 2)) (blkOk_by (N := ["bag", "many", "letters", "signs", "found", "k", "name", "at", "j", "sign"]) (sc := defScope s_law_names) (by decide +kernel)) (fun _ _ _ _ _ => (pg_name (i := 9) sc_law_names.nd rfl (Or.inl rfl))) (fun _ _ _ _ _ => (pts_one (pt_cmpR (op_notIn_seqK (K := K)) (pv 9) (pv 4) rfl))) (fun _ _ _ _ _ => (pv 9))) pe_int (fun _ _ => rfl)))) pss_nil)
        (pss_one (ps_expr (pe_bm PySem.F.plainAttrs_list PySem.F.slot_list_append PySem.F.type_list_append mt_append (pv 4) (pa_cons (pv 6) pa_nil)))))))
        (pss_one (ps_ret (pv 4))))))), ?_⟩
    refine ⟨_, rfl, _, _, rfl, rfl, (by show letters.length + ("0123456789" : Str).length ≤ sizeLine; decide +kernel), Nat.zero_le _, fun l hl => ?_⟩
    rw [show ("abcdefghijklmnopqrstuvwxyz" : Str) ++ ("0123456789" : Str) = signs from lett_dig]
    have hlb := X.ne hl
    have lsz : letters.length ≤ sizeLine := by decide +kernel
    have ssz : signs.length ≤ sizeLine := by decide +kernel
    refine ⟨_, rfl, (k : Int), rfl, by omega, by omega, for_range (lo := 0) (n := (k : Int).toNat) (fun i σ H' => ∃ xs : List Str, (∃ (o5 o6 o7 o8 : Option V), σ = [some (.ref b), some (.int (k : Int)), some (.str letters), some (.str signs), some (.ref l), o5, o6, o7, o8, none]) ∧ Nm l xs H' ∧ xs.length = i ∧ Kp b H H' ∧ Bx b H')
      ⟨[], ⟨none, none, none, none, rfl⟩, ⟨upd_same, fun _ h => absurd h List.not_mem_nil, List.nodup_nil⟩, rfl, Kp.ex (Ex.new hl), X.ex (Ex.new hl)⟩ ?_ ?_⟩
    · rintro i σ H' hi ⟨xs, ⟨o5, o6, o7, o8, rfl⟩, N, hx, k1, X1⟩
      refine ⟨fun σ' H' => ∃ y : Str, isNameS y = true ∧ (∃ (o5 o7 o8 : Option V), σ' = [some (.ref b), some (.int (k : Int)), some (.str letters), some (.str signs), some (.ref l), o5, some (.str y), o7, o8, none]) ∧ H' l = some (.lst (xs.map V.str)) ∧ Kp b H H' ∧ Bx b H', ?_, ?_⟩
      · refine ⟨_, rfl, _, _, rfl, rfl, _, rfl, ?_⟩
        refine ite2 (fun g1 => ⟨_, rfl, b, 2, rfl, X1, by decide, by decide +kernel, fun d2 H2 k2 X2 _ _ => ⟨rfl, _, rfl, ite2 (fun g2 => ?_) (fun g2 =>
            have HC := k2.at hlb N.1
            have kC := k1.trans k2
            have XC := X2
            ?_)⟩⟩) (fun g1 =>
            have HC := N.1
            have kC := k1
            have XC := X1
            ?_)
        · have i0 : 0 < i := by have := of_decide_eq_true g1; omega
          have hl2 := k2.at hlb N.1
          refine ⟨_, rfl, _, rfl, _, rfl, b, _, rfl, X2, by omega, small_size' (by omega), fun e H3 k3 X3 e0 e1 => ?_⟩
          have hl3 := k3.at hlb hl2
          obtain ⟨y, hy⟩ : ∃ y, xs[e.toNat]? = some y := ⟨xs[e.toNat]'(by omega), by simp⟩
          have ny : isNameS y = true := N.2.1 y (List.mem_of_getElem? hy)
          have ly := name_len2 ny
          have ly2 : y.length ≤ sizeLine := Nat.le_trans ly.2 (by decide)
          refine ⟨l, _, e, .str y, rfl, rfl, SqL.of hl3, at_lit (n := e.toNat) (by omega) (by rw [List.getElem?_map, hy]; rfl), ?_⟩
          refine ⟨_, rfl, b, 9, rfl, X3, by decide, by decide +kernel, fun at_ H4 k4 X4 a0 a1 => ?_⟩
          have hl4 := k4.at hlb hl3
          have k14 := ((k1.trans k2).trans k3).trans k4
          refine ⟨_, rfl, rfl, _, rfl, ite2 (fun g3 => ?_) (fun g3 => ?_)⟩
          · refine ⟨_, rfl, _, rfl, b, 26, rfl, X4, by decide, by decide +kernel, fun c5 H5 k5 X5 c0 c1 => ?_⟩
            obtain ⟨c, hc, hcl⟩ := lett_at (k := c5.toNat) (by omega)
            refine ⟨letters, _, c, rfl, rfl, lsz, at_lit (n := c5.toNat) (by omega) hc, _, rfl, _, rfl, y, rfl, ly2, _, _, rfl, rfl, ?_, _, name_head_put ny hcl, ⟨_, _, _, rfl⟩, k5.at hlb hl4, k14.trans k5, X5⟩
            have := cutS_length y (some 1) none
            exact Nat.le_trans (by show 1 + _ ≤ 9; omega) (by decide : 9 ≤ sizeLine)
          · have a2 : at_ ≠ 0 := fun z => g3 (decide_eq_true (by rw [z]))
            refine ⟨_, rfl, _, rfl, y, rfl, ly2, _, _, rfl, rfl, _, rfl, ite2 (fun g4 => ?_) (fun g4 => ?_)⟩
            · have a3 : at_ < (y.length : Int) := of_decide_eq_true g4
              obtain ⟨kk, rfl⟩ : ∃ kk : Nat, at_ = (kk : Int) := ⟨at_.toNat, by omega⟩
              refine ⟨_, rfl, _, rfl, _, rfl, y, rfl, ly2, _, rfl, _, rfl, b, 36, rfl, X4, by decide, by decide +kernel, fun c5 H5 k5 X5 c0 c1 => ?_⟩
              obtain ⟨c, hc, hcl⟩ := sign_at (k := c5.toNat) (by omega)
              have t1 := cutS_length y none (some (kk : Int))
              have t2 := cutS_length y (some ((kk : Int) + 1)) none
              refine ⟨signs, _, c, rfl, rfl, ssz, at_lit (n := c5.toNat) (by omega) hc, _, _, rfl, rfl, ?_, _, rfl, _, rfl, _, _, rfl, rfl, _, rfl, y, rfl, ly2, _, _, rfl, rfl, ?_, _, name_put ny (by omega : kk < y.length) (by omega) hcl, ⟨_, _, _, rfl⟩, k5.at hlb hl4, k14.trans k5, X5⟩
              · exact Nat.le_trans (by show _ + 1 ≤ 9; omega) (by decide : 9 ≤ sizeLine)
              · rw [app_len]
                exact Nat.le_trans (by show _ + 1 + _ ≤ 17; omega) (by decide : 17 ≤ sizeLine)
            · refine ⟨_, rfl, y, rfl, ly2, _, _, rfl, rfl, _, rfl, ite2 (fun g5 => ?_) (fun g5 => ⟨y, ny, ⟨_, _, _, rfl⟩, hl4, k14, X4⟩)⟩
              have l8 : (y.length : Int) < 8 := of_decide_eq_true g5
              refine ⟨_, rfl, _, rfl, _, rfl, b, 36, rfl, X4, by decide, by decide +kernel, fun c5 H5 k5 X5 c0 c1 => ?_⟩
              obtain ⟨c, hc, hcl⟩ := sign_at (k := c5.toNat) (by omega)
              refine ⟨signs, _, c, rfl, rfl, ssz, at_lit (n := c5.toNat) (by omega) hc, _, _, rfl, rfl, ?_, _, name_more ny (by omega) hcl, ⟨_, _, _, rfl⟩, k5.at hlb hl4, k14.trans k5, X5⟩
              exact Nat.le_trans (by show _ + 1 ≤ 9; omega) (by decide : 9 ≤ sizeLine)
        all_goals
          refine ⟨_, rfl, _, rfl, b, 26, rfl, XC, by decide, by decide +kernel, fun c5 H5 k5 X5 c0 c1 => ?_⟩
          obtain ⟨c, hc, hcl⟩ := lett_at (k := c5.toNat) (by omega)
          refine ⟨letters, _, c, rfl, rfl, lsz, at_lit (n := c5.toNat) (by omega) hc, ?_⟩
          refine ⟨_, rfl, b, 2, rfl, X5, by decide, by decide +kernel, fun p H6 k6 X6 p0 p1 => ⟨_, rfl, b, 8, rfl, X6, by decide, by decide +kernel, fun u H7 k7 X7 u0 u1 => ?_⟩⟩
          have hpu : 0 ≤ p * u ∧ p * u ≤ 7 := by
            rcases (by omega : p = 0 ∨ p = 1) with rfl | rfl <;> omega
          have kk := ((kC.trans k5).trans k6).trans k7
          have HL := k7.at hlb (k6.at hlb (k5.at hlb HC))
          refine ⟨_, _, rfl, rfl, .inl (by constructor <;> omega), p * u, rfl, by omega, by omega, for_range (lo := 0) (n := (p * u).toNat) (fun j σ' H' => ∃ y : Str, (isNameS y = true ∧ y.length = j + 1) ∧ (∃ (o5 o7 o8 : Option V), σ' = [some (.ref b), some (.int (k : Int)), some (.str letters), some (.str signs), some (.ref l), o5, some (.str y), o7, o8, none]) ∧ H' l = some (.lst (xs.map V.str)) ∧ Kp b H H' ∧ Bx b H')
            ⟨_, ⟨name_one hcl, rfl⟩, ⟨_, _, _, rfl⟩, HL, kk, X7⟩ ?_ ?_⟩
          · rintro j σ' H8 hj ⟨y, ⟨ny, ly⟩, ⟨o5, o7, o8, rfl⟩, hl8, k8, X8⟩
            refine ⟨_, rfl, _, rfl, _, rfl, b, 36, rfl, X8, by decide, by decide +kernel, fun c9 H9 k9 X9 c0 c1 => ?_⟩
            obtain ⟨c2, hc2, hcl2⟩ := sign_at (k := c9.toNat) (by omega)
            refine ⟨signs, _, c2, rfl, rfl, ssz, at_lit (n := c9.toNat) (by omega) hc2, _, _, rfl, rfl, ?_, _, ⟨name_more ny (by omega) hcl2, ?_⟩, ⟨_, _, _, rfl⟩, k9.at hlb hl8, k8.trans k9, X9⟩
            · exact Nat.le_trans (by show _ + 1 ≤ 9; omega) (by decide : 9 ≤ sizeLine)
            · rw [app_len, ly]
              rfl
          · rintro σ' H8 ⟨y, ⟨ny, ly⟩, h5, hl8, k8, X8⟩
            exact ⟨y, ny, h5, hl8, k8, X8⟩
      · rintro σ' H1 ⟨y, ny, ⟨o5, o7, o8, rfl⟩, hl1, k1, X1⟩
        refine ⟨fun σ' H' => ∃ y : Str, (isNameS y = true ∧ y ∉ xs) ∧ (∃ (o5 o7 o8 : Option V), σ' = [some (.ref b), some (.int (k : Int)), some (.str letters), some (.str signs), some (.ref l), o5, some (.str y), o7, o8, none]) ∧ H' l = some (.lst (xs.map V.str)) ∧ Kp b H H' ∧ Bx b H', ?_, ?_⟩
        · refine ⟨_, rfl, _, rfl, l, _, rfl, .inl (SqL.of hl1), rfl, flat_strs, _, rfl, ?_⟩
          rw [show (if false = true then !inV (.str y) (xs.map V.str) else inV (.str y) (xs.map V.str)) = decide (y ∈ xs) from inV_strs]
          refine ite2 (fun g1 => ?_) (fun g1 => ⟨y, ⟨ny, fun z => g1 (decide_eq_true z)⟩, ⟨_, _, _, rfl⟩, hl1, k1, X1⟩)
          obtain ⟨u, r, hu⟩ := spare (xs := xs) (by omega)
          have uf := List.mem_filter.mp (show u ∈ singles.filter (fun y => !decide (y ∈ xs)) by rw [hu]; exact List.mem_cons_self)
          have um : u ∈ singles := uf.1
          have un : u ∉ xs := by simpa using uf.2
          have nu : isNameS u = true := by
            obtain ⟨c, hc, rfl⟩ := List.mem_map.mp um
            exact name_one hc
          refine ⟨_, rfl, letters, rfl, fun D1 hD1 => lcFil (H1 := H1) walk_signs (fun v => match v with | .str x => !decide (x ∈ xs) | _ => false) id (by rw [List.length_map]; exact (by decide +kernel : letters.cps.toList.length < sizeLine)) (fun _ _ => trivial) (fun _ => rfl) ?_ ?_ hD1 ?_⟩
          · intro v hv H2 e2 Q' q'
            obtain ⟨c, _, rfl⟩ := List.mem_map.mp hv
            refine ⟨_, rfl, _, rfl, l, _, rfl, .inl (SqL.of (e2 _ _ hl1)), rfl, flat_strs, _, rfl, ?_⟩
            rw [show (if true = true then !inV (.str ⟨#[c]⟩) (xs.map V.str) else inV (.str ⟨#[c]⟩) (xs.map V.str)) = !decide ((⟨#[c]⟩ : Str) ∈ xs) from congrArg (!·) (inV_strs)]
            exact q' H2 (Ex.refl _)
          · exact fun v _ _ H2 _ H3 _ Q' q' => ⟨_, rfl, q' H3 (Ex.refl _)⟩
          · intro H2 e2 hD2
            have hfil : ((letters.cps.toList.map fun c => V.str ⟨#[c]⟩).filter fun v => match v with | .str x => !decide (x ∈ xs) | _ => false).map id = (u :: r).map V.str := by
              rw [← hu, List.map_id]
              unfold singles
              rw [List.filter_map, List.filter_map, List.map_map]
              rfl
            rw [hfil] at hD2
            exact ⟨D1, _, 0, .str u, rfl, rfl, SqL.of hD2, at_lit (n := 0) rfl rfl, u, ⟨nu, un⟩, ⟨_, _, _, rfl⟩, e2 _ _ hl1, k1.trans (Kp.ex e2), X1.ex e2⟩
        · rintro σ' H1 ⟨y, ⟨ny, yn⟩, ⟨o5, o7, o8, rfl⟩, hl1, k1, X1⟩
          refine ⟨_, rfl, .inl ⟨rfl, _, SqL.of hl1⟩, _, rfl, l, _, _, rfl, rfl, hl1, ?_, xs ++ [y], ⟨_, _, _, _, rfl⟩, ⟨by rw [upd_same, List.map_append]; rfl, fun z hz => ?_, ?_⟩, by simp [hx], k1.mut hl hlb, Bx.mut X hl k1 X1⟩
          · rw [List.length_map]
            exact Nat.lt_of_le_of_lt (by omega : _ ≤ 12) (by decide)
          · rcases List.mem_append.mp hz with hz | hz
            · exact N.2.1 z hz
            · rw [List.mem_singleton.mp hz]; exact ny
          · refine List.nodup_append.mpr ⟨N.2.2, List.nodup_cons.mpr ⟨List.not_mem_nil, List.nodup_nil⟩, fun u hu v hv => ?_⟩
            rw [List.mem_singleton.mp hv]
            exact fun z => yn (by rw [← z]; exact hu)
    · rintro σ H' ⟨xs, ⟨o5, o6, o7, o8, rfl⟩, N, hx, k1, X1⟩
      exact ⟨_, rfl, q l xs H' hl hlb N (by omega) k1 X1⟩
end
end V1
set_option maxRecDepth 100000
set_option maxHeartbeats 8000000
namespace V1
open PySem L2 Evl GP HR SC SetM SetH
def spInteger : Sp := fun vs H Q _ => ∃ b : Addr, vs = [.ref b] ∧ Bx b H ∧ ∀ (z : Int) H', z.natAbs ≤ B0 → Kp b H H' → Bx b H' → Q (.int z) H'
theorem log_lt {z : Int} {n : Nat} (h0 : 0 < n) (h : z.natAbs < 2 ^ n) : z.natAbs.log2 < n := PySem.Flt.log2_lt_of h0 h
theorem log_small {z : Int} (h : -(2 ^ 60) < z ∧ z < 2 ^ 60) : z.natAbs ≤ B0 := Nat.le_trans (show z.natAbs ≤ 2 ^ 60 by omega) (by unfold B0; decide +kernel)
section
variable {P : Program} {w : World} {K : PySem.W.Frag} {mg : Str → Option Value} {base : Heap} {a : Ad} {d : Fd}
theorem ok_law_integer (T : TX K mg a) (D : FDS K a d) : FnOk P w K mg base CX0 2 a.a_law_integer d.a_law_integer ["bag"] spInteger := by
  have G__law_take : FnOk P w K mg base CX0 1 a.a_law_take d.a_law_take ["bag", "size"] spTake := ok_law_take T D
  refine D.F__law_integer.ok sc_law_integer (fun vs H Q E h => ?_) (fun cdv A outer s H vs Q E hr h => ?_)
  · obtain ⟨b, rfl, _⟩ := h
    rfl
  · obtain ⟨b, rfl, X, q⟩ := h
    refine ⟨_, (pss_cons (ps_set (i := 1) sc_law_integer.nd rfl (Or.inl rfl) (pe_call G__law_take (hr.mono (by decide)) rfl T.f__law_take T.k__law_take D.B__law_take .nil pass0 (pa_cons (pv 0) (pa_cons pe_int pa_nil))))
        (pss_cons (ps_if (pt_cmpR op_eq (pv 1) pe_int (nomark _)) (pss_cons (ps_set (i := 2) sc_law_integer.nd rfl (Or.inl rfl) (pe_op op_add (pe_op op_mulW (pe_call G__law_take (hr.mono (by decide)) rfl T.f__law_take T.k__law_take D.B__law_take .nil pass0 (pa_cons (pv 0) (pa_cons (pe_op op_pow pe_int pe_int) pa_nil))) (pe_op op_pow pe_int pe_int)) (pe_call G__law_take (hr.mono (by decide)) rfl T.f__law_take T.k__law_take D.B__law_take .nil pass0 (pa_cons (pv 0) (pa_cons (pe_op op_pow pe_int pe_int) pa_nil)))))
        (pss_one (ps_ret (pe_op op_mulW (pv 2) (pe_op op_sub pe_int (pe_op op_mul pe_int (pe_call G__law_take (hr.mono (by decide)) rfl T.f__law_take T.k__law_take D.B__law_take .nil pass0 (pa_cons (pv 0) (pa_cons pe_int pa_nil))))))))) pss_nil)
        (pss_cons (ps_if (pt_cmpR op_eq (pv 1) pe_int (nomark _)) (pss_one (ps_ret (pe_op op_sub (pe_call G__law_take (hr.mono (by decide)) rfl T.f__law_take T.k__law_take D.B__law_take .nil pass0 (pa_cons (pv 0) (pa_cons pe_int pa_nil))) pe_int))) pss_nil)
        (pss_one (ps_ret (pe_op op_sub (pe_call G__law_take (hr.mono (by decide)) rfl T.f__law_take T.k__law_take D.B__law_take .nil pass0 (pa_cons (pv 0) (pa_cons pe_int pa_nil))) pe_int)))))), ?_⟩
    refine ⟨_, rfl, b, 8, rfl, X, by decide, by decide +kernel, fun w1 H1 k1 X1 w0 w8 => ⟨_, rfl, rfl, _, rfl, ite2 (fun g => ?_) (fun g => ?_)⟩⟩
    · refine ⟨_, rfl, _, _, rfl, rfl, ⟨by decide, by decide, by decide⟩, b, _, rfl, X1, by decide +kernel, by decide +kernel, fun d1 H2 k2 X2 p0 p1 => ⟨_, _, rfl, rfl, ⟨by decide, by decide, by decide⟩, _, _, rfl, rfl, ?_, _, rfl, _, _, rfl, rfl, ⟨by decide, by decide, by decide⟩, b, _, rfl, X2, by decide +kernel, by decide +kernel, fun d2 H3 k3 X3 r0 r1 => ⟨_, _, rfl, rfl, ?_⟩⟩⟩
      · refine wide_mul (a := 200) (b := 200) ?_ ?_ (by decide) (by decide) (by decide)
        · have : d1 < (10 : Int) ^ 50 := p1
          have h : (10 : Int) ^ 50 < 2 ^ 200 := by decide +kernel
          omega
        · exact (by decide +kernel : ((10 : Int) ^ (45 : Int).toNat).natAbs < 2 ^ 200)
      · have e45 : (10 : Int) ^ (45 : Int).toNat = 10 ^ 45 := rfl
        have q1 : d1 < (10 : Int) ^ 50 := p1
        have q2 : d2 < (10 : Int) ^ 45 := r1
        rw [e45]
        have gl : 0 ≤ d1 * 10 ^ 45 + d2 ∧ d1 * 10 ^ 45 + d2 < 10 ^ 95 := by
          have h1 : d1 * 10 ^ 45 ≤ ((10 : Int) ^ 50 - 1) * 10 ^ 45 := Int.mul_le_mul_of_nonneg_right (by omega) (by decide +kernel)
          have h2 : ((10 : Int) ^ 50 - 1) * 10 ^ 45 + 10 ^ 45 = 10 ^ 95 := by decide +kernel
          have h3 : 0 ≤ d1 * 10 ^ 45 := Int.mul_nonneg p0 (by decide +kernel)
          omega
        have gb : (d1 * 10 ^ 45 + d2).natAbs < 2 ^ 400 := by
          have h : (10 : Int) ^ 95 < 2 ^ 400 := by decide +kernel
          omega
        refine ⟨_, rfl, _, rfl, b, 2, rfl, X3, by decide, by decide +kernel, fun d3 H4 k4 X4 s0 s1 => ⟨_, _, rfl, rfl, .inl (by constructor <;> decide), _, _, rfl, rfl, _, _, rfl, rfl, ?_, q _ H4 ?_ (((k1.trans k2).trans k3).trans k4) X4⟩⟩
        · exact wide_mul (a := 400) (b := 4) gb (by omega) (by decide) (by decide) (by decide)
        · rcases (by omega : d3 = 0 ∨ d3 = 1) with rfl | rfl
          · rw [show (1 - 2 * (0 : Int)) = 1 from rfl, Int.mul_one]
            exact Nat.le_trans (Nat.le_of_lt gb) (by unfold B0; decide +kernel)
          · rw [show (1 - 2 * (1 : Int)) = -1 from rfl, Int.mul_neg, Int.mul_one, Int.natAbs_neg]
            exact Nat.le_trans (Nat.le_of_lt gb) (by unfold B0; decide +kernel)
    · refine ⟨_, rfl, rfl, _, rfl, ite2 (fun g2 => ?_) (fun g2 => ?_)⟩
      · refine ⟨_, rfl, b, 2000001, rfl, X1, by decide, by decide +kernel, fun d1 H2 k2 X2 p0 p1 => ⟨_, _, rfl, rfl, q _ H2 (log_small (by omega)) (k1.trans k2) X2⟩⟩
      · refine ⟨_, rfl, b, 9, rfl, X1, by decide, by decide +kernel, fun d1 H2 k2 X2 p0 p1 => ⟨_, _, rfl, rfl, q _ H2 (log_small (by omega)) (k1.trans k2) X2⟩⟩
end
end V1
set_option maxRecDepth 100000
set_option maxHeartbeats 8000000
namespace V1
open PySem L2 Evl GP HR SC SetM SetH
theorem Kp.tup {b t : Addr} {H H' : Hp} {us : List V} (X : Bx b H) (k : Kp b H H') (h : H t = some (.tup us)) : H' t = some (.tup us) := by
  refine k.at (fun e => ?_) h
  obtain ⟨c, ns, i, r, m, w, h1, _⟩ := X
  rw [e, h1] at h
  cases h
theorem Lits.kp {b : Addr} {H H' : Hp} {vs : List V} {ls : List Lit} (A : Lits H vs ls) (X : Bx b H) (k : Kp b H H') : Lits H' vs ls := ⟨A.len, fun i q h => by
  obtain ⟨t, h1, h2⟩ := A.at_ i q h
  exact ⟨t, h1, Kp.tup X k h2⟩⟩
/-- the names that the law draws from -/
structure Pool (b pl : Addr) (xs : List Str) (H : Hp) : Prop where
  l : H pl = some (.lst (xs.map V.str))
  ne : pl ≠ b
  lo : 2 ≤ xs.length
  hi : xs.length ≤ 5
  ok : ∀ z ∈ xs, isNameS z = true
  nd : xs.Nodup
theorem Pool.kp {b pl : Addr} {xs : List Str} {H H' : Hp} (W : Pool b pl xs H) (k : Kp b H H') : Pool b pl xs H' := { W with l := k.at W.ne W.l }
theorem Pool.at {b pl : Addr} {xs : List Str} {H : Hp} (W : Pool b pl xs H) {d : Int} (h0 : 0 ≤ d) (h1 : d < (xs.length : Int)) : ∃ x, atI (xs.map V.str) d = some (.str x) ∧ xs[d.toNat]? = some x ∧ x ∈ xs ∧ isNameS x = true := by
  have hi : d.toNat < xs.length := by omega
  exact ⟨xs[d.toNat], at_lit (n := d.toNat) (by omega) (by rw [List.getElem?_map, List.getElem?_eq_getElem hi]; rfl), List.getElem?_eq_getElem hi, List.getElem_mem hi, W.ok _ (List.getElem_mem hi)⟩
theorem nd_ne {ys : List Str} (nd : ys.Nodup) {i j : Nat} {x y : Str} (h1 : ys[i]? = some x) (h2 : ys[j]? = some y) (n : i ≠ j) : x ≠ y := by
  obtain ⟨a1, b1⟩ := List.getElem?_eq_some_iff.mp h1
  obtain ⟨a2, b2⟩ := List.getElem?_eq_some_iff.mp h2
  have p := List.pairwise_iff_getElem.mp nd
  rw [← b1, ← b2]
  rcases Nat.lt_or_gt_of_ne n with l | l
  · exact p i j a1 a2 l
  · exact (p j i a2 a1 l).symm
theorem two_apart {at_ m n : Int} (h0 : 0 ≤ at_) (h1 : at_ < n) (h2 : 0 ≤ m) (h3 : m < n - 1) : 0 ≤ Int.fmod (at_ + 1 + m) n ∧ Int.fmod (at_ + 1 + m) n < n ∧ Int.fmod (at_ + 1 + m) n ≠ at_ := by
  rw [Int.fmod_eq_emod_of_nonneg _ (by omega)]
  refine ⟨Int.emod_nonneg _ (by omega), Int.emod_lt_of_pos _ (by omega), ?_⟩
  by_cases g : at_ + 1 + m < n
  · rw [Int.emod_eq_of_lt (by omega) g]; omega
  · have : (at_ + 1 + m) % n = at_ + 1 + m - n := by
      rw [← Int.sub_emod_right, Int.emod_eq_of_lt (by omega) (by omega)]
    omega
theorem yn_at (k : Int) (h0 : 0 ≤ k) (h1 : k < 2) : ∃ f, atI [V.str "yes", V.str "no"] k = some (.str (ynS f)) := by
  have : k = 0 ∨ k = 1 := by omega
  rcases this with rfl | rfl
  · exact ⟨true, rfl⟩
  · exact ⟨false, rfl⟩
/-- a literal of drawn names, its integer at most n beyond the greatest that is drawn -/
def LitN (n : Nat) : Lit → Prop
  | .yn _ x => isNameS x = true
  | .most x y k => isNameS x = true ∧ isNameS y = true ∧ x ≠ y ∧ k.natAbs ≤ B0 + n
theorem LitN.ok {n : Nat} {l : Lit} (h : LitN n l) (hn : n ≤ 100) : LitOk l := by
  cases l with
  | yn b x => exact h
  | most x y k => exact ⟨h.1, h.2.1, h.2.2.1, Nat.le_trans h.2.2.2 (by omega)⟩
theorem LitN.mono {n m : Nat} {l : Lit} (h : LitN n l) (hn : n ≤ m) : LitN m l := by
  cases l with
  | yn b x => exact h
  | most x y k => exact ⟨h.1, h.2.1, h.2.2.1, Nat.le_trans h.2.2.2 (by omega)⟩
theorem LitN.opp {n : Nat} {l : Lit} (h : LitN n l) : LitN (n + 1) (oppL l) := by
  cases l with
  | yn b x => exact h
  | most x y k =>
    refine ⟨h.2.1, h.1, h.2.2.1.symm, ?_⟩
    have := h.2.2.2
    omega
theorem opp_names {l : Lit} {xs : List Str} (h : ∀ z ∈ namesOf l, z ∈ xs) : ∀ z ∈ namesOf (oppL l), z ∈ xs := by
  cases l with
  | yn b x => exact h
  | most x y k =>
    intro z hz
    simp only [oppL, namesOf, List.mem_cons, List.not_mem_nil, or_false] at hz
    rcases hz with rfl | rfl
    · exact h _ (by simp [namesOf])
    · exact h _ (by simp [namesOf])
def spLiteral : Sp := fun vs H Q _ => ∃ (b pl : Addr) (xs : List Str), vs = [.ref b, .ref pl] ∧ Bx b H ∧ Pool b pl xs H ∧
  ∀ (p : Addr) (l : Lit) H', Kp b H H' → Bx b H' → H' p = some (.tup (litV l)) → LitN 0 l → (∀ z ∈ namesOf l, z ∈ xs) → Q (.ref p) H'
def spOpposite (K : PySem.W.Frag) : Sp := fun vs H Q _ => ∃ (p : Addr) (l : Lit), vs = [.ref p] ∧ SqT K H p (litV l) ∧ LitOk l ∧ ∀ (q : Addr) H', Ex H H' → H' q = some (.tup (litV (oppL l))) → Q (.ref q) H'
section
variable {P : Program} {w : World} {K : PySem.W.Frag} {mg : Str → Option Value} {base : Heap} {a : Ad} {d : Fd}
theorem ok_law_literal (T : TX K mg a) (D : FDS K a d) : FnOk P w K mg base CX0 3 a.a_law_literal d.a_law_literal ["bag", "pool"] spLiteral := by
  have G__law_take : FnOk P w K mg base CX0 1 a.a_law_take d.a_law_take ["bag", "size"] spTake := ok_law_take T D
  have G__law_integer : FnOk P w K mg base CX0 2 a.a_law_integer d.a_law_integer ["bag"] spInteger := ok_law_integer T D
  refine D.F__law_literal.ok sc_law_literal (fun vs H Q E h => ?_) (fun cdv A outer s H vs Q E hr h => ?_)
  · obtain ⟨b, pl, xs, rfl, _⟩ := h
    rfl
  · obtain ⟨b, pl, xs, rfl, X, W, fin⟩ := h
    refine ⟨_, (pss_cons (ps_set (i := 2) sc_law_literal.nd rfl (Or.inl rfl) (pe_call G__law_take (hr.mono (by decide)) rfl T.f__law_take T.k__law_take D.B__law_take .nil pass0 (pa_cons (pv 0) (pa_cons pe_int pa_nil))))
        (pss_cons (ps_set (i := 3) sc_law_literal.nd rfl (Or.inl rfl) (pe_call G__law_take (hr.mono (by decide)) rfl T.f__law_take T.k__law_take D.B__law_take .nil pass0 (pa_cons (pv 0) (pa_cons (pe_callB call_len_seq (by rfl) T.b_len (by decide +kernel) (pa_cons (pv 1) pa_nil)) pa_nil))))
        (pss_cons (ps_if (pt_cmpR op_lt (pv 2) pe_int (nomark _)) (pss_one (ps_ret (pe_tup (pa_cons (pe_ix (ix_listK (K := K)) (pe_lst (pa_cons pe_str (pa_cons pe_str pa_nil))) (pv 2) (fun _ _ => rfl)) (pa_cons (pe_ix (ix_listK (K := K)) (pv 1) (pv 3) (fun _ _ => rfl)) pa_nil))))) pss_nil)
        (pss_cons (ps_set (i := 4) sc_law_literal.nd rfl (Or.inl rfl) (pe_op op_modN (pe_callTy call_int1 (by rfl) T.b_int (by decide +kernel) (pa_cons (pe_op op_add (pe_op op_add (pv 3) pe_int) (pe_call G__law_take (hr.mono (by decide)) rfl T.f__law_take T.k__law_take D.B__law_take .nil pass0 (pa_cons (pv 0) (pa_cons (pe_op op_sub (pe_callB call_len_seq (by rfl) T.b_len (by decide +kernel) (pa_cons (pv 1) pa_nil)) pe_int) pa_nil)))) pa_nil)) (pe_callB call_len_seq (by rfl) T.b_len (by decide +kernel) (pa_cons (pv 1) pa_nil))))
        (pss_one (ps_ret (pe_tup (pa_cons pe_str (pa_cons (pe_ix (ix_listK (K := K)) (pv 1) (pv 3) (fun _ _ => rfl)) (pa_cons (pe_ix (ix_listK (K := K)) (pv 1) (pv 4) (fun _ _ => rfl)) (pa_cons (pe_call G__law_integer (hr.mono (by decide)) rfl T.f__law_integer T.k__law_integer D.B__law_integer .nil pass0 (pa_cons (pv 0) pa_nil)) pa_nil))))))))))), ?_⟩
    have lx : (xs.map V.str).length = xs.length := List.length_map _
    have lo := W.lo
    have hi := W.hi
    refine ⟨_, rfl, b, 4, rfl, X, by decide, by decide +kernel, fun kd H1 k1 X1 q0 q1 => ?_⟩
    have W1 := W.kp k1
    refine ⟨_, rfl, _, rfl, pl, _, rfl, .inl (SqL.of W1.l), b, _, rfl, X1, by rw [lx]; omega, small_size' (by rw [lx]; omega), fun one H2 k2 X2 r0 r1 => ?_⟩
    rw [lx] at r1
    have W2 := W1.kp k2
    obtain ⟨x, hx, hx2, hx3, nx⟩ := W2.at r0 r1
    refine ⟨_, rfl, _, _, rfl, rfl, _, rfl, ite2 (fun g => ?_) (fun g => ?_)⟩
    · have g' := of_decide_eq_true g
      obtain ⟨f, hf⟩ := yn_at kd q0 g'
      refine ⟨(by show 2 ≤ sizeLine; decide), fun l3 hl3 => ⟨_, rfl, l3, _, kd, _, rfl, rfl, SqL.of upd_same, hf, ?_⟩⟩
      have x3 := Ex.new (o := .lst [.str "yes", .str "no"]) hl3
      refine ⟨_, rfl, _, rfl, pl, _, one, _, rfl, rfl, SqL.of (x3 _ _ W2.l), hx, (by show 2 ≤ sizeLine; decide), fun t ht => ?_⟩
      exact fin t (.yn f x) _ ((k1.trans k2).trans ((Kp.ex x3).trans (Kp.ex (Ex.new ht)))) ((X2.ex x3).ex (Ex.new ht)) upd_same nx (fun z h => absurd h List.not_mem_nil)
    · refine ⟨_, rfl, _, _, rfl, rfl, _, rfl, _, rfl, pl, _, rfl, .inl (SqL.of W2.l), _, _, rfl, rfl, b, _, rfl, X2, by rw [lx]; omega, small_size' (by rw [lx]; omega), fun m H3 k3 X3 s0 s1 => ?_⟩
      rw [lx] at s1
      have W3 := W2.kp k3
      refine ⟨_, _, rfl, rfl, .inl ⟨_, rfl, _, rfl, pl, _, rfl, .inl (SqL.of W3.l), _, _, rfl, rfl, (by rw [lx]; show ((xs.length : Nat) : Int) ≠ 0; omega), ?_⟩⟩
      rw [lx]
      obtain ⟨m0, m4, mn⟩ := two_apart r0 r1 s0 s1
      obtain ⟨y, hy, hy2, hy3, ny⟩ := W3.at m0 m4
      have xy : x ≠ y := nd_ne W.nd hx2 hy2 (by omega)
      refine ⟨_, rfl, _, rfl, pl, _, one, _, rfl, rfl, SqL.of W3.l, hx, _, rfl, _, rfl, pl, _, _, _, rfl, rfl, SqL.of W3.l, hy, _, rfl, b, rfl, X3, fun i H4 i0 k4 X4 => ⟨(by show 4 ≤ sizeLine; decide), fun t ht => ?_⟩⟩
      exact fin t (.most x y i) _ (((k1.trans k2).trans k3).trans (k4.trans (Kp.ex (Ex.new ht)))) (X4.ex (Ex.new ht)) upd_same ⟨nx, ny, xy, i0⟩ (fun z h => by
        simp only [namesOf, List.mem_cons, List.not_mem_nil, or_false] at h
        rcases h with rfl | rfl
        · exact hx3
        · exact hy3)
theorem ok_law_opposite (T : TX K mg a) (D : FDS K a d) : FnOk P w K mg base CX0 1 a.a_law_opposite d.a_law_opposite ["row"] (spOpposite K) := by
  refine D.F__law_opposite.ok sc_law_opposite (fun vs H Q E h => ?_) (fun cdv A outer s H vs Q E hr h => ?_)
  · obtain ⟨p, l, rfl, _⟩ := h
    rfl
  · obtain ⟨p, l, rfl, hp, ok, fin⟩ := h
    refine ⟨_, (pss_cons (ps_if (pt_cmpR op_eq (pe_ix ix_tup (pv 0) pe_int (fun _ _ => rfl)) pe_str (nomark _)) (pss_one (ps_ret (pe_tup (pa_cons pe_str (pa_cons (pe_ix ix_tup (pv 0) pe_int (fun _ _ => rfl)) pa_nil))))) pss_nil)
        (pss_cons (ps_if (pt_cmpR op_eq (pe_ix ix_tup (pv 0) pe_int (fun _ _ => rfl)) pe_str (nomark _)) (pss_one (ps_ret (pe_tup (pa_cons pe_str (pa_cons (pe_ix ix_tup (pv 0) pe_int (fun _ _ => rfl)) pa_nil))))) pss_nil)
        (pss_one (ps_ret (pe_tup (pa_cons pe_str (pa_cons (pe_ix ix_tup (pv 0) pe_int (fun _ _ => rfl)) (pa_cons (pe_ix ix_tup (pv 0) pe_int (fun _ _ => rfl)) (pa_cons (pe_op op_sub (pe_op op_sub pe_int (pe_ix ix_tup (pv 0) pe_int (fun _ _ => rfl))) pe_int) pa_nil))))))))), ?_⟩
    cases l with
    | yn f x =>
      cases f with
      | true =>
        refine ⟨_, rfl, p, _, 0, _, rfl, rfl, hp, rfl, rfl, _, rfl, iteT' (by decide +kernel) ⟨_, rfl, p, _, 1, _, rfl, rfl, hp, rfl, (by show 2 ≤ sizeLine; decide), fun t ht => ?_⟩⟩
        exact fin t _ (Ex.new ht) upd_same
      | false =>
        refine ⟨_, rfl, p, _, 0, _, rfl, rfl, hp, rfl, rfl, _, rfl, iteF' (by decide +kernel) ⟨_, rfl, p, _, 0, _, rfl, rfl, hp, rfl, rfl, _, rfl, iteT' (by decide +kernel) ⟨_, rfl, p, _, 1, _, rfl, rfl, hp, rfl, (by show 2 ≤ sizeLine; decide), fun t ht => ?_⟩⟩⟩
        exact fin t _ (Ex.new ht) upd_same
    | most x y k =>
      refine ⟨_, rfl, p, _, 0, _, rfl, rfl, hp, rfl, rfl, _, rfl, iteF' (by decide +kernel) ⟨_, rfl, p, _, 0, _, rfl, rfl, hp, rfl, rfl, _, rfl, iteF' (by decide +kernel) ?_⟩⟩
      refine ⟨_, rfl, p, _, 2, _, rfl, rfl, hp, rfl, _, rfl, p, _, 1, _, rfl, rfl, hp, rfl, _, rfl, p, _, 3, _, rfl, rfl, hp, rfl, _, _, rfl, rfl, _, _, rfl, rfl, (by show 4 ≤ sizeLine; decide), fun t ht => ?_⟩
      refine fin t _ (Ex.new ht) ?_
      rw [upd_same]
      show some (HO.tup [.str "most", .str y, .str x, .int (0 - k - 1)]) = some (.tup [.str "most", .str y, .str x, .int (-k - 1)])
      rw [show (0 - k - 1) = (-k - 1) by omega]
end
end V1
set_option maxRecDepth 100000
set_option maxHeartbeats 8000000
namespace V1
open PySem L2 Evl GP HR SC SetM SetH
def Nms (xs : List Str) (l : Lit) : Prop := ∀ z ∈ namesOf l, z ∈ xs
/-- the rows that the law draws -/
structure Rows (rl : Addr) (xs : List Str) (n : Nat) (us : List V) (ls : List Lit) (H : Hp) : Prop where
  l : H rl = some (.lst us)
  L : Lits H us ls
  ok : ∀ l ∈ ls, LitN n l
  nm : ∀ l ∈ ls, Nms xs l
def RowCut (b pl rl : Addr) (most : Int) (H : Hp) (xs : List Str) (us : List V) (ls : List Lit) (i n : Nat) (wy : Int) : L2.St → Hp → Prop := fun σ' H' => ∃ (p : Addr) (l : Lit) (o4 : Option V), σ' = [some (.ref b), some (.ref pl), some (.int most), some (.ref rl), o4, some (.int wy), some (.ref p)] ∧ Kp b H H' ∧ Bx b H' ∧ Rows rl xs i us ls H' ∧ H' p = some (.tup (litV l)) ∧ LitN n l ∧ Nms xs l
theorem Rows.kp {b rl : Addr} {xs : List Str} {n : Nat} {us : List V} {ls : List Lit} {H H' : Hp} (R : Rows rl xs n us ls H) (X : Bx b H) (ne : rl ≠ b) (k : Kp b H H') : Rows rl xs n us ls H' := { R with l := k.at ne R.l, L := R.L.kp X k }
theorem tup_put {H : Hp} {rl t : Addr} {us ws : List V} {o : HO} (h : H rl = some (.lst us)) (ht : H t = some (.tup ws)) : upd H rl o t = some (.tup ws) := by
  rw [upd_ne fun e => by rw [e, h] at ht; cases ht]
  exact ht
theorem Lits.put {H : Hp} {rl : Addr} {us vs : List V} {o : HO} {ls : List Lit} (A : Lits H vs ls) (h : H rl = some (.lst us)) : Lits (upd H rl o) vs ls := ⟨A.len, fun i q g => by
  obtain ⟨t, h1, h2⟩ := A.at_ i q g
  exact ⟨t, h1, tup_put h h2⟩⟩
theorem Lits.snoc {H : Hp} {vs : List V} {ls : List Lit} {q : Lit} {t : Addr} (A : Lits H vs ls) (h : H t = some (.tup (litV q))) : Lits H (vs ++ [.ref t]) (ls ++ [q]) := ⟨by simp [A.len], fun i r g => by
  have lu := A.len
  by_cases hj : i < ls.length
  · rw [List.getElem?_append_left hj] at g
    obtain ⟨t, h1, h2⟩ := A.at_ i r g
    exact ⟨t, by rw [List.getElem?_append_left (by omega)]; exact h1, h2⟩
  · rw [List.getElem?_append_right (by omega)] at g
    have e0 : i - ls.length = 0 := by
      by_cases z : i - ls.length = 0
      · exact z
      · rw [List.getElem?_eq_none (by simp; omega)] at g
        cases g
    rw [e0] at g
    obtain rfl : q = r := Option.some.inj g
    exact ⟨t, by rw [List.getElem?_append_right (by omega), show i - vs.length = 0 by omega]; rfl, h⟩⟩
def spRows : Sp := fun vs H Q _ => ∃ (b pl : Addr) (xs : List Str) (most : Nat), vs = [.ref b, .ref pl, .int (most : Int)] ∧ Bx b H ∧ Pool b pl xs H ∧ most ≤ 12 ∧
  ∀ (rl : Addr) (us : List V) (ls : List Lit) H', H rl = none → rl ≠ b → Rows rl xs 24 us ls H' → ls.length ≤ most → Kp b H H' → Bx b H' → Q (.ref rl) H'
section
variable {P : Program} {w : World} {K : PySem.W.Frag} {mg : Str → Option Value} {base : Heap} {a : Ad} {d : Fd}
theorem ok_law_rows (T : TX K mg a) (D : FDS K a d) : FnOk P w K mg base CX0 4 a.a_law_rows d.a_law_rows ["bag", "pool", "most"] spRows := by
  have G__law_take : FnOk P w K mg base CX0 1 a.a_law_take d.a_law_take ["bag", "size"] spTake := ok_law_take T D
  have G__law_literal : FnOk P w K mg base CX0 3 a.a_law_literal d.a_law_literal ["bag", "pool"] spLiteral := ok_law_literal T D
  have G__law_opposite : FnOk P w K mg base CX0 1 a.a_law_opposite d.a_law_opposite ["row"] (spOpposite K) := ok_law_opposite T D
  refine D.F__law_rows.ok sc_law_rows (fun vs H Q E h => ?_) (fun cdv A outer s H vs Q E hr h => ?_)
  · obtain ⟨b, pl, xs, most, rfl, _⟩ := h
    rfl
  · obtain ⟨b, pl, xs, most, rfl, X, W, m12, fin⟩ := h
    refine ⟨_, (pss_cons (ps_set (i := 3) sc_law_rows.nd rfl (Or.inl rfl) (pe_lst pa_nil))
        (pss_cons (ps_for PassesOwn.never rfl (pi_range1 rfl T.b_range (pa_cons (pe_call G__law_take (hr.mono (by decide)) rfl T.f__law_take T.k__law_take D.B__law_take .nil pass0 (pa_cons (pv 0) (pa_cons (pe_op op_add (pv 2) pe_int) pa_nil))) pa_nil)) (pg_name (i := 4) sc_law_rows.nd rfl (Or.inl rfl)) (pss_cons (ps_set (i := 5) sc_law_rows.nd rfl (Or.inl rfl) (pe_call G__law_take (hr.mono (by decide)) rfl T.f__law_take T.k__law_take D.B__law_take .nil pass0 (pa_cons (pv 0) (pa_cons pe_int pa_nil))))
        (pss_cons (ps_set (i := 6) sc_law_rows.nd rfl (Or.inl rfl) (pe_call G__law_literal (hr.mono (by decide)) rfl T.f__law_literal T.k__law_literal D.B__law_literal .nil pass0 (pa_cons (pv 0) (pa_cons (pv 1) pa_nil))))
        (Evl.pss_cut (ps_if (PW.pt (pw_and (pt_truth (pv 3) (by intro _; rfl)) (pw_and1 (pt_cmpR op_lt (pv 5) pe_int (nomark _))))) (pss_one (ps_set (i := 6) sc_law_rows.nd rfl (Or.inl rfl) (pe_ix (ix_listK (K := K)) (pv 3) (pe_call G__law_take (hr.mono (by decide)) rfl T.f__law_take T.k__law_take D.B__law_take .nil pass0 (pa_cons (pv 0) (pa_cons (pe_callB call_len_seq (by rfl) T.b_len (by decide +kernel) (pa_cons (pv 3) pa_nil)) pa_nil))) (fun _ _ => rfl)))) pss_nil)
        (Evl.pss_cut (ps_if (pt_cmpR op_eq (pv 5) pe_int (nomark _)) (pss_one (ps_set (i := 6) sc_law_rows.nd rfl (Or.inl rfl) (pe_call G__law_opposite (hr.mono (by decide)) rfl T.f__law_opposite T.k__law_opposite D.B__law_opposite .nil pass0 (pa_cons (pv 6) pa_nil)))) pss_nil)
        (Evl.pss_cut (ps_if (PW.pt (pw_and (pt_cmpR op_eq (pv 5) pe_int (nomark _)) (pw_and1 (pt_cmpR op_eq (pe_ix ix_tup (pv 6) pe_int (fun _ _ => rfl)) pe_str (nomark _))))) (pss_one (ps_set (i := 6) sc_law_rows.nd rfl (Or.inl rfl) (pe_tup (pa_cons pe_str (pa_cons (pe_ix ix_tup (pv 6) pe_int (fun _ _ => rfl)) (pa_cons (pe_ix ix_tup (pv 6) pe_int (fun _ _ => rfl)) (pa_cons (pe_op op_sub (pe_op op_add (pe_ix ix_tup (pv 6) pe_int (fun _ _ => rfl)) (pe_call G__law_take (hr.mono (by decide)) rfl T.f__law_take T.k__law_take D.B__law_take .nil pass0 (pa_cons (pv 0) (pa_cons pe_int pa_nil)))) pe_int) pa_nil))))))) pss_nil)
        (pss_one (ps_expr (pe_bm PySem.F.plainAttrs_list PySem.F.slot_list_append PySem.F.type_list_append mt_append (pv 3) (pa_cons (pv 6) pa_nil))))))))))
        (pss_one (ps_ret (pv 3))))), ?_⟩
    have big : 1000 ≤ sizeLine := by decide
    refine ⟨(by show 0 ≤ sizeLine; decide), fun rl hrl => ?_⟩
    have nrb : rl ≠ b := X.ne hrl
    have x1 := Ex.new (o := .lst []) hrl
    refine ⟨_, rfl, _, rfl, _, _, rfl, rfl, b, _, rfl, X.ex x1, by omega, small_size' (by omega), fun cnt H1 k1 X1 c0 c1 => ⟨cnt, rfl, by omega, by omega, for_range (lo := 0) (n := cnt.toNat) (fun i σ H' => ∃ us ls, (∃ (o4 o5 o6 : Option V), σ = [some (.ref b), some (.ref pl), some (.int (most : Int)), some (.ref rl), o4, o5, o6]) ∧ Kp b H H' ∧ Bx b H' ∧ Rows rl xs (2 * i) us ls H' ∧ ls.length = i)
      ⟨[], [], ⟨none, none, none, rfl⟩, (Kp.ex x1).trans k1, X1, ⟨k1.at nrb upd_same, Lits.nil, fun _ h => absurd h List.not_mem_nil, fun _ h => absurd h List.not_mem_nil⟩, rfl⟩ ?_ ?_⟩⟩
    · rintro i σ H2 hi ⟨us, ls, ⟨o4, o5, o6, rfl⟩, k2, X2, R2, ll⟩
      refine ⟨_, rfl, b, 6, rfl, X2, by decide, by decide +kernel, fun wy H3 k3 X3 w0 w6 => ⟨_, rfl, _, rfl, b, pl, xs, rfl, X3, W.kp (k2.trans k3), fun p l H4 k4 X4 hp okl nml => ?_⟩⟩
      have R3 := (R2.kp X2 nrb k3).kp X3 nrb k4
      have i12 : i < 12 := by omega
      refine ⟨RowCut b pl rl most H xs us ls (2 * i) (2 * i) wy, ?_, ?_⟩
      · have keep : RowCut b pl rl most H xs us ls (2 * i) (2 * i) wy [some (.ref b), some (.ref pl), some (.int (most : Int)), some (.ref rl), some (.int (0 + (i : Int))), some (.int wy), some (.ref p)] H4 := ⟨p, l, _, rfl, (k2.trans k3).trans k4, X4, R3, hp, okl.mono (Nat.zero_le _), nml⟩
        refine ⟨_, rfl, !us.isEmpty, .inl ⟨us, SqL.of R3.l, rfl⟩, ?_⟩
        have lu := R3.L.len
        cases hu : us.isEmpty with
        | true => exact iteF' rfl keep
        | false =>
          have u0 : 0 < us.length := by
            cases us with
            | nil => cases hu
            | cons _ _ => simp
          refine iteT' rfl ⟨_, rfl, _, _, rfl, rfl, _, rfl, ite2 (fun g => ?_) (fun g => keep)⟩
          refine ⟨_, rfl, _, rfl, _, rfl, rl, _, rfl, .inl (SqL.of R3.l), b, _, rfl, X4, by omega, small_size' (by omega), fun e H5 k5 X5 e0 e1 => ?_⟩
          have R5 := R3.kp X4 nrb k5
          obtain ⟨v, hv⟩ : ∃ v, us[e.toNat]? = some v := ⟨us[e.toNat]'(by omega), by simp⟩
          obtain ⟨t, q, rfl, hq, ht⟩ := R5.L.get hv
          have hm := List.mem_of_getElem? hq
          exact ⟨rl, _, e, _, rfl, rfl, SqL.of R5.l, at_lit (n := e.toNat) (by omega) hv, t, q, _, rfl, ((k2.trans k3).trans k4).trans k5, X5, R5, ht, R5.ok q hm, R5.nm q hm⟩
      · rintro σ' H5 ⟨p, l, o4, rfl, k5, X5, R5, hp5, okl5, nml5⟩
        refine ⟨RowCut b pl rl most H xs us ls (2 * i) (2 * i + 1) wy, ?_, ?_⟩
        · refine ⟨_, rfl, rfl, _, rfl, ite2 (fun g => ?_) (fun g => ⟨p, l, _, rfl, k5, X5, R5, hp5, okl5.mono (Nat.le_succ _), nml5⟩)⟩
          refine ⟨_, rfl, p, l, rfl, SqT.of hp5, okl5.ok (by omega), fun q H6 e6 hq => ?_⟩
          exact ⟨q, oppL l, _, rfl, k5.trans (Kp.ex e6), X5.ex e6, R5.kp X5 nrb (Kp.ex e6), hq, okl5.opp, opp_names nml5⟩
        · rintro σ' H6 ⟨p, l, o4, rfl, k6, X6, R6, hp6, okl6, nml6⟩
          refine ⟨RowCut b pl rl most H xs us ls (2 * i) (2 * i + 2) wy, ?_, ?_⟩
          · have keep : RowCut b pl rl most H xs us ls (2 * i) (2 * i + 2) wy [some (.ref b), some (.ref pl), some (.int (most : Int)), some (.ref rl), o4, some (.int wy), some (.ref p)] H6 := ⟨p, l, _, rfl, k6, X6, R6, hp6, okl6.mono (Nat.le_succ _), nml6⟩
            refine ⟨_, rfl, rfl, _, rfl, ite2 (fun g => ?_) (fun g => keep)⟩
            cases l with
            | yn f x => exact ⟨_, rfl, p, _, 0, _, rfl, rfl, SqT.of hp6, rfl, rfl, _, rfl, iteF' (by cases f <;> decide +kernel) keep⟩
            | most x y k =>
              refine ⟨_, rfl, p, _, 0, _, rfl, rfl, SqT.of hp6, rfl, rfl, _, rfl, iteT' (by decide +kernel) ?_⟩
              refine ⟨_, rfl, p, _, 1, _, rfl, rfl, SqT.of hp6, rfl, _, rfl, p, _, 2, _, rfl, rfl, SqT.of hp6, rfl, _, rfl, p, _, 3, _, rfl, rfl, SqT.of hp6, rfl, _, rfl, b, 3, rfl, X6, by decide, by decide +kernel, fun e H7 k7 X7 e0 e1 => ?_⟩
              refine ⟨_, _, rfl, rfl, _, _, rfl, rfl, (by show 4 ≤ sizeLine; decide), fun t ht => ?_⟩
              have x8 := Ex.new (o := .tup [.str "most", .str x, .str y, .int (k + e - 1)]) ht
              have okn : LitN (2 * i + 2) (.most x y (k + e - 1)) := ⟨okl6.1, okl6.2.1, okl6.2.2.1, by have := okl6.2.2.2; omega⟩
              exact ⟨t, .most x y (k + e - 1), _, rfl, (k6.trans k7).trans (Kp.ex x8), X7.ex x8, (R6.kp X6 nrb k7).kp X7 nrb (Kp.ex x8), upd_same, okn, nml6⟩
          · rintro σ' H7 ⟨p, l, o4, rfl, k7, X7, R7, hp7, okl7, nml7⟩
            have lu := R7.L.len
            refine ⟨_, rfl, .inl ⟨rfl, _, SqL.of R7.l⟩, _, rfl, rl, _, _, rfl, rfl, R7.l, by omega, us ++ [.ref p], ls ++ [l], ⟨_, _, _, rfl⟩, k7.mut hrl nrb, Bx.mut X hrl k7 X7, ⟨upd_same, (R7.L.put R7.l).snoc (tup_put R7.l hp7), fun q hq => ?_, fun q hq => ?_⟩, by simp [ll]⟩
            · rcases List.mem_append.mp hq with h | h
              · exact (R7.ok q h).mono (by omega)
              · rw [List.mem_singleton.mp h]; exact okl7
            · rcases List.mem_append.mp hq with h | h
              · exact R7.nm q h
              · rw [List.mem_singleton.mp h]; exact nml7
    · rintro σ H2 ⟨us, ls, ⟨o4, o5, o6, rfl⟩, k2, X2, R2, ll⟩
      exact ⟨_, rfl, fin rl us ls H2 hrl nrb { R2 with ok := fun l hl => (R2.ok l hl).mono (by omega) } (by omega) k2 X2⟩
end
end V1
set_option maxRecDepth 100000
set_option maxHeartbeats 4000000
/-! repr of whatever is handed in -/
namespace RQ
open PySem PySem.Spec PyProof.Rows L2 SetM GP Evl
mutual
theorem Dq.ex {K : PySem.W.Frag} {H H' : Hp} (e : Ex H H') : ∀ {v : V} {d : PyData}, Dq K H v d → Dq K H' v d
  | _, _, .non => .non
  | _, _, .bl b => .bl b
  | _, _, .int i => .int i
  | _, _, .str x => .str x
  | _, _, .tup h a => .tup (ex_t e h) (DqAll.ex e a)
  | _, _, .dK h a => .dK (e _ _ h) (DqAll.ex e a)
  | _, _, .dT h a => .dT (e _ _ h) (DqAll.ex e a)
theorem DqAll.ex {K : PySem.W.Frag} {H H' : Hp} (e : Ex H H') : ∀ {vs : List V} {ds : List PyData}, DqAll K H vs ds → DqAll K H' vs ds
  | _, _, .nil => .nil
  | _, _, .cons a b => .cons (Dq.ex e a) (DqAll.ex e b)
end
inductive ShV (K : PySem.W.Frag) (H : Hp) : V → Str → Prop
  | non : ShV K H .non "None"
  | bl (b : Bool) : ShV K H (.bl b) (PyData.bool b).shown
  | int (i : Int) (h : i.natAbs.log2 < 1920) : ShV K H (.int i) (Str.ofString (toString i))
  | str (x : Str) (h : (reprText x).length ≤ sizeLine) : ShV K H (.str x) (reprText x)
  | d {p : Addr} {d : PyData} {n c : Nat} : Dp K H (.ref p) d → Rp n c d → n ≤ 60 → c ≤ sizeLine → ShV K H (.ref p) d.shown
  | q {p : Addr} {d : PyData} : Dq K H (.ref p) d → d.showable = true → d.depth ≤ 60 → d.shown.length ≤ sizeLine → ShV K H (.ref p) d.shown
def rReprA (K : PySem.W.Frag) : List V → Hp → VK → Prop := fun xs H Q => ∃ v z, xs = [v] ∧ ShV K H v z ∧ Q (.str z) H
theorem cr_reprA {X : Cx} {K : PySem.W.Frag} (gd : X.A.guards = some []) (hu : X.A.units + 70 < cLine) (hK : X.K = K := by rfl) : CallR X (.builtin "repr") (rReprA K) := by
  subst hK
  intro pins s σ H xs us Q I r h
  obtain ⟨v, z, rfl, sh, q⟩ := h
  cases sh with
  | d hd rp hn hc => exact call_reprR gd hu pins s σ H _ us Q I r ⟨_, _, _, _, rfl, hd, rp, hn, hc, q⟩
  | q hd sh dp ln => exact cr_reprQ gd hu rfl pins s σ H _ us Q I r ⟨_, _, rfl, hd, sh, dp, ln, q⟩
  | non =>
    obtain ⟨u, rfl, ru⟩ := vals1 r
    obtain rfl : u = .none := ru
    exact PySem.P.repr_of_none ⟨.str "None", H, I.tok _, ⟨_, rfl⟩, q⟩
  | bl b =>
    obtain ⟨u, rfl, ru⟩ := vals1 r
    obtain rfl : u = .bool b := ru
    exact PySem.P.repr_of_bool ⟨.str _, H, I.tok _, ⟨_, rfl⟩, by cases b <;> exact q⟩
  | int i h =>
    obtain ⟨u, rfl, t, rfl⟩ := vals1 r
    exact PySem.P.repr_of_int h ⟨.str _, H, I.tok _, ⟨_, rfl⟩, q⟩
  | str x h =>
    obtain ⟨u, rfl, t, rfl⟩ := vals1 r
    exact PySem.P.repr_of_str ⟨.str _, H, I.tok _, ⟨_, rfl⟩, q⟩ (hsz := h)
theorem ShV.ex {K : PySem.W.Frag} {H H' : Hp} (hd : ∀ v d, Dp K H v d → Dp K H' v d) (e : Ex H H') {v : V} {z : Str} (h : ShV K H v z) : ShV K H' v z := by
  cases h with
  | non => exact .non
  | bl b => exact .bl b
  | int i h => exact .int i h
  | str x h => exact .str x h
  | d a b c f => exact .d (hd _ _ a) b c f
  | q a b c f => exact .q (Dq.ex e a) b c f
theorem rp_int_text {k : Int} (h : k.natAbs.log2 < 1920) : Rp 0 20000 (.str (Str.ofString (toString k))) := by
  refine (Rp.str fun c hc => ?_).mono (Nat.le_refl _) (by have := int_text_len_1921 h; omega)
  by_cases g : c ≠ 45 ∧ (c < 48 ∨ 57 < c)
  · exact absurd hc (int_text_free' c g k)
  · have : (57 : Nat) < 16 ^ 8 := by decide
    omega
theorem al_nil {P : PyData → Prop} : ∀ d ∈ ([] : List PyData), P d := fun _ h => absurd h List.not_mem_nil
theorem al_cons {P : PyData → Prop} {d : PyData} {ds : List PyData} (h : P d) (t : ∀ x ∈ ds, P x) : ∀ x ∈ d :: ds, P x := List.forall_mem_cons.mpr ⟨h, t⟩
theorem r1t {ds : List PyData} (few : ds.length ≤ 6) (h : ∀ d ∈ ds, Rp 0 20000 d) : Rp 1 130000 (.tuple ds) := (Rp.tuple h).mono (Nat.le_refl _) (by omega)
theorem r1l {ds : List PyData} (few : ds.length ≤ 6) (h : ∀ d ∈ ds, Rp 0 20000 d) : Rp 1 130000 (.list ds) := (Rp.list h).mono (Nat.le_refl _) (by omega)
theorem up {d : PyData} (h : Rp 0 20000 d) : Rp 1 130000 d := h.mono (by decide) (by decide)
theorem r2t {ds : List PyData} (few : ds.length ≤ 6) (h : ∀ d ∈ ds, Rp 1 130000 d) : Rp 2 800000 (.tuple ds) := (Rp.tuple h).mono (Nat.le_refl _) (by omega)
theorem a_non : Rp 0 20000 .none := Rp.none.mono (Nat.le_refl _) (by decide)
theorem a_bl (b : Bool) : Rp 0 20000 (.bool b) := ⟨by simp [PyData.showable], by simp [PyData.hasDict], by simp [PyData.depth], by simp only [PyData.shown]; cases b <;> decide +kernel⟩
theorem a_int {k : Int} (h : k.natAbs.log2 < 1920) : Rp 0 20000 (.int k) := (Rp.int h).mono (Nat.le_refl _) (by decide)
theorem a_str {x : Str} (h : ∀ c ∈ x.cps.toList, c < 16 ^ 8) (l : x.length ≤ 1000) : Rp 0 20000 (.str x) := (Rp.str h).mono (Nat.le_refl _) (by omega)
end RQ
set_option maxRecDepth 100000
set_option maxHeartbeats 4000000
/-! how long the texts of small dicts are -/
namespace RQ
open PySem PySem.Spec PyProof.Rows L2 SetM GP Evl
structure Sn (n c : Nat) (d : PyData) : Prop where
  sh : d.showable = true
  dp : d.depth ≤ n
  ln : d.shown.length ≤ c
theorem Sn.of {n c : Nat} {d : PyData} (r : Rp n c d) : Sn n c d := ⟨r.sh, r.dp, r.ln⟩
theorem Sn.mono {n c m e : Nat} {d : PyData} (r : Sn n c d) (h1 : n ≤ m) (h2 : c ≤ e) : Sn m e d := ⟨r.sh, Nat.le_trans r.dp h1, Nat.le_trans r.ln h2⟩
theorem dict_text (ts : List Str) : (dictText ts).length ≤ piled ts + 2 := by
  have e1 : (("{" : Str)).length = 1 := rfl
  have e2 : (("}" : Str)).length = 1 := rfl
  unfold dictText
  rw [strLen_append, strLen_append, e1, e2]
  by_cases h : ts = []
  · subst h
    decide +kernel
  · have := join_length_add ts h
    omega
theorem sd0 : Sn 1 100 (.dict []) := ⟨by simp [PyData.showable, PyData.showableKv], by simp [PyData.depth, PyData.depthKv], by simp only [PyData.shown, PyData.shownKv]; decide +kernel⟩
theorem sd1 {n c : Nat} {k v : PyData} (a : Sn n c k) (b : Sn n c v) : Sn (n + 1) (2 * c + 100) (.dict [(k, v)]) := by
  refine ⟨by simp [PyData.showable, PyData.showableKv, a.sh, b.sh], ?_, ?_⟩
  · have := a.dp
    have := b.dp
    simp only [PyData.depth, PyData.depthKv]
    omega
  · have := a.ln
    have := b.ln
    simp only [PyData.shown, PyData.shownKv]
    refine Nat.le_trans (dict_text _) ?_
    have e : ((": " : Str)).length = 2 := rfl
    simp only [piled_cons, strLen_append, e]
    have : piled [] = 0 := rfl
    omega
theorem sd2 {n c : Nat} {k v k2 v2 : PyData} (a : Sn n c k) (b : Sn n c v) (a2 : Sn n c k2) (b2 : Sn n c v2) : Sn (n + 1) (4 * c + 200) (.dict [(k, v), (k2, v2)]) := by
  refine ⟨by simp [PyData.showable, PyData.showableKv, a.sh, b.sh, a2.sh, b2.sh], ?_, ?_⟩
  · have := a.dp
    have := b.dp
    have := a2.dp
    have := b2.dp
    simp only [PyData.depth, PyData.depthKv]
    omega
  · have := a.ln
    have := b.ln
    have := a2.ln
    have := b2.ln
    simp only [PyData.shown, PyData.shownKv]
    refine Nat.le_trans (dict_text _) ?_
    have e : ((": " : Str)).length = 2 := rfl
    simp only [piled_cons, strLen_append, e]
    have : piled [] = 0 := rfl
    omega
theorem st2 {n c : Nat} {a b : PyData} (h1 : Sn n c a) (h2 : Sn n c b) : Sn (n + 1) (2 * c + 100) (.tuple [a, b]) := by
  refine ⟨by simp [PyData.showable, PyData.showableAll, h1.sh, h2.sh], ?_, ?_⟩
  · have := h1.dp
    have := h2.dp
    simp only [PyData.depth, PyData.depthAll]
    omega
  · have := h1.ln
    have := h2.ln
    simp only [PyData.shown, PyData.shownAll]
    refine Nat.le_trans (fmt_text _) ?_
    simp only [piled_cons]
    have : piled [] = 0 := rfl
    omega
end RQ
set_option maxRecDepth 100000
set_option maxHeartbeats 8000000
namespace V1
open PySem L2 Evl GP HR SC SetM SetH RQ
theorem no_head {z : Str} {c : Nat} {r : List Nat} (e : z.cps.toList = c :: r) (h : c ∉ letters.cps.toList) : isNameS z = false := by
  unfold isNameS
  rw [e, show decide ((c :: r).headD 0 ∈ letters.cps.toList) = false from decide_eq_false h, Bool.false_and, Bool.and_false]
theorem no_len {z : Str} (h : 8 < z.length) : isNameS z = false := by
  unfold isNameS
  rw [show decide (1 ≤ z.length ∧ z.length ≤ 8) = false from decide_eq_false (by omega), Bool.false_and]
theorem no_sign {z : Str} {c : Nat} (hm : c ∈ z.cps.toList) (h : c ∉ signs.cps.toList) : isNameS z = false := by
  unfold isNameS
  have e : (z.cps.toList.all fun c => decide (c ∈ signs.cps.toList)) = false := List.all_eq_false.mpr ⟨c, hm, by simpa using h⟩
  rw [e, Bool.and_false, Bool.and_false]
/-- a text that is no name, short, of ordinary signs -/
structure NoName (w : Str) : Prop where
  no : isNameS w = false
  len : w.length ≤ 100
  low : ∀ c ∈ w.cps.toList, c < 16 ^ 8
def badSigns : Str := "ABCDEFGHIJKLMNOPQRSTUVWXYZ !#$&()*+,-./:;<=>?\x40[]^_{|}~'\"\n\t"
theorem bad_signs : ∀ c ∈ badSigns.cps.toList, c ∉ signs.cps.toList ∧ c < 16 ^ 8 := by decide +kernel
theorem bad_len : badSigns.length = 58 := by decide +kernel
theorem cut_mem {z : Str} {lo hi : Option Int} : ∀ c ∈ (cutS z lo hi).cps.toList, c ∈ z.cps.toList := fun c hc => by
  have hc' : c ∈ ((z.cps.toList.drop (HT.sIx z.length 0 lo)).take (HT.sIx z.length z.length hi - HT.sIx z.length 0 lo)) := by
    unfold cutS at hc
    simpa using hc
  exact List.mem_of_mem_drop (List.mem_of_mem_take hc')
def digits : Str := "0123456789"
theorem dig_no : ∀ c ∈ digits.cps.toList, c ∉ letters.cps.toList ∧ c < 16 ^ 8 := by decide +kernel
theorem nn_empty : NoName "" := ⟨by decide +kernel, by decide +kernel, by decide +kernel⟩
theorem nn_long {z : Str} (h : isNameS z = true) : NoName (cutS (z ++ ("abcdefgh" : Str)) none (some 9)) := by
  have l := name_len2 h
  have l8 : ("abcdefgh" : Str).length = 8 := by decide +kernel
  have la : (z ++ ("abcdefgh" : Str)).length = z.length + 8 := by rw [app_len, l8]
  have e := cut_to (z := z ++ ("abcdefgh" : Str)) (k := 9) (by omega)
  have len : (cutS (z ++ ("abcdefgh" : Str)) none (some 9)).length = 9 := by
    have e2 : (cutS (z ++ ("abcdefgh" : Str)) none (some 9)).cps.toList = (z ++ ("abcdefgh" : Str)).cps.toList.take 9 := e
    rw [← str_len, e2, List.length_take, str_len]
    omega
  refine ⟨no_len (by omega), by omega, fun c hc => ?_⟩
  have := cut_mem c hc
  rw [str_app] at this
  rcases List.mem_append.mp this with g | g
  · exact name_low h c g
  · exact (by decide +kernel : ∀ c ∈ ("abcdefgh" : Str).cps.toList, c < 16 ^ 8) c g
theorem nn_dig {z : Str} {c : Nat} (h : isNameS z = true) (hc : c ∈ digits.cps.toList) : NoName ((⟨#[c]⟩ : Str) ++ cutS z (some 1) none) := by
  have l := name_len2 h
  have lc := cutS_length z (some 1) none
  have e : ((⟨#[c]⟩ : Str) ++ cutS z (some 1) none).cps.toList = c :: (cutS z (some 1) none).cps.toList := by rw [str_app]; rfl
  refine ⟨no_head e (dig_no c hc).1, by rw [app_len]; show 1 + _ ≤ 100; omega, fun d hd => ?_⟩
  rw [e] at hd
  rcases List.mem_cons.mp hd with rfl | hd
  · exact (dig_no _ hc).2
  · exact name_low h d (cut_mem d hd)
theorem nn_sign {z u t : Str} {c : Nat} (h : isNameS z = true) (hc : c ∈ badSigns.cps.toList) (lu : u.length ≤ z.length) (lt : t.length ≤ z.length) (mu : ∀ d ∈ u.cps.toList, d ∈ z.cps.toList) (mt : ∀ d ∈ t.cps.toList, d ∈ z.cps.toList) : NoName (u ++ (⟨#[c]⟩ : Str) ++ t) := by
  have l := name_len2 h
  have b := bad_signs c hc
  refine ⟨no_sign (c := c) ?_ b.1, by rw [app_len, app_len]; show _ + 1 + _ ≤ 100; omega, fun d hd => ?_⟩
  · rw [str_app, str_app]
    exact List.mem_append_left _ (List.mem_append_right _ (List.mem_singleton.mpr rfl))
  · rw [str_app, str_app] at hd
    rcases List.mem_append.mp hd with hd | hd
    · rcases List.mem_append.mp hd with hd | hd
      · exact name_low h d (mu d hd)
      · rw [List.mem_singleton.mp hd]; exact b.2
    · exact name_low h d (mt d hd)
def spBadName : Sp := fun vs H Q _ => ∃ (b : Addr) (p : Str), vs = [.ref b, .str p] ∧ Bx b H ∧ isNameS p = true ∧ ∀ (x : Str) H', Kp b H H' → Bx b H' → NoName x → Q (.str x) H'
section
variable {P : Program} {w : World} {K : PySem.W.Frag} {mg : Str → Option Value} {base : Heap} {a : Ad} {d : Fd}
theorem ok_law_bad_name (T : TX K mg a) (D : FDS K a d) : FnOk P w K mg base CX0 2 a.a_law_bad_name d.a_law_bad_name ["bag", "name"] spBadName := by
  have G__law_take : FnOk P w K mg base CX0 1 a.a_law_take d.a_law_take ["bag", "size"] spTake := ok_law_take T D
  refine D.F__law_bad_name.ok sc_law_bad_name (fun vs H Q E h => ?_) (fun cdv A outer s H vs Q E hr h => ?_)
  · obtain ⟨b, p, rfl, _⟩ := h
    rfl
  · obtain ⟨b, p, rfl, X, np, fin⟩ := h
    refine ⟨_, (pss_cons (ps_set (i := 2) sc_law_bad_name.nd rfl (Or.inl rfl) pe_str)
        (pss_cons (ps_set (i := 3) sc_law_bad_name.nd rfl (Or.inl rfl) (pe_call G__law_take (hr.mono (by decide)) rfl T.f__law_take T.k__law_take D.B__law_take .nil pass0 (pa_cons (pv 0) (pa_cons pe_int pa_nil))))
        (pss_cons (ps_if (pt_cmpR op_eq (pv 3) pe_int (nomark _)) (pss_one (ps_ret pe_str)) pss_nil)
        (pss_cons (ps_if (pt_cmpR op_eq (pv 3) pe_int (nomark _)) (pss_one (ps_ret (pe_slice sl_str (pe_op op_add_str (pv 1) pe_str) po_none (po_some pe_int)))) pss_nil)
        (pss_cons (ps_if (pt_cmpR op_eq (pv 3) pe_int (nomark _)) (pss_one (ps_ret (pe_op op_add_str (pe_ix ix_str pe_str (pe_call G__law_take (hr.mono (by decide)) rfl T.f__law_take T.k__law_take D.B__law_take .nil pass0 (pa_cons (pv 0) (pa_cons pe_int pa_nil))) (fun _ _ => rfl)) (pe_slice sl_str (pv 1) (po_some pe_int) po_none)))) pss_nil)
        (pss_cons (ps_set (i := 4) sc_law_bad_name.nd rfl (Or.inl rfl) (pe_call G__law_take (hr.mono (by decide)) rfl T.f__law_take T.k__law_take D.B__law_take .nil pass0 (pa_cons (pv 0) (pa_cons (pe_op op_add (pe_callB call_len_str (by rfl) T.b_len (by decide +kernel) (pa_cons (pv 1) pa_nil)) pe_int) pa_nil))))
        (pss_one (ps_ret (pe_op op_add_str (pe_op op_add_str (pe_slice sl_str (pv 1) po_none (po_some (pv 4))) (pe_ix ix_str (pv 2) (pe_call G__law_take (hr.mono (by decide)) rfl T.f__law_take T.k__law_take D.B__law_take .nil pass0 (pa_cons (pv 0) (pa_cons (pe_callB call_len_str (by rfl) T.b_len (by decide +kernel) (pa_cons (pv 2) pa_nil)) pa_nil))) (fun _ _ => rfl))) (pe_slice sl_str (pv 1) (po_some (pv 4)) po_none)))))))))), ?_⟩
    have lp := name_len2 np
    have lp2 : p.length ≤ sizeLine := Nat.le_trans lp.2 (by decide)
    have big : 1000 ≤ sizeLine := by decide
    refine ⟨_, rfl, b, 5, rfl, X, by decide, by decide +kernel, fun wy H1 k1 X1 q0 q1 => ⟨_, rfl, rfl, _, rfl, ite2 (fun g => fin "" H1 k1 X1 nn_empty) (fun g0 => ⟨_, rfl, rfl, _, rfl, ite2 (fun g => ?_) (fun g1 => ⟨_, rfl, rfl, _, rfl, ite2 (fun g => ?_) (fun g2 => ?_)⟩)⟩)⟩⟩
    · refine ⟨_, rfl, _, _, rfl, rfl, (by show p.length + ("abcdefgh" : Str).length ≤ sizeLine; have : ("abcdefgh" : Str).length = 8 := by decide +kernel
                                          omega), ?_⟩
      refine ⟨9, rfl, _, rfl, ?_, fin _ H1 k1 X1 (nn_long np)⟩
      rw [app_len]
      have : ("abcdefgh" : Str).length = 8 := by decide +kernel
      omega
    · refine ⟨_, rfl, b, 10, rfl, X1, by decide, by decide +kernel, fun e2 H2 k2 X2 r0 r1 => ?_⟩
      have hl : e2.toNat < digits.cps.toList.length := by
        have : digits.cps.toList.length = 10 := by decide +kernel
        omega
      have lc := cutS_length p (some 1) none
      exact ⟨digits, e2, _, rfl, rfl, (by decide +kernel), at_lit (n := e2.toNat) (by omega) (List.getElem?_eq_getElem hl), _, rfl, 1, rfl, p, rfl, lp2, _, _, rfl, rfl, (by show 1 + _ ≤ sizeLine; omega), fin _ H2 (k1.trans k2) X2 (nn_dig np (List.getElem_mem hl))⟩
    · refine ⟨_, rfl, _, rfl, p, rfl, lp2, _, _, rfl, rfl, b, _, rfl, X1, by omega, small_size' (by omega), fun at_ H2 k2 X2 r0 r1 => ?_⟩
      refine ⟨_, rfl, _, rfl, _, rfl, p, rfl, lp2, _, rfl, _, rfl, _, rfl, badSigns, rfl, (by decide +kernel), b, _, rfl, X2, (by decide +kernel), (by decide +kernel), fun e3 H3 k3 X3 s0 s1 => ?_⟩
      rw [bad_len] at s1
      have hl : e3.toNat < badSigns.cps.toList.length := by
        rw [str_len, bad_len]
        omega
      have l1 := cutS_length p none (some at_)
      have l2 := cutS_length p (some at_) none
      refine ⟨badSigns, e3, _, rfl, rfl, (by decide +kernel), at_lit (n := e3.toNat) (by omega) (List.getElem?_eq_getElem hl), _, _, rfl, rfl, (by show _ + 1 ≤ sizeLine; omega), _, rfl, _, rfl, _, rfl, p, rfl, lp2, _, _, rfl, rfl, (by rw [app_len]; show _ + 1 + _ ≤ sizeLine; omega), ?_⟩
      exact fin _ H3 ((k1.trans k2).trans k3) X3 (nn_sign np (List.getElem_mem hl) (by omega) (by omega) cut_mem cut_mem)
end
end V1
set_option maxRecDepth 100000
set_option maxHeartbeats 4000000
/-! repr of a list of whatever: each item with or without a dict -/
namespace RQ
open PySem PySem.Spec PyProof.Rows L2 SetM GP Evl
/-- what repr may be asked of: with dicts (no list within), or without -/
def Dx (K : PySem.W.Frag) (H : Hp) (n c : Nat) (v : V) (d : PyData) : Prop := (Dp K H v d ∨ Dq K H v d) ∧ d.showable = true ∧ (d.hasDict = true → Dq K H v d) ∧ d.depth ≤ n ∧ d.shown.length ≤ c
theorem Dx.ex {K : PySem.W.Frag} {H H' : Hp} {n c : Nat} {v : V} {d : PyData} (hd : ∀ v d, Dp K H v d → Dp K H' v d) (e : Ex H H') (h : Dx K H n c v d) : Dx K H' n c v d := ⟨h.1.imp (hd _ _) (Dq.ex e), h.2.1, fun z => Dq.ex e (h.2.2.1 z), h.2.2.2⟩
theorem Dx.of_dp {K : PySem.W.Frag} {H : Hp} {n c : Nat} {v : V} {d : PyData} (h : Dp K H v d) (r : Rp n c d) : Dx K H n c v d := ⟨.inl h, r.sh, fun z => (by rw [r.nd] at z; cases z), r.dp, r.ln⟩
/-- the items, each told -/
inductive DxAll (K : PySem.W.Frag) (H : Hp) (n c : Nat) : List V → List PyData → Prop
  | nil : DxAll K H n c [] []
  | cons {v : V} {d : PyData} {vs : List V} {ds : List PyData} : Dx K H n c v d → DxAll K H n c vs ds → DxAll K H n c (v :: vs) (d :: ds)
theorem DxAll.ex {K : PySem.W.Frag} {H H' : Hp} {n c : Nat} (hd : ∀ v d, Dp K H v d → Dp K H' v d) (e : Ex H H') : ∀ {vs : List V} {ds : List PyData}, DxAll K H n c vs ds → DxAll K H' n c vs ds
  | _, _, .nil => .nil
  | _, _, .cons a b => .cons (a.ex hd e) (DxAll.ex hd e b)
theorem DxAll.append {K : PySem.W.Frag} {H : Hp} {n c : Nat} {ws : List V} {es : List PyData} (t : DxAll K H n c ws es) : ∀ {vs : List V} {ds : List PyData}, DxAll K H n c vs ds → DxAll K H n c (vs ++ ws) (ds ++ es)
  | _, _, .nil => t
  | _, _, .cons a b => .cons a (DxAll.append t b)
theorem DxAll.len {K : PySem.W.Frag} {H : Hp} {n c : Nat} : ∀ {vs : List V} {ds : List PyData}, DxAll K H n c vs ds → vs.length = ds.length
  | _, _, .nil => rfl
  | _, _, .cons _ r => by rw [List.length_cons, List.length_cons, DxAll.len r]
theorem DxAll.each {K : PySem.W.Frag} {H : Hp} {n c : Nat} : ∀ {vs : List V} {ds : List PyData}, DxAll K H n c vs ds → ∀ d ∈ ds, d.showable = true ∧ d.depth ≤ n ∧ d.shown.length ≤ c
  | _, _, .nil, _, h => absurd h List.not_mem_nil
  | _, _, .cons a b, d, h => by
    rcases List.mem_cons.mp h with rfl | h
    · exact ⟨a.2.1, a.2.2.2⟩
    · exact DxAll.each b d h
section
variable {X : Cx} {pins : List (Addr × Obj)} {σ : L2.St} {H : Hp} {s : Shared}
theorem Dx.reads (I : Inv X pins σ H s) {n c : Nat} {v : V} {d : PyData} {u : Value} (h : Dx X.K H n c v d) (r : RelV v u) : ∃ as, Reads s.heap u d as ∧ (d.hasDict = true → sysModules ∉ as) := by
  cases g : d.hasDict with
  | true =>
    obtain ⟨as, h1, h2⟩ := Dq.reads I (h.2.2.1 g) r
    exact ⟨as, h1, fun _ => h2⟩
  | false =>
    rcases h.1 with h | h
    · obtain ⟨as, h1⟩ := Dp.reads I d v u h r
      exact ⟨as, h1, fun z => nomatch z⟩
    · obtain ⟨as, h1, _⟩ := Dq.reads I h r
      exact ⟨as, h1, fun z => nomatch z⟩
theorem DxAll.repr (I : Inv X pins σ H s) {prog : Program} {w : World} {n c : Nat} (hc : c ≤ sizeLine) : ∀ {vs : List V} {ds : List PyData} {us : List Value}, DxAll X.K H n c vs ds → Vals vs us →
    ∃ as bs, ReadsAll s.heap us ds as ∧ ReadAtMost s.heap (PyData.depthAll ds) bs ∧ ReprAllK prog w bs s.heap (PyData.depthAll ds) us (PyData.shownAll ds)
  | _, _, _, .nil, r => by
    cases r
    exact ⟨[], [], .nil, fun _ h => absurd h List.not_mem_nil, by rw [PyData.shownAll]; exact .nil⟩
  | _, d :: ds, _, .cons a b, r => by
    cases r with
    | cons r1 r2 =>
      obtain ⟨as, h1, n1⟩ := Dx.reads I a r1
      obtain ⟨cs, ds', h2, m2, k2⟩ := DxAll.repr I (prog := prog) (w := w) hc b r2
      obtain ⟨bs, m1, k1⟩ := ReprAllK.of_readsAll (prog := prog) (w := w) (ReadsAll.cons h1 .nil) (by simp [PyData.showableAll, a.2.1]) (fun z => by rw [List.append_nil]; exact n1 (by simpa [PyData.hasDictAll] using z)) (fun t ht => by
        simp only [PyData.shownAll, List.mem_cons, List.not_mem_nil, or_false] at ht
        rw [ht]
        exact Nat.le_trans a.2.2.2.2 hc)
      have d1 : PyData.depthAll [d] ≤ PyData.depthAll (d :: ds) := by simp only [PyData.depthAll]; omega
      have d2 : PyData.depthAll ds ≤ PyData.depthAll (d :: ds) := by simp only [PyData.depthAll]; omega
      have k1' := ReprAllK.more_le (as' := bs ++ ds') (fun b hb => List.mem_append_left _ hb) d1 k1
      have k2' := ReprAllK.more_le (as' := bs ++ ds') (fun b hb => List.mem_append_right _ hb) d2 k2
      refine ⟨_, bs ++ ds', .cons h1 h2, (m1.mono d1).append (m2.mono d2), ?_⟩
      have e : PyData.shownAll (d :: ds) = d.shown :: PyData.shownAll ds := by rw [PyData.shownAll]
      rw [e]
      have e1 : PyData.shownAll [d] = [d.shown] := by simp only [PyData.shownAll]
      rw [e1] at k1'
      cases k1' with
      | cons k _ => exact .cons k k2'
/-- repr of a list of such -/
def rReprL (K : PySem.W.Frag) : List V → Hp → VK → Prop := fun xs H Q => ∃ (p : Addr) (vs : List V) (ds : List PyData) (n c : Nat), xs = [.ref p] ∧ SqL K H p vs ∧ DxAll K H n c vs ds ∧ n ≤ 60 ∧ c ≤ sizeLine ∧ ds.length * (c + 2) + 2 ≤ sizeLine ∧ Q (.str (PyData.list ds).shown) H
theorem depth_le {n : Nat} : ∀ {ds : List PyData}, (∀ d ∈ ds, d.depth ≤ n) → PyData.depthAll ds ≤ n
  | [], _ => by simp [PyData.depthAll]
  | d :: ds, h => by
    rw [PyData.depthAll]
    exact Nat.max_le.mpr ⟨h d List.mem_cons_self, depth_le fun x hx => h x (List.mem_cons_of_mem _ hx)⟩
theorem piled_le {c : Nat} : ∀ {ds : List PyData}, (∀ d ∈ ds, d.shown.length ≤ c) → piled (PyData.shownAll ds) ≤ ds.length * (c + 2)
  | [], _ => by simp [PyData.shownAll, piled]
  | d :: ds, h => by
    have := piled_le (c := c) (ds := ds) fun x hx => h x (List.mem_cons_of_mem _ hx)
    have := h d List.mem_cons_self
    simp only [PyData.shownAll]
    rw [piled_cons, List.length_cons, Nat.add_mul, Nat.one_mul]
    omega
theorem cr_reprL {K : PySem.W.Frag} (gd : X.A.guards = some []) (hu : X.A.units + 70 < cLine) (hK : X.K = K := by rfl) : CallR X (.builtin "repr") (rReprL K) := by
  subst hK
  intro pins s σ H xs us Q I r h
  obtain ⟨p, vs, ds, n, c, rfl, hp, all, hn, cs, hc, q⟩ := h
  rw [Vals.ref1 r]
  obtain ⟨its, rv, ⟨o, m, ho, hcl, hdict, hdt⟩, _⟩ := I.list hp
  have len : (listText (PyData.shownAll ds)).length ≤ sizeLine := Nat.le_trans (list_text _) (Nat.le_trans (Nat.add_le_add_right (piled_le fun d hd => (all.each d hd).2.2) 2) hc)
  have sh : (PyData.list ds).shown = listText (PyData.shownAll ds) := by simp only [PyData.shown]
  obtain ⟨as, bs, ra, hb, hk⟩ := DxAll.repr I (prog := X.prog) (w := X.w) cs all rv
  have hr : Reads s.heap (.ref p) (.list ds) (p :: as) := .list ho hcl hdt (by simpa using ra)
  have hna : p ∉ bs := not_mem_of_deeper hr (by simp only [PyData.depth]; omega) hb
  have dep : PyData.depthAll ds ≤ 60 := Nat.le_trans (depth_le fun d hd => (all.each d hd).2.1) hn
  refine call_repr_slot (T := "list") (idr := "list.__repr__") (by omega) ⟨o, ho, hcl⟩ F.slot_list_repr.toG ?_
  rw [sh] at q
  have fin : ∀ h' u tk, (∀ b o, s.heap.get? b = some o → h'.get? b = some o) → ∃ x t, (Value.str (listText (PyData.shownAll ds)) u) = .str x t ∧ EP X pins σ Q (.str (listText (PyData.shownAll ds)) u) { s with heap := h', toks := tk } := fun h' u tk k => ⟨_, _, rfl, .str _, H, I.kept (t' := tk) k, ⟨u, rfl⟩, q⟩
  cases its with
  | nil =>
    cases ds with
    | nil =>
      have e : listText (PyData.shownAll []) = "[]" := by rw [PyData.shownAll]; exact listText_nil
      rw [e] at fin
      exact call_list_repr_empty ⟨o, ho, hcl⟩ ho hdt (fin s.heap _ _ fun _ _ e => e)
    | cons d ds => cases ra
  | cons x l => exact call_list_reprK (d := PyData.depthAll ds) ho hcl hdt hna (by simpa using hk.length_eq) (fun i y e => hk.item i y (by simpa using e)) (g := []) gd (fun b _ => Clear.nil b) (by show X.A.units + 1 + _ < cLine; omega) (fun _ _ e => e) fin len
end
end RQ
set_option maxRecDepth 100000
set_option maxHeartbeats 8000000
namespace V1
open PySem L2 Evl GP HR SC SetM SetH RQ
theorem merge_new : ∀ (more acc : List (L2.Key × V)), ((acc ++ more).map Prod.fst).Nodup → mergeK acc more = acc ++ more := by
  intro more
  induction more with
  | nil => intro acc _; rw [List.append_nil]; rfl
  | cons x r ih =>
    intro acc nd
    have nx : ¬ (acc.any fun kv => decide (kv.1 = x.1)) = true := fun h => by
      obtain ⟨kv, hk, e⟩ := List.any_eq_true.mp h
      have e := of_decide_eq_true e
      rw [List.map_append, List.map_cons] at nd
      exact (List.nodup_append.mp nd).2.2 kv.1 (List.mem_map_of_mem hk) x.1 List.mem_cons_self e
    have e : putK acc x.1 x.2 = acc ++ [x] := by
      unfold putK
      rw [if_neg nx]
    show mergeK (putK acc x.1 x.2) r = _
    rw [e, ih (acc ++ [x]) (by rwa [List.append_assoc]), List.append_assoc]
    rfl
/-- the heap without what stands at r -/
def rmH (H : Hp) (r : Addr) : Hp := fun a => if a = r then none else H a
theorem rm_ex {H H' : Hp} {r : Addr} (e : Ex H H') : Ex (rmH H r) (rmH H' r) := fun a x h => by
  unfold rmH at h ⊢
  by_cases g : a = r
  · rw [if_pos g] at h; cases h
  · rw [if_neg g] at h ⊢
    exact e a x h
theorem rm_new {H : Hp} {r p : Addr} {o u : HO} (hb : H r = some u) (hp : H p = none) : rmH (upd H p o) r p = some o := by
  unfold rmH
  rw [if_neg fun e => by rw [e, hb] at hp; cases hp]
  exact upd_same
theorem rm_kp {b : Addr} {H H' : Hp} (k : Kp b H H') : Ex (rmH H b) H' := fun a x h => by
  unfold rmH at h
  by_cases g : a = b
  · rw [if_pos g] at h; cases h
  · rw [if_neg g] at h
    exact k.at g h
theorem rm_kp' {b : Addr} {H H' : Hp} (X : Bx b H) (k : Kp b H H') : Ex (rmH H b) (rmH H' b) := fun a x h => by
  unfold rmH at h ⊢
  by_cases g : a = b
  · rw [if_pos g] at h; cases h
  · rw [if_neg g] at h ⊢
    exact k.at g h
theorem Bx.at {b : Addr} {H : Hp} (X : Bx b H) : ∃ u, H b = some u := let ⟨_, _, _, _, _, _, h, _⟩ := X; ⟨_, h⟩
def Gud (K : PySem.W.Frag) (H : Hp) (v : V) : Prop := (AnyV K H v false ∧ ∃ z, ShV K H v z) ∧ ∃ d, Dx K H 3 1000000 v d
theorem Gud.ex {K : PySem.W.Frag} {H H' : Hp} {v : V} (g : Gud K H v) (e : Ex H H') : Gud K H' v := ⟨⟨g.1.1.ex e, let ⟨z, h⟩ := g.1.2; ⟨z, h.ex (fun _ _ => Dp.ex e) e⟩⟩, let ⟨d, h⟩ := g.2; ⟨d, h.ex (fun _ _ => Dp.ex e) e⟩⟩
theorem dq_g {K : PySem.W.Frag} {H : Hp} {p : Addr} {d : PyData} (a : AnyV K H (.ref p) false) (D : Dq K H (.ref p) d) (sn : Sn 3 1000000 d) : Gud K H (.ref p) := ⟨⟨a, _, .q D sn.sh (Nat.le_trans sn.dp (by decide)) (Nat.le_trans sn.ln (by decide))⟩, d, .inr D, sn.sh, fun _ => D, sn.dp, sn.ln⟩
theorem good_dp {K : PySem.W.Frag} {H : Hp} {v : V} {d : PyData} (h : Dp K H v d) (r : Rp 2 800000 d) (s : szD d) (l : isLitD d = false) : Gud K H v := by
  refine ⟨⟨.inl ⟨d, h, s, l⟩, ?_⟩, d, Dx.of_dp h (r.mono (by decide) (by decide))⟩
  have big : 800000 ≤ sizeLine := by decide
  cases h with
  | non => exact ⟨_, .non⟩
  | bl b => exact ⟨_, .bl b⟩
  | int i => exact ⟨_, .int i (by have := r.sh; simp only [PyData.showable] at this; exact of_decide_eq_true this)⟩
  | str x => exact ⟨_, .str x (by have := r.ln; simp only [PyData.shown] at this; omega)⟩
  | lst a b => exact ⟨_, .d (.lst a b) r (by decide) big⟩
  | tup a b => exact ⟨_, .d (.tup a b) r (by decide) big⟩
section
variable {K : PySem.W.Frag} {b : Addr} {σ : L2.St} {te : TE} {ta : TA} {d : PyData} {ds : List PyData} {n : Nat}
def GD (K : PySem.W.Frag) (b : Addr) (σ : L2.St) (te : TE) (d : PyData) : Prop := ∀ H1 u, H1 b = some u → ∀ Q : VK, (∀ v H2, Ex H1 H2 → Dp K (rmH H2 b) v d → Q v H2) → te σ H1 Q
def GDL (K : PySem.W.Frag) (b : Addr) (σ : L2.St) (ta : TA) (ds : List PyData) : Prop := ∀ H1 u, H1 b = some u → ∀ Q : List V → Hp → Prop, (∀ vs H2, Ex H1 H2 → DpAll K (rmH H2 b) vs ds → Q vs H2) → ta σ H1 Q
def GG (K : PySem.W.Frag) (b : Addr) (σ : L2.St) (te : TE) : Prop := ∀ H1 u, H1 b = some u → ∀ Q : VK, (∀ v H2, Ex H1 H2 → Gud K (rmH H2 b) v → Q v H2) → te σ H1 Q
def GL (K : PySem.W.Frag) (b : Addr) (σ : L2.St) (n : Nat) (ta : TA) : Prop := ∀ H1 u, H1 b = some u → ∀ Q : List V → Hp → Prop, (∀ vs H2, Ex H1 H2 → vs.length = n → (∀ v ∈ vs, Gud K (rmH H2 b) v) → Q vs H2) → ta σ H1 Q
theorem gd_s {z : Str} : GD K b σ (tC (.str z)) (.str z) := fun H1 _ _ Q q => q _ H1 (Ex.refl _) (.str z)
theorem gd_i {z : Int} : GD K b σ (tC (.int z)) (.int z) := fun H1 _ _ Q q => q _ H1 (Ex.refl _) (.int z)
theorem gd_b {z : Bool} : GD K b σ (tC (.bl z)) (.bool z) := fun H1 _ _ Q q => q _ H1 (Ex.refl _) (.bl z)
theorem gd_n : GD K b σ (tC .non) .none := fun H1 _ _ Q q => q _ H1 (Ex.refl _) .non
theorem gd_vs {i : Nat} {z : Str} (h : σ[i]? = some (some (.str z))) : GD K b σ (tVar i) (.str z) := fun H1 _ _ Q q => ⟨_, h, q _ H1 (Ex.refl _) (.str z)⟩
theorem gd_vi {i : Nat} {z : Int} (h : σ[i]? = some (some (.int z))) : GD K b σ (tVar i) (.int z) := fun H1 _ _ Q q => ⟨_, h, q _ H1 (Ex.refl _) (.int z)⟩
theorem gd_str {i : Nat} {z : Int} (h : σ[i]? = some (some (.int z))) (l : z.natAbs.log2 < 1920) : GD K b σ (tCB (fun xs H Q => ∃ i, xs = [.int i] ∧ i.natAbs.log2 < 1920 ∧ Q (.str (Str.ofString (toString i))) H) (tCons (tVar i) tNil)) (.str (Str.ofString (toString z))) := fun H1 _ _ Q q => ⟨_, h, _, rfl, l, q _ H1 (Ex.refl _) (.str _)⟩
theorem gdl_nil : GDL K b σ tNil [] := fun H1 _ _ Q q => q [] H1 (Ex.refl _) .nil
theorem gdl_cons (h : GD K b σ te d) (t : GDL K b σ ta ds) : GDL K b σ (tCons te ta) (d :: ds) := fun H1 u hb Q q => h H1 u hb _ fun v H2 e2 dv => t H2 u (e2 _ _ hb) _ fun vs H3 e3 dvs => q (v :: vs) H3 (e2.trans e3) (.cons (Dp.ex (rm_ex e3) dv) dvs)
theorem gd_tup (t : GDL K b σ ta ds) (few : ds.length ≤ 6) : GD K b σ (tTup ta) (.tuple ds) := fun H1 u hb Q q => t H1 u hb _ fun vs H2 e2 dvs => ⟨by rw [DpAll.len dvs]; exact Nat.le_trans few (by decide), fun p hp => by
  have x := Ex.new (o := .tup vs) hp
  exact q _ _ (e2.trans x) (.tup (SqT.of (rm_new (e2 _ _ hb) hp)) (DpAll.ex (rm_ex x) dvs))⟩
theorem gd_lst (t : GDL K b σ ta ds) (few : ds.length ≤ 6) : GD K b σ (tLst ta) (.list ds) := fun H1 u hb Q q => t H1 u hb _ fun vs H2 e2 dvs => ⟨by rw [DpAll.len dvs]; exact Nat.le_trans few (by decide), fun p hp => by
  have x := Ex.new (o := .lst vs) hp
  exact q _ _ (e2.trans x) (.lst (SqL.of (rm_new (e2 _ _ hb) hp)) (DpAll.ex (rm_ex x) dvs))⟩
theorem gl_nil : GL K b σ 0 tNil := fun H1 _ _ Q q => q [] H1 (Ex.refl _) rfl fun _ h => absurd h List.not_mem_nil
theorem gl_odd (h : GG K b σ te) (t : GL K b σ n ta) : GL K b σ (n + 1) (tCons te ta) := fun H1 u hb Q q => h H1 u hb _ fun v H2 e2 gv => t H2 u (e2 _ _ hb) _ fun vs H3 e3 l gvs => q (v :: vs) H3 (e2.trans e3) (by rw [List.length_cons, l]) fun w hw => by
  rcases List.mem_cons.mp hw with rfl | hw
  · exact gv.ex (rm_ex e3)
  · exact gvs w hw
theorem gl_cons (h : GD K b σ te d) (r : Rp 2 800000 d) (s : szD d) (l : isLitD d = false) (t : GL K b σ n ta) : GL K b σ (n + 1) (tCons te ta) := gl_odd (fun H1 u hb Q q => h H1 u hb Q fun v H2 e2 dv => q v H2 e2 (good_dp dv r s l)) t
theorem sz_t (h : ∀ d ∈ ds, szS d) : szD (.tuple ds) := h
theorem r2l {ds : List PyData} (few : ds.length ≤ 6) (h : ∀ d ∈ ds, Rp 1 130000 d) : Rp 2 800000 (.list ds) := (Rp.list h).mono (Nat.le_refl _) (by omega)
theorem up2 {d : PyData} (h : Rp 0 20000 d) : Rp 2 800000 d := h.mono (by decide) (by decide)
theorem lst_step {H : Hp} {Q : VK} {u : HO} (g : GL K b σ n ta) (hk : n ≤ 1000) (hb : H b = some u) (q : ∀ (p : Addr) (us : List V) H', Ex H H' → H p = none → H' p = some (.lst us) → us.length = n → (∀ v ∈ us, Gud K (rmH H' b) v) → Q (.ref p) H') : tLst ta σ H Q :=
  g H u hb _ fun us H2 e2 l gy => ⟨Nat.le_trans (by omega : _ ≤ 1000) (by decide), fun p hp => q p us _ (e2.trans (Ex.new hp)) (fresh_back e2 hp) upd_same l fun v hv => (gy v hv).ex (rm_ex (Ex.new hp))⟩
theorem cat_step {H : Hp} {Q : VK} {u : HO} {l : Addr} {zs : List V} {i m : Nat} (g : GL K b σ n ta) (hσ : σ[i]? = some (some (.ref l))) (hl : H l = some (.lst zs)) (lz : zs.length = m) (gz : ∀ z ∈ zs, Gud K (rmH H b) z) (hk : m + n ≤ 1000) (hb : H b = some u)
    (q : ∀ (p : Addr) (us : List V) H', Ex H H' → H p = none → H' p = some (.lst us) → us.length = m + n → (∀ v ∈ us, Gud K (rmH H' b) v) → Q (.ref p) H') : tOp rCat (tVar i) (tLst ta) σ H Q := by
  refine ⟨_, hσ, g H u hb _ fun ys H2 e2 yl gy => ⟨Nat.le_trans (by omega : _ ≤ 1000) (by decide), fun p1 h1 => ?_⟩⟩
  have x1 := Ex.new (o := .lst ys) h1
  refine ⟨l, p1, _, _, rfl, rfl, x1 _ _ (e2 _ _ hl), upd_same, Nat.le_trans (by omega : _ ≤ 1000) (by decide), fun p2 h2 => ?_⟩
  have x2 := Ex.new (o := .lst (zs ++ ys)) h2
  have e := e2.trans (x1.trans x2)
  exact q p2 (zs ++ ys) _ e (fresh_back (e2.trans x1) h2) upd_same (by rw [List.length_append, yl, lz]) fun w hw => by
    rcases List.mem_append.mp hw with hw | hw
    · exact (gz w hw).ex (rm_ex e)
    · exact (gy w hw).ex (rm_ex (x1.trans x2))
theorem put_step {i : Nat} {v : V} {H : Hp} {σ' : L2.St} {Q : L2.St → Hp → Prop} (e : σ.set i (some v) = σ') (h : Q σ' H) : gName i v σ H Q := by
  subst e
  exact h
theorem seq_step {g : TG} {rest : TS} {D : Ends} {H : Hp} (h : te σ H fun x H1 => g x σ H1 (rest D)) : tSeq (tAsg te g) rest D σ H := h
end
theorem low_lit {z : Str} (h : (z.cps.toList.all fun c => decide (c < 16 ^ 8)) = true) : ∀ c ∈ z.cps.toList, c < 16 ^ 8 := fun c hc => of_decide_eq_true (List.all_eq_true.mp h c hc)
theorem rm_new2 {H : Hp} {r p : Addr} {o u : HO} (hb : H r = some u) (hp : H p = none) {H' : Hp} : rmH (upd H' p o) r p = some o := by
  unfold rmH
  rw [if_neg fun e => by rw [e, hb] at hp; cases hp]
  exact upd_same
section
variable {K : PySem.W.Frag} {b : Addr} {σ : L2.St}
theorem od_new : GG K b σ tDNewK := fun H1 u hb Q q p hp => by
  have h := rm_new (o := .dK []) hb hp
  exact q _ _ (Ex.new hp) (dq_g (.inr ⟨rfl, .inl ⟨p, [], rfl, h⟩⟩) (.dK h .nil) (sd0.mono (by decide) (by decide)))
theorem od_one {i : Nat} {x : Str} (h : σ[i]? = some (some (.str x))) (r : Rp 0 20000 (.str x)) : GG K b σ (tDisp [(tC (.str "yes"), tVar i)]) := fun H1 u hb Q q d hd => by
  refine ⟨_, h, upd_same, [(.inr "yes", .str x)], rfl, by show 1 ≤ 15; decide, ?_⟩
  have hr := rm_new2 (o := .dK (mergeK [] [(.inr "yes", .str x)])) hb hd (H' := upd H1 d (.dK []))
  rw [merge_new _ _ (by simp), List.nil_append] at hr ⊢
  have sn := sd1 (n := 0) (c := 20000) (k := .str "yes") (Sn.of (a_str (low_lit (by decide +kernel)) (by decide +kernel))) (Sn.of r)
  exact q _ _ (Ex.mut (Ex.new hd) hd) (dq_g (.inr ⟨rfl, .inl ⟨d, _, rfl, hr⟩⟩) (.dK hr (.cons (.str x) .nil)) (sn.mono (by decide) (by decide)))
theorem od_two {i : Nat} {x : Str} (h : σ[i]? = some (some (.str x))) (r : Rp 0 20000 (.str x)) : GG K b σ (tDisp [(tC (.int 0), tC (.str "no")), (tC (.int 1), tVar i)]) := fun H1 u hb Q q d hd => by
  refine ⟨_, h, upd_same, [(.inl 0, .str "no"), (.inl 1, .str x)], rfl, by show 2 ≤ 15; decide, ?_⟩
  have hr := rm_new2 (o := .dK (mergeK [] [(.inl 0, .str "no"), (.inl 1, .str x)])) hb hd (H' := upd H1 d (.dK []))
  rw [merge_new _ _ (by simp), List.nil_append] at hr ⊢
  have sn := sd2 (n := 0) (c := 20000) (k := .int 0) (v := .str "no") (k2 := .int 1) (Sn.of (a_int (by decide))) (Sn.of (a_str (low_lit (by decide +kernel)) (by decide +kernel))) (Sn.of (a_int (by decide))) (Sn.of r)
  exact q _ _ (Ex.mut (Ex.new hd) hd) (dq_g (.inr ⟨rfl, .inl ⟨d, _, rfl, hr⟩⟩) (.dK hr (.cons (.str _) (.cons (.str x) .nil))) (sn.mono (by decide) (by decide)))
theorem od_tup {i : Nat} {x : Str} (h : σ[i]? = some (some (.str x))) (r : Rp 0 20000 (.str x)) : GG K b σ (tTup (tCons tDNewK (tCons (tVar i) tNil))) := fun H1 u hb Q q d hd => by
  have x1 := Ex.new (o := .dK []) hd
  refine ⟨_, h, (by show 2 ≤ sizeLine; decide), fun t ht => ?_⟩
  have x2 := Ex.new (o := .tup [.ref d, .str x]) ht
  have h1 := rm_ex x2 _ _ (rm_new (o := .dK []) hb hd)
  have h2 := rm_new (o := .tup [.ref d, .str x]) (x1 _ _ hb) ht
  have sn := st2 (n := 1) (c := 20000) (sd0.mono (Nat.le_refl _) (by decide)) ((Sn.of r).mono (by decide) (Nat.le_refl _))
  exact q _ _ (x1.trans x2) (dq_g (.inr ⟨rfl, .inr ⟨t, d, [], .str x, rfl, h2, h1⟩⟩) (.tup (SqT.of h2) (.cons (.dK h1 .nil) (.cons (.str x) .nil))) (sn.mono (by decide) (by decide)))
theorem asg_step {te : TE} {g : TG} {D : Ends} {H : Hp} (h : te σ H fun x H1 => g x σ H1 D.nx) : tAsg te g D σ H := h
end
theorem m_yes : isMostD (.str "yes") = false := by decide +kernel
theorem m_no : isMostD (.str "no") = false := by decide +kernel
theorem m_mos : isMostD (.str "mos") = false := by decide +kernel
theorem m_most : isMostD (.str "most") = true := by decide +kernel
theorem y_yes : isYN (.str "yes") = true := by decide +kernel
theorem y_no : isYN (.str "no") = true := by decide +kernel
theorem y_most : isYN (.str "most") = false := by decide +kernel
theorem y_Yes : isYN (.str "Yes") = false := by decide +kernel
theorem y_em : isYN (.str "") = false := by decide +kernel
theorem y_yesno : isYN (.str "yesno") = false := by decide +kernel
theorem y_none : isYN .none = false := rfl
theorem y_list {l : List PyData} : isYN (.list l) = false := rfl
theorem y_tup {l : List PyData} : isYN (.tuple l) = false := rfl
theorem m_int {k : Int} : isMostD (.int k) = false := rfl
theorem lit2 {a b : PyData} : isLitD (.tuple [a, b]) = (isYN a && isNameD b) := rfl
theorem lit4 {a b c e : PyData} : isLitD (.tuple [a, b, c, e]) = (isMostD a && (isNameD b && (isNameD c && (!sameD b c && isIntD e)))) := by
  show (_ || false) = _
  rw [Bool.or_false]
  rfl
def spBad (K : PySem.W.Frag) : Sp := fun vs H Q _ => ∃ (b pl : Addr) (xs : List Str), vs = [.ref b, .ref pl] ∧ Bx b H ∧ Pool b pl xs H ∧ ∀ v H', Kp b H H' → Bx b H' → Gud K (rmH H' b) v → Q v H'
end V1
set_option maxRecDepth 100000
set_option maxHeartbeats 8000000
namespace V1
open PySem L2 Evl GP HR SC SetM SetH RQ
theorem sz8 {z : Str} (h : isNameS z = true) : szS (.str z) := Nat.le_trans (name_len h) (by decide)
theorem rp8 {z : Str} (h : isNameS z = true) : Rp 0 20000 (.str z) := a_str (name_low h) (Nat.le_trans (name_len h) (by decide))
theorem szs_int {k : Int} (hk : k.natAbs.log2 < 1920) : szS (.str (Str.ofString (toString k))) := Nat.le_trans (PyProof.Rows.int_text_len_1921 hk) (by decide)
theorem c_yes : Rp 0 20000 (.str "yes") := a_str (low_lit (by decide +kernel)) (by decide +kernel)
theorem d_yes : szS (.str "yes") := (by decide +kernel : ("yes" : Str).length ≤ sizeLine)
theorem c_no : Rp 0 20000 (.str "no") := a_str (low_lit (by decide +kernel)) (by decide +kernel)
theorem d_no : szS (.str "no") := (by decide +kernel : ("no" : Str).length ≤ sizeLine)
theorem c_most : Rp 0 20000 (.str "most") := a_str (low_lit (by decide +kernel)) (by decide +kernel)
theorem d_most : szS (.str "most") := (by decide +kernel : ("most" : Str).length ≤ sizeLine)
theorem c_em : Rp 0 20000 (.str "") := a_str (low_lit (by decide +kernel)) (by decide +kernel)
theorem d_em : szS (.str "") := (by decide +kernel : ("" : Str).length ≤ sizeLine)
theorem c_Yes : Rp 0 20000 (.str "Yes") := a_str (low_lit (by decide +kernel)) (by decide +kernel)
theorem d_Yes : szS (.str "Yes") := (by decide +kernel : ("Yes" : Str).length ≤ sizeLine)
theorem c_yesno : Rp 0 20000 (.str "yesno") := a_str (low_lit (by decide +kernel)) (by decide +kernel)
theorem d_yesno : szS (.str "yesno") := (by decide +kernel : ("yesno" : Str).length ≤ sizeLine)
theorem c_mos : Rp 0 20000 (.str "mos") := a_str (low_lit (by decide +kernel)) (by decide +kernel)
theorem d_mos : szS (.str "mos") := (by decide +kernel : ("mos" : Str).length ≤ sizeLine)
theorem menu0 {K : PySem.W.Frag} {b pl : Addr} {one k wy : Int} {x y p word : Str} {o9 : Option V} (hk : k.natAbs.log2 < 1920) (nx : isNameS x = true) (ny : isNameS y = true) (np : isNameS p = true) (NN : NoName word) : GL K b [some (.ref b), some (.ref pl), some (.int one), some (.str x), some (.str y), some (.str p), some (.int k), some (.int wy), some (.str word), o9] 4 (tCons (tTup (tCons (tC (.str "yes")) (tCons (tVar 8) tNil))) (tCons (tTup (tCons (tC (.str "no")) (tCons (tVar 8) tNil))) (tCons (tTup (tCons (tC (.str "most")) (tCons (tVar 8) (tCons (tVar 4) (tCons (tVar 6) tNil))))) (tCons (tTup (tCons (tC (.str "most")) (tCons (tVar 3) (tCons (tVar 8) (tCons (tVar 6) tNil))))) tNil)))) := by
  have rx := rp8 nx
  have ry := rp8 ny
  have rp := rp8 np
  have sx := sz8 nx
  have sy := sz8 ny
  have sp := sz8 np
  have no_w := NN.no
  have rw_ := a_str NN.low (Nat.le_trans NN.len (by decide))
  have sw : szS (.str word) := Nat.le_trans NN.len (by decide)
  refine gl_cons (d := (.tuple [(.str "yes"), (.str word)])) (gd_tup (gdl_cons gd_s (gdl_cons (gd_vs rfl) gdl_nil)) (Nat.le_of_ble_eq_true rfl)) (r2t (Nat.le_of_ble_eq_true rfl) (al_cons (up c_yes) (al_cons (up rw_) al_nil))) (sz_t (al_cons d_yes (al_cons sw al_nil))) (by (simp [lit2, lit4, m_yes, m_no, m_mos, m_most, y_yes, y_no, y_most, y_Yes, y_em, y_yesno, isNameD, isIntD, isIntLikeD, isBoolD, sameD, y_none, y_list, y_tup, m_int, nx, ny, np, no_w])) ?_
  refine gl_cons (d := (.tuple [(.str "no"), (.str word)])) (gd_tup (gdl_cons gd_s (gdl_cons (gd_vs rfl) gdl_nil)) (Nat.le_of_ble_eq_true rfl)) (r2t (Nat.le_of_ble_eq_true rfl) (al_cons (up c_no) (al_cons (up rw_) al_nil))) (sz_t (al_cons d_no (al_cons sw al_nil))) (by (simp [lit2, lit4, m_yes, m_no, m_mos, m_most, y_yes, y_no, y_most, y_Yes, y_em, y_yesno, isNameD, isIntD, isIntLikeD, isBoolD, sameD, y_none, y_list, y_tup, m_int, nx, ny, np, no_w])) ?_
  refine gl_cons (d := (.tuple [(.str "most"), (.str word), (.str y), (.int k)])) (gd_tup (gdl_cons gd_s (gdl_cons (gd_vs rfl) (gdl_cons (gd_vs rfl) (gdl_cons (gd_vi rfl) gdl_nil)))) (Nat.le_of_ble_eq_true rfl)) (r2t (Nat.le_of_ble_eq_true rfl) (al_cons (up c_most) (al_cons (up rw_) (al_cons (up ry) (al_cons (up (a_int hk)) al_nil))))) (sz_t (al_cons d_most (al_cons sw (al_cons sy (al_cons True.intro al_nil))))) (by (simp [lit2, lit4, m_yes, m_no, m_mos, m_most, y_yes, y_no, y_most, y_Yes, y_em, y_yesno, isNameD, isIntD, isIntLikeD, isBoolD, sameD, y_none, y_list, y_tup, m_int, nx, ny, np, no_w])) ?_
  refine gl_cons (d := (.tuple [(.str "most"), (.str x), (.str word), (.int k)])) (gd_tup (gdl_cons gd_s (gdl_cons (gd_vs rfl) (gdl_cons (gd_vs rfl) (gdl_cons (gd_vi rfl) gdl_nil)))) (Nat.le_of_ble_eq_true rfl)) (r2t (Nat.le_of_ble_eq_true rfl) (al_cons (up c_most) (al_cons (up rx) (al_cons (up rw_) (al_cons (up (a_int hk)) al_nil))))) (sz_t (al_cons d_most (al_cons sx (al_cons sw (al_cons True.intro al_nil))))) (by (simp [lit2, lit4, m_yes, m_no, m_mos, m_most, y_yes, y_no, y_most, y_Yes, y_em, y_yesno, isNameD, isIntD, isIntLikeD, isBoolD, sameD, y_none, y_list, y_tup, m_int, nx, ny, np, no_w])) ?_
  exact gl_nil

theorem menu1 {K : PySem.W.Frag} {b pl : Addr} {one k wy : Int} {x y p : Str} {o8 o9 : Option V} (hk : k.natAbs.log2 < 1920) (nx : isNameS x = true) (ny : isNameS y = true) (np : isNameS p = true) : GL K b [some (.ref b), some (.ref pl), some (.int one), some (.str x), some (.str y), some (.str p), some (.int k), some (.int wy), o8, o9] 13 (tCons (tC .non) (tCons (tC (.int 0)) (tCons (tC (.bl true)) (tCons (tC (.bl false)) (tCons (tC (.str "")) (tCons (tC (.str "yes")) (tCons (tVar 5) (tCons (tTup tNil) (tCons (tLst tNil) (tCons tDNewK (tCons (tTup (tCons (tC (.str "yes")) tNil)) (tCons (tTup (tCons (tC (.str "no")) tNil)) (tCons (tTup (tCons (tC (.str "most")) tNil)) tNil))))))))))))) := by
  have rx := rp8 nx
  have ry := rp8 ny
  have rp := rp8 np
  have sx := sz8 nx
  have sy := sz8 ny
  have sp := sz8 np
  refine gl_cons (d := .none) gd_n (up2 a_non) True.intro rfl ?_
  refine gl_cons (d := (.int 0)) gd_i (up2 (a_int (by decide))) True.intro rfl ?_
  refine gl_cons (d := (.bool true)) gd_b (up2 (a_bl _)) True.intro rfl ?_
  refine gl_cons (d := (.bool false)) gd_b (up2 (a_bl _)) True.intro rfl ?_
  refine gl_cons (d := (.str "")) gd_s (up2 c_em) True.intro rfl ?_
  refine gl_cons (d := (.str "yes")) gd_s (up2 c_yes) True.intro rfl ?_
  refine gl_cons (d := (.str p)) (gd_vs rfl) (up2 rp) True.intro rfl ?_
  refine gl_cons (d := (.tuple [])) (gd_tup gdl_nil (Nat.le_of_ble_eq_true rfl)) (r2t (Nat.le_of_ble_eq_true rfl) al_nil) (sz_t al_nil) rfl ?_
  refine gl_cons (d := (.list [])) (gd_lst gdl_nil (Nat.le_of_ble_eq_true rfl)) (r2l (Nat.le_of_ble_eq_true rfl) al_nil) True.intro rfl ?_
  refine gl_odd (od_new) ?_
  refine gl_cons (d := (.tuple [(.str "yes")])) (gd_tup (gdl_cons gd_s gdl_nil) (Nat.le_of_ble_eq_true rfl)) (r2t (Nat.le_of_ble_eq_true rfl) (al_cons (up c_yes) al_nil)) (sz_t (al_cons d_yes al_nil)) rfl ?_
  refine gl_cons (d := (.tuple [(.str "no")])) (gd_tup (gdl_cons gd_s gdl_nil) (Nat.le_of_ble_eq_true rfl)) (r2t (Nat.le_of_ble_eq_true rfl) (al_cons (up c_no) al_nil)) (sz_t (al_cons d_no al_nil)) rfl ?_
  refine gl_cons (d := (.tuple [(.str "most")])) (gd_tup (gdl_cons gd_s gdl_nil) (Nat.le_of_ble_eq_true rfl)) (r2t (Nat.le_of_ble_eq_true rfl) (al_cons (up c_most) al_nil)) (sz_t (al_cons d_most al_nil)) rfl ?_
  exact gl_nil

theorem menu2 {K : PySem.W.Frag} {b pl : Addr} {one k wy : Int} {x y p : Str} {o8 o9 : Option V} (hk : k.natAbs.log2 < 1920) (nx : isNameS x = true) (ny : isNameS y = true) (np : isNameS p = true) : GL K b [some (.ref b), some (.ref pl), some (.int one), some (.str x), some (.str y), some (.str p), some (.int k), some (.int wy), o8, o9] 6 (tCons (tTup (tCons (tVar 5) tNil)) (tCons (tLst (tCons (tC (.str "yes")) (tCons (tVar 5) tNil))) (tCons (tLst (tCons (tC (.str "no")) (tCons (tVar 5) tNil))) (tCons (tLst (tCons (tC (.str "most")) (tCons (tVar 3) (tCons (tVar 4) (tCons (tVar 6) tNil))))) (tCons (tDisp [((tC (.str "yes")), (tVar 5))]) (tCons (tDisp [((tC (.int 0)), (tC (.str "no"))), ((tC (.int 1)), (tVar 5))]) tNil)))))) := by
  have rx := rp8 nx
  have ry := rp8 ny
  have rp := rp8 np
  have sx := sz8 nx
  have sy := sz8 ny
  have sp := sz8 np
  refine gl_cons (d := (.tuple [(.str p)])) (gd_tup (gdl_cons (gd_vs rfl) gdl_nil) (Nat.le_of_ble_eq_true rfl)) (r2t (Nat.le_of_ble_eq_true rfl) (al_cons (up rp) al_nil)) (sz_t (al_cons sp al_nil)) rfl ?_
  refine gl_cons (d := (.list [(.str "yes"), (.str p)])) (gd_lst (gdl_cons gd_s (gdl_cons (gd_vs rfl) gdl_nil)) (Nat.le_of_ble_eq_true rfl)) (r2l (Nat.le_of_ble_eq_true rfl) (al_cons (up c_yes) (al_cons (up rp) al_nil))) True.intro rfl ?_
  refine gl_cons (d := (.list [(.str "no"), (.str p)])) (gd_lst (gdl_cons gd_s (gdl_cons (gd_vs rfl) gdl_nil)) (Nat.le_of_ble_eq_true rfl)) (r2l (Nat.le_of_ble_eq_true rfl) (al_cons (up c_no) (al_cons (up rp) al_nil))) True.intro rfl ?_
  refine gl_cons (d := (.list [(.str "most"), (.str x), (.str y), (.int k)])) (gd_lst (gdl_cons gd_s (gdl_cons (gd_vs rfl) (gdl_cons (gd_vs rfl) (gdl_cons (gd_vi rfl) gdl_nil)))) (Nat.le_of_ble_eq_true rfl)) (r2l (Nat.le_of_ble_eq_true rfl) (al_cons (up c_most) (al_cons (up rx) (al_cons (up ry) (al_cons (up (a_int hk)) al_nil))))) True.intro rfl ?_
  refine gl_odd (od_one rfl rp) ?_
  refine gl_odd (od_two rfl rp) ?_
  exact gl_nil

theorem menu3 {K : PySem.W.Frag} {b pl : Addr} {one k wy : Int} {x y p : Str} {o8 o9 : Option V} (hk : k.natAbs.log2 < 1920) (nx : isNameS x = true) (ny : isNameS y = true) (np : isNameS p = true) : GL K b [some (.ref b), some (.ref pl), some (.int one), some (.str x), some (.str y), some (.str p), some (.int k), some (.int wy), o8, o9] 6 (tCons (tTup (tCons (tC (.str "yes")) (tCons (tVar 5) (tCons (tVar 5) tNil)))) (tCons (tTup (tCons (tC (.str "no")) (tCons (tVar 5) (tCons (tC (.int 0)) tNil)))) (tCons (tTup (tCons (tC (.str "yes")) (tCons (tVar 3) (tCons (tVar 4) (tCons (tVar 6) tNil))))) (tCons (tTup (tCons (tC (.str "no")) (tCons (tVar 3) (tCons (tVar 4) (tCons (tVar 6) tNil))))) (tCons (tTup (tCons (tC (.str "most")) (tCons (tVar 5) tNil))) (tCons (tTup (tCons (tC (.str "most")) (tCons (tVar 3) (tCons (tVar 4) tNil)))) tNil)))))) := by
  have rx := rp8 nx
  have ry := rp8 ny
  have rp := rp8 np
  have sx := sz8 nx
  have sy := sz8 ny
  have sp := sz8 np
  refine gl_cons (d := (.tuple [(.str "yes"), (.str p), (.str p)])) (gd_tup (gdl_cons gd_s (gdl_cons (gd_vs rfl) (gdl_cons (gd_vs rfl) gdl_nil))) (Nat.le_of_ble_eq_true rfl)) (r2t (Nat.le_of_ble_eq_true rfl) (al_cons (up c_yes) (al_cons (up rp) (al_cons (up rp) al_nil)))) (sz_t (al_cons d_yes (al_cons sp (al_cons sp al_nil)))) rfl ?_
  refine gl_cons (d := (.tuple [(.str "no"), (.str p), (.int 0)])) (gd_tup (gdl_cons gd_s (gdl_cons (gd_vs rfl) (gdl_cons gd_i gdl_nil))) (Nat.le_of_ble_eq_true rfl)) (r2t (Nat.le_of_ble_eq_true rfl) (al_cons (up c_no) (al_cons (up rp) (al_cons (up (a_int (by decide))) al_nil)))) (sz_t (al_cons d_no (al_cons sp (al_cons True.intro al_nil)))) rfl ?_
  refine gl_cons (d := (.tuple [(.str "yes"), (.str x), (.str y), (.int k)])) (gd_tup (gdl_cons gd_s (gdl_cons (gd_vs rfl) (gdl_cons (gd_vs rfl) (gdl_cons (gd_vi rfl) gdl_nil)))) (Nat.le_of_ble_eq_true rfl)) (r2t (Nat.le_of_ble_eq_true rfl) (al_cons (up c_yes) (al_cons (up rx) (al_cons (up ry) (al_cons (up (a_int hk)) al_nil))))) (sz_t (al_cons d_yes (al_cons sx (al_cons sy (al_cons True.intro al_nil))))) (by (simp [lit2, lit4, m_yes, m_no, m_mos, m_most, y_yes, y_no, y_most, y_Yes, y_em, y_yesno, isNameD, isIntD, isIntLikeD, isBoolD, sameD, y_none, y_list, y_tup, m_int, nx, ny, np])) ?_
  refine gl_cons (d := (.tuple [(.str "no"), (.str x), (.str y), (.int k)])) (gd_tup (gdl_cons gd_s (gdl_cons (gd_vs rfl) (gdl_cons (gd_vs rfl) (gdl_cons (gd_vi rfl) gdl_nil)))) (Nat.le_of_ble_eq_true rfl)) (r2t (Nat.le_of_ble_eq_true rfl) (al_cons (up c_no) (al_cons (up rx) (al_cons (up ry) (al_cons (up (a_int hk)) al_nil))))) (sz_t (al_cons d_no (al_cons sx (al_cons sy (al_cons True.intro al_nil))))) (by (simp [lit2, lit4, m_yes, m_no, m_mos, m_most, y_yes, y_no, y_most, y_Yes, y_em, y_yesno, isNameD, isIntD, isIntLikeD, isBoolD, sameD, y_none, y_list, y_tup, m_int, nx, ny, np])) ?_
  refine gl_cons (d := (.tuple [(.str "most"), (.str p)])) (gd_tup (gdl_cons gd_s (gdl_cons (gd_vs rfl) gdl_nil)) (Nat.le_of_ble_eq_true rfl)) (r2t (Nat.le_of_ble_eq_true rfl) (al_cons (up c_most) (al_cons (up rp) al_nil))) (sz_t (al_cons d_most (al_cons sp al_nil))) (by (simp [lit2, lit4, m_yes, m_no, m_mos, m_most, y_yes, y_no, y_most, y_Yes, y_em, y_yesno, isNameD, isIntD, isIntLikeD, isBoolD, sameD, y_none, y_list, y_tup, m_int, nx, ny, np])) ?_
  refine gl_cons (d := (.tuple [(.str "most"), (.str x), (.str y)])) (gd_tup (gdl_cons gd_s (gdl_cons (gd_vs rfl) (gdl_cons (gd_vs rfl) gdl_nil))) (Nat.le_of_ble_eq_true rfl)) (r2t (Nat.le_of_ble_eq_true rfl) (al_cons (up c_most) (al_cons (up rx) (al_cons (up ry) al_nil)))) (sz_t (al_cons d_most (al_cons sx (al_cons sy al_nil)))) rfl ?_
  exact gl_nil

theorem menu4 {K : PySem.W.Frag} {b pl : Addr} {one k wy : Int} {x y p : Str} {o8 o9 : Option V} (hk : k.natAbs.log2 < 1920) (nx : isNameS x = true) (ny : isNameS y = true) (np : isNameS p = true) : GL K b [some (.ref b), some (.ref pl), some (.int one), some (.str x), some (.str y), some (.str p), some (.int k), some (.int wy), o8, o9] 6 (tCons (tTup (tCons (tC (.str "most")) (tCons (tVar 3) (tCons (tVar 4) (tCons (tVar 6) (tCons (tVar 6) tNil)))))) (tCons (tTup (tCons (tC (.str "Yes")) (tCons (tVar 5) tNil))) (tCons (tTup (tCons (tC (.str "")) (tCons (tVar 5) tNil))) (tCons (tTup (tCons (tC .non) (tCons (tVar 5) tNil))) (tCons (tTup (tCons (tLst (tCons (tC (.str "yes")) tNil)) (tCons (tVar 5) tNil))) (tCons (tTup (tCons (tTup (tCons (tC (.str "yes")) tNil)) (tCons (tVar 5) tNil))) tNil)))))) := by
  have rx := rp8 nx
  have ry := rp8 ny
  have rp := rp8 np
  have sx := sz8 nx
  have sy := sz8 ny
  have sp := sz8 np
  refine gl_cons (d := (.tuple [(.str "most"), (.str x), (.str y), (.int k), (.int k)])) (gd_tup (gdl_cons gd_s (gdl_cons (gd_vs rfl) (gdl_cons (gd_vs rfl) (gdl_cons (gd_vi rfl) (gdl_cons (gd_vi rfl) gdl_nil))))) (Nat.le_of_ble_eq_true rfl)) (r2t (Nat.le_of_ble_eq_true rfl) (al_cons (up c_most) (al_cons (up rx) (al_cons (up ry) (al_cons (up (a_int hk)) (al_cons (up (a_int hk)) al_nil)))))) (sz_t (al_cons d_most (al_cons sx (al_cons sy (al_cons True.intro (al_cons True.intro al_nil)))))) rfl ?_
  refine gl_cons (d := (.tuple [(.str "Yes"), (.str p)])) (gd_tup (gdl_cons gd_s (gdl_cons (gd_vs rfl) gdl_nil)) (Nat.le_of_ble_eq_true rfl)) (r2t (Nat.le_of_ble_eq_true rfl) (al_cons (up c_Yes) (al_cons (up rp) al_nil))) (sz_t (al_cons d_Yes (al_cons sp al_nil))) (by (simp [lit2, lit4, m_yes, m_no, m_mos, m_most, y_yes, y_no, y_most, y_Yes, y_em, y_yesno, isNameD, isIntD, isIntLikeD, isBoolD, sameD, y_none, y_list, y_tup, m_int, nx, ny, np])) ?_
  refine gl_cons (d := (.tuple [(.str ""), (.str p)])) (gd_tup (gdl_cons gd_s (gdl_cons (gd_vs rfl) gdl_nil)) (Nat.le_of_ble_eq_true rfl)) (r2t (Nat.le_of_ble_eq_true rfl) (al_cons (up c_em) (al_cons (up rp) al_nil))) (sz_t (al_cons d_em (al_cons sp al_nil))) (by (simp [lit2, lit4, m_yes, m_no, m_mos, m_most, y_yes, y_no, y_most, y_Yes, y_em, y_yesno, isNameD, isIntD, isIntLikeD, isBoolD, sameD, y_none, y_list, y_tup, m_int, nx, ny, np])) ?_
  refine gl_cons (d := (.tuple [.none, (.str p)])) (gd_tup (gdl_cons gd_n (gdl_cons (gd_vs rfl) gdl_nil)) (Nat.le_of_ble_eq_true rfl)) (r2t (Nat.le_of_ble_eq_true rfl) (al_cons (up a_non) (al_cons (up rp) al_nil))) (sz_t (al_cons True.intro (al_cons sp al_nil))) (by (simp [lit2, lit4, m_yes, m_no, m_mos, m_most, y_yes, y_no, y_most, y_Yes, y_em, y_yesno, isNameD, isIntD, isIntLikeD, isBoolD, sameD, y_none, y_list, y_tup, m_int, nx, ny, np])) ?_
  refine gl_cons (d := (.tuple [(.list [(.str "yes")]), (.str p)])) (gd_tup (gdl_cons (gd_lst (gdl_cons gd_s gdl_nil) (Nat.le_of_ble_eq_true rfl)) (gdl_cons (gd_vs rfl) gdl_nil)) (Nat.le_of_ble_eq_true rfl)) (r2t (Nat.le_of_ble_eq_true rfl) (al_cons (r1l (Nat.le_of_ble_eq_true rfl) (al_cons c_yes al_nil)) (al_cons (up rp) al_nil))) (sz_t (al_cons True.intro (al_cons sp al_nil))) (by (simp [lit2, lit4, m_yes, m_no, m_mos, m_most, y_yes, y_no, y_most, y_Yes, y_em, y_yesno, isNameD, isIntD, isIntLikeD, isBoolD, sameD, y_none, y_list, y_tup, m_int, nx, ny, np])) ?_
  refine gl_cons (d := (.tuple [(.tuple [(.str "yes")]), (.str p)])) (gd_tup (gdl_cons (gd_tup (gdl_cons gd_s gdl_nil) (Nat.le_of_ble_eq_true rfl)) (gdl_cons (gd_vs rfl) gdl_nil)) (Nat.le_of_ble_eq_true rfl)) (r2t (Nat.le_of_ble_eq_true rfl) (al_cons (r1t (Nat.le_of_ble_eq_true rfl) (al_cons c_yes al_nil)) (al_cons (up rp) al_nil))) (sz_t (al_cons True.intro (al_cons sp al_nil))) (by (simp [lit2, lit4, m_yes, m_no, m_mos, m_most, y_yes, y_no, y_most, y_Yes, y_em, y_yesno, isNameD, isIntD, isIntLikeD, isBoolD, sameD, y_none, y_list, y_tup, m_int, nx, ny, np])) ?_
  exact gl_nil

theorem menu5 {K : PySem.W.Frag} {b pl : Addr} {one k wy : Int} {x y p : Str} {o8 o9 : Option V} (hk : k.natAbs.log2 < 1920) (nx : isNameS x = true) (ny : isNameS y = true) (np : isNameS p = true) : GL K b [some (.ref b), some (.ref pl), some (.int one), some (.str x), some (.str y), some (.str p), some (.int k), some (.int wy), o8, o9] 6 (tCons (tTup (tCons tDNewK (tCons (tVar 5) tNil))) (tCons (tTup (tCons (tC (.str "yes")) (tCons (tC (.int 7)) tNil))) (tCons (tTup (tCons (tC (.str "no")) (tCons (tC .non) tNil))) (tCons (tTup (tCons (tC (.str "yes")) (tCons (tTup (tCons (tVar 5) tNil)) tNil))) (tCons (tTup (tCons (tC (.str "no")) (tCons (tLst (tCons (tVar 5) tNil)) tNil))) (tCons (tTup (tCons (tC (.str "yes")) (tCons (tTup (tCons (tC (.str "yes")) (tCons (tVar 5) tNil))) tNil))) tNil)))))) := by
  have rx := rp8 nx
  have ry := rp8 ny
  have rp := rp8 np
  have sx := sz8 nx
  have sy := sz8 ny
  have sp := sz8 np
  refine gl_odd (od_tup rfl rp) ?_
  refine gl_cons (d := (.tuple [(.str "yes"), (.int 7)])) (gd_tup (gdl_cons gd_s (gdl_cons gd_i gdl_nil)) (Nat.le_of_ble_eq_true rfl)) (r2t (Nat.le_of_ble_eq_true rfl) (al_cons (up c_yes) (al_cons (up (a_int (by decide))) al_nil))) (sz_t (al_cons d_yes (al_cons True.intro al_nil))) (by (simp [lit2, lit4, m_yes, m_no, m_mos, m_most, y_yes, y_no, y_most, y_Yes, y_em, y_yesno, isNameD, isIntD, isIntLikeD, isBoolD, sameD, y_none, y_list, y_tup, m_int, nx, ny, np])) ?_
  refine gl_cons (d := (.tuple [(.str "no"), .none])) (gd_tup (gdl_cons gd_s (gdl_cons gd_n gdl_nil)) (Nat.le_of_ble_eq_true rfl)) (r2t (Nat.le_of_ble_eq_true rfl) (al_cons (up c_no) (al_cons (up a_non) al_nil))) (sz_t (al_cons d_no (al_cons True.intro al_nil))) (by (simp [lit2, lit4, m_yes, m_no, m_mos, m_most, y_yes, y_no, y_most, y_Yes, y_em, y_yesno, isNameD, isIntD, isIntLikeD, isBoolD, sameD, y_none, y_list, y_tup, m_int, nx, ny, np])) ?_
  refine gl_cons (d := (.tuple [(.str "yes"), (.tuple [(.str p)])])) (gd_tup (gdl_cons gd_s (gdl_cons (gd_tup (gdl_cons (gd_vs rfl) gdl_nil) (Nat.le_of_ble_eq_true rfl)) gdl_nil)) (Nat.le_of_ble_eq_true rfl)) (r2t (Nat.le_of_ble_eq_true rfl) (al_cons (up c_yes) (al_cons (r1t (Nat.le_of_ble_eq_true rfl) (al_cons rp al_nil)) al_nil))) (sz_t (al_cons d_yes (al_cons True.intro al_nil))) (by (simp [lit2, lit4, m_yes, m_no, m_mos, m_most, y_yes, y_no, y_most, y_Yes, y_em, y_yesno, isNameD, isIntD, isIntLikeD, isBoolD, sameD, y_none, y_list, y_tup, m_int, nx, ny, np])) ?_
  refine gl_cons (d := (.tuple [(.str "no"), (.list [(.str p)])])) (gd_tup (gdl_cons gd_s (gdl_cons (gd_lst (gdl_cons (gd_vs rfl) gdl_nil) (Nat.le_of_ble_eq_true rfl)) gdl_nil)) (Nat.le_of_ble_eq_true rfl)) (r2t (Nat.le_of_ble_eq_true rfl) (al_cons (up c_no) (al_cons (r1l (Nat.le_of_ble_eq_true rfl) (al_cons rp al_nil)) al_nil))) (sz_t (al_cons d_no (al_cons True.intro al_nil))) (by (simp [lit2, lit4, m_yes, m_no, m_mos, m_most, y_yes, y_no, y_most, y_Yes, y_em, y_yesno, isNameD, isIntD, isIntLikeD, isBoolD, sameD, y_none, y_list, y_tup, m_int, nx, ny, np])) ?_
  refine gl_cons (d := (.tuple [(.str "yes"), (.tuple [(.str "yes"), (.str p)])])) (gd_tup (gdl_cons gd_s (gdl_cons (gd_tup (gdl_cons gd_s (gdl_cons (gd_vs rfl) gdl_nil)) (Nat.le_of_ble_eq_true rfl)) gdl_nil)) (Nat.le_of_ble_eq_true rfl)) (r2t (Nat.le_of_ble_eq_true rfl) (al_cons (up c_yes) (al_cons (r1t (Nat.le_of_ble_eq_true rfl) (al_cons c_yes (al_cons rp al_nil))) al_nil))) (sz_t (al_cons d_yes (al_cons True.intro al_nil))) (by (simp [lit2, lit4, m_yes, m_no, m_mos, m_most, y_yes, y_no, y_most, y_Yes, y_em, y_yesno, isNameD, isIntD, isIntLikeD, isBoolD, sameD, y_none, y_list, y_tup, m_int, nx, ny, np])) ?_
  exact gl_nil

theorem menu6 {K : PySem.W.Frag} {b pl : Addr} {one k wy : Int} {x y p : Str} {o8 o9 : Option V} (hk : k.natAbs.log2 < 1920) (nx : isNameS x = true) (ny : isNameS y = true) (np : isNameS p = true) : GL K b [some (.ref b), some (.ref pl), some (.int one), some (.str x), some (.str y), some (.str p), some (.int k), some (.int wy), o8, o9] 4 (tCons (tTup (tCons (tC (.str "yesno")) (tCons (tVar 5) tNil))) (tCons (tTup (tCons (tC (.str "mos")) (tCons (tVar 3) (tCons (tVar 4) (tCons (tVar 6) tNil))))) (tCons (tTup (tCons (tC (.str "most")) (tCons (tC (.int 3)) (tCons (tVar 4) (tCons (tVar 6) tNil))))) (tCons (tTup (tCons (tC (.str "most")) (tCons (tVar 3) (tCons (tLst (tCons (tVar 4) tNil)) (tCons (tVar 6) tNil))))) tNil)))) := by
  have rx := rp8 nx
  have ry := rp8 ny
  have rp := rp8 np
  have sx := sz8 nx
  have sy := sz8 ny
  have sp := sz8 np
  refine gl_cons (d := (.tuple [(.str "yesno"), (.str p)])) (gd_tup (gdl_cons gd_s (gdl_cons (gd_vs rfl) gdl_nil)) (Nat.le_of_ble_eq_true rfl)) (r2t (Nat.le_of_ble_eq_true rfl) (al_cons (up c_yesno) (al_cons (up rp) al_nil))) (sz_t (al_cons d_yesno (al_cons sp al_nil))) (by (simp [lit2, lit4, m_yes, m_no, m_mos, m_most, y_yes, y_no, y_most, y_Yes, y_em, y_yesno, isNameD, isIntD, isIntLikeD, isBoolD, sameD, y_none, y_list, y_tup, m_int, nx, ny, np])) ?_
  refine gl_cons (d := (.tuple [(.str "mos"), (.str x), (.str y), (.int k)])) (gd_tup (gdl_cons gd_s (gdl_cons (gd_vs rfl) (gdl_cons (gd_vs rfl) (gdl_cons (gd_vi rfl) gdl_nil)))) (Nat.le_of_ble_eq_true rfl)) (r2t (Nat.le_of_ble_eq_true rfl) (al_cons (up c_mos) (al_cons (up rx) (al_cons (up ry) (al_cons (up (a_int hk)) al_nil))))) (sz_t (al_cons d_mos (al_cons sx (al_cons sy (al_cons True.intro al_nil))))) (by (simp [lit2, lit4, m_yes, m_no, m_mos, m_most, y_yes, y_no, y_most, y_Yes, y_em, y_yesno, isNameD, isIntD, isIntLikeD, isBoolD, sameD, y_none, y_list, y_tup, m_int, nx, ny, np])) ?_
  refine gl_cons (d := (.tuple [(.str "most"), (.int 3), (.str y), (.int k)])) (gd_tup (gdl_cons gd_s (gdl_cons gd_i (gdl_cons (gd_vs rfl) (gdl_cons (gd_vi rfl) gdl_nil)))) (Nat.le_of_ble_eq_true rfl)) (r2t (Nat.le_of_ble_eq_true rfl) (al_cons (up c_most) (al_cons (up (a_int (by decide))) (al_cons (up ry) (al_cons (up (a_int hk)) al_nil))))) (sz_t (al_cons d_most (al_cons True.intro (al_cons sy (al_cons True.intro al_nil))))) (by (simp [lit2, lit4, m_yes, m_no, m_mos, m_most, y_yes, y_no, y_most, y_Yes, y_em, y_yesno, isNameD, isIntD, isIntLikeD, isBoolD, sameD, y_none, y_list, y_tup, m_int, nx, ny, np])) ?_
  refine gl_cons (d := (.tuple [(.str "most"), (.str x), (.list [(.str y)]), (.int k)])) (gd_tup (gdl_cons gd_s (gdl_cons (gd_vs rfl) (gdl_cons (gd_lst (gdl_cons (gd_vs rfl) gdl_nil) (Nat.le_of_ble_eq_true rfl)) (gdl_cons (gd_vi rfl) gdl_nil)))) (Nat.le_of_ble_eq_true rfl)) (r2t (Nat.le_of_ble_eq_true rfl) (al_cons (up c_most) (al_cons (up rx) (al_cons (r1l (Nat.le_of_ble_eq_true rfl) (al_cons ry al_nil)) (al_cons (up (a_int hk)) al_nil))))) (sz_t (al_cons d_most (al_cons sx (al_cons True.intro (al_cons True.intro al_nil))))) (by (simp [lit2, lit4, m_yes, m_no, m_mos, m_most, y_yes, y_no, y_most, y_Yes, y_em, y_yesno, isNameD, isIntD, isIntLikeD, isBoolD, sameD, y_none, y_list, y_tup, m_int, nx, ny, np])) ?_
  exact gl_nil

theorem menu7 {K : PySem.W.Frag} {b pl : Addr} {one k wy : Int} {x y p : Str} {o8 o9 : Option V} (hk : k.natAbs.log2 < 1920) (nx : isNameS x = true) (ny : isNameS y = true) (np : isNameS p = true) : GL K b [some (.ref b), some (.ref pl), some (.int one), some (.str x), some (.str y), some (.str p), some (.int k), some (.int wy), o8, o9] 4 (tCons (tTup (tCons (tC (.str "most")) (tCons (tVar 3) (tCons (tVar 3) (tCons (tVar 6) tNil))))) (tCons (tTup (tCons (tC (.str "most")) (tCons (tVar 3) (tCons (tVar 4) (tCons (tC (.bl true)) tNil))))) (tCons (tTup (tCons (tC (.str "most")) (tCons (tVar 3) (tCons (tVar 4) (tCons (tC (.bl false)) tNil))))) (tCons (tTup (tCons (tC (.str "most")) (tCons (tVar 3) (tCons (tVar 4) (tCons (tC .non) tNil))))) tNil)))) := by
  have rx := rp8 nx
  have ry := rp8 ny
  have rp := rp8 np
  have sx := sz8 nx
  have sy := sz8 ny
  have sp := sz8 np
  refine gl_cons (d := (.tuple [(.str "most"), (.str x), (.str x), (.int k)])) (gd_tup (gdl_cons gd_s (gdl_cons (gd_vs rfl) (gdl_cons (gd_vs rfl) (gdl_cons (gd_vi rfl) gdl_nil)))) (Nat.le_of_ble_eq_true rfl)) (r2t (Nat.le_of_ble_eq_true rfl) (al_cons (up c_most) (al_cons (up rx) (al_cons (up rx) (al_cons (up (a_int hk)) al_nil))))) (sz_t (al_cons d_most (al_cons sx (al_cons sx (al_cons True.intro al_nil))))) (by (simp [lit2, lit4, m_yes, m_no, m_mos, m_most, y_yes, y_no, y_most, y_Yes, y_em, y_yesno, isNameD, isIntD, isIntLikeD, isBoolD, sameD, y_none, y_list, y_tup, m_int, nx, ny, np])) ?_
  refine gl_cons (d := (.tuple [(.str "most"), (.str x), (.str y), (.bool true)])) (gd_tup (gdl_cons gd_s (gdl_cons (gd_vs rfl) (gdl_cons (gd_vs rfl) (gdl_cons gd_b gdl_nil)))) (Nat.le_of_ble_eq_true rfl)) (r2t (Nat.le_of_ble_eq_true rfl) (al_cons (up c_most) (al_cons (up rx) (al_cons (up ry) (al_cons (up (a_bl _)) al_nil))))) (sz_t (al_cons d_most (al_cons sx (al_cons sy (al_cons True.intro al_nil))))) (by (simp [lit2, lit4, m_yes, m_no, m_mos, m_most, y_yes, y_no, y_most, y_Yes, y_em, y_yesno, isNameD, isIntD, isIntLikeD, isBoolD, sameD, y_none, y_list, y_tup, m_int, nx, ny, np])) ?_
  refine gl_cons (d := (.tuple [(.str "most"), (.str x), (.str y), (.bool false)])) (gd_tup (gdl_cons gd_s (gdl_cons (gd_vs rfl) (gdl_cons (gd_vs rfl) (gdl_cons gd_b gdl_nil)))) (Nat.le_of_ble_eq_true rfl)) (r2t (Nat.le_of_ble_eq_true rfl) (al_cons (up c_most) (al_cons (up rx) (al_cons (up ry) (al_cons (up (a_bl _)) al_nil))))) (sz_t (al_cons d_most (al_cons sx (al_cons sy (al_cons True.intro al_nil))))) (by (simp [lit2, lit4, m_yes, m_no, m_mos, m_most, y_yes, y_no, y_most, y_Yes, y_em, y_yesno, isNameD, isIntD, isIntLikeD, isBoolD, sameD, y_none, y_list, y_tup, m_int, nx, ny, np])) ?_
  refine gl_cons (d := (.tuple [(.str "most"), (.str x), (.str y), .none])) (gd_tup (gdl_cons gd_s (gdl_cons (gd_vs rfl) (gdl_cons (gd_vs rfl) (gdl_cons gd_n gdl_nil)))) (Nat.le_of_ble_eq_true rfl)) (r2t (Nat.le_of_ble_eq_true rfl) (al_cons (up c_most) (al_cons (up rx) (al_cons (up ry) (al_cons (up a_non) al_nil))))) (sz_t (al_cons d_most (al_cons sx (al_cons sy (al_cons True.intro al_nil))))) (by (simp [lit2, lit4, m_yes, m_no, m_mos, m_most, y_yes, y_no, y_most, y_Yes, y_em, y_yesno, isNameD, isIntD, isIntLikeD, isBoolD, sameD, y_none, y_list, y_tup, m_int, nx, ny, np])) ?_
  exact gl_nil

theorem menu8 {K : PySem.W.Frag} {b pl : Addr} {one k wy : Int} {x y p : Str} {o8 o9 : Option V} (hk : k.natAbs.log2 < 1920) (nx : isNameS x = true) (ny : isNameS y = true) (np : isNameS p = true) : GL K b [some (.ref b), some (.ref pl), some (.int one), some (.str x), some (.str y), some (.str p), some (.int k), some (.int wy), o8, o9] 4 (tCons (tTup (tCons (tC (.str "most")) (tCons (tVar 3) (tCons (tVar 4) (tCons (tCB (fun xs H Q => ∃ i, xs = [.int i] ∧ i.natAbs.log2 < 1920 ∧ Q (.str (Str.ofString (toString i))) H) (tCons (tVar 6) tNil)) tNil))))) (tCons (tTup (tCons (tC (.str "most")) (tCons (tVar 3) (tCons (tVar 4) (tCons (tTup (tCons (tVar 6) tNil)) tNil))))) (tCons (tTup (tCons (tC (.str "most")) (tCons (tVar 3) (tCons (tVar 6) (tCons (tVar 4) tNil))))) (tCons (tTup (tCons (tC (.str "most")) (tCons (tVar 6) (tCons (tVar 3) (tCons (tVar 4) tNil))))) tNil)))) := by
  have rx := rp8 nx
  have ry := rp8 ny
  have rp := rp8 np
  have sx := sz8 nx
  have sy := sz8 ny
  have sp := sz8 np
  refine gl_cons (d := (.tuple [(.str "most"), (.str x), (.str y), (.str (Str.ofString (toString k)))])) (gd_tup (gdl_cons gd_s (gdl_cons (gd_vs rfl) (gdl_cons (gd_vs rfl) (gdl_cons (gd_str rfl hk) gdl_nil)))) (Nat.le_of_ble_eq_true rfl)) (r2t (Nat.le_of_ble_eq_true rfl) (al_cons (up c_most) (al_cons (up rx) (al_cons (up ry) (al_cons (up (rp_int_text hk)) al_nil))))) (sz_t (al_cons d_most (al_cons sx (al_cons sy (al_cons (szs_int hk) al_nil))))) (by (simp [lit2, lit4, m_yes, m_no, m_mos, m_most, y_yes, y_no, y_most, y_Yes, y_em, y_yesno, isNameD, isIntD, isIntLikeD, isBoolD, sameD, y_none, y_list, y_tup, m_int, nx, ny, np])) ?_
  refine gl_cons (d := (.tuple [(.str "most"), (.str x), (.str y), (.tuple [(.int k)])])) (gd_tup (gdl_cons gd_s (gdl_cons (gd_vs rfl) (gdl_cons (gd_vs rfl) (gdl_cons (gd_tup (gdl_cons (gd_vi rfl) gdl_nil) (Nat.le_of_ble_eq_true rfl)) gdl_nil)))) (Nat.le_of_ble_eq_true rfl)) (r2t (Nat.le_of_ble_eq_true rfl) (al_cons (up c_most) (al_cons (up rx) (al_cons (up ry) (al_cons (r1t (Nat.le_of_ble_eq_true rfl) (al_cons (a_int hk) al_nil)) al_nil))))) (sz_t (al_cons d_most (al_cons sx (al_cons sy (al_cons True.intro al_nil))))) (by (simp [lit2, lit4, m_yes, m_no, m_mos, m_most, y_yes, y_no, y_most, y_Yes, y_em, y_yesno, isNameD, isIntD, isIntLikeD, isBoolD, sameD, y_none, y_list, y_tup, m_int, nx, ny, np])) ?_
  refine gl_cons (d := (.tuple [(.str "most"), (.str x), (.int k), (.str y)])) (gd_tup (gdl_cons gd_s (gdl_cons (gd_vs rfl) (gdl_cons (gd_vi rfl) (gdl_cons (gd_vs rfl) gdl_nil)))) (Nat.le_of_ble_eq_true rfl)) (r2t (Nat.le_of_ble_eq_true rfl) (al_cons (up c_most) (al_cons (up rx) (al_cons (up (a_int hk)) (al_cons (up ry) al_nil))))) (sz_t (al_cons d_most (al_cons sx (al_cons True.intro (al_cons sy al_nil))))) (by (simp [lit2, lit4, m_yes, m_no, m_mos, m_most, y_yes, y_no, y_most, y_Yes, y_em, y_yesno, isNameD, isIntD, isIntLikeD, isBoolD, sameD, y_none, y_list, y_tup, m_int, nx, ny, np])) ?_
  refine gl_cons (d := (.tuple [(.str "most"), (.int k), (.str x), (.str y)])) (gd_tup (gdl_cons gd_s (gdl_cons (gd_vi rfl) (gdl_cons (gd_vs rfl) (gdl_cons (gd_vs rfl) gdl_nil)))) (Nat.le_of_ble_eq_true rfl)) (r2t (Nat.le_of_ble_eq_true rfl) (al_cons (up c_most) (al_cons (up (a_int hk)) (al_cons (up rx) (al_cons (up ry) al_nil))))) (sz_t (al_cons d_most (al_cons True.intro (al_cons sx (al_cons sy al_nil))))) (by (simp [lit2, lit4, m_yes, m_no, m_mos, m_most, y_yes, y_no, y_most, y_Yes, y_em, y_yesno, isNameD, isIntD, isIntLikeD, isBoolD, sameD, y_none, y_list, y_tup, m_int, nx, ny, np])) ?_
  exact gl_nil
end V1
set_option maxRecDepth 100000
set_option maxHeartbeats 8000000
namespace V1
open PySem L2 Evl GP HR SC SetM SetH RQ
section
variable {P : Program} {w : World} {K : PySem.W.Frag} {mg : Str → Option Value} {base : Heap} {a : Ad} {d : Fd}
theorem ok_law_bad (T : TX K mg a) (D : FDS K a d) : FnOk P w K mg base CX0 3 a.a_law_bad d.a_law_bad ["bag", "pool"] (spBad K) := by
  have G__law_take : FnOk P w K mg base CX0 1 a.a_law_take d.a_law_take ["bag", "size"] spTake := ok_law_take T D
  have G__law_integer : FnOk P w K mg base CX0 2 a.a_law_integer d.a_law_integer ["bag"] spInteger := ok_law_integer T D
  have G__law_bad_name : FnOk P w K mg base CX0 2 a.a_law_bad_name d.a_law_bad_name ["bag", "name"] spBadName := ok_law_bad_name T D
  refine D.F__law_bad.ok sc_law_bad (fun vs H Q E h => ?_) (fun cdv A outer s H vs Q E hr h => ?_)
  · obtain ⟨b, pl, xs, rfl, _⟩ := h
    rfl
  · obtain ⟨b, pl, xs, rfl, X, W, fin⟩ := h
    refine ⟨_, (pss_cons (ps_set (i := 2) sc_law_bad.nd rfl (Or.inl rfl) (pe_call G__law_take (hr.mono (by decide)) rfl T.f__law_take T.k__law_take D.B__law_take .nil pass0 (pa_cons (pv 0) (pa_cons (pe_callB call_len_seq (by rfl) T.b_len (by decide +kernel) (pa_cons (pv 1) pa_nil)) pa_nil))))
        (pss_cons (ps_set (i := 3) sc_law_bad.nd rfl (Or.inl rfl) (pe_ix (ix_listK (K := K)) (pv 1) (pv 2) (fun _ _ => rfl)))
        (pss_cons (ps_set (i := 4) sc_law_bad.nd rfl (Or.inl rfl) (pe_ix (ix_listK (K := K)) (pv 1) (pe_op op_modN (pe_callTy call_int1 (by rfl) T.b_int (by decide +kernel) (pa_cons (pe_op op_add (pe_op op_add (pv 2) pe_int) (pe_call G__law_take (hr.mono (by decide)) rfl T.f__law_take T.k__law_take D.B__law_take .nil pass0 (pa_cons (pv 0) (pa_cons (pe_op op_sub (pe_callB call_len_seq (by rfl) T.b_len (by decide +kernel) (pa_cons (pv 1) pa_nil)) pe_int) pa_nil)))) pa_nil)) (pe_callB call_len_seq (by rfl) T.b_len (by decide +kernel) (pa_cons (pv 1) pa_nil))) (fun _ _ => rfl)))
        (pss_cons (ps_set (i := 5) sc_law_bad.nd rfl (Or.inl rfl) (pe_ix (ix_listK (K := K)) (pv 1) (pe_call G__law_take (hr.mono (by decide)) rfl T.f__law_take T.k__law_take D.B__law_take .nil pass0 (pa_cons (pv 0) (pa_cons (pe_callB call_len_seq (by rfl) T.b_len (by decide +kernel) (pa_cons (pv 1) pa_nil)) pa_nil))) (fun _ _ => rfl)))
        (pss_cons (ps_set (i := 6) sc_law_bad.nd rfl (Or.inl rfl) (pe_call G__law_integer (hr.mono (by decide)) rfl T.f__law_integer T.k__law_integer D.B__law_integer .nil pass0 (pa_cons (pv 0) pa_nil)))
        (pss_cons (ps_set (i := 7) sc_law_bad.nd rfl (Or.inl rfl) (pe_call G__law_take (hr.mono (by decide)) rfl T.f__law_take T.k__law_take D.B__law_take .nil pass0 (pa_cons (pv 0) (pa_cons pe_int pa_nil))))
        (Evl.pss_cut (ps_if (pt_cmpR op_eq (pv 7) pe_int (nomark _)) (pss_cons (ps_set (i := 8) sc_law_bad.nd rfl (Or.inl rfl) (pe_call G__law_bad_name (hr.mono (by decide)) rfl T.f__law_bad_name T.k__law_bad_name D.B__law_bad_name .nil pass0 (pa_cons (pv 0) (pa_cons (pv 5) pa_nil))))
        (pss_one (ps_set (i := 9) sc_law_bad.nd rfl (Or.inl rfl) (pe_lst (pa_cons (pe_tup (pa_cons pe_str (pa_cons (pv 8) pa_nil))) (pa_cons (pe_tup (pa_cons pe_str (pa_cons (pv 8) pa_nil))) (pa_cons (pe_tup (pa_cons pe_str (pa_cons (pv 8) (pa_cons (pv 4) (pa_cons (pv 6) pa_nil))))) (pa_cons (pe_tup (pa_cons pe_str (pa_cons (pv 3) (pa_cons (pv 8) (pa_cons (pv 6) pa_nil))))) pa_nil)))))))) (pss_one (ps_if (pt_cmpR op_eq (pv 7) pe_int (nomark _)) (pss_cons (ps_set (i := 9) sc_law_bad.nd rfl (Or.inl rfl) (pe_lst (pa_cons pe_non (pa_cons pe_int (pa_cons pe_bl (pa_cons pe_bl (pa_cons pe_str (pa_cons pe_str (pa_cons (pv 5) (pa_cons (pe_tup pa_nil) (pa_cons (pe_lst pa_nil) (pa_cons pe_dnewK (pa_cons (pe_tup (pa_cons pe_str pa_nil)) (pa_cons (pe_tup (pa_cons pe_str pa_nil)) (pa_cons (pe_tup (pa_cons pe_str pa_nil)) pa_nil)))))))))))))))
        (pss_one (ps_set (i := 9) sc_law_bad.nd rfl (Or.inl rfl) (pe_op op_cat (pv 9) (pe_lst (pa_cons (pe_tup (pa_cons (pv 5) pa_nil)) (pa_cons (pe_lst (pa_cons pe_str (pa_cons (pv 5) pa_nil))) (pa_cons (pe_lst (pa_cons pe_str (pa_cons (pv 5) pa_nil))) (pa_cons (pe_lst (pa_cons pe_str (pa_cons (pv 3) (pa_cons (pv 4) (pa_cons (pv 6) pa_nil))))) (pa_cons (pe_disp (pps_cons pe_str (pv 5) pps_nil) rfl rfl (List.cons_ne_nil _ _) (by decide)) (pa_cons (pe_disp (pps_cons pe_int pe_str (pps_cons pe_int (pv 5) pps_nil)) rfl rfl (List.cons_ne_nil _ _) (by decide)) pa_nil))))))))))) (pss_one (ps_if (pt_cmpR op_eq (pv 7) pe_int (nomark _)) (pss_cons (ps_set (i := 9) sc_law_bad.nd rfl (Or.inl rfl) (pe_lst (pa_cons (pe_tup (pa_cons pe_str (pa_cons (pv 5) (pa_cons (pv 5) pa_nil)))) (pa_cons (pe_tup (pa_cons pe_str (pa_cons (pv 5) (pa_cons pe_int pa_nil)))) (pa_cons (pe_tup (pa_cons pe_str (pa_cons (pv 3) (pa_cons (pv 4) (pa_cons (pv 6) pa_nil))))) (pa_cons (pe_tup (pa_cons pe_str (pa_cons (pv 3) (pa_cons (pv 4) (pa_cons (pv 6) pa_nil))))) (pa_cons (pe_tup (pa_cons pe_str (pa_cons (pv 5) pa_nil))) (pa_cons (pe_tup (pa_cons pe_str (pa_cons (pv 3) (pa_cons (pv 4) pa_nil)))) pa_nil))))))))
        (pss_cons (ps_set (i := 9) sc_law_bad.nd rfl (Or.inl rfl) (pe_op op_cat (pv 9) (pe_lst (pa_cons (pe_tup (pa_cons pe_str (pa_cons (pv 3) (pa_cons (pv 4) (pa_cons (pv 6) (pa_cons (pv 6) pa_nil)))))) (pa_cons (pe_tup (pa_cons pe_str (pa_cons (pv 5) pa_nil))) (pa_cons (pe_tup (pa_cons pe_str (pa_cons (pv 5) pa_nil))) (pa_cons (pe_tup (pa_cons pe_non (pa_cons (pv 5) pa_nil))) (pa_cons (pe_tup (pa_cons (pe_lst (pa_cons pe_str pa_nil)) (pa_cons (pv 5) pa_nil))) (pa_cons (pe_tup (pa_cons (pe_tup (pa_cons pe_str pa_nil)) (pa_cons (pv 5) pa_nil))) pa_nil)))))))))
        (pss_cons (ps_set (i := 9) sc_law_bad.nd rfl (Or.inl rfl) (pe_op op_cat (pv 9) (pe_lst (pa_cons (pe_tup (pa_cons pe_dnewK (pa_cons (pv 5) pa_nil))) (pa_cons (pe_tup (pa_cons pe_str (pa_cons pe_int pa_nil))) (pa_cons (pe_tup (pa_cons pe_str (pa_cons pe_non pa_nil))) (pa_cons (pe_tup (pa_cons pe_str (pa_cons (pe_tup (pa_cons (pv 5) pa_nil)) pa_nil))) (pa_cons (pe_tup (pa_cons pe_str (pa_cons (pe_lst (pa_cons (pv 5) pa_nil)) pa_nil))) (pa_cons (pe_tup (pa_cons pe_str (pa_cons (pe_tup (pa_cons pe_str (pa_cons (pv 5) pa_nil))) pa_nil))) pa_nil)))))))))
        (pss_one (ps_set (i := 9) sc_law_bad.nd rfl (Or.inl rfl) (pe_op op_cat (pv 9) (pe_lst (pa_cons (pe_tup (pa_cons pe_str (pa_cons (pv 5) pa_nil))) (pa_cons (pe_tup (pa_cons pe_str (pa_cons (pv 3) (pa_cons (pv 4) (pa_cons (pv 6) pa_nil))))) (pa_cons (pe_tup (pa_cons pe_str (pa_cons pe_int (pa_cons (pv 4) (pa_cons (pv 6) pa_nil))))) (pa_cons (pe_tup (pa_cons pe_str (pa_cons (pv 3) (pa_cons (pe_lst (pa_cons (pv 4) pa_nil)) (pa_cons (pv 6) pa_nil))))) pa_nil))))))))))) (pss_cons (ps_set (i := 9) sc_law_bad.nd rfl (Or.inl rfl) (pe_lst (pa_cons (pe_tup (pa_cons pe_str (pa_cons (pv 3) (pa_cons (pv 3) (pa_cons (pv 6) pa_nil))))) (pa_cons (pe_tup (pa_cons pe_str (pa_cons (pv 3) (pa_cons (pv 4) (pa_cons pe_bl pa_nil))))) (pa_cons (pe_tup (pa_cons pe_str (pa_cons (pv 3) (pa_cons (pv 4) (pa_cons pe_bl pa_nil))))) (pa_cons (pe_tup (pa_cons pe_str (pa_cons (pv 3) (pa_cons (pv 4) (pa_cons pe_non pa_nil))))) pa_nil))))))
        (pss_one (ps_set (i := 9) sc_law_bad.nd rfl (Or.inl rfl) (pe_op op_cat (pv 9) (pe_lst (pa_cons (pe_tup (pa_cons pe_str (pa_cons (pv 3) (pa_cons (pv 4) (pa_cons (pe_callTy call_str_int (by rfl) T.b_str (by decide +kernel) (pa_cons (pv 6) pa_nil)) pa_nil))))) (pa_cons (pe_tup (pa_cons pe_str (pa_cons (pv 3) (pa_cons (pv 4) (pa_cons (pe_tup (pa_cons (pv 6) pa_nil)) pa_nil))))) (pa_cons (pe_tup (pa_cons pe_str (pa_cons (pv 3) (pa_cons (pv 6) (pa_cons (pv 4) pa_nil))))) (pa_cons (pe_tup (pa_cons pe_str (pa_cons (pv 6) (pa_cons (pv 3) (pa_cons (pv 4) pa_nil))))) pa_nil))))))))))))))
        (pss_one (ps_ret (pe_ix (ix_listK (K := K)) (pv 9) (pe_call G__law_take (hr.mono (by decide)) rfl T.f__law_take T.k__law_take D.B__law_take .nil pass0 (pa_cons (pv 0) (pa_cons (pe_callB call_len_seq (by rfl) T.b_len (by decide +kernel) (pa_cons (pv 9) pa_nil)) pa_nil))) (fun _ _ => rfl))))))))))), ?_⟩
    have lx : (xs.map V.str).length = xs.length := List.length_map _
    have lo := W.lo
    have hi := W.hi
    refine ⟨_, rfl, _, rfl, pl, _, rfl, .inl (SqL.of W.l), b, _, rfl, X, by rw [lx]; omega, small_size' (by rw [lx]; omega), fun one H2 k2 X2 r0 r1 => ?_⟩
    rw [lx] at r1
    have W2 := W.kp k2
    obtain ⟨x, hx, hx2, hx3, nx⟩ := W2.at r0 r1
    refine ⟨_, rfl, _, rfl, pl, _, one, _, rfl, rfl, SqL.of W2.l, hx, ?_⟩
    refine ⟨_, rfl, _, rfl, _, _, rfl, rfl, _, rfl, _, rfl, pl, _, rfl, .inl (SqL.of W2.l), _, _, rfl, rfl, b, _, rfl, X2, by rw [lx]; omega, small_size' (by rw [lx]; omega), fun m H3 k3 X3 s0 s1 => ?_⟩
    rw [lx] at s1
    have W3 := W2.kp k3
    refine ⟨_, _, rfl, rfl, .inl ⟨_, rfl, _, rfl, pl, _, rfl, .inl (SqL.of W3.l), _, _, rfl, rfl, (by rw [lx]; show ((xs.length : Nat) : Int) ≠ 0; omega), ?_⟩⟩
    rw [lx]
    obtain ⟨m0, m4, mn⟩ := two_apart r0 r1 s0 s1
    obtain ⟨y, hy, hy2, hy3, ny⟩ := W3.at m0 m4
    have xy : x ≠ y := nd_ne W.nd hx2 hy2 (by omega)
    refine ⟨pl, _, _, _, rfl, rfl, SqL.of W3.l, hy, ?_⟩
    refine ⟨_, rfl, _, rfl, _, rfl, pl, _, rfl, .inl (SqL.of W3.l), b, _, rfl, X3, by rw [lx]; omega, small_size' (by rw [lx]; omega), fun e4 H4 k4 X4 t0 t1 => ?_⟩
    rw [lx] at t1
    have W4 := W3.kp k4
    obtain ⟨p, hp, hp2, hp3, np⟩ := W4.at t0 t1
    refine ⟨pl, _, _, _, rfl, rfl, SqL.of W4.l, hp, ?_⟩
    refine ⟨_, rfl, b, rfl, X4, fun k H5 k0 k5 X5 => ⟨_, rfl, b, 4, rfl, X5, by decide, by decide +kernel, fun wy H6 k6 X6 w0 w4 => ?_⟩⟩
    have k26 := ((((k2.trans k3).trans k4).trans k5).trans k6)
    have hk : k.natAbs.log2 < 1920 := Nat.lt_trans (PySem.Flt.log2_lt_of (k := 1001) (by decide) (Nat.lt_of_le_of_lt k0 (by unfold B0; decide +kernel))) (by decide)
    have big : 1000 ≤ sizeLine := by decide
    refine ⟨fun σ' H' => ∃ (ml : Addr) (us : List V) (o8 : Option V), σ' = [some (.ref b), some (.ref pl), some (.int one), some (.str x), some (.str y), some (.str p), some (.int k), some (.int wy), o8, some (.ref ml)] ∧ Kp b H H' ∧ Bx b H' ∧ H' ml = some (.lst us) ∧ ml ≠ b ∧ 0 < us.length ∧ us.length ≤ 100 ∧ ∀ v ∈ us, Gud K (rmH H' b) v, ?_, ?_⟩
    · refine ⟨_, rfl, rfl, _, rfl, ite2 (fun g => ?_) (fun g => ?_)⟩
      · refine ⟨_, rfl, _, rfl, b, p, rfl, X6, np, fun word H7 k7 X7 NN => ?_⟩
        refine put_step (σ' := [some (.ref b), some (.ref pl), some (.int one), some (.str x), some (.str y), some (.str p), some (.int k), some (.int wy), some (.str word), none]) rfl ?_
        try dsimp only
        have hb7 := X7.at
        obtain ⟨ub, hb7⟩ := hb7
        refine asg_step (lst_step (K := K) (b := b) (n := 4) (menu0 hk nx ny np NN) (by decide) hb7 fun ml us J e f q l g => ?_)
        exact ⟨ml, us, _, rfl, (k26.trans k7).trans (Kp.ex e), X7.ex e, q, X7.ne f, by omega, by omega, g⟩
      · obtain ⟨ub, hb6⟩ := X6.at
        refine ⟨_, rfl, rfl, _, rfl, ite2 (fun g => ?_) (fun g => ⟨_, rfl, rfl, _, rfl, ite2 (fun g => ?_) (fun g => ?_)⟩)⟩
        · refine seq_step (lst_step (K := K) (b := b) (n := 13) (menu1 hk nx ny np) (by decide) hb6 fun m1 us1 J1 e1 f1 q1 l1 g1 => ?_)
          refine put_step (σ' := [some (.ref b), some (.ref pl), some (.int one), some (.str x), some (.str y), some (.str p), some (.int k), some (.int wy), none, some (.ref m1)]) rfl ?_
          try dsimp only
          refine asg_step (cat_step (K := K) (b := b) (n := 6) (m := 13) (menu2 hk nx ny np) rfl q1 l1 g1 (by decide) (e1 _ _ hb6) fun m2 us2 J2 e2 f2 q2 l2 g2 => ?_)
          exact ⟨m2, us2, _, rfl, k26.trans (Kp.ex (e1.trans e2)), X6.ex (e1.trans e2), q2, (X6.ex e1).ne f2, by omega, by omega, g2⟩
        · refine seq_step (lst_step (K := K) (b := b) (n := 6) (menu3 hk nx ny np) (by decide) hb6 fun m1 us1 J1 e1 f1 q1 l1 g1 => ?_)
          refine put_step (σ' := [some (.ref b), some (.ref pl), some (.int one), some (.str x), some (.str y), some (.str p), some (.int k), some (.int wy), none, some (.ref m1)]) rfl ?_
          try dsimp only
          refine seq_step (cat_step (K := K) (b := b) (n := 6) (m := 6) (menu4 hk nx ny np) rfl q1 l1 g1 (by decide) (e1 _ _ hb6) fun m2 us2 J2 e2 f2 q2 l2 g2 => ?_)
          refine put_step (σ' := [some (.ref b), some (.ref pl), some (.int one), some (.str x), some (.str y), some (.str p), some (.int k), some (.int wy), none, some (.ref m2)]) rfl ?_
          try dsimp only
          refine seq_step (cat_step (K := K) (b := b) (n := 6) (m := 12) (menu5 hk nx ny np) rfl q2 l2 g2 (by decide) ((e1.trans e2) _ _ hb6) fun m3 us3 J3 e3 f3 q3 l3 g3 => ?_)
          refine put_step (σ' := [some (.ref b), some (.ref pl), some (.int one), some (.str x), some (.str y), some (.str p), some (.int k), some (.int wy), none, some (.ref m3)]) rfl ?_
          try dsimp only
          refine asg_step (cat_step (K := K) (b := b) (n := 4) (m := 18) (menu6 hk nx ny np) rfl q3 l3 g3 (by decide) (((e1.trans e2).trans e3) _ _ hb6) fun m4 us4 J4 e4 f4 q4 l4 g4 => ?_)
          have ee := ((e1.trans e2).trans e3).trans e4
          exact ⟨m4, us4, _, rfl, k26.trans (Kp.ex ee), X6.ex ee, q4, (X6.ex ((e1.trans e2).trans e3)).ne f4, by omega, by omega, g4⟩
        · refine seq_step (lst_step (K := K) (b := b) (n := 4) (menu7 hk nx ny np) (by decide) hb6 fun m1 us1 J1 e1 f1 q1 l1 g1 => ?_)
          refine put_step (σ' := [some (.ref b), some (.ref pl), some (.int one), some (.str x), some (.str y), some (.str p), some (.int k), some (.int wy), none, some (.ref m1)]) rfl ?_
          try dsimp only
          refine asg_step (cat_step (K := K) (b := b) (n := 4) (m := 4) (menu8 hk nx ny np) rfl q1 l1 g1 (by decide) (e1 _ _ hb6) fun m2 us2 J2 e2 f2 q2 l2 g2 => ?_)
          exact ⟨m2, us2, _, rfl, k26.trans (Kp.ex (e1.trans e2)), X6.ex (e1.trans e2), q2, (X6.ex e1).ne f2, by omega, by omega, g2⟩
    · rintro σ' H7 ⟨ml, us, o8, rfl, k7, X7, hm, nm, u0, u1, gd⟩
      refine ⟨_, rfl, _, rfl, _, rfl, ml, _, rfl, .inl (SqL.of hm), b, _, rfl, X7, by omega, small_size' (by omega), fun e8 H8 k8 X8 v0 v1 => ?_⟩
      have hi8 : e8.toNat < us.length := by omega
      refine ⟨ml, _, e8, _, rfl, rfl, SqL.of (k8.at nm hm), at_lit (n := e8.toNat) (by omega) (List.getElem?_eq_getElem hi8), ?_⟩
      exact fin _ H8 (k7.trans k8) X8 ((gd _ (List.getElem_mem hi8)).ex (rm_kp' X7 k8))
end
end V1
set_option maxRecDepth 100000
set_option maxHeartbeats 8000000
namespace V1
open PySem L2 Evl GP HR SC SetM SetH RQ L2H
def PlainD : Nat → PyData → Prop
  | _, .str _ => True
  | _, .int _ => True
  | n + 1, .tuple ds => ds.length ≤ 1000 ∧ ∀ d ∈ ds, PlainD n d
  | _, _ => False
def spSame (K : PySem.W.Frag) : Nat → Sp
  | 0 => fun _ _ _ _ => False
  | n + 1 => fun vs H Q _ => ∃ x y d, vs = [x, y] ∧ Dp K H x d ∧ Dp K H y d ∧ PlainD n d ∧ ∀ H', Ex H H' → Q (.bl true) H'
section
variable {P : Program} {w : World} {K : PySem.W.Frag} {mg : Str → Option Value} {base : Heap} {a : Ad} {d : Fd} {fL fC : Addr}
theorem ok_law_same (T : TX K mg a) (D : FDS K a d) : ∀ n, FnOk P w K mg base CX0 (n + 1) a.a_law_same d.a_law_same ["actual", "due"] (spSame K n)
  | 0 => by
    refine D.F__law_same.ok sc_law_same (fun vs H Q E h => h.elim) (fun cdv A outer s H vs Q E hr h => h.elim)
  | n + 1 => by
    have G__law_same : FnOk P w K mg base CX0 (n + 1) a.a_law_same d.a_law_same ["actual", "due"] (spSame K n) := ok_law_same T D n
    refine D.F__law_same.ok sc_law_same (fun vs H Q E h => ?_) (fun cdv A outer s H vs Q E hr h => ?_)
    · obtain ⟨x, y, dd, rfl, _⟩ := h
      rfl
    · obtain ⟨x, y, dd, rfl, hx, hy, hp, q⟩ := h
      refine ⟨_, (pss_cons (ps_if (pt_val (pe_callB call_isi (by rfl) T.b_isinstance (by decide +kernel) (pa_cons (pv 1) (pa_cons (pe_bltn (v := .ty "tuple") (by rfl) T.b_tuple (by decide +kernel) rfl) pa_nil)))) (pss_cons (ps_if (PW.pt (pw_or (pt_not (pt_val (pe_callB call_isi (by rfl) T.b_isinstance (by decide +kernel) (pa_cons (pv 0) (pa_cons (pe_bltn (v := .ty "tuple") (by rfl) T.b_tuple (by decide +kernel) rfl) pa_nil))))) (pw_or1 (pt_cmpR op_ne (pe_callB call_len (by rfl) T.b_len (by decide +kernel) (pa_cons (pv 0) pa_nil)) (pe_callB call_len (by rfl) T.b_len (by decide +kernel) (pa_cons (pv 1) pa_nil)) (nomark _))))) (pss_one (ps_ret pe_bl)) pss_nil)
        (pss_cons (ps_for PassesOwn.never rfl (pi_range1 rfl T.b_range (pa_cons (pe_callB call_len (by rfl) T.b_len (by decide +kernel) (pa_cons (pv 1) pa_nil)) pa_nil)) (pg_name (i := 2) sc_law_same.nd rfl (Or.inl rfl)) (pss_one (ps_if (pt_not (pt_val (pe_call G__law_same hr rfl T.f__law_same T.k__law_same D.B__law_same .nil pass0 (pa_cons (pe_ix ix_seq (pv 0) (pv 2) (fun _ _ => rfl)) (pa_cons (pe_ix ix_seq (pv 1) (pv 2) (fun _ _ => rfl)) pa_nil))))) (pss_one (ps_ret pe_bl)) pss_nil)))
        (pss_one (ps_ret pe_bl)))) pss_nil)
        (pss_cons (ps_if (pt_val (pe_callB call_isi (by rfl) T.b_isinstance (by decide +kernel) (pa_cons (pv 1) (pa_cons (pe_bltn (v := .ty "str") (by rfl) T.b_str (by decide +kernel) rfl) pa_nil)))) (pss_one (ps_ret (pe_and (pe_callB call_isi (by rfl) T.b_isinstance (by decide +kernel) (pa_cons (pv 0) (pa_cons (pe_bltn (v := .ty "str") (by rfl) T.b_str (by decide +kernel) rfl) pa_nil))) (pe_one (pe_cmpR op_eq (pv 0) (pv 1) (nomark _)))))) pss_nil)
        (pss_one (ps_ret (pe_and (pe_callB call_isi (by rfl) T.b_isinstance (by decide +kernel) (pa_cons (pv 0) (pa_cons (pe_bltn (v := .ty "int") (by rfl) T.b_int (by decide +kernel) rfl) pa_nil))) (pe_and (pe_not (pe_callB call_isi (by rfl) T.b_isinstance (by decide +kernel) (pa_cons (pv 0) (pa_cons (pe_bltn (v := .ty "bool") (by rfl) T.b_bool (by decide +kernel) rfl) pa_nil)))) (pe_one (pe_cmpR op_eq (pv 0) (pv 1) (nomark _))))))))), ?_⟩
      refine ⟨_, rfl, y, _, _, _, _, rfl, .ty "tuple", dp_ty hy, kit_tuple dd, _, rfl, ?_⟩
      cases dd with
      | str z =>
        cases hx
        cases hy
        refine iteF' rfl ⟨_, rfl, _, _, _, _, _, rfl, .ty "str", dp_ty (.str z), kit_str (.str z), _, rfl, iteT' rfl ⟨_, rfl, _, _, _, _, _, rfl, .ty "str", dp_ty (.str z), kit_str (.str z), _, rfl, iteT' rfl ⟨_, rfl, _, rfl, ?_, ?_⟩⟩⟩
        · rfl
        · have := q H (Ex.refl _)
          rwa [show decide (V.str z = V.str z) = true from decide_eq_true rfl]
      | int k =>
        cases hx
        cases hy
        refine iteF' rfl ⟨_, rfl, _, _, _, _, _, rfl, .ty "str", dp_ty (.int k), kit_str (.int k), _, rfl, iteF' rfl ⟨_, rfl, _, _, _, _, _, rfl, .ty "int", dp_ty (.int k), kit_int (.int k), _, rfl, iteT' rfl ⟨_, rfl, _, _, _, _, _, rfl, .ty "bool", dp_ty (.int k), kit_bool (.int k), _, rfl, _, rfl, iteT' rfl ⟨_, rfl, _, rfl, ?_, ?_⟩⟩⟩⟩
        · rfl
        · have := q H (Ex.refl _)
          rwa [show decide (V.int k = V.int k) = true from decide_eq_true rfl]
      | tuple ds =>
        cases hx with
        | @tup px xs _ hpx hax =>
        cases hy with
        | @tup py ys _ hpy hay =>
        have lx := DpAll.len hax
        have ly := DpAll.len hay
        refine iteT' rfl ⟨_, rfl, _, _, _, _, _, rfl, .ty "tuple", dp_ty (.tup hpx hax), kit_tuple (.tuple ds), _, rfl, ?_⟩
        cases n with
        | zero => exact False.elim hp
        | succ n =>
        obtain ⟨hl, hall⟩ : ds.length ≤ 1000 ∧ ∀ d ∈ ds, PlainD n d := hp
        refine iteF' rfl ⟨_, rfl, _, xs.length, rfl, .inr ⟨xs, hpx, rfl⟩, _, rfl, _, ys.length, rfl, .inr ⟨ys, hpy, rfl⟩, rfl, _, rfl, iteF' ?_ ?_⟩
        · show (!decide (V.int (xs.length : Nat) = V.int (ys.length : Nat))) = false
          rw [lx, ly, decide_eq_true rfl]
          rfl
        refine ⟨_, rfl, _, ys.length, rfl, .inr ⟨ys, hpy, rfl⟩, _, rfl, by omega, by omega, for_range (lo := 0) (n := ((ys.length : Nat) : Int).toNat) (fun i σ H' => (∃ v, σ = [some (.ref px), some (.ref py), v]) ∧ Ex H H') ⟨⟨_, rfl⟩, Ex.refl _⟩ ?_ ?_⟩
        · rintro i σ H1 hi ⟨⟨v, rfl⟩, e⟩
          have hi2 : i < ys.length := by omega
          obtain ⟨u, hu⟩ : ∃ u, xs[i]? = some u := ⟨xs[i]'(by omega), by simp⟩
          obtain ⟨u2, hu2⟩ : ∃ u, ys[i]? = some u := ⟨ys[i]'(by omega), by simp⟩
          obtain ⟨d1, h1, k1⟩ := DpAll.get hax hu
          obtain ⟨d2, h2, k2⟩ := DpAll.get hay hu2
          rw [h1] at h2
          cases h2
          refine ⟨_, rfl, _, rfl, .inr (.inl ⟨px, xs, _, u, rfl, rfl, ex_t e hpx, at_lit (n := i) (by omega) hu, _, rfl, _, rfl, .inr (.inl ⟨py, ys, _, u2, rfl, rfl, ex_t e hpy, at_lit (n := i) (by omega) hu2, ?_⟩)⟩)⟩
          refine ⟨_, _, d1, rfl, Dp.ex e k1, Dp.ex e k2, hall _ (List.mem_of_getElem? h1), fun H2 e2 => ⟨_, rfl, iteF ⟨⟨_, rfl⟩, e.trans e2⟩⟩⟩
        · rintro σ H1 ⟨⟨v, rfl⟩, e⟩
          exact q H1 e
      | _ => cases n <;> exact False.elim hp
end
end V1
set_option maxRecDepth 100000
set_option maxHeartbeats 8000000
namespace V1
open PySem L2 Evl GP HR SC SetM SetH RQ
def Sh (n : Nat) (d : PyData) : Prop := d.canLay0 = true ∧ d.depth ≤ n
theorem Sh.all {n : Nat} : ∀ {ds : List PyData}, (∀ d ∈ ds, Sh n d) → PyData.canLayAll0 ds = true ∧ PyData.depthAll ds ≤ n
  | [], _ => ⟨by simp [PyData.canLayAll0], by simp [PyData.depthAll]⟩
  | d :: ds, h => by
    have a := h d List.mem_cons_self
    have b := Sh.all (ds := ds) fun x hx => h x (List.mem_cons_of_mem _ hx)
    refine ⟨?_, ?_⟩
    · rw [PyData.canLayAll0, a.1, b.1]
      rfl
    · rw [PyData.depthAll]
      exact Nat.max_le.mpr ⟨a.2, b.2⟩
theorem Sh.list {n : Nat} {ds : List PyData} (h : ∀ d ∈ ds, Sh n d) : Sh (n + 1) (.list ds) := ⟨by rw [PyData.canLay0]; exact (Sh.all h).1, by rw [PyData.depth]; exact Nat.succ_le_succ (Sh.all h).2⟩
theorem Sh.tuple {n : Nat} {ds : List PyData} (h : ∀ d ∈ ds, Sh n d) : Sh (n + 1) (.tuple ds) := ⟨by rw [PyData.canLay0]; exact (Sh.all h).1, by rw [PyData.depth]; exact Nat.succ_le_succ (Sh.all h).2⟩
theorem Sh.mono {n m : Nat} {d : PyData} (h : Sh n d) (l : n ≤ m) : Sh m d := ⟨h.1, Nat.le_trans h.2 l⟩
theorem Sh.sh {n : Nat} {d : PyData} (h : Sh n d) (l : n ≤ 64) : PySem.SeqAt.shaped d = true := Bool.and_eq_true_iff.mpr ⟨h.1, decide_eq_true (Nat.le_trans h.2 l)⟩
theorem sh_str {n : Nat} {s : Str} (h : PyData.strOk s = true) : Sh n (.str s) := by simp [Sh, PyData.canLay0, PyData.depth, h]
theorem sh_int {n : Nat} {i : Int} : Sh n (.int i) := by simp [Sh, PyData.canLay0, PyData.depth]
theorem signs_lowX : ∀ c ∈ signs.cps.toList, c < 128 := by decide +kernel
theorem name_ok {z : Str} (h : isNameS z = true) : PyData.strOk z = true := by
  unfold isNameS at h
  simp only [Bool.and_eq_true, List.all_eq_true, decide_eq_true_eq] at h
  unfold PyData.strOk
  rw [← Array.all_toList, List.all_eq_true]
  intro c hc
  have := signs_lowX c (h.2.2 c hc)
  exact decide_eq_true (by omega)
theorem hu65 {k : Nat} {A : Around} (r : Room k A) : A.units + 65 < cLine := by have := r.un; omega
theorem sh_lit {n : Nat} {l : Lit} (h : LitOk l) : Sh (n + 1) (litD l) := by
  cases l with
  | yn b x =>
    exact Sh.tuple fun d hd => by
      simp only [List.mem_cons, List.not_mem_nil, or_false] at hd
      rcases hd with rfl | rfl
      · exact sh_str (by cases b <;> decide +kernel)
      · exact sh_str (name_ok h)
  | most x y k =>
    exact Sh.tuple fun d hd => by
      simp only [List.mem_cons, List.not_mem_nil, or_false] at hd
      rcases hd with rfl | rfl | rfl | rfl
      · exact sh_str (by decide +kernel)
      · exact sh_str (name_ok h.1)
      · exact sh_str (name_ok h.2.1)
      · exact sh_int
def spOnce : Sp := fun vs H Q _ => ∃ (p : Addr) (us : List V) (ls : List Lit), vs = [.ref p] ∧ H p = some (.lst us) ∧ Lits H us ls ∧ (∀ l ∈ ls, LitOk l) ∧ ls.length < 64 ∧
  ∀ (u : Addr) (us' : List V) (ls' : List Lit) H', Ex H H' → H u = none → H' u = some (.tup us') → Lits H' us' ls' → (∀ l, l ∈ ls' ↔ l ∈ ls) → AscL ls' → Q (.ref u) H'
theorem yn_injB : ∀ b c : Bool, decide (ynS b = ynS c) = decide (b = c) := by decide +kernel
theorem yn_most : ∀ b : Bool, decide (ynS b = "most") = false ∧ decide (("most" : Str) = ynS b) = false := by decide +kernel
theorem eqv_lit (a b : Lit) : PyData.eqv (litD a) (litD b) = decide (a = b) := by
  cases a with
  | yn f x =>
    cases b with
    | yn g y =>
      show PyData.eqv (.tuple [.str (ynS f), .str x]) (.tuple [.str (ynS g), .str y]) = _
      simp only [PyData.eqv, PyData.eqvAll, Bool.and_true]
      have := yn_injB f g
      by_cases h1 : f = g <;> by_cases h2 : x = y <;> simp [h1, h2] at this ⊢
      exact this
    | most y z k =>
      show PyData.eqv (.tuple [.str (ynS f), .str x]) (.tuple [.str "most", .str y, .str z, .int k]) = _
      simp [PyData.eqv, PyData.eqvAll]
  | most x y k =>
    cases b with
    | yn g z =>
      show PyData.eqv (.tuple [.str "most", .str x, .str y, .int k]) (.tuple [.str (ynS g), .str z]) = _
      simp [PyData.eqv, PyData.eqvAll]
    | most z w m =>
      show PyData.eqv (.tuple [.str "most", .str x, .str y, .int k]) (.tuple [.str "most", .str z, .str w, .int m]) = _
      simp only [PyData.eqv, PyData.eqvAll, Bool.and_true]
      by_cases h1 : x = z <;> by_cases h2 : y = w <;> by_cases h3 : k = m <;> simp [h1, h2, h3]
theorem lit_any (l : Lit) : ∀ ls : List Lit, (ls.map litD).any (fun z => PyData.eqv z (litD l)) = decide (l ∈ ls)
  | [] => rfl
  | m :: ls => by
    rw [List.map_cons, List.any_cons, eqv_lit, lit_any l ls]
    by_cases h : m = l
    · subst h
      simp
    · have h2 : l ≠ m := fun e => h e.symm
      simp [h, h2]
theorem zip_fst : ∀ {us : List V} {ds : List PyData}, us.length = ds.length → (us.zip ds).map Prod.fst = us
  | [], [], _ => rfl
  | [], _ :: _, h => by simp at h
  | _ :: _, [], h => by simp at h
  | u :: us, d :: ds, h => by
    show u :: (us.zip ds).map Prod.fst = _
    rw [zip_fst (by simpa using h)]
theorem zip_snd : ∀ {us : List V} {ds : List PyData}, us.length = ds.length → (us.zip ds).map Prod.snd = ds
  | [], [], _ => rfl
  | [], _ :: _, h => by simp at h
  | _ :: _, [], h => by simp at h
  | u :: us, d :: ds, h => by
    show d :: (us.zip ds).map Prod.snd = _
    rw [zip_snd (by simpa using h)]
section
variable {P : Program} {w : World} {K : PySem.W.Frag} {mg : Str → Option Value} {base : Heap} {a : Ad} {d : Fd} {fL fC : Addr}
theorem ok_law_once (T : TX K mg a) (D : FDS K a d) : FnOk P w K mg base CX0 1 a.a_law_once d.a_law_once ["rows"] spOnce := by
  refine D.F__law_once.ok sc_law_once (fun vs H Q E h => ?_) (fun cdv A outer s H vs Q E hr h => ?_)
  · obtain ⟨p, us, ls, rfl, _⟩ := h
    rfl
  · obtain ⟨p, us, ls, rfl, hp, L, ok, few, fin⟩ := h
    refine ⟨_, (pss_cons (ps_set (i := 1) sc_law_once.nd rfl (Or.inl rfl) (pe_lst pa_nil))
        (pss_cons (ps_for PassesOwn.never rfl (pi_list (pe_callB (SD.cr_sortedD hr.units) (by rfl) T.b_sorted (by decide +kernel) (pa_cons (pv 0) pa_nil))) (pg_name (i := 2) sc_law_once.nd rfl (Or.inl rfl)) (pss_one (ps_if (pt_cmpR (op_notInD (hu65 hr)) (pv 2) (pv 1) rfl) (pss_one (ps_expr (pe_bm PySem.F.plainAttrs_list PySem.F.slot_list_append PySem.F.type_list_append mt_append (pv 1) (pa_cons (pv 2) pa_nil)))) pss_nil)))
        (pss_one (ps_ret (pe_callTy call_tuple_of (by rfl) T.b_tuple (by decide +kernel) (pa_cons (pv 1) pa_nil)))))), ?_⟩
    have big : 1000 ≤ sizeLine := by decide
    refine ⟨(by show 0 ≤ sizeLine; decide), fun F hF => ?_⟩
    have x1 := Ex.new (o := .lst []) hF
    have hp1 := x1 _ _ hp
    have L1 := L.ex x1
    have hF1 : upd H F (.lst []) F = some (.lst []) := upd_same
    generalize upd H F (.lst []) = H1 at *
    have lz : us.length = (ls.map litD).length := by rw [List.length_map, L.len]
    generalize hbs : us.zip (ls.map litD) = bs
    have b1 : bs.map Prod.fst = us := by rw [← hbs]; exact zip_fst lz
    have b2 : bs.map Prod.snd = ls.map litD := by rw [← hbs]; exact zip_snd lz
    have each : ∀ q ∈ bs, ∃ t l, q.1 = .ref t ∧ q.2 = litD l ∧ H1 t = some (.tup (litV l)) ∧ l ∈ ls := fun q hq => by
      obtain ⟨i, hi⟩ := List.mem_iff_getElem?.mp hq
      have e1 : us[i]? = some q.1 := by rw [← b1, List.getElem?_map, hi]; rfl
      have e2 : (ls.map litD)[i]? = some q.2 := by rw [← b2, List.getElem?_map, hi]; rfl
      obtain ⟨t, l, h1, h2, h3⟩ := L1.get e1
      rw [List.getElem?_map, h2] at e2
      exact ⟨t, l, h1, (Option.some.inj e2).symm, h3, List.mem_of_getElem? h2⟩
    refine ⟨_, rfl, p, bs, rfl, SqL.of (by rw [b1]; exact hp1), fun q hq => ?_, ?_, ?_, fun R hR => ?_⟩
    · obtain ⟨t, l, e1, e2, ht, _⟩ := each q hq
      rw [e1, e2]
      exact ⟨lit_dp (SqT.of ht), Nat.le_trans (lit_depth l) (by decide)⟩
    · rw [b2]
      intro x hx y hy
      obtain ⟨l, _, rfl⟩ := List.mem_map.mp hx
      obtain ⟨m, _, rfl⟩ := List.mem_map.mp hy
      exact lit_alike l m
    · rw [b2]
      refine .inl fun x hx => ?_
      obtain ⟨l, _, rfl⟩ := List.mem_map.mp hx
      cases l <;> exact ⟨_, _, rfl⟩
    · have x2 := Ex.new (o := .lst ((SD.sortedD bs).map Prod.fst)) hR
      have pm := SD.sorted_perm bs
      have so0 := sortedD_pw bs
      have nRF : R ≠ F := fun e => by rw [e, hF1] at hR; cases hR
      have hF2 := x2 _ _ hF1
      generalize SD.sortedD bs = cs at *
      have each2 : ∀ b ∈ cs, ∃ t l, b.1 = .ref t ∧ b.2 = litD l ∧ H1 t = some (.tup (litV l)) ∧ l ∈ ls := fun b hb => each b (pm.mem_iff.mp hb)
      have LL : Lits H1 (cs.map Prod.fst) (cs.map fun b => litOfD b.2) := Lits.of_each fun b hb => by
        obtain ⟨t, l, e1, e2, h, _⟩ := each2 b hb
        exact ⟨t, l, e1, e2, h⟩
      have so : (cs.map fun b => litOfD b.2).Pairwise fun a b => PySem.W.dataLt (litD b) (litD a) = false := by
        refine List.pairwise_map.mpr (so0.imp_of_mem fun {p q} hp hq z => ?_)
        obtain ⟨_, l, _, e1, _⟩ := each2 p hp
        obtain ⟨_, m, _, e2, _⟩ := each2 q hq
        rw [e1, e2, litOf, litOf, ← e1, ← e2]
        exact z
      have mem : ∀ l, l ∈ (cs.map fun b => litOfD b.2) ↔ l ∈ ls := fun l => by
        refine ⟨fun h => ?_, fun h => ?_⟩
        · obtain ⟨b, hb, rfl⟩ := List.mem_map.mp h
          obtain ⟨t, l, e1, e2, _, hl⟩ := each2 b hb
          rw [e2, litOf]
          exact hl
        · have : litD l ∈ bs.map Prod.snd := by rw [b2]; exact List.mem_map_of_mem h
          obtain ⟨q, hq, e⟩ := List.mem_map.mp this
          exact List.mem_map.mpr ⟨q, pm.mem_iff.mpr hq, by rw [e, litOf]⟩
      have lms : cs.length = ls.length := by rw [pm.length_eq, ← List.length_map (f := Prod.snd), b2, List.length_map]
      generalize hms : (cs.map fun b => litOfD b.2) = ms at *
      have lms2 : ms.length = ls.length := by rw [← hms, List.length_map, lms]
      generalize hvs : cs.map Prod.fst = vs at *
      have lvs : vs.length = ms.length := LL.len
      have hR2 : upd H1 R (.lst vs) R = some (.lst vs) := upd_same
      have LL2 := LL.ex x2
      have x12 := x1.trans x2
      generalize upd H1 R (.lst vs) = H2 at *
      refine ⟨R, rfl, ⟨_, SqL.of hR2⟩, for_it walk_list (fun i σ H' => ∃ fs fl o, σ = [some (.ref p), some (.ref F), o] ∧ Ex H H' ∧ H' R = some (.lst vs) ∧ Lits H' vs ms ∧ H' F = some (.lst fs) ∧ Lits H' fs fl ∧ fl.Sublist (ms.take i) ∧ fl.Nodup ∧ (∀ l, l ∈ fl ↔ l ∈ ms.take i)) ⟨[], [], none, rfl, x12, hR2, LL2, hF2, Lits.nil, List.Sublist.refl _, List.nodup_nil, fun _ => Iff.rfl⟩ (fun i σ H' _ ⟨_, _, _, _, _, h, _⟩ => SqL.of h) ?_ ?_⟩
      · rintro i x σ H3 H3' hi ⟨fs, fl, o, rfl, e3, hR3, L3, hF3, Lf, sub, nd, mm⟩ ⟨rfl, hx⟩
        obtain ⟨t, l, rfl, hl, ht⟩ := L3.get hx
        have okl : ∀ l ∈ ms, LitOk l := fun l hl => ok l ((mem l).mp hl)
        have okf : ∀ l ∈ fl, LitOk l := fun l hl => okl l (List.mem_of_mem_take ((mm l).mp hl))
        have tk : ms.take (i + 1) = ms.take i ++ [l] := by rw [List.take_add_one, hl]; rfl
        refine ⟨_, rfl, _, rfl, litD l, fl.map litD, lit_dp (SqT.of ht), .lst (SqL.of hF3) Lf.dp, (sh_lit (n := 3) (okl l (List.mem_of_getElem? hl))).sh (by decide), (Sh.list (n := 4) fun d hd => by
          obtain ⟨m, hm, rfl⟩ := List.mem_map.mp hd
          exact sh_lit (okf m hm)).sh (by decide), _, rfl, ?_⟩
        rw [lit_any]
        by_cases g : l ∈ fl
        · refine iteF' (by simp [g]) ⟨fs, fl, _, rfl, e3, hR3, L3, hF3, Lf, by rw [tk]; exact sub.trans (List.sublist_append_left _ _), nd, fun m => ?_⟩
          rw [tk, List.mem_append, List.mem_singleton, mm m]
          refine ⟨.inl, fun h => h.elim id fun e => ?_⟩
          rw [e]
          exact (mm l).mp g
        · have lf : fs.length < 64 := by
            have := sub.length_le
            rw [List.length_take] at this
            rw [Lf.len]
            omega
          have big2 : 64 ≤ sizeLine := by decide
          refine iteT' (by simp [g]) ⟨_, rfl, .inl ⟨rfl, _, SqL.of hF3⟩, _, rfl, F, _, _, rfl, rfl, hF3, by omega, fs ++ [.ref t], fl ++ [l], _, rfl, Ex.mut e3 hF, by rw [upd_ne nRF]; exact hR3, L3.put hF3, upd_same, (Lf.put hF3).snoc (tup_put hF3 ht), by rw [tk]; exact List.Sublist.append sub (List.Sublist.refl _), ?_, fun m => ?_⟩
          · refine List.nodup_append.mpr ⟨nd, List.nodup_cons.mpr ⟨List.not_mem_nil, List.nodup_nil⟩, fun a ha b hb e => ?_⟩
            rw [List.mem_singleton.mp hb] at e
            exact g (e ▸ ha)
          · rw [tk, List.mem_append, List.mem_append, mm m]
      · rintro σ H3 ⟨fs, fl, o, rfl, e3, hR3, L3, hF3, Lf, sub, nd, mm⟩
        rw [lvs, List.take_length] at sub mm
        refine ⟨_, rfl, F, fs, rfl, .inl ⟨SqL.of hF3, fun u hu => ?_⟩⟩
        exact fin u fs fl _ (e3.trans (Ex.new hu)) (fresh_back e3 hu) upd_same (Lf.ex (Ex.new hu)) (fun l => (mm l).trans (mem l)) (asc_lits (so.sublist sub) nd)
end
end V1
set_option maxRecDepth 100000
set_option maxHeartbeats 8000000
namespace V1
open PySem L2 Evl GP HR SC SetM SetH L2H EXV
def Ad.es (a : Ad) : List Addr := [a.e0, a.e1, a.e2, a.e3, a.e4, a.e5, a.e6, a.e7, a.e8, a.e9, a.e10, a.e11, a.e12, a.e13, a.e14, a.e15, a.e16, a.e17, a.e18, a.e19, a.e20, a.e21]
def Ad.eA (a : Ad) (k : Nat) : Addr := a.es.getD k a.cR
/-- the k-th own error -/
structure EK (K : PySem.W.Frag) (a : Ad) (k : Nat) : Prop where
  xc : ExcC K (a.eA k)
  kR : PySem.W.kitOne K (.ref (a.eA k)) (.ref a.cR) = some true
  kV : PySem.W.kitOne K (.ref (a.eA k)) (.type "ValueError") = some true
  kk : ∀ j < 22, PySem.W.kitOne K (.ref (a.eA k)) (.ref (a.eA j)) = some (decide (k = j))
def EN (K : PySem.W.Frag) (a : Ad) : Prop := ∀ k < 22, EK K a k
def spClassesV (K : PySem.W.Frag) (a : Ad) : Sp := fun vs H Q _ => ∃ (p : Addr) (od : Option Addr) (k : Nat), vs = [.ref p] ∧ k < 22 ∧ H p = some (ExV (.ref (a.eA k)) od p) ∧ (∀ dd, od = some dd → ∃ fs, H dd = some (.xd fs)) ∧ ∀ c H', Ex H H' → H c = none → H' c = some (.lst [.int (k : Nat)]) → Q (.ref c) H'
def spClassesP (K : PySem.W.Frag) (a : Ad) : Addr × Obj → Sp := fun p vs H Q _ => ∃ dd fs k, k < 22 ∧ Zc (.ref (a.eA k)) (some dd) p.2 ∧ (∃ us, p.2.data = .fields us) ∧ H dd = some (.xd fs) ∧ vs = [.ref p.1] ∧ ∀ c H', Ex H H' → H c = none → H' c = some (.lst [.int (k : Nat)]) → Q (.ref c) H'
def fl (k n : Nat) : List V := (List.range n).map fun j => V.bl (decide (k = j))
theorem fl_succ {k n : Nat} : fl k (n + 1) = fl k n ++ [.bl (decide (k = n))] := by
  unfold fl
  rw [List.range_succ, List.map_append]
  congr 2
theorem fl_len {k n : Nat} : (fl k n).length = n := by simp [fl]
section
variable {a : Ad} {k n : Nat} {p f : Addr} {H1 : Hp} {R : List V → Hp → VK → Prop} {o2 : Option V} {rest : TS} {D : Ends}
/-- what isinstance of the error at p says, from the heap H on -/
def Isi (R : List V → Hp → VK → Prop) (a : Ad) (k : Nat) (p : Addr) (H : Hp) : Prop := ∀ j < 22, ∀ H', Ex H H' → ∀ Q : VK, Q (.bl (decide (k = j))) H' → R [.ref p, .ref (a.eA j)] H' Q
theorem Isi.ex {H H' : Hp} (I : Isi R a k p H) (e : Ex H H') : Isi R a k p H' := fun j hj H2 e2 Q q => I j hj H2 (e.trans e2) Q q
def iR (R : List V → Hp → VK → Prop) (a : Ad) (j : Nat) : TE := tCB R (tCons (tVar 0) (tCons (tC (.ref (a.eA j))) tNil))
theorem first3 (I : Isi R a k p H1) (q : ∀ f' H', Ex H1 H' → H' f' = some (.lst (fl k 3)) → rest D [some (.ref p), some (.ref f'), o2] H') :
    tSeq (tAsg (tLst (tCons (iR R a 0) (tCons (iR R a 1) (tCons (iR R a 2) tNil)))) (gName 1)) rest D [some (.ref p), none, o2] H1 := by
  refine ⟨_, rfl, I 0 (by decide) _ (Ex.refl _) _ ⟨_, rfl, I 1 (by decide) _ (Ex.refl _) _ ⟨_, rfl, I 2 (by decide) _ (Ex.refl _) _ ⟨by show 3 ≤ sizeLine; decide, fun f' hf' => q f' _ (Ex.new hf') upd_same⟩⟩⟩⟩
theorem grow3 (I : Isi R a k p H1) (hn : n + 3 ≤ 22) (hf : H1 f = some (.lst (fl k n))) (q : ∀ f' H', Ex H1 H' → H' f' = some (.lst (fl k (n + 3))) → rest D [some (.ref p), some (.ref f'), o2] H') :
    tSeq (tAsg (tOp rCat (tVar 1) (tLst (tCons (iR R a n) (tCons (iR R a (n + 1)) (tCons (iR R a (n + 2)) tNil))))) (gName 1)) rest D [some (.ref p), some (.ref f), o2] H1 := by
  refine ⟨_, rfl, _, rfl, I n (by omega) _ (Ex.refl _) _ ⟨_, rfl, I (n + 1) (by omega) _ (Ex.refl _) _ ⟨_, rfl, I (n + 2) (by omega) _ (Ex.refl _) _ ⟨by show 3 ≤ sizeLine; decide, fun g hg => ⟨f, g, _, _, rfl, rfl, Ex.new hg _ _ hf, upd_same, ?_, fun f' hf' => q f' _ ((Ex.new hg).trans (Ex.new hf')) ?_⟩⟩⟩⟩⟩
  · rw [fl_len]
    exact Nat.le_trans (show n + 3 ≤ 22 by omega) (by decide)
  · rw [upd_same, fl_succ, fl_succ, fl_succ]
    simp
theorem grow1 (I : Isi R a k p H1) (hn : n + 1 ≤ 22) (hf : H1 f = some (.lst (fl k n))) (q : ∀ f' H', Ex H1 H' → H' f' = some (.lst (fl k (n + 1))) → rest D [some (.ref p), some (.ref f'), o2] H') :
    tSeq (tAsg (tOp rCat (tVar 1) (tLst (tCons (iR R a n) tNil))) (gName 1)) rest D [some (.ref p), some (.ref f), o2] H1 := by
  refine ⟨_, rfl, _, rfl, I n (by omega) _ (Ex.refl _) _ ⟨by show 1 ≤ sizeLine; decide, fun g hg => ⟨f, g, _, _, rfl, rfl, Ex.new hg _ _ hf, upd_same, ?_, fun f' hf' => q f' _ ((Ex.new hg).trans (Ex.new hf')) ?_⟩⟩⟩
  · rw [fl_len]
    exact Nat.le_trans (show n + 1 ≤ 22 by omega) (by decide)
  · rw [upd_same, fl_succ]
/-- the whole body -/
theorem classes_run {K : PySem.W.Frag} {Q : VK} (I : Isi R a k p H1) (k22 : k < 22) (iR1 : ∀ H', Ex H1 H' → ∀ Q : VK, Q (.bl true) H' → R [.ref p, .ref a.cR] H' Q) (iV1 : ∀ H', Ex H1 H' → ∀ Q : VK, Q (.bl true) H' → R [.ref p, .ty "ValueError"] H' Q)
    (hD : D.rt = Q) (q : ∀ c H', Ex H1 H' → H1 c = none → H' c = some (.lst [.int (k : Nat)]) → Q (.ref c) H') :
    tSeq (tAsg (tLst (tCons (iR R a 0) (tCons (iR R a 1) (tCons (iR R a 2) tNil)))) (gName 1))
    (tSeq (tAsg (tOp rCat (tVar 1) (tLst (tCons (iR R a 3) (tCons (iR R a 4) (tCons (iR R a 5) tNil))))) (gName 1))
    (tSeq (tAsg (tOp rCat (tVar 1) (tLst (tCons (iR R a 6) (tCons (iR R a 7) (tCons (iR R a 8) tNil))))) (gName 1))
    (tSeq (tAsg (tOp rCat (tVar 1) (tLst (tCons (iR R a 9) (tCons (iR R a 10) (tCons (iR R a 11) tNil))))) (gName 1))
    (tSeq (tAsg (tOp rCat (tVar 1) (tLst (tCons (iR R a 12) (tCons (iR R a 13) (tCons (iR R a 14) tNil))))) (gName 1))
    (tSeq (tAsg (tOp rCat (tVar 1) (tLst (tCons (iR R a 15) (tCons (iR R a 16) (tCons (iR R a 17) tNil))))) (gName 1))
    (tSeq (tAsg (tOp rCat (tVar 1) (tLst (tCons (iR R a 18) (tCons (iR R a 19) (tCons (iR R a 20) tNil))))) (gName 1))
    (tSeq (tAsg (tOp rCat (tVar 1) (tLst (tCons (iR R a 21) tNil))) (gName 1))
    (tSeq (tIfS (tOr (tNot (tB (tCB R (tCons (tVar 0) (tCons (tC (.ref a.cR)) tNil))))) (tNot (tB (tCB R (tCons (tVar 0) (tCons (tC (.ty "ValueError")) tNil)))))) (tRet (tLst tNil)) tNext)
      (tRet (tLc (iRng1 (tCons (tC (.int 22)) tNil)) (gName 2) (tB (tOp (rIxL K) (tVar 1) (tVar 2))) (tVar 2) [2])))))))))) D [some (.ref p), none, none] H1 := by
  refine first3 I fun f1 H2 e1 h1 => ?_
  refine grow3 (n := 3) (I.ex e1) (by decide) h1 fun f2 H3 e2 h2 => ?_
  have e02 := e1.trans e2
  refine grow3 (n := 6) (I.ex e02) (by decide) h2 fun f3 H4 e3 h3 => ?_
  have e03 := e02.trans e3
  refine grow3 (n := 9) (I.ex e03) (by decide) h3 fun f4 H5 e4 h4 => ?_
  have e04 := e03.trans e4
  refine grow3 (n := 12) (I.ex e04) (by decide) h4 fun f5 H6 e5 h5 => ?_
  have e05 := e04.trans e5
  refine grow3 (n := 15) (I.ex e05) (by decide) h5 fun f6 H7 e6 h6 => ?_
  have e06 := e05.trans e6
  refine grow3 (n := 18) (I.ex e06) (by decide) h6 fun f7 H8 e7 h7 => ?_
  have e07 := e06.trans e7
  refine grow1 (n := 21) (I.ex e07) (by decide) h7 fun f8 H9 e8 h8 => ?_
  have e08 := e07.trans e8
  refine ⟨_, rfl, iR1 _ e08 _ ⟨true, rfl, ⟨_, rfl, iV1 _ e08 _ ⟨true, rfl, iteF' rfl ?_⟩⟩⟩⟩
  refine ⟨22, rfl, by decide, by decide, fun D1 hD1 => lc_it (H1 := H9) (walk_range (lo := 0) (n := 22)) (fun i H' => Ex H9 H' ∧ H' D1 = some (.lst (if k < i then [.int (k : Nat)] else []))) ⟨Ex.new hD1, upd_same⟩ (fun _ _ _ _ => trivial) ?_ (fun H' h => ?_)⟩
  · rintro i x H4 H4' hi ⟨e4, hl⟩ ⟨rfl, rfl⟩
    unfold gName
    dsimp only
    have hi22 : i < 22 := hi
    refine ⟨rfl, _, rfl, _, rfl, f8, _, _, .bl (decide (k = i)), rfl, rfl, SqL.of (e4 _ _ h8), at_lit (n := i) (by omega) ?_, _, rfl, ?_⟩
    · rw [show fl k (21 + 1) = fl k 22 from rfl, fl, List.getElem?_map, List.getElem?_range hi22]
      rfl
    · by_cases g : k = i
      · subst g
        refine iteT' (decide_eq_true rfl) ⟨_, rfl, [], ?_, by decide, Ex.mut e4 hD1, ?_⟩
        · rw [hl, if_neg (Nat.lt_irrefl _)]
        · rw [upd_same, if_pos (Nat.lt_succ_self _), show (0 : Int) + (k : Nat) = (k : Nat) by omega]
          rfl
      · refine iteF' (decide_eq_false g) ⟨e4, ?_⟩
        rw [hl]
        by_cases g2 : k < i
        · rw [if_pos g2, if_pos (by omega)]
        · rw [if_neg g2, if_neg (by omega)]
  · obtain ⟨e9, hl⟩ := h
    rw [if_pos k22] at hl
    rw [hD]
    exact q D1 H' (e08.trans e9) (fresh_back e08 hD1) hl
end
section
variable {P : Program} {w : World} {K : PySem.W.Frag} {mg : Str → Option Value} {base : Heap} {a : Ad} {d : Fd}
theorem ok_law_classes (T : TX K mg a) (D : FDS K a d) (C : EN K a) : FnOk P w K mg base CX0 1 a.a_law_classes d.a_law_classes ["e"] (spClassesV K a) := by
  refine D.F__law_classes.ok sc_law_classes (fun vs H Q E h => ?_) (fun cdv A outer s H vs Q E hr h => ?_)
  · obtain ⟨p, od, k, rfl, _⟩ := h
    rfl
  · obtain ⟨p, od, k, rfl, k22, hp, hod, q⟩ := h
    refine ⟨_, (pss_cons (ps_set (i := 1) sc_law_classes.nd rfl (Or.inr rfl) (pe_lst (pa_cons (pe_callB (EXV.call_isV (K := K)) (by rfl) T.b_isinstance (by decide +kernel) (pa_cons (pv 0) (pa_cons (pe_glob (v := .ref a.e0) rfl T.c_InvalidName rfl) pa_nil))) (pa_cons (pe_callB (EXV.call_isV (K := K)) (by rfl) T.b_isinstance (by decide +kernel) (pa_cons (pv 0) (pa_cons (pe_glob (v := .ref a.e1) rfl T.c_InvalidLiteral rfl) pa_nil))) (pa_cons (pe_callB (EXV.call_isV (K := K)) (by rfl) T.b_isinstance (by decide +kernel) (pa_cons (pv 0) (pa_cons (pe_glob (v := .ref a.e2) rfl T.c_InvalidClause rfl) pa_nil))) pa_nil)))))
        (pss_cons (ps_set (i := 1) sc_law_classes.nd rfl (Or.inr rfl) (pe_op op_cat (pv 1) (pe_lst (pa_cons (pe_callB (EXV.call_isV (K := K)) (by rfl) T.b_isinstance (by decide +kernel) (pa_cons (pv 0) (pa_cons (pe_glob (v := .ref a.e3) rfl T.c_InvalidText rfl) pa_nil))) (pa_cons (pe_callB (EXV.call_isV (K := K)) (by rfl) T.b_isinstance (by decide +kernel) (pa_cons (pv 0) (pa_cons (pe_glob (v := .ref a.e4) rfl T.c_UnknownMoment rfl) pa_nil))) (pa_cons (pe_callB (EXV.call_isV (K := K)) (by rfl) T.b_isinstance (by decide +kernel) (pa_cons (pv 0) (pa_cons (pe_glob (v := .ref a.e5) rfl T.c_InvalidChain rfl) pa_nil))) pa_nil))))))
        (pss_cons (ps_set (i := 1) sc_law_classes.nd rfl (Or.inr rfl) (pe_op op_cat (pv 1) (pe_lst (pa_cons (pe_callB (EXV.call_isV (K := K)) (by rfl) T.b_isinstance (by decide +kernel) (pa_cons (pv 0) (pa_cons (pe_glob (v := .ref a.e6) rfl T.c_Inconsistent rfl) pa_nil))) (pa_cons (pe_callB (EXV.call_isV (K := K)) (by rfl) T.b_isinstance (by decide +kernel) (pa_cons (pv 0) (pa_cons (pe_glob (v := .ref a.e7) rfl T.c_InvalidPivot rfl) pa_nil))) (pa_cons (pe_callB (EXV.call_isV (K := K)) (by rfl) T.b_isinstance (by decide +kernel) (pa_cons (pv 0) (pa_cons (pe_glob (v := .ref a.e8) rfl T.c_WrongStep rfl) pa_nil))) pa_nil))))))
        (pss_cons (ps_set (i := 1) sc_law_classes.nd rfl (Or.inr rfl) (pe_op op_cat (pv 1) (pe_lst (pa_cons (pe_callB (EXV.call_isV (K := K)) (by rfl) T.b_isinstance (by decide +kernel) (pa_cons (pv 0) (pa_cons (pe_glob (v := .ref a.e9) rfl T.c_UnknownLiteral rfl) pa_nil))) (pa_cons (pe_callB (EXV.call_isV (K := K)) (by rfl) T.b_isinstance (by decide +kernel) (pa_cons (pv 0) (pa_cons (pe_glob (v := .ref a.e10) rfl T.c_UnknownNumber rfl) pa_nil))) (pa_cons (pe_callB (EXV.call_isV (K := K)) (by rfl) T.b_isinstance (by decide +kernel) (pa_cons (pv 0) (pa_cons (pe_glob (v := .ref a.e11) rfl T.c_NotAllowed rfl) pa_nil))) pa_nil))))))
        (pss_cons (ps_set (i := 1) sc_law_classes.nd rfl (Or.inr rfl) (pe_op op_cat (pv 1) (pe_lst (pa_cons (pe_callB (EXV.call_isV (K := K)) (by rfl) T.b_isinstance (by decide +kernel) (pa_cons (pv 0) (pa_cons (pe_glob (v := .ref a.e12) rfl T.c_NoPaper rfl) pa_nil))) (pa_cons (pe_callB (EXV.call_isV (K := K)) (by rfl) T.b_isinstance (by decide +kernel) (pa_cons (pv 0) (pa_cons (pe_glob (v := .ref a.e13) rfl T.c_InvalidLimit rfl) pa_nil))) (pa_cons (pe_callB (EXV.call_isV (K := K)) (by rfl) T.b_isinstance (by decide +kernel) (pa_cons (pv 0) (pa_cons (pe_glob (v := .ref a.e14) rfl T.c_InvalidWeights rfl) pa_nil))) pa_nil))))))
        (pss_cons (ps_set (i := 1) sc_law_classes.nd rfl (Or.inr rfl) (pe_op op_cat (pv 1) (pe_lst (pa_cons (pe_callB (EXV.call_isV (K := K)) (by rfl) T.b_isinstance (by decide +kernel) (pa_cons (pv 0) (pa_cons (pe_glob (v := .ref a.e15) rfl T.c_HasAnswer rfl) pa_nil))) (pa_cons (pe_callB (EXV.call_isV (K := K)) (by rfl) T.b_isinstance (by decide +kernel) (pa_cons (pv 0) (pa_cons (pe_glob (v := .ref a.e16) rfl T.c_NoAnswer rfl) pa_nil))) (pa_cons (pe_callB (EXV.call_isV (K := K)) (by rfl) T.b_isinstance (by decide +kernel) (pa_cons (pv 0) (pa_cons (pe_glob (v := .ref a.e17) rfl T.c_NothingPushed rfl) pa_nil))) pa_nil))))))
        (pss_cons (ps_set (i := 1) sc_law_classes.nd rfl (Or.inr rfl) (pe_op op_cat (pv 1) (pe_lst (pa_cons (pe_callB (EXV.call_isV (K := K)) (by rfl) T.b_isinstance (by decide +kernel) (pa_cons (pv 0) (pa_cons (pe_glob (v := .ref a.e18) rfl T.c_NothingToUndo rfl) pa_nil))) (pa_cons (pe_callB (EXV.call_isV (K := K)) (by rfl) T.b_isinstance (by decide +kernel) (pa_cons (pv 0) (pa_cons (pe_glob (v := .ref a.e19) rfl T.c_NothingToRedo rfl) pa_nil))) (pa_cons (pe_callB (EXV.call_isV (K := K)) (by rfl) T.b_isinstance (by decide +kernel) (pa_cons (pv 0) (pa_cons (pe_glob (v := .ref a.e20) rfl T.c_NotKept rfl) pa_nil))) pa_nil))))))
        (pss_cons (ps_set (i := 1) sc_law_classes.nd rfl (Or.inr rfl) (pe_op op_cat (pv 1) (pe_lst (pa_cons (pe_callB (EXV.call_isV (K := K)) (by rfl) T.b_isinstance (by decide +kernel) (pa_cons (pv 0) (pa_cons (pe_glob (v := .ref a.e21) rfl T.c_InvalidRow rfl) pa_nil))) pa_nil))))
        (pss_cons (ps_if (PW.pt (pw_or (pt_not (pt_val (pe_callB (EXV.call_isV (K := K)) (by rfl) T.b_isinstance (by decide +kernel) (pa_cons (pv 0) (pa_cons (pe_glob (v := .ref a.cR) rfl T.c_RingclauseError rfl) pa_nil))))) (pw_or1 (pt_not (pt_val (pe_callB (EXV.call_isV (K := K)) (by rfl) T.b_isinstance (by decide +kernel) (pa_cons (pv 0) (pa_cons (pe_bltn (v := .ty "ValueError") (by rfl) T.b_ValueError (by decide +kernel) rfl) pa_nil)))))))) (pss_one (ps_ret (pe_lst pa_nil))) pss_nil)
        (pss_one (ps_ret (pe_lc (own := [("k", 2)]) (g := gName 2) rfl sc_law_classes.nd (pi_range1 rfl T.b_range (pa_cons pe_int pa_nil)) (blkOk_by (N := ["e", "first", "k"]) (sc := defScope s_law_classes) (by decide +kernel)) (fun _ _ _ _ _ => (pg_name (i := 2) sc_law_classes.nd rfl (Or.inl rfl))) (fun _ _ _ _ _ => (pts_one (pt_val (pe_ix (ix_listK (K := K)) (pv 1) (pv 2) (fun _ _ => rfl))))) (fun _ _ _ _ _ => (pv 2)))))))))))))), ?_⟩
    have R : ∀ c cv b, ClsV c cv → PySem.W.kitOne K (.ref (a.eA k)) cv = some b → ∀ H', Ex H H' → ∀ Q : VK, Q (.bl b) H' → rIsV K [.ref p, c] H' Q := fun c cv b hc hk H' e Q q =>
      ⟨p, _, od, c, cv, b, e _ _ hp, fun dd hd => let ⟨fs, g⟩ := hod dd hd; ⟨fs, e _ _ g⟩, (C k k22).xc, rfl, hc, hk, q⟩
    exact classes_run (fun j hj H' e Q q => R _ _ _ (.own (a.eA j)) ((C k k22).kk j hj) H' e Q q) k22 (fun H' e Q q => R _ _ _ (.own a.cR) (C k k22).kR H' e Q q) (fun H' e Q q => R _ _ _ (.ty "ValueError") (C k k22).kV H' e Q q) rfl q
theorem ok_law_classesP (T : TX K mg a) (D : FDS K a d) (C : EN K a) : NX.FnP P w K mg base 1 a.a_law_classes d.a_law_classes ["e"] (spClassesP K a) := by
  refine NX.okP D.F__law_classes sc_law_classes (fun p vs H Q E h => ?_) (fun cdv A outer s H vs Q p hot hr h => ?_)
  · obtain ⟨dd, fs, k, _, _, _, _, rfl, _⟩ := h
    rfl
  · obtain ⟨dd, fs, k, k22, hz, hf, hdd, rfl, q⟩ := h
    have hp : p ∈ (cxH CX0 P w K mg base ["e", "first", "k"] "_law_classes" (defScope s_law_classes) a.a_law_classes cdv A outer s H (fun _ _ _ => False) p).pn := List.mem_cons_self
    refine ⟨_, (pss_cons (ps_set (i := 1) sc_law_classes.nd rfl (Or.inr rfl) (pe_lst (pa_cons (pe_callB (NX.call_isP hp) (by rfl) T.b_isinstance (by decide +kernel) (pa_cons (pv 0) (pa_cons (pe_glob (v := .ref a.e0) rfl T.c_InvalidName rfl) pa_nil))) (pa_cons (pe_callB (NX.call_isP hp) (by rfl) T.b_isinstance (by decide +kernel) (pa_cons (pv 0) (pa_cons (pe_glob (v := .ref a.e1) rfl T.c_InvalidLiteral rfl) pa_nil))) (pa_cons (pe_callB (NX.call_isP hp) (by rfl) T.b_isinstance (by decide +kernel) (pa_cons (pv 0) (pa_cons (pe_glob (v := .ref a.e2) rfl T.c_InvalidClause rfl) pa_nil))) pa_nil)))))
        (pss_cons (ps_set (i := 1) sc_law_classes.nd rfl (Or.inr rfl) (pe_op op_cat (pv 1) (pe_lst (pa_cons (pe_callB (NX.call_isP hp) (by rfl) T.b_isinstance (by decide +kernel) (pa_cons (pv 0) (pa_cons (pe_glob (v := .ref a.e3) rfl T.c_InvalidText rfl) pa_nil))) (pa_cons (pe_callB (NX.call_isP hp) (by rfl) T.b_isinstance (by decide +kernel) (pa_cons (pv 0) (pa_cons (pe_glob (v := .ref a.e4) rfl T.c_UnknownMoment rfl) pa_nil))) (pa_cons (pe_callB (NX.call_isP hp) (by rfl) T.b_isinstance (by decide +kernel) (pa_cons (pv 0) (pa_cons (pe_glob (v := .ref a.e5) rfl T.c_InvalidChain rfl) pa_nil))) pa_nil))))))
        (pss_cons (ps_set (i := 1) sc_law_classes.nd rfl (Or.inr rfl) (pe_op op_cat (pv 1) (pe_lst (pa_cons (pe_callB (NX.call_isP hp) (by rfl) T.b_isinstance (by decide +kernel) (pa_cons (pv 0) (pa_cons (pe_glob (v := .ref a.e6) rfl T.c_Inconsistent rfl) pa_nil))) (pa_cons (pe_callB (NX.call_isP hp) (by rfl) T.b_isinstance (by decide +kernel) (pa_cons (pv 0) (pa_cons (pe_glob (v := .ref a.e7) rfl T.c_InvalidPivot rfl) pa_nil))) (pa_cons (pe_callB (NX.call_isP hp) (by rfl) T.b_isinstance (by decide +kernel) (pa_cons (pv 0) (pa_cons (pe_glob (v := .ref a.e8) rfl T.c_WrongStep rfl) pa_nil))) pa_nil))))))
        (pss_cons (ps_set (i := 1) sc_law_classes.nd rfl (Or.inr rfl) (pe_op op_cat (pv 1) (pe_lst (pa_cons (pe_callB (NX.call_isP hp) (by rfl) T.b_isinstance (by decide +kernel) (pa_cons (pv 0) (pa_cons (pe_glob (v := .ref a.e9) rfl T.c_UnknownLiteral rfl) pa_nil))) (pa_cons (pe_callB (NX.call_isP hp) (by rfl) T.b_isinstance (by decide +kernel) (pa_cons (pv 0) (pa_cons (pe_glob (v := .ref a.e10) rfl T.c_UnknownNumber rfl) pa_nil))) (pa_cons (pe_callB (NX.call_isP hp) (by rfl) T.b_isinstance (by decide +kernel) (pa_cons (pv 0) (pa_cons (pe_glob (v := .ref a.e11) rfl T.c_NotAllowed rfl) pa_nil))) pa_nil))))))
        (pss_cons (ps_set (i := 1) sc_law_classes.nd rfl (Or.inr rfl) (pe_op op_cat (pv 1) (pe_lst (pa_cons (pe_callB (NX.call_isP hp) (by rfl) T.b_isinstance (by decide +kernel) (pa_cons (pv 0) (pa_cons (pe_glob (v := .ref a.e12) rfl T.c_NoPaper rfl) pa_nil))) (pa_cons (pe_callB (NX.call_isP hp) (by rfl) T.b_isinstance (by decide +kernel) (pa_cons (pv 0) (pa_cons (pe_glob (v := .ref a.e13) rfl T.c_InvalidLimit rfl) pa_nil))) (pa_cons (pe_callB (NX.call_isP hp) (by rfl) T.b_isinstance (by decide +kernel) (pa_cons (pv 0) (pa_cons (pe_glob (v := .ref a.e14) rfl T.c_InvalidWeights rfl) pa_nil))) pa_nil))))))
        (pss_cons (ps_set (i := 1) sc_law_classes.nd rfl (Or.inr rfl) (pe_op op_cat (pv 1) (pe_lst (pa_cons (pe_callB (NX.call_isP hp) (by rfl) T.b_isinstance (by decide +kernel) (pa_cons (pv 0) (pa_cons (pe_glob (v := .ref a.e15) rfl T.c_HasAnswer rfl) pa_nil))) (pa_cons (pe_callB (NX.call_isP hp) (by rfl) T.b_isinstance (by decide +kernel) (pa_cons (pv 0) (pa_cons (pe_glob (v := .ref a.e16) rfl T.c_NoAnswer rfl) pa_nil))) (pa_cons (pe_callB (NX.call_isP hp) (by rfl) T.b_isinstance (by decide +kernel) (pa_cons (pv 0) (pa_cons (pe_glob (v := .ref a.e17) rfl T.c_NothingPushed rfl) pa_nil))) pa_nil))))))
        (pss_cons (ps_set (i := 1) sc_law_classes.nd rfl (Or.inr rfl) (pe_op op_cat (pv 1) (pe_lst (pa_cons (pe_callB (NX.call_isP hp) (by rfl) T.b_isinstance (by decide +kernel) (pa_cons (pv 0) (pa_cons (pe_glob (v := .ref a.e18) rfl T.c_NothingToUndo rfl) pa_nil))) (pa_cons (pe_callB (NX.call_isP hp) (by rfl) T.b_isinstance (by decide +kernel) (pa_cons (pv 0) (pa_cons (pe_glob (v := .ref a.e19) rfl T.c_NothingToRedo rfl) pa_nil))) (pa_cons (pe_callB (NX.call_isP hp) (by rfl) T.b_isinstance (by decide +kernel) (pa_cons (pv 0) (pa_cons (pe_glob (v := .ref a.e20) rfl T.c_NotKept rfl) pa_nil))) pa_nil))))))
        (pss_cons (ps_set (i := 1) sc_law_classes.nd rfl (Or.inr rfl) (pe_op op_cat (pv 1) (pe_lst (pa_cons (pe_callB (NX.call_isP hp) (by rfl) T.b_isinstance (by decide +kernel) (pa_cons (pv 0) (pa_cons (pe_glob (v := .ref a.e21) rfl T.c_InvalidRow rfl) pa_nil))) pa_nil))))
        (pss_cons (ps_if (PW.pt (pw_or (pt_not (pt_val (pe_callB (NX.call_isP hp) (by rfl) T.b_isinstance (by decide +kernel) (pa_cons (pv 0) (pa_cons (pe_glob (v := .ref a.cR) rfl T.c_RingclauseError rfl) pa_nil))))) (pw_or1 (pt_not (pt_val (pe_callB (NX.call_isP hp) (by rfl) T.b_isinstance (by decide +kernel) (pa_cons (pv 0) (pa_cons (pe_bltn (v := .ty "ValueError") (by rfl) T.b_ValueError (by decide +kernel) rfl) pa_nil)))))))) (pss_one (ps_ret (pe_lst pa_nil))) pss_nil)
        (pss_one (ps_ret (NX.pe_lcH (own := [("k", 2)]) (g := gName 2) (tt := tB (tOp (rIxL K) (tVar 1) (tVar 2))) (te := tVar 2) hp hot sc_law_classes.nd (L2H.pi_range1H rfl T.b_range (pa_cons pe_int pa_nil)) (blkOk_by (N := ["e", "first", "k"]) (sc := defScope s_law_classes) (by decide +kernel)) (fun _ _ _ _ _ => (pg_name (i := 2) sc_law_classes.nd rfl (Or.inl rfl))) (fun _ _ _ _ _ => (pts_one (pt_val (pe_ix (ix_listK (K := K)) (pv 1) (pv 2) (fun _ _ => rfl))))) (fun _ _ _ _ _ => (pv 2)))))))))))))), ?_⟩
    have R : ∀ c cv b, ClsV c cv → PySem.W.kitOne K (.ref (a.eA k)) cv = some b → ∀ H', Ex H H' → ∀ Q : VK, Q (.bl b) H' → NX.rIsP K p [.ref p.1, c] H' Q := fun c cv b hc hk H' e Q q =>
      ⟨a.eA k, dd, fs, c, cv, b, hz, hf, e _ _ hdd, (C k k22).xc, rfl, hc, hk, q⟩
    exact classes_run (fun j hj H' e Q q => R _ _ _ (.own (a.eA j)) ((C k k22).kk j hj) H' e Q q) k22 (fun H' e Q q => R _ _ _ (.own a.cR) (C k k22).kR H' e Q q) (fun H' e Q q => R _ _ _ (.ty "ValueError") (C k k22).kV H' e Q q) rfl q
end
end V1
set_option maxRecDepth 100000
set_option maxHeartbeats 8000000
namespace V1
open PySem L2 Evl GP HR SC SetM SetH RQ L2H EXV
def AlikeOk (K : PySem.W.Frag) (vs : List V) (H : Hp) (Q : VK) : Prop := ∃ x y z, vs = [x, y] ∧ ShV K H x z ∧ ShV K H y z ∧ ∀ H', Ex H H' → Q (.bl true) H'
theorem hu70H {k : Nat} {A : Around} (r : RoomH k A) : A.units + 70 < cLine := by have := r.un; omega
def spAlike (K : PySem.W.Frag) : Sp := fun vs H Q _ => AlikeOk K vs H Q
section
variable {P : Program} {w : World} {K : PySem.W.Frag} {mg : Str → Option Value} {base : Heap} {a : Ad} {d : Fd} {fL fC : Addr}
theorem ok_law_alike (T : TX K mg a) (D : FDS K a d) : FnG P w K mg base 2 a.a_law_alike d.a_law_alike ["one", "two"] (spAlike K) := by
  refine okG D.F__law_alike sc_law_alike (fun vs H Q E h => ?_) (fun cdv A outer s H vs Q E hr gd h => ?_)
  · obtain ⟨x, y, z, rfl, _⟩ := h
    rfl
  · obtain ⟨x, y, z, rfl, h1, h2, q⟩ := h
    refine ⟨_, (pss_one (ps_ret (pe_cmpR op_eq (pe_callB (RQ.cr_reprA gd (hu70 hr)) (by rfl) T.b_repr (by decide +kernel) (pa_cons (pv 0) pa_nil)) (pe_callB (RQ.cr_reprA gd (hu70 hr)) (by rfl) T.b_repr (by decide +kernel) (pa_cons (pv 1) pa_nil)) (nomark _)))), ?_⟩
    exact ⟨_, rfl, x, z, rfl, h1, _, rfl, y, z, rfl, h2, rfl, by rw [decide_eq_true rfl]; exact q H (Ex.refl _)⟩
theorem ok_law_alikeQ (T : TX K mg a) (D : FDS K a d) : NX.FnQ P w K mg base 2 a.a_law_alike d.a_law_alike ["one", "two"] (fun _ => spAlike K) := by
  refine NX.okQ D.F__law_alike sc_law_alike (fun p vs H Q E h => ?_) (fun cdv A outer s H vs Q p hot hr gd h => ?_)
  · obtain ⟨x, y, z, rfl, _⟩ := h
    rfl
  · obtain ⟨x, y, z, rfl, h1, h2, q⟩ := h
    have hu7 := hu70H hr
    refine ⟨_, (pss_one (ps_ret (pe_cmpR op_eq (pe_callB (RQ.cr_reprA (K := K) gd hu7) (by rfl) T.b_repr (by decide +kernel) (pa_cons (pv 0) pa_nil)) (pe_callB (RQ.cr_reprA (K := K) gd hu7) (by rfl) T.b_repr (by decide +kernel) (pa_cons (pv 1) pa_nil)) (nomark _)))), ?_⟩
    exact ⟨_, rfl, x, z, rfl, h1, _, rfl, y, z, rfl, h2, rfl, by rw [decide_eq_true rfl]; exact q H (Ex.refl _)⟩
/-- the errors that except clauses ask for -/
structure EX2 (K : PySem.W.Frag) (a : Ad) : Prop where
  x12 : PySem.W.exmOne K (.ref a.e1) (.ref a.e2) = some false
  x11 : PySem.W.exmOne K (.ref a.e1) (.ref a.e1) = some true
  x22 : PySem.W.exmOne K (.ref a.e2) (.ref a.e2) = some true
  f1 : XfC K a.e1
  f2 : XfC K a.e2
  n1 : PySem.W.findIn K (.ref a.e1) "value" = some none
  n2 : PySem.W.findIn K (.ref a.e2) "value" = some none
/-- clause_of(x) raises the error n with the value bad -/
def Refd (K : PySem.W.Frag) (H : Hp) (x : V) (n : Int) (bad : V) : Prop :=
  (n = 1 ∧ ∃ p us ls i, x = .ref p ∧ Seq K H p us ∧ us[i]? = some bad ∧ AnyV K H bad false ∧ Lits H (us.take i) ls ∧ (∀ l ∈ ls, LitOk l)) ∨ (n = 2 ∧ bad = x ∧ NoSeq K H x)
def spRefused (K : PySem.W.Frag) : Sp := fun vs H Q _ => ∃ (x : V) (n : Int) (bad v : V) (z : Str), vs = [x, .int n, v] ∧ Refd K H x n bad ∧ ShV K H bad z ∧ ShV K H v z ∧ ∀ H', Ex H H' → Q (.bl true) H'
def t_suiteV (K : PySem.W.Frag) (a : Ad) (e : Addr) (n : Int) : Addr → Value → Option Addr → TS := fun b cls d =>
  tRet (tAndV (tOp (rEqD K) (NX.tCallZ (spClassesP K a) b cls d (tCons (tVar 3) tNil)) (tLst (tCons (tVar 1) tNil))) (tAndV (tOp rEq (tVar 1) (tC (.int n))) (NX.tCallZ (fun _ => spAlike K) b cls d (tCons (tXf b cls d e "value" (tVar 3)) (tCons (tVar 2) tNil)))))
theorem sh_one {n : Int} : PySem.SeqAt.shaped (.list [.int n]) = true := by simp [PySem.SeqAt.shaped, PyData.canLay0, PyData.canLayAll0, PyData.depth, PyData.depthAll]
theorem ok_law_refused (T : TX K mg a) (D : FDS K a d) (R : ER K mg P a fL fC) (C : EN K a) (X : EX2 K a) : FnG P w K mg base 7 a.a_law_refused d.a_law_refused ["given", "number", "value"] (spRefused K) := by
  have G_clause_of : FnOk P w K mg base (L2N.CX P w) 5 a.a_clause_of d.a_clause_of ["literals"] (spClause K a.cL a.cC) := ok_clause_of T D R
  have O := ok_law_classesP (P := P) (w := w) (base := base) T D C
  have AL := ok_law_alikeQ (P := P) (w := w) (base := base) T D
  refine okG D.F__law_refused sc_law_refused (fun vs H Q E h => ?_) (fun cdv A outer s H vs Q E hr gd h => ?_)
  · obtain ⟨x, n, bad, v, z, rfl, _⟩ := h
    rfl
  · obtain ⟨x, n, bad, v, z, rfl, h, sb, sv, fin⟩ := h
    have hu7 := hu70 hr
    have hr5 : Room 5 _ := hr.mono (by decide)
    have hrH : RoomH 1 _ := roomH_of (hr.mono (by decide : 1 ≤ 6))
    have hrH2 : RoomH 2 _ := roomH_of (hr.mono (by decide : 2 ≤ 6))
    refine ⟨_, pss_cons (NX.ps_try_manyA (tb := fun W => tDrop (tCallS (spClause K a.cL a.cC) (WE W) (tCons (tVar 0) tNil))) (Wout := fun _ _ _ _ => False) (l := [(.ref a.e2, some 3, t_suiteV K a a.e2 2), (.ref a.e1, some 3, t_suiteV K a a.e1 1)]) rfl rfl NX.takes0
      (fun W pn xe tk _ => pss_one (ps_expr (by exact (pe_callS G_clause_of hr5 rfl T.f_clause_of T.k_clause_of D.B_clause_of (fun σ => L2N.passAt tk σ) (by exact (pa_cons (pv 0) pa_nil))))))
      (.as (i := 3) sc_law_refused.nd rfl rfl ⟨rfl, by decide, Or.inl T.c_InvalidClause⟩ (fun b oe cls dd pn hz hf => pss_one (ps_ret
          (pe_and (pe_cmpR (op_eqD hr.units) (NX.pe_callZ hz hf O hrH rfl T.f__law_classes T.k__law_classes D.B__law_classes (by exact (pa_cons (pv 3) pa_nil))) (pe_lst (pa_cons (pv 1) pa_nil)) (nomark _))
          (pe_and (pe_cmpR op_eq (pv 1) pe_int (nomark _)) (pe_one (NX.pe_callQ hz hf AL hrH2 gd rfl T.f__law_alike T.k__law_alike D.B__law_alike (by exact (pa_cons (pe_xf X.f2 X.n2 hz.zc hf (pv 3)) (pa_cons (pv 2) pa_nil)))))))))
      (.as (i := 3) sc_law_refused.nd rfl rfl ⟨rfl, by decide, Or.inl T.c_InvalidLiteral⟩ (fun b oe cls dd pn hz hf => pss_one (ps_ret
          (pe_and (pe_cmpR (op_eqD hr.units) (NX.pe_callZ hz hf O hrH rfl T.f__law_classes T.k__law_classes D.B__law_classes (by exact (pa_cons (pv 3) pa_nil))) (pe_lst (pa_cons (pv 1) pa_nil)) (nomark _))
          (pe_and (pe_cmpR op_eq (pv 1) pe_int (nomark _)) (pe_one (NX.pe_callQ hz hf AL hrH2 gd rfl T.f__law_alike T.k__law_alike D.B__law_alike (by exact (pa_cons (pe_xf X.f1 X.n1 hz.zc hf (pv 3)) (pa_cons (pv 2) pa_nil)))))))))
      .nil))) (pss_one (ps_ret pe_bl)), ?_⟩
    have go : ∀ (k : Nat), k < 22 → ∀ {b : Addr} {H1 : Hp} {dd : Addr} {E : Ends}, (h1 : n = (k : Int)) → Ex H H1 → H1 dd = some (.xd [("value", bad)]) → E.rt = Q →
        t_suiteV K a (a.eA k) (k : Int) b (.ref (a.eA k)) (some dd) E [some x, some (.int n), some v, some (.ref b)] H1 := by
      rintro k k22 b H1 dd E rfl e hdd hE
      refine ⟨_, rfl, fun oe hz hf => ⟨dd, _, k, k22, hz.zc, hf, hdd, rfl, fun c H2 e2 _ hc => ⟨_, rfl, (by show 1 ≤ sizeLine; decide), fun u hu => ?_⟩⟩⟩
      refine ⟨.list [.int (k : Int)], .list [.int (k : Int)], .lst (SqL.of (Ex.new hu _ _ hc)) (.cons (.int _) .nil), .lst (SqL.of upd_same) (.cons (.int _) .nil), sh_one, sh_one, ?_⟩
      have e3 := e.trans (e2.trans (Ex.new (o := .lst [.int (k : Int)]) hu))
      refine ⟨_, by simp [PyData.eqv, PyData.eqvAll], iteT' rfl ⟨_, rfl, rfl, _, rfl, iteT' (decide_eq_true rfl) ?_⟩⟩
      refine ⟨_, rfl, rfl, rfl, dd, _, bad, rfl, (e2.trans (Ex.new hu)) _ _ hdd, by simp [List.lookup], _, rfl, fun oe hz hf => ⟨bad, v, z, rfl, sb.ex (fun _ _ => Dp.ex e3) e3, sv.ex (fun _ _ => Dp.ex e3) e3, fun H4 e4 => ?_⟩⟩
      rw [hE]
      exact fin H4 (e3.trans e4)
    rcases h with ⟨rfl, p, us, ls, i, rfl, hs, hb, hv, L, ok⟩ | ⟨rfl, rfl, hn⟩
    · refine ⟨_, rfl, _, rfl, .inr (.inl ⟨p, us, ls, i, bad, rfl, hs, hb, hv, L, ok, fun dd H1 e1 _ hdd => ?_⟩)⟩
      exact ⟨_, X.x12, fun z => absurd z (by decide), fun _ => ⟨_, X.x11, fun _ b hb => go 1 (by decide) rfl e1 hdd rfl, fun z => absurd z (by decide)⟩⟩
    · refine ⟨_, rfl, _, rfl, .inr (.inr ⟨hn, fun dd H1 e1 _ hdd => ?_⟩)⟩
      exact ⟨_, X.x22, fun _ b hb => go 2 (by decide) rfl e1 hdd rfl, fun z => absurd z (by decide)⟩
end
end V1
set_option maxRecDepth 100000
set_option maxHeartbeats 8000000
namespace V1
open PySem L2 Evl GP HR SC SetM SetH RQ L2H EXV
theorem passN {X : Cx} : Passes (L2N.CX X.prog X.w) X (fun _ _ _ => False) := L2N.passes_call (W := fun _ _ _ _ => False) NX.takes0 fun _ _ _ _ h => h
theorem rm_sub {H : Hp} {r : Addr} : Ex (rmH H r) H := fun a x h => by
  unfold rmH at h
  by_cases e : a = r
  · rw [if_pos e] at h; cases h
  · rw [if_neg e] at h; exact h
theorem cutV_from {xs : List V} {k : Nat} (h : k ≤ xs.length) : cutV xs (some (k : Int)) none = xs.drop k := by
  unfold cutV
  rw [HT.sIx_none, HT.sIx_nat, Nat.min_eq_left h]
  exact List.take_of_length_le (by rw [List.length_drop]; exact Nat.le_refl _)
theorem cutV_take {xs : List V} {k : Nat} : L2.cutV xs none (some (k : Int)) = xs.take k := by
  unfold L2.cutV
  rw [HT.sIx_none, HT.sIx_nat]
  simp
theorem Lits.take {H : Hp} {us : List V} {ls : List Lit} (A : Lits H us ls) (k : Nat) : Lits H (us.take k) (ls.take k) := ⟨by simp [A.len], fun i l h => by
  have hik : i < k := by have := (List.getElem?_eq_some_iff.mp h).1; rw [List.length_take] at this; omega
  rw [List.getElem?_take, if_pos hik] at h
  obtain ⟨t, h1, h2⟩ := A.at_ _ l h
  exact ⟨t, by rw [List.getElem?_take, if_pos hik]; exact h1, h2⟩⟩
theorem Lits.drop {H : Hp} {us : List V} {ls : List Lit} (A : Lits H us ls) (k : Nat) : Lits H (us.drop k) (ls.drop k) := ⟨by simp [A.len], fun i l h => by
  rw [List.getElem?_drop] at h
  obtain ⟨t, h1, h2⟩ := A.at_ (k + i) l h
  exact ⟨t, by rw [List.getElem?_drop]; exact h1, h2⟩⟩
theorem lits_dx {K : PySem.W.Frag} {H : Hp} : ∀ {us : List V} {ls : List Lit}, Lits H us ls → (∀ l ∈ ls, LitOk l) → DxAll K H 3 1000000 us (ls.map litD)
  | [], [], _, _ => .nil
  | [], _ :: _, A, _ => by have := A.len; simp at this
  | _ :: _, [], A, _ => by have := A.len; simp at this
  | v :: us, l :: ls, A, ok => by
    obtain ⟨t, h1, h2⟩ := A.at_ 0 l rfl
    obtain rfl : v = .ref t := Option.some.inj h1
    exact .cons (Dx.of_dp (lit_dp (SqT.of h2)) ((rp_lit (ok l List.mem_cons_self)).mono (by decide) (by decide))) (lits_dx ⟨by have := A.len; simpa using this, fun i r h => A.at_ (i + 1) r h⟩ fun m hm => ok m (List.mem_cons_of_mem _ hm))
theorem any_no {K : PySem.W.Frag} {H : Hp} {v : V} {Q : VK} {E : XK} (h : AnyV K H v false) (q : ∀ H', Ex H H' → Q (.bl false) H') : spIsLitD K [v] H Q E ∨ spOdd (.bl false) [v] H Q E := by
  rcases h with ⟨d, hd, sz, hb⟩ | ⟨_, ho⟩
  · exact .inl ⟨v, d, rfl, hd, sz, fun H' e => by rw [hb]; exact q H' e⟩
  · exact .inr ⟨v, rfl, ho, q⟩
theorem plain_lit {n : Nat} (l : Lit) : PlainD (n + 1) (litD l) := by
  cases l with
  | yn b x =>
    refine ⟨by simp, fun d hd => ?_⟩
    simp only [List.mem_cons, List.not_mem_nil, or_false] at hd
    rcases hd with rfl | rfl <;> cases n <;> exact True.intro
  | most x y k =>
    refine ⟨by simp, fun d hd => ?_⟩
    simp only [List.mem_cons, List.not_mem_nil, or_false] at hd
    rcases hd with rfl | rfl | rfl | rfl <;> cases n <;> exact True.intro

theorem plain_lits {n : Nat} {ls : List Lit} (h : ls.length ≤ 1000) : PlainD (n + 2) (.tuple (ls.map litD)) := ⟨by rw [List.length_map]; exact h, fun d hd => by
  obtain ⟨l, _, rfl⟩ := List.mem_map.mp hd
  exact plain_lit l⟩
theorem cl_go {K : PySem.W.Frag} {cL cC p : Addr} {H : Hp} {vs : List V} {ms ls1 : List Lit} {Q : VK} {E : XK} (hs : Seq K H p vs) (L : Lits H vs ms) (ok : ∀ l ∈ ms, LitOk l) (few : ms.length < 63) (asc : AscL ls1) (mem : ∀ z, z ∈ ls1 ↔ z ∈ ms)
    (q : ∀ u2 us2 H', Ex H H' → H' u2 = some (.tup us2) → Lits H' us2 ls1 → Q (.ref u2) H') : spClause K cL cC [.ref p] H Q E := by
  refine ⟨_, rfl, .inl ⟨p, vs, ms, rfl, hs, L, ok, few, fun u2 us2 ls2 H5 e5 hu2 L2 m2 a2 => ?_⟩⟩
  obtain rfl : ls2 = ls1 := ascL_same a2 asc fun z => (m2 z).trans (mem z).symm
  exact q u2 us2 H5 e5 hu2 L2
theorem same_up {K : PySem.W.Frag} {u u2 : Addr} {H : Hp} {us1 us2 : List V} {ls : List Lit} (h2 : H u2 = some (.tup us2)) (L2 : Lits H us2 ls) (h1 : H u = some (.tup us1)) (L1 : Lits H us1 ls) (few : ls.length ≤ 1000) : ∃ dd, Dp K H (.ref u2) dd ∧ Dp K H (.ref u) dd ∧ PlainD 2 dd :=
  ⟨.tuple (ls.map litD), .tup (SqT.of h2) L2.dp, .tup (SqT.of h1) L1.dp, plain_lits few⟩
theorem Lits.app {H : Hp} {us vs : List V} {ls ms : List Lit} (A : Lits H us ls) (B : Lits H vs ms) : Lits H (us ++ vs) (ls ++ ms) := ⟨by simp [A.len, B.len], fun i q h => by
  have la := A.len
  by_cases hj : i < ls.length
  · rw [List.getElem?_append_left hj] at h
    obtain ⟨t, h1, h2⟩ := A.at_ i q h
    exact ⟨t, by rw [List.getElem?_append_left (by omega)]; exact h1, h2⟩
  · rw [List.getElem?_append_right (by omega)] at h
    obtain ⟨t, h1, h2⟩ := B.at_ _ q h
    exact ⟨t, by rw [List.getElem?_append_right (by omega), la]; exact h1, h2⟩⟩
theorem Lits.rev {H : Hp} {us : List V} {ls : List Lit} (A : Lits H us ls) : Lits H us.reverse ls.reverse := ⟨by simp [A.len], fun i q h => by
  have la := A.len
  have hi : i < ls.length := by have := (List.getElem?_eq_some_iff.mp h).1; rwa [List.length_reverse] at this
  rw [List.getElem?_reverse hi] at h
  obtain ⟨t, h1, h2⟩ := A.at_ _ q h
  exact ⟨t, by rw [List.getElem?_reverse (by omega), la]; exact h1, h2⟩⟩
def spNormalL : Sp := fun vs H Q _ => ∃ (b rl : Addr) (us : List V) (ls : List Lit), vs = [.ref b, .ref rl] ∧ Bx b H ∧ rl ≠ b ∧ H rl = some (.lst us) ∧ Lits H us ls ∧ (∀ l ∈ ls, LitOk l) ∧ ls.length ≤ 12 ∧ ∀ H', Kp b H H' → Bx b H' → Q (.bl true) H'
section
variable {P : Program} {w : World} {K : PySem.W.Frag} {mg : Str → Option Value} {base : Heap} {a : Ad} {d : Fd} {fL fC : Addr}
theorem ok_law_normal (T : TX K mg a) (D : FDS K a d) (R : ER K mg P a fL fC) : FnOk P w K mg base CX0 7 a.a_law_normal d.a_law_normal ["bag", "rows"] spNormalL := by
  have G__law_take : FnOk P w K mg base CX0 1 a.a_law_take d.a_law_take ["bag", "size"] spTake := ok_law_take T D
  have G_clause_of : FnOk P w K mg base (L2N.CX P w) 5 a.a_clause_of d.a_clause_of ["literals"] (spClause K a.cL a.cC) := ok_clause_of T D R
  have G_is_literal : FnOk P w K mg base CX0 3 a.a_is_literal d.a_is_literal ["value"] (fun vs H Q E => spIsLitD K vs H Q E ∨ spOdd (.bl false) vs H Q E) := ok_is_literal T D
  have G__law_once : FnOk P w K mg base CX0 1 a.a_law_once d.a_law_once ["rows"] spOnce := ok_law_once T D
  have G__law_same : FnOk P w K mg base CX0 4 a.a_law_same d.a_law_same ["actual", "due"] (spSame K 3) := ok_law_same T D 3
  refine D.F__law_normal.ok sc_law_normal (fun vs H Q E h => ?_) (fun cdv A outer s H vs Q E hr h => ?_)
  · obtain ⟨b, rl, us, ls, rfl, _⟩ := h
    rfl
  · obtain ⟨b, rl, us, ls, rfl, X, nrb, hl, L, ok, few, fin⟩ := h
    have lu := L.len
    have big : 1000 ≤ sizeLine := by decide
    refine ⟨_, (pss_cons (ps_set (i := 2) sc_law_normal.nd rfl (Or.inl rfl) (pe_call G__law_once (hr.mono (by decide)) rfl T.f__law_once T.k__law_once D.B__law_once .nil pass0 (pa_cons (pv 1) pa_nil)))
        (pss_cons (ps_for PassesOwn.never rfl (pi_list (pv 1)) (pg_name (i := 3) sc_law_normal.nd rfl (Or.inl rfl)) (pss_one (ps_if (pt_cmpR op_isnot_bl (pe_call G_is_literal (hr.mono (by decide)) rfl T.f_is_literal T.k_is_literal D.B_is_literal .nil pass0 (pa_cons (pv 3) pa_nil)) pe_bl (nomark _)) (pss_one (ps_ret pe_bl)) pss_nil)))
        (pss_cons (ps_set (i := 4) sc_law_normal.nd rfl (Or.inl rfl) (pe_callTy call_list_of (by rfl) T.b_list (by decide +kernel) (pa_cons (pv 1) pa_nil)))
        (pss_cons (ps_if (pt_not (pt_val (pe_call G__law_same (hr.mono (by decide)) rfl T.f__law_same T.k__law_same D.B__law_same .nil pass0 (pa_cons (pe_call G_clause_of (hr.mono (by decide)) rfl T.f_clause_of T.k_clause_of D.B_clause_of .nil passN (pa_cons (pv 4) pa_nil)) (pa_cons (pv 2) pa_nil))))) (pss_one (ps_ret pe_bl)) pss_nil)
        (pss_cons (ps_if (PW.pt (pw_or (pt_not (pt_val (pe_callB call_isi (by rfl) T.b_isinstance (by decide +kernel) (pa_cons (pv 4) (pa_cons (pe_bltn (v := .ty "list") (by rfl) T.b_list (by decide +kernel) rfl) pa_nil))))) (pw_or1 (pt_not (pt_val (pe_call G__law_same (hr.mono (by decide)) rfl T.f__law_same T.k__law_same D.B__law_same .nil pass0 (pa_cons (pe_callTy call_tuple_of (by rfl) T.b_tuple (by decide +kernel) (pa_cons (pv 4) pa_nil)) (pa_cons (pe_callTy call_tuple_of (by rfl) T.b_tuple (by decide +kernel) (pa_cons (pv 1) pa_nil)) pa_nil)))))))) (pss_one (ps_ret pe_bl)) pss_nil)
        (pss_cons (ps_set (i := 5) sc_law_normal.nd rfl (Or.inl rfl) (pe_call G__law_take (hr.mono (by decide)) rfl T.f__law_take T.k__law_take D.B__law_take .nil pass0 (pa_cons (pv 0) (pa_cons (pe_op op_add (pe_callB call_len_seq (by rfl) T.b_len (by decide +kernel) (pa_cons (pv 1) pa_nil)) pe_int) pa_nil))))
        (pss_cons (ps_if (pt_not (pt_val (pe_call G__law_same (hr.mono (by decide)) rfl T.f__law_same T.k__law_same D.B__law_same .nil pass0 (pa_cons (pe_call G_clause_of (hr.mono (by decide)) rfl T.f_clause_of T.k_clause_of D.B_clause_of .nil passN (pa_cons (pe_callTy call_tuple_of (by rfl) T.b_tuple (by decide +kernel) (pa_cons (pe_op op_cat (pe_slice sl_list (pv 1) (po_some (pv 5)) po_none) (pe_slice sl_list (pv 1) po_none (po_some (pv 5)))) pa_nil)) pa_nil)) (pa_cons (pv 2) pa_nil))))) (pss_one (ps_ret pe_bl)) pss_nil)
        (pss_cons (ps_if (PW.pt (pw_or (pt_not (pt_val (pe_call G__law_same (hr.mono (by decide)) rfl T.f__law_same T.k__law_same D.B__law_same .nil pass0 (pa_cons (pe_call G_clause_of (hr.mono (by decide)) rfl T.f_clause_of T.k_clause_of D.B_clause_of .nil passN (pa_cons (pe_back (pv 1) (pe_un un_neg pe_int)) pa_nil)) (pa_cons (pv 2) pa_nil))))) (pw_or1 (pt_not (pt_val (pe_call G__law_same (hr.mono (by decide)) rfl T.f__law_same T.k__law_same D.B__law_same .nil pass0 (pa_cons (pe_call G_clause_of (hr.mono (by decide)) rfl T.f_clause_of T.k_clause_of D.B_clause_of .nil passN (pa_cons (pe_callTy call_list_of (by rfl) T.b_list (by decide +kernel) (pa_cons (pv 2) pa_nil)) pa_nil)) (pa_cons (pv 2) pa_nil)))))))) (pss_one (ps_ret pe_bl)) pss_nil)
        (pss_one (ps_ret (pe_call G__law_same (hr.mono (by decide)) rfl T.f__law_same T.k__law_same D.B__law_same .nil pass0 (pa_cons (pe_call G_clause_of (hr.mono (by decide)) rfl T.f_clause_of T.k_clause_of D.B_clause_of .nil passN (pa_cons (pe_call G_clause_of (hr.mono (by decide)) rfl T.f_clause_of T.k_clause_of D.B_clause_of .nil passN (pa_cons (pe_callTy call_tuple_of (by rfl) T.b_tuple (by decide +kernel) (pa_cons (pv 1) pa_nil)) pa_nil)) pa_nil)) (pa_cons (pv 2) pa_nil))))))))))))), ?_⟩
    refine ⟨_, rfl, rl, us, ls, rfl, hl, L, ok, by omega, fun u us1 ls1 H1 e1 nu hu L1 mem asc => ?_⟩
    have hl1 := e1 _ _ hl
    have LR1 := L.ex e1
    have few1 : ls1.length ≤ 12 := by
      have h1 := sub_lenA (asc_nodup asc) fun z hz => (mem z).mp hz
      omega
    -- every row is a literal
    refine ⟨_, rfl, rl, rfl, ⟨_, SqL.of hl1⟩, for_it (walk_list (xs := us)) (fun i σ H' => ∃ o, σ = [some (.ref b), some (.ref rl), some (.ref u), o, none, none] ∧ Ex H1 H') ⟨none, rfl, Ex.refl _⟩ (fun i σ H' _ ⟨_, _, e⟩ => SqL.of (e _ _ hl1)) ?_ ?_⟩
    · rintro i x σ H2 H2' hi ⟨o, rfl, e2⟩ ⟨rfl, hx⟩
      obtain ⟨t, l, rfl, hl2, ht⟩ := (LR1.ex e2).get hx
      refine ⟨_, rfl, .inl ⟨_, litD l, rfl, lit_dp (SqT.of ht), lit_sz (ok l (List.mem_of_getElem? hl2)), fun H3 e3 => ⟨_, _, rfl, rfl, _, rfl, ?_⟩⟩⟩
      rw [lit_is (ok l (List.mem_of_getElem? hl2))]
      exact iteF' rfl ⟨_, rfl, e2.trans e3⟩
    rintro σ H2 ⟨o, rfl, e2⟩
    have e02 := e1.trans e2
    have hl2 := e02 _ _ hl
    have L2 := L.ex e02
    have hu2 := e2 _ _ hu
    have M2 := L1.ex e2
    clear hu L1 LR1 hl1 e1 e2
    -- given = list(rows)
    refine ⟨_, rfl, rl, us, rfl, .inl (SqL.of hl2), fun g hg => ?_⟩
    have x3 := Ex.new (o := .lst us) hg
    have hg3 : upd H2 g (.lst us) g = some (.lst us) := upd_same
    have L3 := L2.ex x3
    have M3 := M2.ex x3
    have hu3 := x3 _ _ hu2
    have hl3 := x3 _ _ hl2
    have e03 := e02.trans x3
    generalize upd H2 g (.lst us) = H3 at *
    refine ⟨_, rfl, cl_go (.inl (SqL.of hg3)) L3 ok (by omega) asc mem fun u4 us4 H4 e4 h4 L4 => ⟨_, rfl, ?_⟩⟩
    obtain ⟨dd, q1, q2, q3⟩ := same_up (K := K) h4 L4 (e4 _ _ hu3) (M3.ex e4) (by omega)
    refine ⟨_, _, dd, rfl, q1, q2, q3, fun H5 e5 => ⟨true, rfl, iteF' rfl ?_⟩⟩
    have e35 := e4.trans e5
    have hg5 := e35 _ _ hg3
    have hl5 := e35 _ _ hl3
    have L5 := L3.ex e35
    refine ⟨_, rfl, .ref g, _, _, _, true, rfl, .ty "list", .base (.lst hg5), kit_list (.list []), _, rfl, ⟨_, rfl, g, us, rfl, .inl ⟨SqL.of hg5, fun t1 ht1 => ?_⟩⟩⟩
    have x7 := Ex.new (o := .tup us) ht1
    refine ⟨_, rfl, rl, us, rfl, .inl ⟨SqL.of (x7 _ _ hl5), fun t2 ht2 => ?_⟩⟩
    have x8 := Ex.new (o := .tup us) ht2
    have x78 := x7.trans x8
    obtain ⟨dd2, q4, q5, q6⟩ := same_up (K := K) (x8 _ _ upd_same) (L5.ex x78) upd_same (L5.ex x78) (by omega)
    refine ⟨_, _, dd2, rfl, q4, q5, q6, fun H6 e6 => ⟨true, rfl, iteF' rfl ?_⟩⟩
    have e36 := (e35.trans x78).trans e6
    have e06 := e03.trans e36
    have X6 := X.ex e06
    refine ⟨_, rfl, _, rfl, rl, _, rfl, .inl (SqL.of (e36 _ _ hl3)), _, _, rfl, rfl, b, _, rfl, X6, by omega, small_size' (by omega), fun at_ H7 k7 X7 a0 a1 => ?_⟩
    obtain ⟨k, rfl⟩ : ∃ k : Nat, at_ = (k : Int) := ⟨at_.toNat, by omega⟩
    have hk : k ≤ us.length := by omega
    have k07 := (Kp.ex e06).trans k7
    have hl7 := k07.at nrb hl
    have L7 := L.kp X k07
    have hu7 : H7 u = some (.tup us1) := Kp.tup X6 k7 (e36 _ _ hu3)
    have M7 : Lits H7 us1 ls1 := (M3.ex e36).kp X6 k7
    -- the rows turned
    refine ⟨_, rfl, _, rfl, (k : Int), rfl, rl, us, rfl, SqL.of hl7, fun p1 hp1 => ?_⟩
    rw [cutV_from hk] at *
    have y1 := Ex.new (o := .lst (us.drop k)) hp1
    refine ⟨_, rfl, _, rfl, (k : Int), rfl, rl, us, rfl, SqL.of (y1 _ _ hl7), fun p2 hp2 => ?_⟩
    rw [cutV_take] at *
    have y2 := Ex.new (o := .lst (us.take k)) hp2
    have ld : (us.drop k).length + (us.take k).length ≤ 12 := by rw [List.length_drop, List.length_take]; omega
    refine ⟨p1, p2, _, _, rfl, rfl, y2 _ _ upd_same, upd_same, by omega, fun p3 hp3 => ⟨p3, _, rfl, .inl ⟨SqL.of upd_same, fun t ht => ?_⟩⟩⟩
    have y3 := Ex.new (o := .lst (us.drop k ++ us.take k)) hp3
    have y4 := Ex.new (o := .tup (us.drop k ++ us.take k)) ht
    have yy := ((y1.trans y2).trans y3).trans y4
    have LT : Lits _ (us.drop k ++ us.take k) (ls.drop k ++ ls.take k) := ((L7.drop k).app (L7.take k)).ex yy
    have mem2 : ∀ z, z ∈ ls1 ↔ z ∈ ls.drop k ++ ls.take k := fun z => (mem z).trans (by
      conv => lhs; rw [← List.take_append_drop k ls]
      simp only [List.mem_append]
      exact Or.comm)
    refine cl_go (.inr (SqT.of upd_same)) LT (fun l hl => ok l ((mem l).mp ((mem2 l).mpr hl))) (by rw [← LT.len, List.length_append]; omega) asc mem2 fun u8 us8 H8 e8 h8 L8 => ⟨_, rfl, ?_⟩
    have e78 := yy.trans e8
    obtain ⟨d8, q7, q8, q9⟩ := same_up (K := K) h8 L8 (e78 _ _ hu7) (M7.ex e78) (by omega)
    refine ⟨_, _, d8, rfl, q7, q8, q9, fun H9 e9 => ⟨true, rfl, iteF' rfl ?_⟩⟩
    have e79 := e78.trans e9
    have hl9 := e79 _ _ hl7
    have L9 := L7.ex e79
    have hu9 := e79 _ _ hu7
    have M9 := M7.ex e79
    have k09 := k07.trans (Kp.ex e79)
    have X9 := X7.ex e79
    clear q7 q8 q9 e79 e78 L8 h8 e8 LT yy y1 y2 y3 y4
    -- backwards
    refine ⟨_, rfl, 1, rfl, rfl, rl, us, rfl, SqL.of hl9, fun r hr9 => ?_⟩
    have z1 := Ex.new (o := .lst us.reverse) hr9
    refine cl_go (.inl (SqL.of upd_same)) ((L9.ex z1).rev) (fun l hl => ok l (List.mem_reverse.mp hl)) (by rw [List.length_reverse]; omega) asc (fun z => (mem z).trans List.mem_reverse.symm) fun ua usa Ha ea ha La => ⟨_, rfl, ?_⟩
    have e9a := z1.trans ea
    obtain ⟨da, q1, q2, q3⟩ := same_up (K := K) ha La (e9a _ _ hu9) (M9.ex e9a) (by omega)
    refine ⟨_, _, da, rfl, q1, q2, q3, fun Hb eb => ⟨true, rfl, ?_⟩⟩
    have e9b := e9a.trans eb
    refine ⟨_, rfl, u, us1, rfl, .inr (SqT.of (e9b _ _ hu9)), fun r2 hr2 => ?_⟩
    have z2 := Ex.new (o := .lst us1) hr2
    refine cl_go (.inl (SqL.of upd_same)) (M9.ex (e9b.trans z2)) (fun l hl => ok l ((mem l).mp hl)) (by omega) asc (fun _ => Iff.rfl) fun uc usc Hc ec hc Lc => ⟨_, rfl, ?_⟩
    have e9c := (e9b.trans z2).trans ec
    obtain ⟨dc, q4, q5, q6⟩ := same_up (K := K) hc Lc (e9c _ _ hu9) (M9.ex e9c) (by omega)
    refine ⟨_, _, dc, rfl, q4, q5, q6, fun Hd ed => ⟨true, rfl, iteF' rfl ?_⟩⟩
    have e9d := e9c.trans ed
    refine ⟨_, rfl, rl, us, rfl, .inl ⟨SqL.of (e9d _ _ hl9), fun t3 ht3 => ?_⟩⟩
    have z3 := Ex.new (o := .tup us) ht3
    refine cl_go (.inr (SqT.of upd_same)) (L9.ex (e9d.trans z3)) ok (by omega) asc mem fun ue use He ee he Le => ?_
    refine cl_go (.inr (SqT.of he)) Le (fun l hl => ok l ((mem l).mp hl)) (by omega) asc (fun _ => Iff.rfl) fun uf usf Hf ef hf Lf => ⟨_, rfl, ?_⟩
    have e9f := ((e9d.trans z3).trans ee).trans ef
    obtain ⟨df, q7, q8, q9⟩ := same_up (K := K) hf Lf (e9f _ _ hu9) (M9.ex e9f) (by omega)
    exact ⟨_, _, df, rfl, q7, q8, q9, fun Hg eg => fin Hg (k09.trans (Kp.ex (e9f.trans eg))) (X9.ex (e9f.trans eg))⟩
end
end V1
set_option maxRecDepth 100000
set_option maxHeartbeats 8000000
namespace V1
open PySem L2 Evl GP HR SC SetM SetH RQ L2H EXV
/-- a tuple of literals is no literal -/
theorem lits_no {ls : List Lit} : isLitD (.tuple (ls.map litD)) = false := by
  have hm : ∀ l : Lit, isMostD (litD l) = false := fun l => by cases l <;> rfl
  have hy : ∀ l : Lit, isYN (litD l) = false := fun l => by cases l <;> rfl
  match ls with
  | [] => rfl
  | [_] => rfl
  | [a, b] => rw [List.map_cons, List.map_cons, List.map_nil, lit2, hy]; rfl
  | [_, _, _] => rfl
  | [a, b, c, e] => rw [List.map_cons, List.map_cons, List.map_cons, List.map_cons, List.map_nil, lit4, hm]; rfl
  | _ :: _ :: _ :: _ :: _ :: _ => rfl
theorem lits_szD {ls : List Lit} : szD (.tuple (ls.map litD)) := fun d hd => by
  obtain ⟨l, _, rfl⟩ := List.mem_map.mp hd
  cases l <;> exact True.intro
def spBadItems : Sp := fun vs H Q _ => ∃ (b pl rl : Addr) (xs : List Str) (us : List V) (ls : List Lit), vs = [.ref b, .ref pl, .ref rl] ∧ Bx b H ∧ Pool b pl xs H ∧ rl ≠ b ∧ H rl = some (.lst us) ∧ Lits H us ls ∧ (∀ l ∈ ls, LitOk l) ∧ ls.length ≤ 12 ∧ ∀ H', Kp b H H' → Bx b H' → Q (.bl true) H'
section
variable {P : Program} {w : World} {K : PySem.W.Frag} {mg : Str → Option Value} {base : Heap} {a : Ad} {d : Fd} {fL fC : Addr}
theorem ok_law_bad_items (T : TX K mg a) (D : FDS K a d) (R : ER K mg P a fL fC) (C : EN K a) (X2 : EX2 K a) : FnG P w K mg base 8 a.a_law_bad_items d.a_law_bad_items ["bag", "pool", "rows"] spBadItems := by
  have G__law_take : FnOk P w K mg base CX0 1 a.a_law_take d.a_law_take ["bag", "size"] spTake := ok_law_take T D
  have G__law_refused : FnG P w K mg base 7 a.a_law_refused d.a_law_refused ["given", "number", "value"] (spRefused K) := ok_law_refused T D R C X2
  have G__law_bad : FnOk P w K mg base CX0 3 a.a_law_bad d.a_law_bad ["bag", "pool"] (spBad K) := ok_law_bad T D
  have G_is_literal : FnOk P w K mg base CX0 3 a.a_is_literal d.a_is_literal ["value"] (fun vs H Q E => spIsLitD K vs H Q E ∨ spOdd (.bl false) vs H Q E) := ok_is_literal T D
  refine okG D.F__law_bad_items sc_law_bad_items (fun vs H Q E h => ?_) (fun cdv A outer s H vs Q E hr gd h => ?_)
  · obtain ⟨b, pl, rl, xs, us, ls, rfl, _⟩ := h
    rfl
  · obtain ⟨b, pl, rl, xs, us, ls, rfl, X, W, nrb, hl, L, okl, few, fin⟩ := h
    refine ⟨_, (pss_cons (ps_set (i := 3) sc_law_bad_items.nd rfl (Or.inl rfl) (pe_call G__law_bad (hr.mono (by decide)) rfl T.f__law_bad T.k__law_bad D.B__law_bad .nil pass0 (pa_cons (pv 0) (pa_cons (pv 1) pa_nil))))
        (pss_cons (ps_set (i := 4) sc_law_bad_items.nd rfl (Or.inl rfl) (pe_call G__law_bad (hr.mono (by decide)) rfl T.f__law_bad T.k__law_bad D.B__law_bad .nil pass0 (pa_cons (pv 0) (pa_cons (pv 1) pa_nil))))
        (pss_cons (ps_set (i := 5) sc_law_bad_items.nd rfl (Or.inl rfl) (pe_call G__law_take (hr.mono (by decide)) rfl T.f__law_take T.k__law_take D.B__law_take .nil pass0 (pa_cons (pv 0) (pa_cons (pe_op op_add (pe_callB call_len_seq (by rfl) T.b_len (by decide +kernel) (pa_cons (pv 2) pa_nil)) pe_int) pa_nil))))
        (pss_cons (ps_set (i := 6) sc_law_bad_items.nd rfl (Or.inl rfl) (pe_op op_cat (pe_op op_cat (pe_op op_cat (pe_slice sl_list (pv 2) po_none (po_some (pv 5))) (pe_lst (pa_cons (pv 3) pa_nil))) (pe_slice sl_list (pv 2) (po_some (pv 5)) po_none)) (pe_lst (pa_cons (pv 4) pa_nil))))
        (pss_cons (ps_set (i := 7) sc_law_bad_items.nd rfl (Or.inl rfl) (pe_callB (RQ.cr_reprL (K := K) gd (hu70 hr)) (by rfl) T.b_repr (by decide +kernel) (pa_cons (pv 6) pa_nil)))
        (pss_cons (ps_if (PW.pt (pw_or (pt_cmpR op_isnot_bl (pe_call G_is_literal (hr.mono (by decide)) rfl T.f_is_literal T.k_is_literal D.B_is_literal .nil pass0 (pa_cons (pv 3) pa_nil)) pe_bl (nomark _)) (pw_or1 (pt_cmpR op_isnot_bl (pe_call G_is_literal (hr.mono (by decide)) rfl T.f_is_literal T.k_is_literal D.B_is_literal .nil pass0 (pa_cons (pv 4) pa_nil)) pe_bl (nomark _))))) (pss_one (ps_ret pe_bl)) pss_nil)
        (pss_cons (ps_if (PW.pt (pw_or (pt_not (pt_val (pe_callG G__law_refused (hr.mono (by decide)) gd rfl T.f__law_refused T.k__law_refused D.B__law_refused pass0 (pa_cons (pv 6) (pa_cons pe_int (pa_cons (pv 3) pa_nil)))))) (pw_or1 (pt_cmpR op_ne (pe_callB (RQ.cr_reprL (K := K) gd (hu70 hr)) (by rfl) T.b_repr (by decide +kernel) (pa_cons (pv 6) pa_nil)) (pv 7) (nomark _))))) (pss_one (ps_ret pe_bl)) pss_nil)
        (pss_cons (ps_if (pt_not (pt_val (pe_callG G__law_refused (hr.mono (by decide)) gd rfl T.f__law_refused T.k__law_refused D.B__law_refused pass0 (pa_cons (pe_callTy call_tuple_of (by rfl) T.b_tuple (by decide +kernel) (pa_cons (pe_op op_cat (pe_op op_cat (pe_lst (pa_cons (pv 4) pa_nil)) (pv 2)) (pe_lst (pa_cons (pv 3) pa_nil))) pa_nil)) (pa_cons pe_int (pa_cons (pv 4) pa_nil)))))) (pss_one (ps_ret pe_bl)) pss_nil)
        (pss_one (ps_ret (pe_callG G__law_refused (hr.mono (by decide)) gd rfl T.f__law_refused T.k__law_refused D.B__law_refused pass0 (pa_cons (pe_op op_cat (pe_lst (pa_cons (pe_callTy call_tuple_of (by rfl) T.b_tuple (by decide +kernel) (pa_cons (pv 2) pa_nil)) pa_nil)) (pv 2)) (pa_cons pe_int (pa_cons (pe_callTy call_tuple_of (by rfl) T.b_tuple (by decide +kernel) (pa_cons (pv 2) pa_nil)) pa_nil)))))))))))))), ?_⟩
    have big : 1000 ≤ sizeLine := by decide
    have lu := L.len
    refine ⟨_, rfl, _, rfl, b, pl, xs, rfl, X, W, fun bad H1 k1 X1 gb => ?_⟩
    refine ⟨_, rfl, _, rfl, b, pl, xs, rfl, X1, W.kp k1, fun late H6 k2 X6 gl => ?_⟩
    have k06 := k1.trans k2
    have hl6 := k06.at nrb hl
    have gb6 := gb.ex (rm_kp' X1 k2)
    refine ⟨_, rfl, _, rfl, rl, _, rfl, .inl (SqL.of hl6), _, _, rfl, rfl, b, _, rfl, X6, by omega, small_size' (by omega), fun at_ H7 k7 X7 a0 a1 => ?_⟩
    have k07 := k06.trans k7
    have hl7 := k07.at nrb hl
    have L7 := L.kp X k07
    have gb7 := gb6.ex (rm_kp' X6 k7)
    have gl7 := gl.ex (rm_kp' X6 k7)
    obtain ⟨k, rfl⟩ : ∃ k : Nat, at_ = (k : Int) := ⟨at_.toNat, by omega⟩
    have hk : k ≤ us.length := by omega
    have lt : (us.take k).length = k := by rw [List.length_take]; omega
    have ld : (us.drop k).length ≤ us.length := by rw [List.length_drop]; omega
    have LT : ∀ {H' : Hp}, Ex H7 H' → Lits H' ((us.take k ++ [bad] ++ us.drop k ++ [late]).take k) (ls.take k) := fun e => by
      rw [List.append_assoc, List.append_assoc, List.take_append_of_le_length (by omega), List.take_take, Nat.min_self]
      exact (L7.ex e).take k
    have at1 : (us.take k ++ [bad] ++ us.drop k ++ [late])[k]? = some bad := by
      rw [List.append_assoc, List.append_assoc, List.getElem?_append_right (by omega), lt, Nat.sub_self]
      rfl
    have okt : ∀ l ∈ ls.take k, LitOk l := fun l hl => okl l (List.mem_of_mem_take hl)
    -- the rows with bad among them, as a list
    refine ⟨_, rfl, _, rfl, (k : Int), rfl, rl, us, rfl, SqL.of hl7, fun p1 hp1 => ⟨_, rfl, (by show 1 ≤ sizeLine; decide), fun q1 hq1 => ?_⟩⟩
    rw [cutV_take] at *
    have u1 := Ex.new (o := .lst (us.take k)) hp1
    have u2 := Ex.new (o := .lst [bad]) hq1
    refine ⟨p1, q1, _, _, rfl, rfl, u2 _ _ upd_same, upd_same, by rw [lt]; show k + 1 ≤ sizeLine; omega, fun p2 hp2 => ?_⟩
    have u3 := Ex.new (o := .lst (us.take k ++ [bad])) hp2
    refine ⟨_, rfl, _, rfl, (k : Int), rfl, rl, us, rfl, SqL.of (((u1.trans u2).trans u3) _ _ hl7), fun p3 hp3 => ?_⟩
    rw [cutV_from hk] at *
    have u4 := Ex.new (o := .lst (us.drop k)) hp3
    refine ⟨p2, p3, _, _, rfl, rfl, u4 _ _ upd_same, upd_same, by rw [List.length_append, lt]; show k + 1 + _ ≤ sizeLine; omega, fun p4 hp4 => ?_⟩
    have u5 := Ex.new (o := .lst (us.take k ++ [bad] ++ us.drop k)) hp4
    refine ⟨_, rfl, (by show 1 ≤ sizeLine; decide), fun q2 hq2 => ?_⟩
    have u6 := Ex.new (o := .lst [late]) hq2
    refine ⟨p4, q2, _, _, rfl, rfl, u6 _ _ upd_same, upd_same, by rw [List.length_append, List.length_append, lt]; show k + 1 + _ + 1 ≤ sizeLine; omega, fun p5 hp5 => ?_⟩
    have u7 := Ex.new (o := .lst (us.take k ++ [bad] ++ us.drop k ++ [late])) hp5
    have uu := (((((u1.trans u2).trans u3).trans u4).trans u5).trans u6).trans u7
    have h8 := upd_same (H := upd (upd (upd (upd (upd (upd H7 p1 (.lst (us.take k))) q1 (.lst [bad])) p2 (.lst (us.take k ++ [bad]))) p3 (.lst (us.drop k))) p4 (.lst (us.take k ++ [bad] ++ us.drop k))) q2 (.lst [late])) (a := p5) (o := .lst (us.take k ++ [bad] ++ us.drop k ++ [late]))
    clear u1 u2 u3 u4 u5 u6 u7
    generalize upd (upd (upd (upd (upd (upd (upd H7 p1 (.lst (us.take k))) q1 (.lst [bad])) p2 (.lst (us.take k ++ [bad]))) p3 (.lst (us.drop k))) p4 (.lst (us.take k ++ [bad] ++ us.drop k))) q2 (.lst [late])) p5 (.lst (us.take k ++ [bad] ++ us.drop k ++ [late])) = H8 at *
    have gb8 := gb7.ex (rm_ex uu)
    have gl8 := gl7.ex (rm_ex uu)
    obtain ⟨db, xb⟩ := (gb8.ex rm_sub).2
    obtain ⟨dl, xl⟩ := (gl8.ex rm_sub).2
    have L8 := L7.ex uu
    have okd : ∀ l ∈ ls.drop k, LitOk l := fun l hl => okl l (List.mem_of_mem_drop hl)
    have dx : DxAll K H8 3 1000000 (us.take k ++ [bad] ++ us.drop k ++ [late]) ((ls.take k).map litD ++ [db] ++ (ls.drop k).map litD ++ [dl]) :=
      DxAll.append (.cons xl .nil) (DxAll.append (lits_dx (L8.drop k) okd) (DxAll.append (.cons xb .nil) (lits_dx (L8.take k) okt)))
    have dlen := dx.len
    have dfit : ((ls.take k).map litD ++ [db] ++ (ls.drop k).map litD ++ [dl]).length * (1000000 + 2) + 2 ≤ sizeLine := by
      rw [← dlen, List.length_append, List.length_append, List.length_append, lt]
      have : k + 1 + (us.drop k).length + 1 ≤ 14 := by rw [List.length_drop]; omega
      show (k + 1 + _ + 1) * (1000000 + 2) + 2 ≤ 2 ^ 24
      omega
    generalize (ls.take k).map litD ++ [db] ++ (ls.drop k).map litD ++ [dl] = ds at *
    refine ⟨_, rfl, p5, _, ds, 3, 1000000, rfl, SqL.of h8, dx, by decide, by decide, dfit, ?_⟩
    refine ⟨_, rfl, any_no (gb8.ex rm_sub).1.1 fun H9 e9 => ⟨_, _, rfl, rfl, ?_⟩⟩
    have gl9 := gl8.ex (rm_ex e9)
    refine ⟨_, rfl, _, rfl, any_no (gl9.ex rm_sub).1.1 fun H10 e10 => ⟨_, _, rfl, rfl, _, rfl, iteF' rfl ?_⟩⟩
    have e8t := e9.trans e10
    have h10 := e8t _ _ h8
    have gb10 := gb8.ex (rm_ex e8t)
    have gl10 := gl9.ex (rm_ex e10)
    obtain ⟨zb, shb⟩ := (gb10.ex rm_sub).1.2
    refine ⟨_, rfl, _, rfl, .ref p5, 1, bad, bad, zb, rfl, .inl ⟨rfl, p5, _, ls.take k, k, rfl, .inl (SqL.of h10), at1, (gb10.ex rm_sub).1.1, LT (uu.trans e8t), okt⟩, shb, shb, fun H11 e11 => ⟨_, rfl, ?_⟩⟩
    have e8e := e8t.trans e11
    refine ⟨_, rfl, p5, _, ds, 3, 1000000, rfl, SqL.of (e8e _ _ h8), dx.ex (fun _ _ => Dp.ex e8e) e8e, by decide, by decide, dfit, ?_⟩
    refine ⟨_, rfl, rfl, _, rfl, iteF' (by simp) ?_⟩
    have e7e := uu.trans e8e
    have hl11 := e7e _ _ hl7
    have L11 := L7.ex e7e
    have gl11 := gl10.ex (rm_ex e11)
    refine ⟨_, rfl, (by show 1 ≤ sizeLine; decide), fun q3 hq3 => ⟨_, rfl, ?_⟩⟩
    have y1 := Ex.new (o := .lst [late]) hq3
    refine ⟨q3, rl, _, _, rfl, rfl, upd_same, y1 _ _ hl11, by show 1 + us.length ≤ sizeLine; omega, fun p6 hp6 => ⟨_, rfl, (by show 1 ≤ sizeLine; decide), fun q4 hq4 => ?_⟩⟩
    have y2 := Ex.new (o := .lst ([late] ++ us)) hp6
    have y3 := Ex.new (o := .lst [bad]) hq4
    refine ⟨p6, q4, _, _, rfl, rfl, y3 _ _ upd_same, upd_same, by rw [List.length_append]; show 1 + us.length + 1 ≤ sizeLine; omega, fun p7 hp7 => ⟨p7, _, rfl, .inl ⟨SqL.of upd_same, fun t ht => ?_⟩⟩⟩
    have y4 := Ex.new (o := .lst ([late] ++ us ++ [bad])) hp7
    have y5 := Ex.new (o := .tup ([late] ++ us ++ [bad])) ht
    have yy := (((y1.trans y2).trans y3).trans y4).trans y5
    have gl12 := gl11.ex (rm_ex yy)
    obtain ⟨zl, shl⟩ := (gl12.ex rm_sub).1.2
    refine ⟨_, rfl, .ref t, 1, late, late, zl, rfl, .inl ⟨rfl, t, _, [], 0, rfl, .inr (SqT.of upd_same), rfl, (gl12.ex rm_sub).1.1, Lits.nil, fun l hl => absurd hl List.not_mem_nil⟩, shl, shl, fun H13 e13 => ⟨_, rfl, iteF' rfl ?_⟩⟩
    have eyd := yy.trans e13
    have hl13 := eyd _ _ hl11
    have L13 := L11.ex eyd
    refine ⟨_, rfl, rl, us, rfl, .inl ⟨SqL.of hl13, fun t1 ht1 => ⟨by show 1 ≤ sizeLine; decide, fun q5 hq5 => ⟨_, rfl, ?_⟩⟩⟩⟩
    have w1 := Ex.new (o := .tup us) ht1
    have w2 := Ex.new (o := .lst [.ref t1]) hq5
    refine ⟨q5, rl, _, _, rfl, rfl, upd_same, (w1.trans w2) _ _ hl13, by show 1 + us.length ≤ sizeLine; omega, fun p8 hp8 => ⟨_, rfl, ?_⟩⟩
    have w3 := Ex.new (o := .lst ([.ref t1] ++ us)) hp8
    refine ⟨rl, us, rfl, .inl ⟨SqL.of ((w1.trans w2).trans w3 _ _ hl13), fun t2 ht2 => ?_⟩⟩
    have w4 := Ex.new (o := .tup us) ht2
    have ww := ((w1.trans w2).trans w3).trans w4
    have h1t := (w2.trans w3).trans w4 t1 _ upd_same
    have LW := L13.ex ww
    obtain ⟨rp, _⟩ := rp_lits okl (by omega : ls.length ≤ 1000)
    have big2 : 8012002 ≤ sizeLine := by decide
    have d1 : Dp K _ (.ref t1) (.tuple (ls.map litD)) := .tup (SqT.of h1t) LW.dp
    have d2 : Dp K _ (.ref t2) (.tuple (ls.map litD)) := .tup (SqT.of upd_same) LW.dp
    exact ⟨.ref p8, 1, .ref t1, .ref t2, _, rfl, .inl ⟨rfl, p8, _, [], 0, rfl, .inl (SqL.of (w4 _ _ upd_same)), rfl, .inl ⟨_, d1, lits_szD, lits_no⟩, Lits.nil, fun l hl => absurd hl List.not_mem_nil⟩, .d d1 rp (by decide) big2, .d d2 rp (by decide) big2, fun H14 e14 =>
      let e7z := (e7e.trans eyd).trans (ww.trans e14)
      fin H14 (k07.trans (Kp.ex e7z)) (X7.ex e7z)⟩
end
end V1
set_option maxRecDepth 100000
set_option maxHeartbeats 4000000
/-! {key: value}, the key a tuple -/
namespace HR
open PySem PySem.Spec PyProof.Rows L2
def tDisp1 (tk tv : TE) : TE := fun σ H Q => ∀ p, H p = none → tk σ (upd H p (.dT [])) fun x H1 => tv σ H1 fun y H2 => ∃ (b : Addr) (ks : List L2.Key), x = .ref b ∧ H2 b = some (.tup (ks.map kV)) ∧ H2 p = some (.dT []) ∧ Q (.ref p) (upd H2 p (.dT (putK [] ks y)))
def one1 (p : Addr) (Q : VK) : List (V × V) → Hp → Prop
  | [(x, y)], H2 => ∃ (b : Addr) (ks : List L2.Key), x = .ref b ∧ H2 b = some (.tup (ks.map kV)) ∧ H2 p = some (.dT []) ∧ Q (.ref p) (upd H2 p (.dT (putK [] ks y)))
  | _, _ => False
theorem pe_disp1 {X : Cx} {pos : Pos} {k v : Expr} {tk tv : TE} (hu : X.A.units < cLine) (hk : PE X k tk) (hv : PE X v tv) : PE X (.Dict [some k] [v] pos) (tDisp1 tk tv) := by
  refine ⟨fun pins s σ H Q I q => ?_⟩
  have hn := I.hok.fresh (Nat.le_refl s.heap.objs.size)
  have I1 := I.laid (a := s.heap.objs.size) (o := .dT []) (h' := s.heap.push { cls := .type "dict", data := .dict #[] }) (t' := s.toks) (fun _ _ q => Heap.get?_push_of_some _ q) (Nat.le_refl _) (dt_empty s.heap I.big)
  have h : PPs X pos [some k] [v] [(tk, tv)] := pps_cons hk hv pps_nil
  refine wpAny_Dict_any rfl rfl (List.cons_ne_nil _ _) (Nat.le_of_ble_eq_true rfl) (thn (h.run pins _ σ _ (one1 s.heap.objs.size Q) I1 (q _ hn)) fun ws s2 ⟨ps, H2, I2, rel, e⟩ => ?_)
  obtain ⟨x, y, rfl, b, ks, rfl, hb, hp, q2⟩ : ∃ x y, ps = [(x, y)] ∧ ∃ (b : Addr) (ks : List L2.Key), x = .ref b ∧ H2 b = some (.tup (ks.map kV)) ∧ H2 s.heap.objs.size = some (.dT []) ∧ Q (.ref s.heap.objs.size) (upd H2 s.heap.objs.size (.dT (putK [] ks y))) := by
    cases ps with
    | nil => exact e.elim
    | cons z r =>
      cases r with
      | nil => exact ⟨z.1, z.2, rfl, e⟩
      | cons _ _ => exact e.elim
  cases rel with
  | @cons _ w0 _ wr h1 h2 =>
    cases h2
    obtain ⟨wk, wv⟩ := w0
    cases (show wk = Value.ref b from h1.1)
    unfold storeAll
    rw [List.forIn_cons]
    refine wpAny_bind (wpAny_bind (put_tup hu I2 hp (Nat.zero_lt_of_lt (by decide : 5 < sizeLine)) hb h1.2 fun sh' J => wpAny_pure ?_))
    dsimp only
    rw [List.forIn_nil]
    exact wpAny_pure ⟨.ref s.heap.objs.size, _, J, rfl, q2⟩
end HR
set_option maxRecDepth 100000
set_option maxHeartbeats 8000000
namespace V1
open PySem L2 Evl GP HR SC SetM SetH RQ L2H EXV
/-! dicts by tuples are no literals -/
def DTv (H : Hp) (v : V) : Prop := ∃ p kvs, v = .ref p ∧ H p = some (.dT kvs)
def spDT (b : V) : Sp := fun vs H Q _ => ∃ v, vs = [v] ∧ DTv H v ∧ ∀ H', Ex H H' → Q b H'
section
variable {P : Program} {w : World} {K : PySem.W.Frag} {mg : Str → Option Value} {base : Heap} {a : Ad} {d : Fd} {fL fC : Addr}
theorem ok_is_bound3 (T : TX K mg a) (D : FDS K a d) : FnOk P w K mg base CX0 2 a.a_is_bound d.a_is_bound ["value"] (spDT (.bl false)) := by
  have G_is_name : FnOk P w K mg base CX0 1 a.a_is_name d.a_is_name ["value"] (spIsName K) := ok_is_name T D
  have G_is_integer : FnOk P w K mg base CX0 1 a.a_is_integer d.a_is_integer ["value"] (spIsInt K) := ok_is_integer T D
  refine D.F_is_bound.ok sc_is_bound (fun vs H Q E h => ?_) (fun cdv A outer s H vs Q E hr h => ?_)
  · obtain ⟨v, rfl, _⟩ := h
    rfl
  · obtain ⟨v, rfl, ⟨p, kvs, rfl, hp⟩, q⟩ := h
    refine ⟨_, (pss_cons (ps_if (PW.pt (pw_or (pt_not (pt_val (pe_callB call_isi (by rfl) T.b_isinstance (by decide +kernel) (pa_cons (pv 0) (pa_cons (pe_bltn (v := .ty "tuple") (by rfl) T.b_tuple (by decide +kernel) rfl) pa_nil))))) (pw_or1 (pt_cmpR op_ne (pe_callB call_len_seq (by rfl) T.b_len (by decide +kernel) (pa_cons (pv 0) pa_nil)) pe_int (nomark _))))) (pss_one (ps_ret pe_bl)) pss_nil)
        (pss_cons (ps_asg (pv 0) (pg_tup rfl (pgs_cons (pg_name (i := 1) sc_is_bound.nd rfl (Or.inl rfl)) (pgs_cons (pg_name (i := 2) sc_is_bound.nd rfl (Or.inl rfl)) (pgs_cons (pg_name (i := 3) sc_is_bound.nd rfl (Or.inl rfl)) (pgs_cons (pg_name (i := 4) sc_is_bound.nd rfl (Or.inl rfl)) pgs_nil))))))
        (pss_cons (ps_if (PW.pt (pw_or (pt_not (pt_val (pe_callB call_isi (by rfl) T.b_isinstance (by decide +kernel) (pa_cons (pv 1) (pa_cons (pe_bltn (v := .ty "str") (by rfl) T.b_str (by decide +kernel) rfl) pa_nil))))) (pw_or1 (pt_cmpR op_ne (pv 1) pe_str (nomark _))))) (pss_one (ps_ret pe_bl)) pss_nil)
        (pss_one (ps_ret (pe_and (pe_call G_is_name (hr.mono (by decide)) rfl T.f_is_name T.k_is_name D.B_is_name .nil pass0 (pa_cons (pv 2) pa_nil)) (pe_and (pe_call G_is_name (hr.mono (by decide)) rfl T.f_is_name T.k_is_name D.B_is_name .nil pass0 (pa_cons (pv 3) pa_nil)) (pe_and (pe_cmpR op_ne (pv 2) (pv 3) (nomark _)) (pe_one (pe_call G_is_integer (hr.mono (by decide)) rfl T.f_is_integer T.k_is_integer D.B_is_integer .nil pass0 (pa_cons (pv 4) pa_nil))))))))))), ?_⟩
    exact ⟨_, rfl, .ref p, _, _, _, _, rfl, .ty "tuple", .base (.dT hp), kitDT, _, rfl, q H (Ex.refl _)⟩
theorem ok_is_literal3 (T : TX K mg a) (D : FDS K a d) : FnOk P w K mg base CX0 3 a.a_is_literal d.a_is_literal ["value"] (spDT (.bl false)) := by
  have G_is_name : FnOk P w K mg base CX0 1 a.a_is_name d.a_is_name ["value"] (spIsName K) := ok_is_name T D
  have G_is_bound : FnOk P w K mg base CX0 2 a.a_is_bound d.a_is_bound ["value"] (spDT (.bl false)) := ok_is_bound3 T D
  refine D.F_is_literal.ok sc_is_literal (fun vs H Q E h => ?_) (fun cdv A outer s H vs Q E hr h => ?_)
  · obtain ⟨v, rfl, _⟩ := h
    rfl
  · obtain ⟨v, rfl, ⟨p, kvs, rfl, hp⟩, q⟩ := h
    refine ⟨_, (pss_cons (ps_if (pt_val (pe_call G_is_bound (hr.mono (by decide)) rfl T.f_is_bound T.k_is_bound D.B_is_bound .nil pass0 (pa_cons (pv 0) pa_nil))) (pss_one (ps_ret pe_bl)) pss_nil)
        (pss_cons (ps_if (PW.pt (pw_or (pt_not (pt_val (pe_callB call_isi (by rfl) T.b_isinstance (by decide +kernel) (pa_cons (pv 0) (pa_cons (pe_bltn (v := .ty "tuple") (by rfl) T.b_tuple (by decide +kernel) rfl) pa_nil))))) (pw_or1 (pt_cmpR op_ne (pe_callB call_len_seq (by rfl) T.b_len (by decide +kernel) (pa_cons (pv 0) pa_nil)) pe_int (nomark _))))) (pss_one (ps_ret pe_bl)) pss_nil)
        (pss_cons (ps_asg (pv 0) (pg_tup rfl (pgs_cons (pg_name (i := 1) sc_is_literal.nd rfl (Or.inl rfl)) (pgs_cons (pg_name (i := 2) sc_is_literal.nd rfl (Or.inl rfl)) pgs_nil))))
        (pss_one (ps_ret (pe_and (pe_callB call_isi (by rfl) T.b_isinstance (by decide +kernel) (pa_cons (pv 1) (pa_cons (pe_bltn (v := .ty "str") (by rfl) T.b_str (by decide +kernel) rfl) pa_nil))) (pe_and (pe_cmpR op_in_seq (pv 1) (pe_tup (pa_cons pe_str (pa_cons pe_str pa_nil))) rfl) (pe_one (pe_call G_is_name (hr.mono (by decide)) rfl T.f_is_name T.k_is_name D.B_is_name .nil pass0 (pa_cons (pv 2) pa_nil)))))))))), ?_⟩
    refine ⟨_, rfl, .ref p, rfl, ⟨p, kvs, rfl, hp⟩, fun H1 e1 => ⟨_, rfl, iteF' rfl ?_⟩⟩
    exact ⟨_, rfl, .ref p, _, _, _, _, rfl, .ty "tuple", .base (.dT (e1 _ _ hp)), kitDT, _, rfl, iteT' rfl (q H1 e1)⟩
end
/-- what is no list of literals, and no literal -/
def Bd (K : PySem.W.Frag) (H : Hp) (v : V) : Prop := (AnyV K H v false ∨ DTv H v) ∧ NoSeq K H v ∧ ∃ z, ShV K H v z
theorem Bd.ex {K : PySem.W.Frag} {H H' : Hp} {v : V} (h : Bd K H v) (e : Ex H H') : Bd K H' v :=
  ⟨h.1.imp (fun x => x.ex e) (fun ⟨p, k, h1, h2⟩ => ⟨p, k, h1, e _ _ h2⟩), h.2.1.ex e, let ⟨z, s⟩ := h.2.2; ⟨z, s.ex (fun _ _ => Dp.ex e) e⟩⟩
theorem bd_non {K : PySem.W.Frag} {H : Hp} : Bd K H .non := ⟨.inl (.inl ⟨_, .non, True.intro, rfl⟩), .inl ⟨_, .non, rfl, rfl⟩, _, .non⟩
theorem bd_bl {K : PySem.W.Frag} {H : Hp} {c : Bool} : Bd K H (.bl c) := ⟨.inl (.inl ⟨_, .bl c, True.intro, rfl⟩), .inl ⟨_, .bl c, rfl, rfl⟩, _, .bl c⟩
theorem bd_int {K : PySem.W.Frag} {H : Hp} {k : Int} (h : k.natAbs.log2 < 1920) : Bd K H (.int k) := ⟨.inl (.inl ⟨_, .int k, True.intro, rfl⟩), .inl ⟨_, .int k, rfl, rfl⟩, _, .int k h⟩
theorem bd_str {K : PySem.W.Frag} {H : Hp} {z : Str} (h : (reprText z).length ≤ sizeLine) : Bd K H (.str z) := ⟨.inl (.inl ⟨_, .str z, True.intro, rfl⟩), .inl ⟨_, .str z, rfl, rfl⟩, _, .str z h⟩
theorem rt_name {x : Str} (h : isNameS x = true) : (reprText x).length ≤ sizeLine := by
  have := (rp_name h).ln
  simp only [PyData.shown] at this
  exact Nat.le_trans this (by decide)
section
variable {K : PySem.W.Frag} {b p : Addr} {l : Lit} {σ : L2.St} {te : TE} {ta : TA} {n : Nat}
def GB (K : PySem.W.Frag) (b p : Addr) (l : Lit) (σ : L2.St) (te : TE) : Prop := ∀ H1 u, H1 b = some u → p ≠ b → H1 p = some (.tup (litV l)) → ∀ Q : VK, (∀ v H2, Ex H1 H2 → Bd K (rmH H2 b) v → Q v H2) → te σ H1 Q
def GBL (K : PySem.W.Frag) (b p : Addr) (l : Lit) (σ : L2.St) (n : Nat) (ta : TA) : Prop := ∀ H1 u, H1 b = some u → p ≠ b → H1 p = some (.tup (litV l)) → ∀ Q : List V → Hp → Prop, (∀ vs H2, Ex H1 H2 → vs.length = n → (∀ v ∈ vs, Bd K (rmH H2 b) v) → Q vs H2) → ta σ H1 Q
theorem gb_c {v : V} (h : ∀ H, Bd K H v) : GB K b p l σ (tC v) := fun H1 u _ _ _ Q q => q _ H1 (Ex.refl _) (h _)
theorem gb_v {i : Nat} {v : V} (hi : σ[i]? = some (some v)) (h : ∀ H, Bd K H v) : GB K b p l σ (tVar i) := fun H1 u _ _ _ Q q => ⟨_, hi, q _ H1 (Ex.refl _) (h _)⟩
theorem gbl_nil : GBL K b p l σ 0 tNil := fun H1 u _ _ _ Q q => q [] H1 (Ex.refl _) rfl fun _ h => absurd h List.not_mem_nil
theorem gbl_cons (h : GB K b p l σ te) (t : GBL K b p l σ n ta) : GBL K b p l σ (n + 1) (tCons te ta) := fun H1 u hb ne hp Q q => h H1 u hb ne hp _ fun v H2 e2 gv => t H2 u (e2 _ _ hb) ne (e2 _ _ hp) _ fun vs H3 e3 len gvs => q (v :: vs) H3 (e2.trans e3) (by rw [List.length_cons, len]) fun w hw => by
  rcases List.mem_cons.mp hw with rfl | hw
  · exact gv.ex (rm_ex e3)
  · exact gvs w hw
theorem gbl_lst {H : Hp} {Q : VK} {u : HO} (g : GBL K b p l σ n ta) (hk : n ≤ 1000) (hb : H b = some u) (ne : p ≠ b) (hp : H p = some (.tup (litV l))) (q : ∀ (m : Addr) (us : List V) H', Ex H H' → H m = none → H' m = some (.lst us) → us.length = n → (∀ v ∈ us, Bd K (rmH H' b) v) → Q (.ref m) H') : tLst ta σ H Q :=
  g H u hb ne hp _ fun vs H2 e len gvs => ⟨Nat.le_trans (by omega : vs.length ≤ 1000) (by decide), fun m hm => q m vs _ (e.trans (Ex.new hm)) (fresh_back e hm) upd_same len fun v hv => (gvs v hv).ex (rm_ex (Ex.new hm))⟩
theorem gb_d0 : GB K b p l σ tDNewK := fun H1 u hb _ _ Q q d hd => by
  have h := rm_new (o := .dK []) hb hd
  have s := sd0
  exact q _ _ (Ex.new hd) ⟨.inl (.inr ⟨rfl, .inl ⟨d, [], rfl, h⟩⟩), .inr ⟨d, rfl, .inl ⟨_, h⟩⟩, _, .q (.dK h .nil) s.sh (Nat.le_trans s.dp (by decide)) (Nat.le_trans s.ln (by decide))⟩
theorem sn_lit (ok : LitOk l) : Sn 1 8010 (litD l) := Sn.of (rp_lit ok)
theorem rm_at {H : Hp} (ne : p ≠ b) (h : H p = some (.tup (litV l))) : rmH H b p = some (.tup (litV l)) := by
  unfold rmH
  rw [if_neg ne]
  exact h
theorem dq_lit {H : Hp} (h : H p = some (.tup (litV l))) : Dq K H (.ref p) (litD l) := by
  cases l with
  | yn c x => exact .tup (SqT.of h) (.cons (.str _) (.cons (.str _) .nil))
  | most x y k => exact .tup (SqT.of h) (.cons (.str _) (.cons (.str _) (.cons (.str _) (.cons (.int _) .nil))))
theorem bd_dT {H : Hp} {d : Addr} {v : V} {e : PyData} (h : H d = some (.dT [(litK l, v)])) (ok : LitOk l) (dv : Dq K H v e) (s : Sn 1 8010 e) : Bd K H (.ref d) := by
  have s2 := sd1 (sn_lit ok) s
  rw [← litK_D l] at s2
  exact ⟨.inr ⟨d, _, rfl, h⟩, .inr ⟨d, rfl, .inr ⟨_, h⟩⟩, _, .q (.dT h (.cons dv .nil)) s2.sh (Nat.le_trans s2.dp (by decide)) (Nat.le_trans s2.ln (by decide))⟩
theorem gb_rt {i : Nat} (ok : LitOk l) (hi : σ[i]? = some (some (.ref p))) : GB K b p l σ (tDisp1 (tVar i) (tC (.bl true))) := fun H1 u hb ne hp Q q d hd => by
  have x1 := Ex.new (o := .dT []) hd
  refine ⟨_, hi, p, litK l, rfl, by rw [litK_V]; exact x1 _ _ hp, upd_same, ?_⟩
  have x2 := Ex.mut (o := .dT (putK [] (litK l) (.bl true))) x1 hd
  refine q _ _ x2 ?_
  have hr := rm_new2 (o := .dT (putK [] (litK l) (.bl true))) hb hd (H' := upd H1 d (.dT []))
  exact bd_dT hr ok (.bl true) ⟨by simp [PyData.showable], by simp [PyData.depth], by simp only [PyData.shown]; decide +kernel⟩
theorem gb_rr {i : Nat} (ok : LitOk l) (hi : σ[i]? = some (some (.ref p))) : GB K b p l σ (tDisp1 (tVar i) (tVar i)) := fun H1 u hb ne hp Q q d hd => by
  have x1 := Ex.new (o := .dT []) hd
  refine ⟨_, hi, _, hi, p, litK l, rfl, by rw [litK_V]; exact x1 _ _ hp, upd_same, ?_⟩
  have x2 := Ex.mut (o := .dT (putK [] (litK l) (.ref p))) x1 hd
  refine q _ _ x2 ?_
  have hr := rm_new2 (o := .dT (putK [] (litK l) (.ref p))) hb hd (H' := upd H1 d (.dT []))
  exact bd_dT hr ok (dq_lit (rm_at ne (x2 _ _ hp))) (sn_lit ok)
theorem gb_0r {i : Nat} (ok : LitOk l) (hi : σ[i]? = some (some (.ref p))) : GB K b p l σ (tDisp [(tC (.int 0), tVar i)]) := fun H1 u hb ne hp Q q d hd => by
  refine ⟨_, hi, upd_same, [(.inl 0, .ref p)], rfl, by show 1 ≤ 15; decide, ?_⟩
  have hr := rm_new2 (o := .dK (mergeK [] [(.inl 0, .ref p)])) hb hd (H' := upd H1 d (.dK []))
  have x2 := Ex.mut (o := .dK (mergeK [] [(.inl 0, .ref p)])) (Ex.new (o := .dK []) hd) hd
  have hpr := rm_at ne (x2 _ _ hp)
  rw [merge_new _ _ (by simp), List.nil_append] at hr hpr ⊢
  rw [merge_new _ _ (by simp), List.nil_append] at x2
  have s2 := sd1 (k := .int 0) ⟨by simp [PyData.showable], by simp [PyData.depth], by simp only [PyData.shown]; decide +kernel⟩ (sn_lit ok)
  exact q _ _ x2 ⟨.inl (.inr ⟨rfl, .inl ⟨d, _, rfl, hr⟩⟩), .inr ⟨d, rfl, .inl ⟨_, hr⟩⟩, _, .q (.dK hr (.cons (dq_lit hpr) .nil)) s2.sh (Nat.le_trans s2.dp (by decide)) (Nat.le_trans s2.ln (by decide))⟩
end
theorem bd_no {K : PySem.W.Frag} {H : Hp} {v : V} {Q : VK} {E : XK} (h : AnyV K H v false ∨ DTv H v) (q : ∀ H', Ex H H' → Q (.bl false) H') : (spIsLitD K [v] H Q E ∨ spOdd (.bl false) [v] H Q E) ∨ spDT (.bl false) [v] H Q E := by
  rcases h with h | h
  · exact .inl (any_no h q)
  · exact .inr ⟨v, rfl, h, q⟩
theorem lit_word (l : Lit) : ∃ w, (litV l)[0]? = some (.str w) ∧ (reprText w).length ≤ sizeLine := by
  cases l with
  | yn b x => exact ⟨ynS b, rfl, by cases b <;> decide +kernel⟩
  | most x y k => exact ⟨_, rfl, by decide +kernel⟩
/-- the parts of a literal, as data -/
def litP : Lit → List PyData
  | .yn b x => [.str (ynS b), .str x]
  | .most x y k => [.str "most", .str x, .str y, .int k]
theorem lit_parts {K : PySem.W.Frag} {H : Hp} (l : Lit) : DpAll K H (litV l) (litP l) := by
  cases l with
  | yn b x => exact .cons (.str _) (.cons (.str _) .nil)
  | most x y k => exact .cons (.str _) (.cons (.str _) (.cons (.str _) (.cons (.int _) .nil)))
theorem rp_parts {l : Lit} (h : LitOk l) : Rp 1 8010 (.list (litP l)) := by
  cases l with
  | yn b x =>
    refine (Rp.list (n := 0) (c := 2000) fun d hd => ?_).mono (Nat.le_refl _) (by show 2 * 2002 + 2 ≤ _; decide)
    simp only [litP, List.mem_cons, List.not_mem_nil, or_false] at hd
    rcases hd with rfl | rfl
    · refine (Rp.str ?_).mono (Nat.le_refl _) ?_ <;> cases b <;> decide +kernel
    · exact rp_name h
  | most x y k =>
    obtain ⟨h1, h2, _, h4⟩ := h
    refine (Rp.list (n := 0) (c := 2000) fun d hd => ?_).mono (Nat.le_refl _) (by show 4 * 2002 + 2 ≤ _; decide)
    simp only [litP, List.mem_cons, List.not_mem_nil, or_false] at hd
    rcases hd with rfl | rfl | rfl | rfl
    · refine (Rp.str ?_).mono (Nat.le_refl _) ?_ <;> decide +kernel
    · exact rp_name h1
    · exact rp_name h2
    · have lg : k.natAbs.log2 < 1001 := PySem.Flt.log2_lt_of (by decide) (Nat.lt_of_le_of_lt h4 (by unfold B0; decide +kernel))
      exact (Rp.int (Nat.lt_trans lg (by decide))).mono (Nat.le_refl _) (by decide)
def spBadLists : Sp := fun vs H Q _ => ∃ (b pl p : Addr) (xs : List Str) (l : Lit), vs = [.ref b, .ref pl, .ref p] ∧ Bx b H ∧ Pool b pl xs H ∧ H p = some (.tup (litV l)) ∧ LitOk l ∧ ∀ H', Kp b H H' → Bx b H' → Q (.bl true) H'
section
variable {P : Program} {w : World} {K : PySem.W.Frag} {mg : Str → Option Value} {base : Heap} {a : Ad} {d : Fd} {fL fC : Addr}
theorem ok_law_bad_lists (T : TX K mg a) (D : FDS K a d) (R : ER K mg P a fL fC) (C : EN K a) (X2 : EX2 K a) : FnG P w K mg base 8 a.a_law_bad_lists d.a_law_bad_lists ["bag", "pool", "row"] spBadLists := by
  have G__law_take : FnOk P w K mg base CX0 1 a.a_law_take d.a_law_take ["bag", "size"] spTake := ok_law_take T D
  have G__law_integer : FnOk P w K mg base CX0 2 a.a_law_integer d.a_law_integer ["bag"] spInteger := ok_law_integer T D
  have G__law_refused : FnG P w K mg base 7 a.a_law_refused d.a_law_refused ["given", "number", "value"] (spRefused K) := ok_law_refused T D R C X2
  have G_is_literal : FnOk P w K mg base CX0 3 a.a_is_literal d.a_is_literal ["value"] (fun vs H Q E => (spIsLitD K vs H Q E ∨ spOdd (.bl false) vs H Q E) ∨ spDT (.bl false) vs H Q E) := fnOr (ok_is_literal T D) (ok_is_literal3 T D)
  refine okG D.F__law_bad_lists sc_law_bad_lists (fun vs H Q E h => ?_) (fun cdv A outer s H vs Q E hr gd h => ?_)
  · obtain ⟨b, pl, p, xs, l, rfl, _⟩ := h
    rfl
  · obtain ⟨b, pl, p, xs, l, rfl, X, W, hp, ok, fin⟩ := h
    refine ⟨_, (pss_cons (ps_set (i := 3) sc_law_bad_lists.nd rfl (Or.inl rfl) (pe_ix (ix_listK (K := K)) (pv 1) (pe_call G__law_take (hr.mono (by decide)) rfl T.f__law_take T.k__law_take D.B__law_take .nil pass0 (pa_cons (pv 0) (pa_cons (pe_callB call_len_seq (by rfl) T.b_len (by decide +kernel) (pa_cons (pv 1) pa_nil)) pa_nil))) (fun _ _ => rfl)))
        (pss_cons (ps_set (i := 4) sc_law_bad_lists.nd rfl (Or.inl rfl) (pe_call G__law_integer (hr.mono (by decide)) rfl T.f__law_integer T.k__law_integer D.B__law_integer .nil pass0 (pa_cons (pv 0) pa_nil)))
        (pss_cons (ps_set (i := 5) sc_law_bad_lists.nd rfl (Or.inl rfl) (pe_lst (pa_cons pe_non (pa_cons pe_bl (pa_cons pe_bl (pa_cons pe_int (pa_cons (pv 4) (pa_cons pe_str (pa_cons pe_str (pa_cons (pv 3) (pa_cons pe_str (pa_cons pe_dnewK (pa_cons (HR.pe_disp1 (Nat.lt_of_le_of_lt (Nat.le_add_right _ 70) (hu70 hr)) (pv 2) pe_bl) (pa_cons (HR.pe_disp1 (Nat.lt_of_le_of_lt (Nat.le_add_right _ 70) (hu70 hr)) (pv 2) (pv 2)) (pa_cons (pe_disp (pps_cons pe_int (pv 2) pps_nil) rfl rfl (List.cons_ne_nil _ _) (by decide)) pa_nil)))))))))))))))
        (pss_cons (ps_set (i := 6) sc_law_bad_lists.nd rfl (Or.inl rfl) (pe_ix (ix_listK (K := K)) (pv 5) (pe_call G__law_take (hr.mono (by decide)) rfl T.f__law_take T.k__law_take D.B__law_take .nil pass0 (pa_cons (pv 0) (pa_cons (pe_callB call_len_seq (by rfl) T.b_len (by decide +kernel) (pa_cons (pv 5) pa_nil)) pa_nil))) (fun _ _ => rfl)))
        (pss_cons (ps_if (PW.pt (pw_or (pt_cmpR op_isnot_bl (pe_call G_is_literal (hr.mono (by decide)) rfl T.f_is_literal T.k_is_literal D.B_is_literal .nil pass0 (pa_cons (pv 6) pa_nil)) pe_bl (nomark _)) (pw_or1 (pt_not (pt_val (pe_callG G__law_refused (hr.mono (by decide)) gd rfl T.f__law_refused T.k__law_refused D.B__law_refused pass0 (pa_cons (pv 6) (pa_cons pe_int (pa_cons (pv 6) pa_nil))))))))) (pss_one (ps_ret pe_bl)) pss_nil)
        (pss_cons (ps_if (PW.pt (pw_or (pt_not (pt_val (pe_callG G__law_refused (hr.mono (by decide)) gd rfl T.f__law_refused T.k__law_refused D.B__law_refused pass0 (pa_cons (pv 2) (pa_cons pe_int (pa_cons (pe_ix ix_tup (pv 2) pe_int (fun _ _ => rfl)) pa_nil)))))) (pw_or1 (pt_not (pt_val (pe_callG G__law_refused (hr.mono (by decide)) gd rfl T.f__law_refused T.k__law_refused D.B__law_refused pass0 (pa_cons (pe_callTy call_list_of (by rfl) T.b_list (by decide +kernel) (pa_cons (pv 2) pa_nil)) (pa_cons pe_int (pa_cons (pe_ix ix_tup (pv 2) pe_int (fun _ _ => rfl)) pa_nil))))))))) (pss_one (ps_ret pe_bl)) pss_nil)
        (pss_one (ps_ret (pe_and (pe_callG G__law_refused (hr.mono (by decide)) gd rfl T.f__law_refused T.k__law_refused D.B__law_refused pass0 (pa_cons (pe_tup (pa_cons (pv 2) (pa_cons (pe_callTy call_list_of (by rfl) T.b_list (by decide +kernel) (pa_cons (pv 2) pa_nil)) pa_nil))) (pa_cons pe_int (pa_cons (pe_callTy call_list_of (by rfl) T.b_list (by decide +kernel) (pa_cons (pv 2) pa_nil)) pa_nil)))) (pe_one (pe_callG G__law_refused (hr.mono (by decide)) gd rfl T.f__law_refused T.k__law_refused D.B__law_refused pass0 (pa_cons (pe_lst (pa_cons (pe_lst (pa_cons (pv 2) pa_nil)) pa_nil)) (pa_cons pe_int (pa_cons (pe_lst (pa_cons (pv 2) pa_nil)) pa_nil)))))))))))))), ?_⟩
    have big : 1000 ≤ sizeLine := by decide
    have lo := W.lo
    have hi := W.hi
    have nep : p ≠ b := fun e => by
      obtain ⟨c, ns, i, r, m, w, h1, _⟩ := X
      rw [e, h1] at hp
      cases hp
    have lx : (xs.map V.str).length = xs.length := List.length_map ..
    refine ⟨_, rfl, _, rfl, _, rfl, pl, _, rfl, .inl (SqL.of W.l), b, _, rfl, X, by omega, small_size' (by omega), fun at_ H1 k1 X1 a0 a1 => ?_⟩
    obtain ⟨x, hx, _, _, nx⟩ := (W.kp k1).at a0 (by omega)
    refine ⟨pl, _, at_, _, rfl, rfl, SqL.of (W.kp k1).l, hx, ?_⟩
    refine ⟨_, rfl, b, rfl, X1, fun k H2 kB k2 X2' => ?_⟩
    have lg : k.natAbs.log2 < 1001 := PySem.Flt.log2_lt_of (by decide) (Nat.lt_of_le_of_lt kB (by unfold B0; decide +kernel))
    have hk : k.natAbs.log2 < 1920 := Nat.lt_trans lg (by decide)
    have k02 := k1.trans k2
    have hp2 : H2 p = some (.tup (litV l)) := Kp.tup X k02 hp
    obtain ⟨u0, hu0⟩ := X2'.at
    have menu : GBL K b p l [some (.ref b), some (.ref pl), some (.ref p), some (.str x), some (.int k), none, none] 13 (tCons (tC V.non) (tCons (tC (V.bl true)) (tCons (tC (V.bl false)) (tCons (tC (V.int 0)) (tCons (tVar 4) (tCons (tC (.str "")) (tCons (tC (.str "!")) (tCons (tVar 3) (tCons (tC (.str "yes")) (tCons tDNewK (tCons (tDisp1 (tVar 2) (tC (V.bl true))) (tCons (tDisp1 (tVar 2) (tVar 2)) (tCons (tDisp [(tC (V.int 0), tVar 2)]) tNil))))))))))))) :=
      gbl_cons (gb_c fun _ => bd_non) (gbl_cons (gb_c fun _ => bd_bl) (gbl_cons (gb_c fun _ => bd_bl) (gbl_cons (gb_c fun _ => bd_int (by decide)) (gbl_cons (gb_v rfl fun _ => bd_int hk)
      (gbl_cons (gb_c fun _ => bd_str (by decide +kernel)) (gbl_cons (gb_c fun _ => bd_str (by decide +kernel)) (gbl_cons (gb_v rfl fun _ => bd_str (rt_name nx)) (gbl_cons (gb_c fun _ => bd_str (by decide +kernel))
      (gbl_cons gb_d0 (gbl_cons (gb_rt ok rfl) (gbl_cons (gb_rr ok rfl) (gbl_cons (gb_0r ok rfl) gbl_nil))))))))))))
    dsimp only
    refine put_step rfl ?_
    refine seq_step ?_
    refine gbl_lst menu (by decide) hu0 nep hp2 fun m vs H4 e24 hm hm4 lvs gvs => ?_
    have X4 := X2'.ex e24
    have nmb : m ≠ b := X2'.ne hm
    refine ⟨_, rfl, _, rfl, _, rfl, m, _, rfl, .inl (SqL.of hm4), b, _, rfl, X4, by omega, small_size' (by omega), fun wy H5 k5 X5 w0 w1 => ?_⟩
    have hm5 : H5 m = some (.lst vs) := k5.at nmb hm4
    obtain ⟨wn, rfl⟩ : ∃ wn : Nat, wy = (wn : Int) := ⟨wy.toNat, by omega⟩
    have hwn : wn < vs.length := by omega
    refine ⟨m, _, _, _, rfl, rfl, SqL.of hm5, at_lit (n := wn) rfl (List.getElem?_eq_getElem hwn), ?_⟩
    have bd0 := gvs _ (List.getElem_mem hwn)
    have bd5 : Bd K (rmH H5 b) (vs[wn]) := bd0.ex (rm_kp' X4 k5)
    clear bd0
    generalize vs[wn] = bad at *
    have k05 := (k02.trans (Kp.ex e24)).trans k5
    have hp5 : H5 p = some (.tup (litV l)) := Kp.tup X k05 hp
    clear menu gvs
    have bd6 := bd5.ex rm_sub
    refine ⟨_, rfl, bd_no bd6.1 fun H6 e6 => ⟨_, _, rfl, rfl, ?_⟩⟩
    obtain ⟨_, ns6, z6, sh6⟩ := bd6.ex e6
    refine ⟨_, rfl, _, rfl, _, rfl, bad, 2, bad, bad, z6, rfl, .inr ⟨rfl, rfl, ns6⟩, sh6, sh6, fun H7 e7 => ⟨_, rfl, iteF' rfl ?_⟩⟩
    have e57 := e6.trans e7
    have hp7 := e57 _ _ hp5
    obtain ⟨w, hw, rw_⟩ := lit_word l
    have av : ∀ H', AnyV K H' (.str w) false := fun _ => .inl ⟨_, .str w, True.intro, rfl⟩
    refine ⟨_, rfl, _, rfl, p, _, 0, _, rfl, rfl, SqT.of hp7, at_lit (n := 0) rfl hw, .ref p, 1, .str w, .str w, _, rfl, .inl ⟨rfl, p, _, [], 0, rfl, .inr (SqT.of hp7), hw, av _, Lits.nil, fun l hl => absurd hl List.not_mem_nil⟩, .str w rw_, .str w rw_, fun H8 e8 => ⟨_, rfl, ?_⟩⟩
    have hp8 := e8 _ _ hp7
    refine ⟨_, rfl, p, _, rfl, .inr (SqT.of hp8), fun g hg => ?_⟩
    have x9 := Ex.new (o := .lst (litV l)) hg
    refine ⟨_, rfl, p, _, 0, _, rfl, rfl, SqT.of (x9 _ _ hp8), at_lit (n := 0) rfl hw, .ref g, 1, .str w, .str w, _, rfl, .inl ⟨rfl, g, _, [], 0, rfl, .inl (SqL.of upd_same), hw, av _, Lits.nil, fun l hl => absurd hl List.not_mem_nil⟩, .str w rw_, .str w rw_, fun H10 e10 => ⟨_, rfl, iteF' rfl ?_⟩⟩
    have e7a := (e8.trans x9).trans e10
    have hp10 := e7a _ _ hp7
    refine ⟨_, rfl, _, rfl, p, _, rfl, .inr (SqT.of hp10), fun g1 hg1 => ⟨by show 2 ≤ sizeLine; decide, fun t ht => ?_⟩⟩
    have y1 := Ex.new (o := .lst (litV l)) hg1
    have y2 := Ex.new (o := .tup [.ref p, .ref g1]) ht
    refine ⟨_, rfl, p, _, rfl, .inr (SqT.of ((y1.trans y2) _ _ hp10)), fun g2 hg2 => ?_⟩
    have y3 := Ex.new (o := .lst (litV l)) hg2
    have hg1' := (y2.trans y3) g1 _ upd_same
    have hg2' := upd_same (H := upd (upd H10 g1 (.lst (litV l))) t (.tup [.ref p, .ref g1])) (a := g2) (o := .lst (litV l))
    have rp := rp_parts ok
    have yy := (y1.trans y2).trans y3
    have dl1 : Dp K _ (.ref g1) (.list (litP l)) := .lst (SqL.of hg1') (lit_parts l)
    have dl2 : Dp K _ (.ref g2) (.list (litP l)) := .lst (SqL.of hg2') (lit_parts l)
    refine ⟨.ref t, 1, .ref g1, .ref g2, _, rfl, .inl ⟨rfl, t, _, [l], 1, rfl, .inr (SqT.of (y3 _ _ upd_same)), rfl, .inl ⟨_, dl1, True.intro, rfl⟩, ⟨rfl, fun i q h => ?_⟩, fun m hm => by rw [List.mem_singleton.mp hm]; exact ok⟩, .d dl1 rp (by decide) (by decide), .d dl2 rp (by decide) (by decide), fun H11 e11 => ⟨_, rfl, iteT' rfl ?_⟩⟩
    · match i, h with
      | 0, h =>
        cases h
        exact ⟨p, rfl, yy _ _ hp10⟩
    have eab := yy.trans e11
    have hp11 := eab _ _ hp10
    refine ⟨_, rfl, by show 1 ≤ sizeLine; decide, fun g3 hg3 => ⟨by show 1 ≤ sizeLine; decide, fun g4 hg4 => ⟨_, rfl, by show 1 ≤ sizeLine; decide, fun g5 hg5 => ?_⟩⟩⟩
    have z1 := Ex.new (o := .lst [.ref p]) hg3
    have z2 := Ex.new (o := .lst [.ref g3]) hg4
    have z3 := Ex.new (o := .lst [.ref p]) hg5
    have zz := (z1.trans z2).trans z3
    have hg3' := (z2.trans z3) g3 _ upd_same
    have hg5' := upd_same (H := upd (upd H11 g3 (.lst [.ref p])) g4 (.lst [.ref g3])) (a := g5) (o := .lst [.ref p])
    have rl := (rp_lits (ls := [l]) (fun m hm => by rw [List.mem_singleton.mp hm]; exact ok) (by show 1 ≤ 1000; decide)).2
    have de1 : Dp K _ (.ref g3) (.list ([l].map litD)) := .lst (SqL.of hg3') (.cons (lit_dp (SqT.of (zz _ _ hp11))) .nil)
    have de2 : Dp K _ (.ref g5) (.list ([l].map litD)) := .lst (SqL.of hg5') (.cons (lit_dp (SqT.of (zz _ _ hp11))) .nil)
    exact ⟨.ref g4, 1, .ref g3, .ref g5, _, rfl, .inl ⟨rfl, g4, _, [], 0, rfl, .inl (SqL.of (z3 _ _ upd_same)), rfl, .inl ⟨_, de1, True.intro, rfl⟩, Lits.nil, fun l hl => absurd hl List.not_mem_nil⟩, .d de1 rl (by decide) (by decide), .d de2 rl (by decide) (by decide), fun H12 e12 =>
      let e5z := (e57.trans e7a).trans (eab.trans (zz.trans e12))
      fin H12 (k05.trans (Kp.ex e5z)) (X5.ex e5z)⟩
end
end V1
set_option maxRecDepth 100000
set_option maxHeartbeats 8000000
/-! errors as values: what is made, asked and compared, the heap only growing -/
namespace V1
open PySem L2 Evl GP HR SC SetM SetH RQ L2H EXV
structure ErrAt (K : PySem.W.Frag) (C : Addr) (fld : Str) (H : Hp) (e : Addr) (d : PyData) : Prop where
  ex : ∃ dd v, H e = some (ExV (.ref C) (some dd) e) ∧ H dd = some (.xd [(fld, v)]) ∧ Dp K H v d
theorem ErrAt.up {K : PySem.W.Frag} {C : Addr} {fld : Str} {H H' : Hp} {e : Addr} {d : PyData} (A : ErrAt K C fld H e d) (x : Ex H H') : ErrAt K C fld H' e d :=
  let ⟨dd, v, h1, h2, h3⟩ := A.ex
  ⟨dd, v, x _ _ h1, x _ _ h2, Dp.ex x h3⟩
section
variable {K : PySem.W.Frag} {a : Ad} {σ : L2.St} {H : Hp} {te te2 : TE} {ta : TA} {d d2 : PyData} {ds es : List PyData} {i k : Nat} {c u : TT} {t rest : TS} {D : Ends} {C : Addr} {fld : Str}
/-- te gives a value of the data d -/
def ED (K : PySem.W.Frag) (te : TE) (σ : L2.St) (H : Hp) (d : PyData) : Prop := ∀ H0, Ex H H0 → ∀ Q : VK, (∀ v H', Ex H0 H' → Dp K H' v d → Q v H') → te σ H0 Q
def EDL (K : PySem.W.Frag) (ta : TA) (σ : L2.St) (H : Hp) (ds : List PyData) : Prop := ∀ H0, Ex H H0 → ∀ Q : List V → Hp → Prop, (∀ vs H', Ex H0 H' → DpAll K H' vs ds → Q vs H') → ta σ H0 Q
/-- the test c is false -/
def FF (c : TT) (σ : L2.St) (H : Hp) : Prop := ∀ H0, Ex H H0 → ∀ Q : Bool → Hp → Prop, (∀ H', Ex H0 H' → Q false H') → c σ H0 Q
/-- te is true -/
def YY (te : TE) (σ : L2.St) (H : Hp) : Prop := ∀ H0, Ex H H0 → ∀ Q : VK, (∀ H', Ex H0 H' → Q (.bl true) H') → te σ H0 Q
def TSx (t : TS) (D : Ends) (σ : L2.St) (H : Hp) : Prop := ∀ H0, Ex H H0 → t D σ H0
theorem ED.up {H' : Hp} (h : ED K te σ H d) (e : Ex H H') : ED K te σ H' d := fun H0 x => h H0 (e.trans x)
theorem FF.up {H' : Hp} (h : FF c σ H) (e : Ex H H') : FF c σ H' := fun H0 x => h H0 (e.trans x)
theorem ed_var {v : V} (hi : σ[i]? = some (some v)) (h : Dp K H v d) : ED K (tVar i) σ H d := fun H0 x Q q => ⟨v, hi, q v H0 (Ex.refl _) (Dp.ex x h)⟩
theorem ed_c {v : V} (h : ∀ H, Dp K H v d) : ED K (tC v) σ H d := fun H0 x Q q => q v H0 (Ex.refl _) (h _)
theorem edl_nil : EDL K tNil σ H [] := fun H0 x Q q => q [] H0 (Ex.refl _) .nil
theorem edl_cons (h : ED K te σ H d) (g : EDL K ta σ H ds) : EDL K (tCons te ta) σ H (d :: ds) := fun H0 x Q q => h H0 x _ fun v H1 e1 dv => g H1 (x.trans e1) _ fun vs H2 e2 dvs => q (v :: vs) H2 (e1.trans e2) (.cons (Dp.ex e2 dv) dvs)
theorem ed_tup (g : EDL K ta σ H ds) (few : ds.length ≤ 1000) : ED K (tTup ta) σ H (.tuple ds) := fun H0 x Q q => g H0 x _ fun vs H1 e1 dvs => ⟨by rw [DpAll.len dvs]; exact Nat.le_trans few (by decide), fun t ht => q (.ref t) _ (e1.trans (Ex.new ht)) (.tup (SqT.of upd_same) (DpAll.ex (Ex.new ht) dvs))⟩
theorem ed_add {n m : Int} (h1 : ED K te σ H (.int n)) (h2 : ED K te2 σ H (.int m)) : ED K (tOp (rI0 fun i j => V.int (i + j)) te te2) σ H (.int (n + m)) := fun H0 x Q q => h1 H0 x _ fun v H1 e1 dv => h2 H1 (x.trans e1) _ fun w H2 e2 dw => by
  cases dv
  cases dw
  exact ⟨n, m, rfl, rfl, q _ H2 (e1.trans e2) (.int _)⟩
theorem ed_sub {n m : Int} (h1 : ED K te σ H (.int n)) (h2 : ED K te2 σ H (.int m)) : ED K (tOp (rI0 fun i j => V.int (i - j)) te te2) σ H (.int (n - m)) := fun H0 x Q q => h1 H0 x _ fun v H1 e1 dv => h2 H1 (x.trans e1) _ fun w H2 e2 dw => by
  cases dv
  cases dw
  exact ⟨n, m, rfl, rfl, q _ H2 (e1.trans e2) (.int _)⟩
theorem DpAll.app {H : Hp} {ws : List V} {es : List PyData} (t : DpAll K H ws es) : ∀ {vs : List V} {ds : List PyData}, DpAll K H vs ds → DpAll K H (vs ++ ws) (ds ++ es)
  | _, _, .nil => t
  | _, _, .cons x y => .cons x (DpAll.app t y)
theorem ed_cat (h1 : ED K te σ H (.tuple ds)) (h2 : ED K te2 σ H (.tuple es)) (nds : ds ≠ []) (few : ds.length + es.length ≤ 1000) : ED K (tOp (rCatT K) te te2) σ H (.tuple (ds ++ es)) := fun H0 x Q q => h1 H0 x _ fun v H1 e1 dv => h2 H1 (x.trans e1) _ fun w H2 e2 dw => by
  have dv2 := Dp.ex e2 dv
  cases dv2 with
  | tup ha xa =>
    cases dw with
    | tup hb xb =>
      have l1 := DpAll.len xa
      have l2 := DpAll.len xb
      refine ⟨_, _, _, _, rfl, rfl, ha, hb, fun z => nds (List.length_eq_zero_iff.mp (by rw [← l1, z]; rfl)), Nat.le_trans (show _ ≤ 1000 by omega) (by decide), fun z => ?_, fun _ t ht => q (.ref t) _ ((e1.trans e2).trans (Ex.new ht)) (.tup (SqT.of upd_same) (DpAll.ex (Ex.new ht) (DpAll.app xb xa)))⟩
      rw [z] at l2
      obtain rfl : es = [] := List.length_eq_zero_iff.mp l2.symm
      rw [List.append_nil] at q
      exact q _ H2 (e1.trans e2) (.tup ha xa)
theorem ed_xv {e : Addr} (A : ErrAt K C fld H e d) (hi : σ[i]? = some (some (.ref e))) : ED K (tXv C fld (tVar i)) σ H d := fun H0 x Q q => by
  obtain ⟨dd, v, h1, h2, h3⟩ := (A.up x).ex
  exact ⟨_, hi, e, dd, _, v, rfl, h1, h2, by simp [List.lookup], q v H0 (Ex.refl _) h3⟩
theorem sh_dp {v : V} {n m : Nat} (h : Dp K H v d) (r : Rp n m d) (hn : n ≤ 60) (hm : m ≤ sizeLine) : ShV K H v d.shown := by
  cases h with
  | non => rw [show (PyData.none).shown = "None" by simp only [PyData.shown]]; exact .non
  | bl b => exact .bl b
  | int i =>
    rw [show (PyData.int i).shown = Str.ofString (toString i) by simp only [PyData.shown]]
    exact .int i (by have := r.sh; simp only [PyData.showable] at this; exact of_decide_eq_true this)
  | str x =>
    rw [show (PyData.str x).shown = reprText x by simp only [PyData.shown]]
    exact .str x (by have := r.ln; simp only [PyData.shown] at this; omega)
  | lst p q => exact .d (.lst p q) r hn hm
  | tup p q => exact .d (.tup p q) r hn hm
/-- _law_alike of two values of the same data -/
theorem yy_alike {E : XK} {n m : Nat} (h1 : ED K te σ H d) (h2 : ED K te2 σ H d) (r : Rp n m d) (hn : n ≤ 60) (hm : m ≤ sizeLine) : YY (tCall (spAlike K) [] E (tCons te (tCons te2 tNil))) σ H := fun H0 x Q q =>
  h1 H0 x _ fun v H1 e1 dv => h2 H1 (x.trans e1) _ fun w H2 e2 dw => ⟨v, w, _, rfl, sh_dp (Dp.ex e2 dv) r hn hm, sh_dp dw r hn hm, fun H3 e3 => q H3 ((e1.trans e2).trans e3)⟩
theorem ff_not (h : YY te σ H) : FF (tNot (tB te)) σ H := fun H0 x Q q => h H0 x _ fun H1 e1 => ⟨true, rfl, q H1 e1⟩
theorem ff_or (h1 : FF c σ H) (h2 : FF u σ H) : FF (tOr c u) σ H := fun H0 x Q q => h1 H0 x _ fun H1 e1 => by
  show (if false = true then Q true H1 else u σ H1 Q)
  rw [if_neg Bool.false_ne_true]
  exact h2 H1 (x.trans e1) Q fun H2 e2 => q H2 (e1.trans e2)
theorem sh_one' {n : Int} : PySem.SeqAt.shaped (.list [.int n]) = true := sh_one
/-- _law_classes of such an error, compared with the list of its number -/
theorem cls_run {E : XK} {r : R2} {bb : Bool} {te : TE} (hr : r = rNeD K ∧ bb = false ∨ r = rEqD K ∧ bb = true) (k22 : k < 22) (he : ∀ H0, Ex H H0 → ∀ Q : VK, (∀ e od H', Ex H0 H' → H' e = some (ExV (.ref (a.eA k)) od e) → (∀ dd, od = some dd → ∃ fs, H' dd = some (.xd fs)) → Q (.ref e) H') → te σ H0 Q) :
    ∀ H0, Ex H H0 → ∀ Q : VK, (∀ H', Ex H0 H' → Q (.bl bb) H') → tOp r (tCall (spClassesV K a) [] E (tCons te tNil)) (tLst (tCons (tC (.int (k : Nat))) tNil)) σ H0 Q := fun H0 x Q q => he H0 x _ fun e od H1 e1 hx hd => by
  refine ⟨e, od, k, rfl, k22, hx, hd, fun u H2 e2 _ hu => ⟨(by show 1 ≤ sizeLine; decide), fun w hw => ?_⟩⟩
  have x3 := Ex.new (o := .lst [.int (k : Nat)]) hw
  have d1 : Dp K _ (.ref u) (.list [.int (k : Nat)]) := .lst (SqL.of (x3 _ _ hu)) (.cons (.int _) .nil)
  have d2 : Dp K (upd H2 w (.lst [.int (k : Nat)])) (.ref w) (.list [.int (k : Nat)]) := .lst (SqL.of upd_same) (.cons (.int _) .nil)
  have fin := q _ ((e1.trans e2).trans x3)
  have eq : PyData.eqv (.list [.int (k : Nat)]) (.list [.int (k : Nat)]) = true := by simp [PyData.eqv, PyData.eqvAll]
  rcases hr with ⟨rfl, rfl⟩ | ⟨rfl, rfl⟩
  · exact ⟨_, _, d1, d2, sh_one, sh_one, by rw [eq]; exact fin⟩
  · exact ⟨_, _, d1, d2, sh_one, sh_one, by rw [eq]; exact fin⟩
theorem ff_cls {E : XK} {e : Addr} (k22 : k < 22) (A : ErrAt K (a.eA k) fld H e d) (hi : σ[i]? = some (some (.ref e))) : FF (tTest (tOp (rNeD K) (tCall (spClassesV K a) [] E (tCons (tVar i) tNil)) (tLst (tCons (tC (.int (k : Nat))) tNil)))) σ H := fun H0 x Q q =>
  cls_run (.inl ⟨rfl, rfl⟩) k22 (fun H0 x Q q => ⟨_, hi, by
    obtain ⟨dd, v, h1, h2, h3⟩ := (A.up x).ex
    exact q e (some dd) H0 (Ex.refl _) h1 fun d' h => by cases h; exact ⟨_, h2⟩⟩) H0 x _ fun H1 e1 => ⟨false, rfl, q H1 e1⟩
theorem ff_clsZ {E : XK} (k22 : k < 22) : FF (tTest (tOp (rNeD K) (tCall (spClassesV K a) [] E (tCons (tMkZ (a.eA k)) tNil)) (tLst (tCons (tC (.int (k : Nat))) tNil)))) σ H := fun H0 x Q q =>
  cls_run (.inl ⟨rfl, rfl⟩) k22 (fun H0 x Q q e he => q e none _ (Ex.new he) upd_same fun d' h => nomatch h) H0 x _ fun H1 e1 => ⟨false, rfl, q H1 e1⟩
theorem yy_clsZ {E : XK} (k22 : k < 22) : YY (tOp (rEqD K) (tCall (spClassesV K a) [] E (tCons (tMkZ (a.eA k)) tNil)) (tLst (tCons (tC (.int (k : Nat))) tNil))) σ H := fun H0 x Q q =>
  cls_run (.inr ⟨rfl, rfl⟩) k22 (fun H0 x Q q e he => q e none _ (Ex.new he) upd_same fun d' h => nomatch h) H0 x _ q
theorem ts_if (h : FF c σ H) (r : TSx rest D σ H) : TSx (tSeq (tIfS c t tNext) rest) D σ H := fun H0 x => h H0 x _ fun H1 e1 => by
  show (if false = true then _ else rest D σ H1)
  rw [if_neg Bool.false_ne_true]
  exact r H1 (x.trans e1)
theorem ts_mk (h : ED K te σ H d) (r : ∀ e H', Ex H H' → ErrAt K C fld H' e d → TSx rest D (σ.set i (some (.ref e))) H') : TSx (tSeq (tAsg (tMkV C fld (tCons te tNil)) (gName i)) rest) D σ H := fun H0 x => h H0 x _ fun v H1 e1 dv => by
  refine ⟨v, rfl, fun dd e hd he ne => ?_⟩
  have x1 := Ex.new (o := .xd [(fld, v)]) hd
  have he' : (upd H1 dd (.xd [(fld, v)])) e = none := by rw [upd_ne ne]; exact he
  have x2 := Ex.new (o := ExV (.ref C) (some dd) e) he'
  have xx := (x.trans e1).trans (x1.trans x2)
  exact r e _ xx ⟨dd, v, upd_same, x2 _ _ upd_same, Dp.ex (x1.trans x2) dv⟩ _ (Ex.refl _)
theorem ts_ret (h : YY te σ H) (q : ∀ H', Ex H H' → D.rt (.bl true) H') : TSx (tRet te) D σ H := fun H0 x => h H0 x _ fun H1 e1 => q H1 (x.trans e1)
theorem yy_and (h1 : YY te σ H) (h2 : YY te2 σ H) : YY (tAndV te te2) σ H := fun H0 x Q q => h1 H0 x _ fun H1 e1 => ⟨true, rfl, by rw [if_pos rfl]; exact h2 H1 (x.trans e1) Q fun H2 e2 => q H2 (e1.trans e2)⟩
end
end V1
set_option maxRecDepth 100000
set_option maxHeartbeats 8000000
namespace V1
open PySem L2 Evl GP HR SC SetM SetH RQ L2H EXV
theorem TSx.run {t : TS} {D : Ends} {σ : L2.St} {H : Hp} (h : TSx t D σ H) : t D σ H := h H (Ex.refl _)
def spFamA (K : PySem.W.Frag) : Sp := fun vs H Q _ => ∃ (x : Str) (p r : V) (n : Int) (l b1 b2 : Lit), vs = [.str x, p, .int n, r] ∧ isNameS x = true ∧ Dp K H p (litD l) ∧ LitOk l ∧ n.natAbs ≤ 1000 ∧ Dp K H r (.tuple [litD b1, litD b2]) ∧ LitOk b1 ∧ LitOk b2 ∧ ∀ H', Ex H H' → Q (.bl true) H'
theorem log_1k {n : Int} (h : n.natAbs ≤ 1002) : n.natAbs.log2 < 1920 := Nat.lt_of_le_of_lt (Nat.log2_le_self _) (by omega)
section
variable {P : Program} {w : World} {K : PySem.W.Frag} {mg : Str → Option Value} {base : Heap} {a : Ad} {d : Fd} {fL fC : Addr} {f : Ed}
theorem ok_law_family_a (T : TX K mg a) (D : FDS K a d) (C : EN K a) (E : EA K mg P a f) : FnG P w K mg base 8 a.a_law_family_a d.a_law_family_a ["name", "row", "number", "ring"] (spFamA K) := by
  have G__law_classes : FnOk P w K mg base CX0 1 a.a_law_classes d.a_law_classes ["e"] (spClassesV K a) := ok_law_classes T D C
  have G__law_alike : FnG P w K mg base 2 a.a_law_alike d.a_law_alike ["one", "two"] (spAlike K) := ok_law_alike T D
  refine okG D.F__law_family_a sc_law_family_a (fun vs H Q E h => ?_) (fun cdv A outer s H vs Q E0 hr gd h => ?_)
  · obtain ⟨x, p, r, n, l, b1, b2, rfl, _⟩ := h
    rfl
  · obtain ⟨x, p, r, n, l, b1, b2, rfl, nx, hp, ok, hn, dr, ok1, ok2, q⟩ := h
    refine ⟨_, (pss_cons (ps_set (i := 4) sc_law_family_a.nd rfl (Or.inl rfl) (EXV.pe_supV E.s0 hr (by exact (pa_cons (pv 0) pa_nil))))
        (pss_cons (ps_set (i := 5) sc_law_family_a.nd rfl (Or.inl rfl) (EXV.pe_supV E.s1 hr (by exact (pa_cons (pv 2) pa_nil))))
        (pss_cons (ps_set (i := 6) sc_law_family_a.nd rfl (Or.inl rfl) (EXV.pe_supV E.s2 hr (by exact (pa_cons (pv 1) pa_nil))))
        (pss_cons (ps_set (i := 7) sc_law_family_a.nd rfl (Or.inl rfl) (EXV.pe_supV E.s3 hr (by exact (pa_cons (pe_op op_add (pv 2) pe_int) pa_nil))))
        (pss_cons (ps_set (i := 8) sc_law_family_a.nd rfl (Or.inl rfl) (EXV.pe_supV E.s4 hr (by exact (pa_cons (pv 0) pa_nil))))
        (pss_cons (ps_set (i := 9) sc_law_family_a.nd rfl (Or.inl rfl) (EXV.pe_supV E.s5 hr (by exact (pa_cons (pe_op op_catT (pv 3) (pe_tup (pa_cons (pv 1) pa_nil))) pa_nil))))
        (pss_cons (ps_set (i := 10) sc_law_family_a.nd rfl (Or.inl rfl) (EXV.pe_supV E.s6 hr (by exact (pa_cons (pv 3) pa_nil))))
        (pss_cons (ps_if (PW.pt (pw_or (pt_cmpR (op_neD hr.units) (pe_call G__law_classes (hr.mono (by decide)) rfl T.f__law_classes T.k__law_classes D.B__law_classes .nil pass0 (pa_cons (pv 4) pa_nil)) (pe_lst (pa_cons pe_int pa_nil)) (nomark _)) (pw_or (pt_cmpR (op_neD hr.units) (pe_call G__law_classes (hr.mono (by decide)) rfl T.f__law_classes T.k__law_classes D.B__law_classes .nil pass0 (pa_cons (pv 5) pa_nil)) (pe_lst (pa_cons pe_int pa_nil)) (nomark _)) (pw_or1 (pt_cmpR (op_neD hr.units) (pe_call G__law_classes (hr.mono (by decide)) rfl T.f__law_classes T.k__law_classes D.B__law_classes .nil pass0 (pa_cons (pv 6) pa_nil)) (pe_lst (pa_cons pe_int pa_nil)) (nomark _)))))) (pss_one (ps_ret pe_bl)) pss_nil)
        (pss_cons (ps_if (PW.pt (pw_or (pt_cmpR (op_neD hr.units) (pe_call G__law_classes (hr.mono (by decide)) rfl T.f__law_classes T.k__law_classes D.B__law_classes .nil pass0 (pa_cons (pv 7) pa_nil)) (pe_lst (pa_cons pe_int pa_nil)) (nomark _)) (pw_or (pt_cmpR (op_neD hr.units) (pe_call G__law_classes (hr.mono (by decide)) rfl T.f__law_classes T.k__law_classes D.B__law_classes .nil pass0 (pa_cons (pv 8) pa_nil)) (pe_lst (pa_cons pe_int pa_nil)) (nomark _)) (pw_or1 (pt_cmpR (op_neD hr.units) (pe_call G__law_classes (hr.mono (by decide)) rfl T.f__law_classes T.k__law_classes D.B__law_classes .nil pass0 (pa_cons (pv 9) pa_nil)) (pe_lst (pa_cons pe_int pa_nil)) (nomark _)))))) (pss_one (ps_ret pe_bl)) pss_nil)
        (pss_cons (ps_if (pt_cmpR (op_neD hr.units) (pe_call G__law_classes (hr.mono (by decide)) rfl T.f__law_classes T.k__law_classes D.B__law_classes .nil pass0 (pa_cons (pv 10) pa_nil)) (pe_lst (pa_cons pe_int pa_nil)) (nomark _)) (pss_one (ps_ret pe_bl)) pss_nil)
        (pss_cons (ps_if (PW.pt (pw_or (pt_not (pt_val (pe_callG G__law_alike (hr.mono (by decide)) gd rfl T.f__law_alike T.k__law_alike D.B__law_alike pass0 (pa_cons (EXV.pe_xv E.x0 E.n0 (pv 4)) (pa_cons (pv 0) pa_nil))))) (pw_or1 (pt_not (pt_val (pe_callG G__law_alike (hr.mono (by decide)) gd rfl T.f__law_alike T.k__law_alike D.B__law_alike pass0 (pa_cons (EXV.pe_xv E.x1 E.n1 (pv 5)) (pa_cons (pv 2) pa_nil)))))))) (pss_one (ps_ret pe_bl)) pss_nil)
        (pss_cons (ps_if (PW.pt (pw_or (pt_not (pt_val (pe_callG G__law_alike (hr.mono (by decide)) gd rfl T.f__law_alike T.k__law_alike D.B__law_alike pass0 (pa_cons (EXV.pe_xv E.x2 E.n2 (pv 6)) (pa_cons (pv 1) pa_nil))))) (pw_or1 (pt_not (pt_val (pe_callG G__law_alike (hr.mono (by decide)) gd rfl T.f__law_alike T.k__law_alike D.B__law_alike pass0 (pa_cons (EXV.pe_xv E.x3 E.n3 (pv 7)) (pa_cons (pe_op op_add (pv 2) pe_int) pa_nil)))))))) (pss_one (ps_ret pe_bl)) pss_nil)
        (pss_cons (ps_if (PW.pt (pw_or (pt_not (pt_val (pe_callG G__law_alike (hr.mono (by decide)) gd rfl T.f__law_alike T.k__law_alike D.B__law_alike pass0 (pa_cons (EXV.pe_xv E.x4 E.n4 (pv 8)) (pa_cons (pv 0) pa_nil))))) (pw_or1 (pt_not (pt_val (pe_callG G__law_alike (hr.mono (by decide)) gd rfl T.f__law_alike T.k__law_alike D.B__law_alike pass0 (pa_cons (EXV.pe_xv E.x5 E.n5 (pv 9)) (pa_cons (pe_op op_catT (pv 3) (pe_tup (pa_cons (pv 1) pa_nil))) pa_nil)))))))) (pss_one (ps_ret pe_bl)) pss_nil)
        (pss_one (ps_ret (pe_callG G__law_alike (hr.mono (by decide)) gd rfl T.f__law_alike T.k__law_alike D.B__law_alike pass0 (pa_cons (EXV.pe_xv E.x6 E.n6 (pv 10)) (pa_cons (pv 3) pa_nil)))))))))))))))))), ?_⟩
    have dx : Dp K H (.str x) (.str x) := .str x
    have dn : Dp K H (.int n) (.int n) := .int n
    have dp : Dp K H p (litD l) := hp
    have rx := rp_name nx
    have rn : Rp 0 1921 (.int n) := Rp.int (log_1k (by omega))
    have rn1 : Rp 0 1921 (.int (n + 1)) := Rp.int (log_1k (by omega))
    have rl := rp_lit ok
    have r2 : Rp 2 8012002 (.tuple [litD b1, litD b2]) := (rp_lits (ls := [b1, b2]) (by simp [ok1, ok2]) (by show 2 ≤ 1000; decide)).1
    have r3 : Rp 2 8012002 (.tuple ([litD b1, litD b2] ++ [litD l])) := (rp_lits (ls := [b1, b2, l]) (by simp [ok1, ok2, ok]) (by show 3 ≤ 1000; decide)).1
    have big : 8012002 ≤ sizeLine := by decide
    refine TSx.run ?_
    refine ts_mk (ed_var rfl dx) fun e1 H1 x1 A1 => ?_
    refine ts_mk (ed_var rfl (Dp.ex x1 dn)) fun e2 H2 x2 A2 => ?_
    have x02 := x1.trans x2
    refine ts_mk (ed_var rfl (Dp.ex x02 dp)) fun e3 H3 x3 A3 => ?_
    have x03 := x02.trans x3
    refine ts_mk (ed_add (ed_var rfl (Dp.ex x03 dn)) (ed_c fun _ => .int 1)) fun e4 H4 x4 A4 => ?_
    have x04 := x03.trans x4
    refine ts_mk (ed_var rfl (Dp.ex x04 dx)) fun e5 H5 x5 A5 => ?_
    have x05 := x04.trans x5
    refine ts_mk (ed_cat (ed_var rfl (Dp.ex x05 dr)) (ed_tup (edl_cons (ed_var rfl (Dp.ex x05 dp)) edl_nil) (by show 1 ≤ 1000; decide)) (by simp) (by show 3 ≤ 1000; decide)) fun e6 H6 x6 A6 => ?_
    have x06 := x05.trans x6
    refine ts_mk (ed_var rfl (Dp.ex x06 dr)) fun e7 H7 x7 A7 => ?_
    have x07 := x06.trans x7
    have B1 := ((((((A1.up x2).up x3).up x4).up x5).up x6).up x7)
    have B2 := (((((A2.up x3).up x4).up x5).up x6).up x7)
    have B3 := ((((A3.up x4).up x5).up x6).up x7)
    have B4 := (((A4.up x5).up x6).up x7)
    have B5 := ((A5.up x6).up x7)
    have B6 := A6.up x7
    have dx7 := Dp.ex x07 dx
    have dn7 := Dp.ex x07 dn
    have dp7 := Dp.ex x07 dp
    have dr7 := Dp.ex x07 dr
    refine ts_if (ff_or (ff_cls (k := 0) (by decide) B1 rfl) (ff_or (ff_cls (k := 1) (by decide) B2 rfl) (ff_cls (k := 2) (by decide) B3 rfl))) ?_
    refine ts_if (ff_or (ff_cls (k := 3) (by decide) B4 rfl) (ff_or (ff_cls (k := 4) (by decide) B5 rfl) (ff_cls (k := 5) (by decide) B6 rfl))) ?_
    refine ts_if (ff_cls (k := 6) (by decide) A7 rfl) ?_
    refine ts_if (ff_or (ff_not (yy_alike (ed_xv B1 rfl) (ed_var rfl dx7) rx (by decide) (by decide))) (ff_not (yy_alike (ed_xv B2 rfl) (ed_var rfl dn7) rn (by decide) (by decide)))) ?_
    refine ts_if (ff_or (ff_not (yy_alike (ed_xv B3 rfl) (ed_var rfl dp7) rl (by decide) (by decide))) (ff_not (yy_alike (ed_xv B4 rfl) (ed_add (ed_var rfl dn7) (ed_c fun _ => .int 1)) rn1 (by decide) (by decide)))) ?_
    refine ts_if (ff_or (ff_not (yy_alike (ed_xv B5 rfl) (ed_var rfl dx7) rx (by decide) (by decide))) (ff_not (yy_alike (ed_xv B6 rfl) (ed_cat (ed_var rfl dr7) (ed_tup (edl_cons (ed_var rfl dp7) edl_nil) (by show 1 ≤ 1000; decide)) (by simp) (by show 3 ≤ 1000; decide)) r3 (by decide) big))) ?_
    exact ts_ret (yy_alike (ed_xv A7 rfl) (ed_var rfl dr7) r2 (by decide) big) fun H' e => q H' (x07.trans e)
end
end V1
set_option maxRecDepth 100000
set_option maxHeartbeats 8000000
namespace V1
open PySem L2 Evl GP HR SC SetM SetH RQ L2H EXV
theorem ts_asg {K : PySem.W.Frag} {σ : L2.St} {H : Hp} {te : TE} {d : PyData} {i : Nat} {rest : TS} {D : Ends} (h : ED K te σ H d) (r : ∀ v H', Ex H H' → Dp K H' v d → TSx rest D (σ.set i (some v)) H') : TSx (tSeq (tAsg te (gName i)) rest) D σ H :=
  fun H0 x => h H0 x _ fun v H1 e1 dv => r v H1 (x.trans e1) dv H1 (Ex.refl _)
def spFamB (K : PySem.W.Frag) : Sp := fun vs H Q _ => ∃ (p u : V) (n : Int) (l : Lit) (ls : List Lit), vs = [p, .int n, u] ∧ Dp K H p (litD l) ∧ LitOk l ∧ n.natAbs ≤ 1000 ∧ Dp K H u (.tuple (ls.map litD)) ∧ (∀ l ∈ ls, LitOk l) ∧ ls.length ≤ 1000 ∧ ∀ H', Ex H H' → Q (.bl true) H'
def spFamC (K : PySem.W.Frag) : Sp := fun vs H Q _ => ∃ (x : Str) (u : V) (n : Int) (ls : List Lit), vs = [.str x, .int n, u] ∧ isNameS x = true ∧ n.natAbs ≤ 1000 ∧ Dp K H u (.tuple (ls.map litD)) ∧ (∀ l ∈ ls, LitOk l) ∧ ls.length ≤ 1000 ∧ ∀ H', Ex H H' → Q (.bl true) H'
section
variable {P : Program} {w : World} {K : PySem.W.Frag} {mg : Str → Option Value} {base : Heap} {a : Ad} {d : Fd} {fL fC : Addr} {f : Ed}
theorem ok_law_family_b (T : TX K mg a) (D : FDS K a d) (C : EN K a) (E : EA K mg P a f) : FnG P w K mg base 8 a.a_law_family_b d.a_law_family_b ["row", "number", "due"] (spFamB K) := by
  have G__law_classes : FnOk P w K mg base CX0 1 a.a_law_classes d.a_law_classes ["e"] (spClassesV K a) := ok_law_classes T D C
  have G__law_alike : FnG P w K mg base 2 a.a_law_alike d.a_law_alike ["one", "two"] (spAlike K) := ok_law_alike T D
  refine okG D.F__law_family_b sc_law_family_b (fun vs H Q E h => ?_) (fun cdv A outer s H vs Q E0 hr gd h => ?_)
  · obtain ⟨p, u, n, l, ls, rfl, _⟩ := h
    rfl
  · obtain ⟨p, u, n, l, ls, rfl, hp, ok, hn, du, okl, few, q⟩ := h
    refine ⟨_, (pss_cons (ps_set (i := 3) sc_law_family_b.nd rfl (Or.inl rfl) (EXV.pe_supV E.s7 hr (by exact (pa_cons (pv 0) pa_nil))))
        (pss_cons (ps_set (i := 4) sc_law_family_b.nd rfl (Or.inl rfl) (EXV.pe_supV E.s8 hr (by exact (pa_cons (pv 1) pa_nil))))
        (pss_cons (ps_set (i := 5) sc_law_family_b.nd rfl (Or.inl rfl) (EXV.pe_supV E.s9 hr (by exact (pa_cons (pv 0) pa_nil))))
        (pss_cons (ps_set (i := 6) sc_law_family_b.nd rfl (Or.inl rfl) (EXV.pe_supV E.s10 hr (by exact (pa_cons (pv 1) pa_nil))))
        (pss_cons (ps_set (i := 7) sc_law_family_b.nd rfl (Or.inl rfl) (EXV.pe_supV E.s11 hr (by exact (pa_cons (pe_tup (pa_cons pe_str (pa_cons (pv 0) pa_nil))) pa_nil))))
        (pss_cons (ps_set (i := 8) sc_law_family_b.nd rfl (Or.inl rfl) (EXV.pe_supV E.s13 hr (by exact (pa_cons (pe_op op_sub pe_int (pv 1)) pa_nil))))
        (pss_cons (ps_set (i := 9) sc_law_family_b.nd rfl (Or.inl rfl) (EXV.pe_supV E.s20 hr (by exact (pa_cons (pv 2) pa_nil))))
        (pss_cons (ps_set (i := 10) sc_law_family_b.nd rfl (Or.inl rfl) (EXV.pe_supV E.s21 hr (by exact (pa_cons (pv 1) pa_nil))))
        (pss_cons (ps_if (PW.pt (pw_or (pt_cmpR (op_neD hr.units) (pe_call G__law_classes (hr.mono (by decide)) rfl T.f__law_classes T.k__law_classes D.B__law_classes .nil pass0 (pa_cons (pv 3) pa_nil)) (pe_lst (pa_cons pe_int pa_nil)) (nomark _)) (pw_or (pt_cmpR (op_neD hr.units) (pe_call G__law_classes (hr.mono (by decide)) rfl T.f__law_classes T.k__law_classes D.B__law_classes .nil pass0 (pa_cons (pv 4) pa_nil)) (pe_lst (pa_cons pe_int pa_nil)) (nomark _)) (pw_or1 (pt_cmpR (op_neD hr.units) (pe_call G__law_classes (hr.mono (by decide)) rfl T.f__law_classes T.k__law_classes D.B__law_classes .nil pass0 (pa_cons (pv 5) pa_nil)) (pe_lst (pa_cons pe_int pa_nil)) (nomark _)))))) (pss_one (ps_ret pe_bl)) pss_nil)
        (pss_cons (ps_if (PW.pt (pw_or (pt_cmpR (op_neD hr.units) (pe_call G__law_classes (hr.mono (by decide)) rfl T.f__law_classes T.k__law_classes D.B__law_classes .nil pass0 (pa_cons (pv 6) pa_nil)) (pe_lst (pa_cons pe_int pa_nil)) (nomark _)) (pw_or (pt_cmpR (op_neD hr.units) (pe_call G__law_classes (hr.mono (by decide)) rfl T.f__law_classes T.k__law_classes D.B__law_classes .nil pass0 (pa_cons (pv 7) pa_nil)) (pe_lst (pa_cons pe_int pa_nil)) (nomark _)) (pw_or1 (pt_cmpR (op_neD hr.units) (pe_call G__law_classes (hr.mono (by decide)) rfl T.f__law_classes T.k__law_classes D.B__law_classes .nil pass0 (pa_cons (pv 8) pa_nil)) (pe_lst (pa_cons pe_int pa_nil)) (nomark _)))))) (pss_one (ps_ret pe_bl)) pss_nil)
        (pss_cons (ps_if (PW.pt (pw_or (pt_cmpR (op_neD hr.units) (pe_call G__law_classes (hr.mono (by decide)) rfl T.f__law_classes T.k__law_classes D.B__law_classes .nil pass0 (pa_cons (pv 9) pa_nil)) (pe_lst (pa_cons pe_int pa_nil)) (nomark _)) (pw_or1 (pt_cmpR (op_neD hr.units) (pe_call G__law_classes (hr.mono (by decide)) rfl T.f__law_classes T.k__law_classes D.B__law_classes .nil pass0 (pa_cons (pv 10) pa_nil)) (pe_lst (pa_cons pe_int pa_nil)) (nomark _))))) (pss_one (ps_ret pe_bl)) pss_nil)
        (pss_cons (ps_if (PW.pt (pw_or (pt_not (pt_val (pe_callG G__law_alike (hr.mono (by decide)) gd rfl T.f__law_alike T.k__law_alike D.B__law_alike pass0 (pa_cons (EXV.pe_xv E.x7 E.n7 (pv 3)) (pa_cons (pv 0) pa_nil))))) (pw_or1 (pt_not (pt_val (pe_callG G__law_alike (hr.mono (by decide)) gd rfl T.f__law_alike T.k__law_alike D.B__law_alike pass0 (pa_cons (EXV.pe_xv E.x8 E.n8 (pv 4)) (pa_cons (pv 1) pa_nil)))))))) (pss_one (ps_ret pe_bl)) pss_nil)
        (pss_cons (ps_if (PW.pt (pw_or (pt_not (pt_val (pe_callG G__law_alike (hr.mono (by decide)) gd rfl T.f__law_alike T.k__law_alike D.B__law_alike pass0 (pa_cons (EXV.pe_xv E.x9 E.n9 (pv 5)) (pa_cons (pv 0) pa_nil))))) (pw_or1 (pt_not (pt_val (pe_callG G__law_alike (hr.mono (by decide)) gd rfl T.f__law_alike T.k__law_alike D.B__law_alike pass0 (pa_cons (EXV.pe_xv E.x10 E.n10 (pv 6)) (pa_cons (pv 1) pa_nil)))))))) (pss_one (ps_ret pe_bl)) pss_nil)
        (pss_cons (ps_if (PW.pt (pw_or (pt_not (pt_val (pe_callG G__law_alike (hr.mono (by decide)) gd rfl T.f__law_alike T.k__law_alike D.B__law_alike pass0 (pa_cons (EXV.pe_xv E.x11 E.n11 (pv 7)) (pa_cons (pe_tup (pa_cons pe_str (pa_cons (pv 0) pa_nil))) pa_nil))))) (pw_or1 (pt_not (pt_val (pe_callG G__law_alike (hr.mono (by decide)) gd rfl T.f__law_alike T.k__law_alike D.B__law_alike pass0 (pa_cons (EXV.pe_xv E.x13 E.n13 (pv 8)) (pa_cons (pe_op op_sub pe_int (pv 1)) pa_nil)))))))) (pss_one (ps_ret pe_bl)) pss_nil)
        (pss_one (ps_ret (pe_and (pe_callG G__law_alike (hr.mono (by decide)) gd rfl T.f__law_alike T.k__law_alike D.B__law_alike pass0 (pa_cons (EXV.pe_xv E.x20 E.n20 (pv 9)) (pa_cons (pv 2) pa_nil))) (pe_one (pe_callG G__law_alike (hr.mono (by decide)) gd rfl T.f__law_alike T.k__law_alike D.B__law_alike pass0 (pa_cons (EXV.pe_xv E.x21 E.n21 (pv 10)) (pa_cons (pv 1) pa_nil))))))))))))))))))))), ?_⟩
    have dn : Dp K H (.int n) (.int n) := .int n
    have dp : Dp K H p (litD l) := hp
    have rn : Rp 0 1921 (.int n) := Rp.int (log_1k (by omega))
    have rn1 : Rp 0 1921 (.int (0 - n)) := Rp.int (log_1k (by omega))
    have rl := rp_lit ok
    have ru := (rp_lits okl few).1
    have rdec : Rp 2 800000 (.tuple [.str "decide", litD l]) := (Rp.tuple (n := 1) (c := 8010) fun d hd => by
      simp only [List.mem_cons, List.not_mem_nil, or_false] at hd
      rcases hd with rfl | rfl
      · exact (Rp.str (low_lit (by decide +kernel))).mono (by decide) (by decide +kernel)
      · exact rl).mono (by decide) (by show 2 * 8012 + 2 ≤ _; decide)
    have big : 8012002 ≤ sizeLine := by decide
    refine TSx.run ?_
    refine ts_mk (ed_var rfl dp) fun e1 H1 x1 A1 => ?_
    refine ts_mk (ed_var rfl (Dp.ex x1 dn)) fun e2 H2 x2 A2 => ?_
    have x02 := x1.trans x2
    refine ts_mk (ed_var rfl (Dp.ex x02 dp)) fun e3 H3 x3 A3 => ?_
    have x03 := x02.trans x3
    refine ts_mk (ed_var rfl (Dp.ex x03 dn)) fun e4 H4 x4 A4 => ?_
    have x04 := x03.trans x4
    refine ts_mk (ed_tup (edl_cons (ed_c fun _ => .str "decide") (edl_cons (ed_var rfl (Dp.ex x04 dp)) edl_nil)) (by show 2 ≤ 1000; decide)) fun e5 H5 x5 A5 => ?_
    have x05 := x04.trans x5
    refine ts_mk (ed_sub (ed_c fun _ => .int 0) (ed_var rfl (Dp.ex x05 dn))) fun e6 H6 x6 A6 => ?_
    have x06 := x05.trans x6
    refine ts_mk (ed_var rfl (Dp.ex x06 du)) fun e7 H7 x7 A7 => ?_
    have x07 := x06.trans x7
    refine ts_mk (ed_var rfl (Dp.ex x07 dn)) fun e8 H8 x8 A8 => ?_
    have x08 := x07.trans x8
    have B1 := (((((((A1.up x2).up x3).up x4).up x5).up x6).up x7).up x8)
    have B2 := ((((((A2.up x3).up x4).up x5).up x6).up x7).up x8)
    have B3 := (((((A3.up x4).up x5).up x6).up x7).up x8)
    have B4 := ((((A4.up x5).up x6).up x7).up x8)
    have B5 := (((A5.up x6).up x7).up x8)
    have B6 := (A6.up x7).up x8
    have B7 := A7.up x8
    have dn8 := Dp.ex x08 dn
    have dp8 := Dp.ex x08 dp
    have du8 := Dp.ex x08 du
    refine ts_if (ff_or (ff_cls (k := 7) (by decide) B1 rfl) (ff_or (ff_cls (k := 8) (by decide) B2 rfl) (ff_cls (k := 9) (by decide) B3 rfl))) ?_
    refine ts_if (ff_or (ff_cls (k := 10) (by decide) B4 rfl) (ff_or (ff_cls (k := 11) (by decide) B5 rfl) (ff_cls (k := 13) (by decide) B6 rfl))) ?_
    refine ts_if (ff_or (ff_cls (k := 20) (by decide) B7 rfl) (ff_cls (k := 21) (by decide) A8 rfl)) ?_
    refine ts_if (ff_or (ff_not (yy_alike (ed_xv B1 rfl) (ed_var rfl dp8) rl (by decide) (by decide))) (ff_not (yy_alike (ed_xv B2 rfl) (ed_var rfl dn8) rn (by decide) (by decide)))) ?_
    refine ts_if (ff_or (ff_not (yy_alike (ed_xv B3 rfl) (ed_var rfl dp8) rl (by decide) (by decide))) (ff_not (yy_alike (ed_xv B4 rfl) (ed_var rfl dn8) rn (by decide) (by decide)))) ?_
    refine ts_if (ff_or (ff_not (yy_alike (ed_xv B5 rfl) (ed_tup (edl_cons (ed_c fun _ => .str "decide") (edl_cons (ed_var rfl dp8) edl_nil)) (by show 2 ≤ 1000; decide)) rdec (by decide) (by decide))) (ff_not (yy_alike (ed_xv B6 rfl) (ed_sub (ed_c fun _ => .int 0) (ed_var rfl dn8)) rn1 (by decide) (by decide)))) ?_
    exact ts_ret (yy_and (yy_alike (ed_xv B7 rfl) (ed_var rfl du8) ru (by decide) big) (yy_alike (ed_xv A8 rfl) (ed_var rfl dn8) rn (by decide) (by decide))) fun H' e => q H' (x08.trans e)
theorem ok_law_family_c (T : TX K mg a) (D : FDS K a d) (C : EN K a) (E : EA K mg P a f) : FnG P w K mg base 8 a.a_law_family_c d.a_law_family_c ["name", "number", "due"] (spFamC K) := by
  have G__law_classes : FnOk P w K mg base CX0 1 a.a_law_classes d.a_law_classes ["e"] (spClassesV K a) := ok_law_classes T D C
  have G__law_alike : FnG P w K mg base 2 a.a_law_alike d.a_law_alike ["one", "two"] (spAlike K) := ok_law_alike T D
  refine okG D.F__law_family_c sc_law_family_c (fun vs H Q E h => ?_) (fun cdv A outer s H vs Q E0 hr gd h => ?_)
  · obtain ⟨x, u, n, ls, rfl, _⟩ := h
    rfl
  · obtain ⟨x, u, n, ls, rfl, nx, hn, du, okl, few, q⟩ := h
    refine ⟨_, (pss_cons (ps_set (i := 3) sc_law_family_c.nd rfl (Or.inl rfl) (pe_tup (pa_cons (pe_tup (pa_cons (pv 0) pa_nil)) (pa_cons (pe_tup (pa_cons (pe_tup (pa_cons (pv 0) (pa_cons (pv 1) pa_nil))) pa_nil)) pa_nil))))
        (pss_cons (ps_set (i := 4) sc_law_family_c.nd rfl (Or.inl rfl) (EXV.pe_supV E.s15 hr (by exact (pa_cons (pv 3) pa_nil))))
        (pss_cons (ps_set (i := 5) sc_law_family_c.nd rfl (Or.inl rfl) (EXV.pe_supV E.s16 hr (by exact (pa_cons (pe_tup (pa_cons (pe_tup (pa_cons pe_str (pa_cons (pv 2) pa_nil))) pa_nil)) pa_nil))))
        (pss_cons (ps_if (PW.pt (pw_or (pt_cmpR (op_neD hr.units) (pe_call G__law_classes (hr.mono (by decide)) rfl T.f__law_classes T.k__law_classes D.B__law_classes .nil pass0 (pa_cons (pv 4) pa_nil)) (pe_lst (pa_cons pe_int pa_nil)) (nomark _)) (pw_or1 (pt_not (pt_val (pe_callG G__law_alike (hr.mono (by decide)) gd rfl T.f__law_alike T.k__law_alike D.B__law_alike pass0 (pa_cons (EXV.pe_xv E.x15 E.n15 (pv 4)) (pa_cons (pv 3) pa_nil)))))))) (pss_one (ps_ret pe_bl)) pss_nil)
        (pss_cons (ps_if (PW.pt (pw_or (pt_cmpR (op_neD hr.units) (pe_call G__law_classes (hr.mono (by decide)) rfl T.f__law_classes T.k__law_classes D.B__law_classes .nil pass0 (pa_cons (pv 5) pa_nil)) (pe_lst (pa_cons pe_int pa_nil)) (nomark _)) (pw_or1 (pt_not (pt_val (pe_callG G__law_alike (hr.mono (by decide)) gd rfl T.f__law_alike T.k__law_alike D.B__law_alike pass0 (pa_cons (EXV.pe_xv E.x16 E.n16 (pv 5)) (pa_cons (pe_tup (pa_cons (pe_tup (pa_cons pe_str (pa_cons (pv 2) pa_nil))) pa_nil)) pa_nil)))))))) (pss_one (ps_ret pe_bl)) pss_nil)
        (pss_cons (ps_if (PW.pt (pw_or (pt_cmpR (op_neD hr.units) (pe_call G__law_classes (hr.mono (by decide)) rfl T.f__law_classes T.k__law_classes D.B__law_classes .nil pass0 (pa_cons (EXV.pe_supZ E.s12 hr) pa_nil)) (pe_lst (pa_cons pe_int pa_nil)) (nomark _)) (pw_or1 (pt_cmpR (op_neD hr.units) (pe_call G__law_classes (hr.mono (by decide)) rfl T.f__law_classes T.k__law_classes D.B__law_classes .nil pass0 (pa_cons (EXV.pe_supZ E.s14 hr) pa_nil)) (pe_lst (pa_cons pe_int pa_nil)) (nomark _))))) (pss_one (ps_ret pe_bl)) pss_nil)
        (pss_cons (ps_if (PW.pt (pw_or (pt_cmpR (op_neD hr.units) (pe_call G__law_classes (hr.mono (by decide)) rfl T.f__law_classes T.k__law_classes D.B__law_classes .nil pass0 (pa_cons (EXV.pe_supZ E.s17 hr) pa_nil)) (pe_lst (pa_cons pe_int pa_nil)) (nomark _)) (pw_or1 (pt_cmpR (op_neD hr.units) (pe_call G__law_classes (hr.mono (by decide)) rfl T.f__law_classes T.k__law_classes D.B__law_classes .nil pass0 (pa_cons (EXV.pe_supZ E.s18 hr) pa_nil)) (pe_lst (pa_cons pe_int pa_nil)) (nomark _))))) (pss_one (ps_ret pe_bl)) pss_nil)
        (pss_one (ps_ret (pe_cmpR (op_eqD hr.units) (pe_call G__law_classes (hr.mono (by decide)) rfl T.f__law_classes T.k__law_classes D.B__law_classes .nil pass0 (pa_cons (EXV.pe_supZ E.s19 hr) pa_nil)) (pe_lst (pa_cons pe_int pa_nil)) (nomark _))))))))))), ?_⟩
    have dn : Dp K H (.int n) (.int n) := .int n
    have dx : Dp K H (.str x) (.str x) := .str x
    have rn : Rp 0 2000 (.int n) := (Rp.int (log_1k (by omega))).mono (by decide) (by decide)
    have rx := rp_name nx
    have ru := (rp_lits okl few).1
    have rpair : Rp 1 4100 (.tuple [.str x, .int n]) := (Rp.tuple (n := 0) (c := 2000) fun d hd => by
      simp only [List.mem_cons, List.not_mem_nil, or_false] at hd
      rcases hd with rfl | rfl
      · exact rx
      · exact rn).mono (by decide) (by show 2 * 2002 + 2 ≤ _; decide)
    have rone : Rp 2 4200 (.tuple [.str x]) := (Rp.tuple (n := 0) (c := 2000) fun d hd => by
      rw [List.mem_singleton.mp hd]; exact rx).mono (by decide) (by show 1 * 2002 + 2 ≤ _; decide)
    have rpp : Rp 2 4200 (.tuple [.tuple [.str x, .int n]]) := (Rp.tuple (n := 1) (c := 4100) fun d hd => by
      rw [List.mem_singleton.mp hd]; exact rpair).mono (by decide) (by show 1 * 4102 + 2 ≤ _; decide)
    have rgiven : Rp 3 10000 (.tuple [.tuple [.str x], .tuple [.tuple [.str x, .int n]]]) := (Rp.tuple (n := 2) (c := 4200) fun d hd => by
      simp only [List.mem_cons, List.not_mem_nil, or_false] at hd
      rcases hd with rfl | rfl
      · exact rone
      · exact rpp).mono (by decide) (by show 2 * 4202 + 2 ≤ _; decide)
    have rg1 : Rp 3 16024100 (.tuple [.str "given", .tuple (ls.map litD)]) := (Rp.tuple (n := 2) (c := 8012002) fun d hd => by
      simp only [List.mem_cons, List.not_mem_nil, or_false] at hd
      rcases hd with rfl | rfl
      · exact (Rp.str (low_lit (by decide +kernel))).mono (by decide) (by decide +kernel)
      · exact ru).mono (by decide) (by show 2 * 8012004 + 2 ≤ _; decide)
    have rg : Rp 4 16024200 (.tuple [.tuple [.str "given", .tuple (ls.map litD)]]) := (Rp.tuple (n := 3) (c := 16024100) fun d hd => by
      rw [List.mem_singleton.mp hd]; exact rg1).mono (by decide) (by show 1 * 16024102 + 2 ≤ _; decide)
    have big : 16024200 ≤ sizeLine := by decide
    refine TSx.run ?_
    refine ts_asg (ed_tup (edl_cons (ed_tup (edl_cons (ed_var rfl dx) edl_nil) (by show 1 ≤ 1000; decide)) (edl_cons (ed_tup (edl_cons (ed_tup (edl_cons (ed_var rfl dx) (edl_cons (ed_var rfl dn) edl_nil)) (by show 2 ≤ 1000; decide)) edl_nil) (by show 1 ≤ 1000; decide)) edl_nil)) (by show 2 ≤ 1000; decide)) fun gv H1 x1 dg => ?_
    refine ts_mk (ed_var rfl dg) fun e1 H2 x2 A1 => ?_
    have x02 := x1.trans x2
    refine ts_mk (ed_tup (edl_cons (ed_tup (edl_cons (ed_c fun _ => .str "given") (edl_cons (ed_var rfl (Dp.ex x02 du)) edl_nil)) (by show 2 ≤ 1000; decide)) edl_nil) (by show 1 ≤ 1000; decide)) fun e2 H3 x3 A2 => ?_
    have x03 := x02.trans x3
    have B1 := A1.up x3
    have dg3 := Dp.ex (x2.trans x3) dg
    have du3 := Dp.ex x03 du
    refine ts_if (ff_or (ff_cls (k := 15) (by decide) B1 rfl) (ff_not (yy_alike (ed_xv B1 rfl) (ed_var rfl dg3) rgiven (by decide) (by decide)))) ?_
    refine ts_if (ff_or (ff_cls (k := 16) (by decide) A2 rfl) (ff_not (yy_alike (ed_xv A2 rfl) (ed_tup (edl_cons (ed_tup (edl_cons (ed_c fun _ => .str "given") (edl_cons (ed_var rfl du3) edl_nil)) (by show 2 ≤ 1000; decide)) edl_nil) (by show 1 ≤ 1000; decide)) rg (by decide) big))) ?_
    refine ts_if (ff_or (ff_clsZ (k := 12) (by decide)) (ff_clsZ (k := 14) (by decide))) ?_
    refine ts_if (ff_or (ff_clsZ (k := 17) (by decide)) (ff_clsZ (k := 18) (by decide))) ?_
    exact ts_ret (yy_clsZ (k := 19) (by decide)) fun H' e => q H' (x03.trans e)
end
end V1
set_option maxRecDepth 100000
set_option maxHeartbeats 8000000
namespace V1
open PySem L2 Evl GP HR SC SetM SetH RQ L2H EXV
section
variable {K : PySem.W.Frag} {σ : L2.St} {H : Hp} {te te2 : TE} {d : PyData} {C : Addr} {fld : Str} {n : Int}
theorem ed_xm (h : ED K te σ H d) : ED K (tXv C fld (tMkV C fld (tCons te tNil))) σ H d := fun H0 x Q q => h H0 x _ fun v H1 e1 dv => ⟨v, rfl, fun dd e hd he ne => by
  have x1 := Ex.new (o := .xd [(fld, v)]) hd
  have he' : (upd H1 dd (.xd [(fld, v)])) e = none := by rw [upd_ne ne]; exact he
  have x2 := Ex.new (o := ExV (.ref C) (some dd) e) he'
  exact ⟨e, dd, _, v, rfl, upd_same, x2 _ _ upd_same, by simp [List.lookup], q v _ (e1.trans (x1.trans x2)) (Dp.ex (x1.trans x2) dv)⟩⟩
theorem ff_ne (h1 : ED K te σ H (.int n)) (h2 : ED K te2 σ H (.int n)) : FF (tTest (tOp rNe te te2)) σ H := fun H0 x Q q => h1 H0 x _ fun v H1 e1 dv => h2 H1 (x.trans e1) _ fun w H2 e2 dw => by
  cases dv
  cases dw
  refine ⟨rfl, false, ?_, q H2 (e1.trans e2)⟩
  rw [decide_eq_true rfl]
  rfl
theorem yy_eq (h1 : ED K te σ H (.int n)) (h2 : ED K te2 σ H (.int n)) : YY (tOp rEq te te2) σ H := fun H0 x Q q => h1 H0 x _ fun v H1 e1 dv => h2 H1 (x.trans e1) _ fun w H2 e2 dw => by
  cases dv
  cases dw
  refine ⟨rfl, ?_⟩
  rw [decide_eq_true rfl]
  exact q H2 (e1.trans e2)
theorem ff_neD (sh : PySem.SeqAt.shaped d = true) (eq : PyData.eqv d d = true) (h1 : ED K te σ H d) (h2 : ED K te2 σ H d) : FF (tTest (tOp (rNeD K) te te2)) σ H := fun H0 x Q q => h1 H0 x _ fun v H1 e1 dv => h2 H1 (x.trans e1) _ fun w H2 e2 dw =>
  ⟨d, d, Dp.ex e2 dv, dw, sh, sh, false, by rw [eq]; rfl, q H2 (e1.trans e2)⟩
theorem yy_eqD (sh : PySem.SeqAt.shaped d = true) (eq : PyData.eqv d d = true) (h1 : ED K te σ H d) (h2 : ED K te2 σ H d) : YY (tOp (rEqD K) te te2) σ H := fun H0 x Q q => h1 H0 x _ fun v H1 e1 dv => h2 H1 (x.trans e1) _ fun w H2 e2 dw =>
  ⟨d, d, Dp.ex e2 dv, dw, sh, sh, by rw [eq]; exact q H2 (e1.trans e2)⟩
end
def farN (i : Nat) : Int := (10 ^ 60 : Int) ^ (2 ^ i)
theorem far_next (i : Nat) : farN i * farN i = farN (i + 1) := by
  unfold farN
  rw [← Int.pow_add, Nat.pow_succ, Nat.mul_two]
theorem far_bound (i : Nat) : (farN i).natAbs < 2 ^ (200 * 2 ^ i) := by
  unfold farN
  rw [Int.natAbs_pow, Nat.pow_mul]
  exact Nat.pow_lt_pow_left (by decide +kernel) (Nat.ne_of_gt (Nat.pow_pos (by decide)))
theorem sh_tint {n : Int} : PySem.SeqAt.shaped (.tuple [.int n]) = true := by simp [PySem.SeqAt.shaped, PyData.canLay0, PyData.canLayAll0, PyData.depth, PyData.depthAll]
theorem eq_tint {n : Int} : PyData.eqv (.tuple [.int n]) (.tuple [.int n]) = true := by simp [PyData.eqv, PyData.eqvAll]
def spFar : Sp := fun vs H Q _ => vs = [] ∧ ∀ H', Ex H H' → Q (.bl true) H'
section
variable {P : Program} {w : World} {K : PySem.W.Frag} {mg : Str → Option Value} {base : Heap} {a : Ad} {d : Fd} {fL fC : Addr} {f : Ed}
theorem ok_law_far_numbers (T : TX K mg a) (D : FDS K a d) (C : EN K a) (E : EA K mg P a f) : FnOk P w K mg base CX0 2 a.a_law_far_numbers d.a_law_far_numbers [] spFar := by
  refine D.F__law_far_numbers.ok sc_law_far_numbers (fun vs H Q E h => ?_) (fun cdv A outer s H vs Q E0 hr h => ?_)
  · obtain ⟨rfl, _⟩ := h
    rfl
  · obtain ⟨rfl, q⟩ := h
    refine ⟨_, (pss_cons (ps_set (i := 0) sc_law_far_numbers.nd rfl (Or.inl rfl) (pe_op op_pow pe_int pe_int))
        (pss_cons (ps_for PassesOwn.never rfl (pi_range1 rfl T.b_range (pa_cons pe_int pa_nil)) (pg_name (i := 1) sc_law_far_numbers.nd rfl (Or.inl rfl)) (pss_one (ps_set (i := 0) sc_law_far_numbers.nd rfl (Or.inl rfl) (pe_op op_mulW (pv 0) (pv 0)))))
        (pss_cons (ps_if (PW.pt (pw_or (pt_cmpR op_ne (EXV.pe_xv E.x3 E.n3 (EXV.pe_supV E.s3 hr (by exact (pa_cons (pv 0) pa_nil)))) (pv 0) (nomark _)) (pw_or (pt_cmpR op_ne (EXV.pe_xv E.x8 E.n8 (EXV.pe_supV E.s8 hr (by exact (pa_cons (pv 0) pa_nil)))) (pv 0) (nomark _)) (pw_or1 (pt_cmpR op_ne (EXV.pe_xv E.x21 E.n21 (EXV.pe_supV E.s21 hr (by exact (pa_cons (pv 0) pa_nil)))) (pv 0) (nomark _)))))) (pss_one (ps_ret pe_bl)) pss_nil)
        (pss_cons (ps_if (PW.pt (pw_or (pt_cmpR op_ne (EXV.pe_xv E.x10 E.n10 (EXV.pe_supV E.s10 hr (by exact (pa_cons (pv 0) pa_nil)))) (pv 0) (nomark _)) (pw_or (pt_cmpR op_ne (EXV.pe_xv E.x13 E.n13 (EXV.pe_supV E.s13 hr (by exact (pa_cons (pv 0) pa_nil)))) (pv 0) (nomark _)) (pw_or1 (pt_cmpR (op_neD hr.units) (EXV.pe_xv E.x11 E.n11 (EXV.pe_supV E.s11 hr (by exact (pa_cons (pe_tup (pa_cons (pv 0) pa_nil)) pa_nil)))) (pe_tup (pa_cons (pv 0) pa_nil)) (nomark _)))))) (pss_one (ps_ret pe_bl)) pss_nil)
        (pss_one (ps_ret (pe_and (pe_cmpR (op_eqD hr.units) (EXV.pe_xv E.x1 E.n1 (EXV.pe_supV E.s1 hr (by exact (pa_cons (pe_tup (pa_cons (pv 0) pa_nil)) pa_nil)))) (pe_tup (pa_cons (pv 0) pa_nil)) (nomark _)) (pe_one (pe_cmpR op_eq (EXV.pe_xv E.x4 E.n4 (EXV.pe_supV E.s4 hr (by exact (pa_cons (pv 0) pa_nil)))) (pv 0) (nomark _)))))))))), ?_⟩
    refine ⟨10, 60, rfl, rfl, ⟨by decide, by decide, by decide⟩, ?_⟩
    refine ⟨7, rfl, by decide, by decide, for_range (lo := 0) (n := 7) (fun i σ H' => ∃ o, σ = [some (.int (farN i)), o] ∧ H' = H) ⟨none, rfl, rfl⟩ ?_ ?_⟩
    · rintro i σ H' hi ⟨o, rfl, rfl⟩
      have hi7 : i < 7 := hi
      have p7 : 2 ^ i ≤ 2 ^ 6 := Nat.pow_le_pow_right (by decide) (by omega)
      exact ⟨_, rfl, _, rfl, _, _, rfl, rfl, wide_mul (far_bound i) (far_bound i) (Nat.mul_pos (by decide) (Nat.pow_pos (by decide))) (Nat.mul_pos (by decide) (Nat.pow_pos (by decide))) (by omega), some (.int (0 + (i : Nat))), by rw [← far_next]; rfl, rfl⟩
    · rintro σ H' ⟨o, rfl, rfl⟩
      have F : ED K (tVar 0) [some (.int (farN 7)), o] H' (.int (farN 7)) := ed_var rfl (.int _)
      have G : ED K (tTup (tCons (tVar 0) tNil)) [some (.int (farN 7)), o] H' (.tuple [.int (farN 7)]) := ed_tup (edl_cons F edl_nil) (by show 1 ≤ 1000; decide)
      generalize farN 7 = far at *
      refine TSx.run ?_
      refine ts_if (ff_or (ff_ne (ed_xm F) F) (ff_or (ff_ne (ed_xm F) F) (ff_ne (ed_xm F) F))) ?_
      refine ts_if (ff_or (ff_ne (ed_xm F) F) (ff_or (ff_ne (ed_xm F) F) (ff_neD sh_tint eq_tint (ed_xm G) G))) ?_
      exact ts_ret (yy_and (yy_eqD sh_tint eq_tint (ed_xm G) G) (yy_eq (ed_xm F) F)) q
end
end V1
set_option maxRecDepth 100000
set_option maxHeartbeats 8000000
namespace V1
open PySem L2 Evl GP HR SC SetM SetH RQ L2H EXV
def spLaw (K : PySem.W.Frag) : Sp := fun vs H Q _ => ∃ (a : Addr) (ns : List Int), vs = [.ref a] ∧ SqL K H a (ns.map V.int) ∧ ∀ H', Q (.bl true) H'
theorem ed_ix {K : PySem.W.Frag} {σ : L2.St} {H : Hp} {i : Nat} {pl : Addr} {us : List V} {k : Int} {v : V} {d : PyData} (hi : σ[i]? = some (some (.ref pl))) (hl : H pl = some (.lst us)) (at_ : atI us k = some v) (dv : Dp K H v d) : ED K (tOp (rIxL K) (tVar i) (tC (.int k))) σ H d :=
  fun H0 x Q q => ⟨_, hi, pl, us, k, v, rfl, rfl, SqL.of (x _ _ hl), at_, q v H0 (Ex.refl _) (Dp.ex x dv)⟩
section
variable {P : Program} {w : World} {K : PySem.W.Frag} {mg : Str → Option Value} {base : Heap} {a : Ad} {d : Fd} {fL fC : Addr} {f : Ed}
theorem ok_law (T : TX K mg a) (D : FDS K a d) (R : ER K mg P a fL fC) (C : EN K a) (X2 : EX2 K a) (E : EA K mg P a f) : FnG P w K mg base 9 a.a_law d.a_law ["script"] (spLaw K) := by
  have G__law_bag : FnOk P w K mg base CX0 1 a.a_law_bag d.a_law_bag ["script"] (spBag K) := ok_law_bag T D
  have G__law_take : FnOk P w K mg base CX0 1 a.a_law_take d.a_law_take ["bag", "size"] spTake := ok_law_take T D
  have G__law_names : FnOk P w K mg base CX0 2 a.a_law_names d.a_law_names ["bag", "many"] spNames := ok_law_names T D
  have G__law_rows : FnOk P w K mg base CX0 4 a.a_law_rows d.a_law_rows ["bag", "pool", "most"] spRows := ok_law_rows T D
  have G__law_literal : FnOk P w K mg base CX0 3 a.a_law_literal d.a_law_literal ["bag", "pool"] spLiteral := ok_law_literal T D
  have G__law_once : FnOk P w K mg base CX0 1 a.a_law_once d.a_law_once ["rows"] spOnce := ok_law_once T D
  have G__law_normal : FnOk P w K mg base CX0 7 a.a_law_normal d.a_law_normal ["bag", "rows"] spNormalL := ok_law_normal T D R
  have G__law_bad_items : FnG P w K mg base 8 a.a_law_bad_items d.a_law_bad_items ["bag", "pool", "rows"] spBadItems := ok_law_bad_items T D R C X2
  have G__law_bad_lists : FnG P w K mg base 8 a.a_law_bad_lists d.a_law_bad_lists ["bag", "pool", "row"] spBadLists := ok_law_bad_lists T D R C X2
  have G__law_family_a : FnG P w K mg base 8 a.a_law_family_a d.a_law_family_a ["name", "row", "number", "ring"] (spFamA K) := ok_law_family_a T D C E
  have G__law_family_b : FnG P w K mg base 8 a.a_law_family_b d.a_law_family_b ["row", "number", "due"] (spFamB K) := ok_law_family_b T D C E
  have G__law_family_c : FnG P w K mg base 8 a.a_law_family_c d.a_law_family_c ["name", "number", "due"] (spFamC K) := ok_law_family_c T D C E
  have G__law_far_numbers : FnOk P w K mg base CX0 2 a.a_law_far_numbers d.a_law_far_numbers [] spFar := ok_law_far_numbers T D C E
  refine okG D.F_law sc_law (fun vs H Q E h => ?_) (fun cdv A outer s H vs Q E0 hr gd h => ?_)
  · obtain ⟨a, ns, rfl, _⟩ := h
    rfl
  · obtain ⟨a, ns, rfl, ha, fin⟩ := h
    refine ⟨_, (pss_cons (ps_set (i := 1) sc_law.nd rfl (Or.inl rfl) (pe_call G__law_bag (hr.mono (by decide)) rfl T.f__law_bag T.k__law_bag D.B__law_bag .nil pass0 (pa_cons (pv 0) pa_nil)))
        (pss_cons (ps_set (i := 2) sc_law.nd rfl (Or.inl rfl) (pe_call G__law_names (hr.mono (by decide)) rfl T.f__law_names T.k__law_names D.B__law_names .nil pass0 (pa_cons (pv 1) (pa_cons (pe_op op_add pe_int (pe_call G__law_take (hr.mono (by decide)) rfl T.f__law_take T.k__law_take D.B__law_take .nil pass0 (pa_cons (pv 1) (pa_cons pe_int pa_nil)))) pa_nil))))
        (pss_cons (ps_set (i := 3) sc_law.nd rfl (Or.inl rfl) (pe_call G__law_rows (hr.mono (by decide)) rfl T.f__law_rows T.k__law_rows D.B__law_rows .nil pass0 (pa_cons (pv 1) (pa_cons (pv 2) (pa_cons pe_int pa_nil)))))
        (pss_cons (ps_set (i := 4) sc_law.nd rfl (Or.inl rfl) (pe_call G__law_literal (hr.mono (by decide)) rfl T.f__law_literal T.k__law_literal D.B__law_literal .nil pass0 (pa_cons (pv 1) (pa_cons (pv 2) pa_nil))))
        (pss_cons (ps_set (i := 5) sc_law.nd rfl (Or.inl rfl) (pe_call G__law_take (hr.mono (by decide)) rfl T.f__law_take T.k__law_take D.B__law_take .nil pass0 (pa_cons (pv 1) (pa_cons pe_int pa_nil))))
        (pss_cons (ps_if (pt_not (pt_val (pe_call G__law_normal (hr.mono (by decide)) rfl T.f__law_normal T.k__law_normal D.B__law_normal .nil pass0 (pa_cons (pv 1) (pa_cons (pv 3) pa_nil))))) (pss_one (ps_ret pe_bl)) pss_nil)
        (pss_cons (ps_if (PW.pt (pw_or (pt_not (pt_val (pe_callG G__law_bad_items (hr.mono (by decide)) gd rfl T.f__law_bad_items T.k__law_bad_items D.B__law_bad_items pass0 (pa_cons (pv 1) (pa_cons (pv 2) (pa_cons (pe_slice sl_list (pv 3) po_none (po_some pe_int)) pa_nil)))))) (pw_or1 (pt_not (pt_val (pe_callG G__law_bad_lists (hr.mono (by decide)) gd rfl T.f__law_bad_lists T.k__law_bad_lists D.B__law_bad_lists pass0 (pa_cons (pv 1) (pa_cons (pv 2) (pa_cons (pv 4) pa_nil))))))))) (pss_one (ps_ret pe_bl)) pss_nil)
        (pss_cons (ps_set (i := 6) sc_law.nd rfl (Or.inl rfl) (pe_tup (pa_cons (pe_tup (pa_cons pe_str (pa_cons (pe_ix (ix_listK (K := K)) (pv 2) pe_int (fun _ _ => rfl)) (pa_cons (pe_ix (ix_listK (K := K)) (pv 2) pe_int (fun _ _ => rfl)) (pa_cons (pv 5) pa_nil))))) (pa_cons (pe_tup (pa_cons pe_str (pa_cons (pe_ix (ix_listK (K := K)) (pv 2) pe_int (fun _ _ => rfl)) (pa_cons (pe_ix (ix_listK (K := K)) (pv 2) pe_int (fun _ _ => rfl)) (pa_cons (pe_op op_sub (pe_op op_sub pe_int (pv 5)) pe_int) pa_nil))))) pa_nil))))
        (pss_cons (ps_if (PW.pt (pw_or (pt_not (pt_val (pe_callG G__law_family_a (hr.mono (by decide)) gd rfl T.f__law_family_a T.k__law_family_a D.B__law_family_a pass0 (pa_cons (pe_ix (ix_listK (K := K)) (pv 2) pe_int (fun _ _ => rfl)) (pa_cons (pv 4) (pa_cons (pv 5) (pa_cons (pv 6) pa_nil))))))) (pw_or1 (pt_not (pt_val (pe_callG G__law_family_b (hr.mono (by decide)) gd rfl T.f__law_family_b T.k__law_family_b D.B__law_family_b pass0 (pa_cons (pv 4) (pa_cons (pv 5) (pa_cons (pe_call G__law_once (hr.mono (by decide)) rfl T.f__law_once T.k__law_once D.B__law_once .nil pass0 (pa_cons (pv 3) pa_nil)) pa_nil))))))))) (pss_one (ps_ret pe_bl)) pss_nil)
        (pss_one (ps_ret (pe_and (pe_callG G__law_family_c (hr.mono (by decide)) gd rfl T.f__law_family_c T.k__law_family_c D.B__law_family_c pass0 (pa_cons (pe_ix (ix_listK (K := K)) (pv 2) pe_int (fun _ _ => rfl)) (pa_cons (pv 5) (pa_cons (pe_call G__law_once (hr.mono (by decide)) rfl T.f__law_once T.k__law_once D.B__law_once .nil pass0 (pa_cons (pv 3) pa_nil)) pa_nil)))) (pe_one (pe_call0 G__law_far_numbers (hr.mono (by decide)) rfl T.f__law_far_numbers T.k__law_far_numbers D.B__law_far_numbers .nil pass0)))))))))))))), ?_⟩
    have big : 1000 ≤ sizeLine := by decide
    refine ⟨_, rfl, a, ns, rfl, ha, fun b H1 e1 nb X1 => ?_⟩
    refine ⟨_, rfl, _, rfl, b, 4, rfl, X1, by decide, by decide +kernel, fun e2 H2 k2 X2 q0 q1 => ⟨_, _, rfl, rfl, b, (2 + e2).toNat, ?_, X2, by omega, fun pl xs H3 f3 npb N3 lx k3 X3 => ?_⟩⟩
    · show [V.ref b, V.int (2 + e2)] = [V.ref b, V.int (((2 + e2).toNat : Nat) : Int)]
      rw [show (((2 + e2).toNat : Nat) : Int) = 2 + e2 by omega]
    have W3 : Pool b pl xs H3 := ⟨N3.1, npb, by omega, by omega, N3.2.1, N3.2.2⟩
    refine ⟨_, rfl, _, rfl, b, pl, xs, 12, rfl, X3, W3, by decide, fun rl us ls H4 f4 nrb R4 l12 k4 X4 => ?_⟩
    have W4 := W3.kp k4
    have okl : ∀ l ∈ ls, LitOk l := fun l hl => (R4.ok l hl).ok (by decide)
    refine ⟨_, rfl, _, rfl, b, pl, xs, rfl, X4, W4, fun p l H5 k5 X5 hp5 nl nm => ?_⟩
    have ok : LitOk l := nl.ok (by decide)
    refine ⟨_, rfl, b, 1000, rfl, X5, by decide, by decide +kernel, fun n H6 k6 X6 n0 n1 => ?_⟩
    have k46 := k5.trans k6
    have hl6 := k46.at nrb R4.l
    have L6 := R4.L.kp X4 k46
    have hp6 : H6 p = some (.tup (litV l)) := Kp.tup X5 k6 hp5
    have W6 := W4.kp k46
    refine ⟨_, rfl, _, rfl, b, rl, us, ls, rfl, X6, nrb, hl6, L6, okl, l12, fun H7 k7 X7 => ⟨_, rfl, iteF' rfl ?_⟩⟩
    have hl7 := k7.at nrb hl6
    have L7 := L6.kp X6 k7
    have hp7 : H7 p = some (.tup (litV l)) := Kp.tup X6 k7 hp6
    have W7 := W6.kp k7
    obtain ⟨x0, y0, r0, exs⟩ : ∃ x0 y0 r0, xs = x0 :: y0 :: r0 := by
      have := W7.lo
      match xs, this with
      | x :: y :: r, _ => exact ⟨x, y, r, rfl⟩
    have n0x : isNameS x0 = true := W7.ok x0 (by rw [exs]; simp)
    have n0y : isNameS y0 = true := W7.ok y0 (by rw [exs]; simp)
    have nxy : x0 ≠ y0 := fun e => by
      have := W7.nd
      rw [exs, e] at this
      simp at this
    refine ⟨_, rfl, _, rfl, _, rfl, 10, rfl, rl, us, rfl, SqL.of hl7, fun p1 hp1 => ?_⟩
    have h10 : cutV us none (some ((10 : Nat) : Int)) = us.take 10 := cutV_take
    rw [show (some (10 : Int)) = some ((10 : Nat) : Int) from rfl] at *
    rw [h10] at *
    have y1 := Ex.new (o := .lst (us.take 10)) hp1
    have X8 := X7.ex y1
    have nb1 : p1 ≠ b := X7.ne hp1
    have l10 : (ls.take 10).length ≤ 12 := by rw [List.length_take]; omega
    refine ⟨b, pl, p1, xs, us.take 10, ls.take 10, rfl, X8, W7.kp (Kp.ex y1), nb1, upd_same, (L7.ex y1).take 10, fun l hl => okl l (List.mem_of_mem_take hl), l10, fun H9 k9 X9 => ⟨_, rfl, ?_⟩⟩
    have k79 := (Kp.ex y1).trans k9
    have hl9 := k79.at nrb hl7
    have L9 := L7.kp X7 k79
    have hp9 : H9 p = some (.tup (litV l)) := Kp.tup X7 k79 hp7
    have W9 := W7.kp k79
    refine ⟨_, rfl, _, rfl, _, rfl, b, pl, p, xs, l, rfl, X9, W9, hp9, ok, fun Ha ka Xa => ⟨_, rfl, iteF' rfl ?_⟩⟩
    have hla := ka.at nrb hl9
    have La := L9.kp X9 ka
    have hpa : Ha p = some (.tup (litV l)) := Kp.tup X9 ka hp9
    have Wa := W9.kp ka
    -- from here on the heap only grows
    have a0 : atI (xs.map V.str) 0 = some (.str x0) := by rw [exs]; exact at_lit (n := 0) rfl rfl
    have a1 : atI (xs.map V.str) 1 = some (.str y0) := by rw [exs]; exact at_lit (n := 1) rfl rfl
    have o1 : LitOk (.most x0 y0 n) := ⟨n0x, n0y, nxy, Nat.le_trans (log_small (by omega)) (Nat.le_add_right _ _)⟩
    have o2 : LitOk (.most y0 x0 (0 - n - 1)) := ⟨n0y, n0x, fun e => nxy e.symm, Nat.le_trans (log_small (by omega)) (Nat.le_add_right _ _)⟩
    have dn : ∀ H, Dp K H (.int n) (.int n) := fun _ => .int n
    have e0 : ∀ {σ : L2.St} {H' : Hp}, Ex Ha H' → σ[2]? = some (some (.ref pl)) → ED K (tOp (rIxL K) (tVar 2) (tC (.int 0))) σ H' (.str x0) := fun e h => ed_ix h (e _ _ Wa.l) a0 (.str x0)
    have e1' : ∀ {σ : L2.St} {H' : Hp}, Ex Ha H' → σ[2]? = some (some (.ref pl)) → ED K (tOp (rIxL K) (tVar 2) (tC (.int 1))) σ H' (.str y0) := fun e h => ed_ix h (e _ _ Wa.l) a1 (.str y0)
    refine TSx.run ?_
    refine ts_asg (d := .tuple [litD (.most x0 y0 n), litD (.most y0 x0 (0 - n - 1))]) (ed_tup (edl_cons (ed_tup (edl_cons (ed_c fun _ => .str "most") (edl_cons (e0 (Ex.refl _) rfl) (edl_cons (e1' (Ex.refl _) rfl) (edl_cons (ed_var rfl (dn _)) edl_nil)))) (by show 4 ≤ 1000; decide))
      (edl_cons (ed_tup (edl_cons (ed_c fun _ => .str "most") (edl_cons (e1' (Ex.refl _) rfl) (edl_cons (e0 (Ex.refl _) rfl) (edl_cons (ed_sub (ed_sub (ed_c fun _ => .int 0) (ed_var rfl (dn _))) (ed_c fun _ => .int 1)) edl_nil)))) (by show 4 ≤ 1000; decide)) edl_nil)) (by show 2 ≤ 1000; decide)) fun rv Hb xb dr => ?_
    refine ts_if (ff_or (ff_not ?_) (ff_not ?_)) (ts_ret (yy_and ?_ ?_) fun H' _ => fin H')
    · exact fun H0 x Q q => e0 (H' := Hb) xb rfl H0 x _ fun v H1 e1 dv => ⟨_, rfl, _, rfl, _, rfl, by
        cases dv
        have x1 := xb.trans (x.trans e1)
        exact ⟨x0, .ref p, rv, n, l, _, _, rfl, n0x, lit_dp (SqT.of (x1 _ _ hpa)), ok, by omega, Dp.ex (x.trans e1) dr, o1, o2, fun H2 e2 => q H2 (e1.trans e2)⟩⟩
    · exact fun H0 x Q q => ⟨_, rfl, _, rfl, _, rfl, rl, us, ls, rfl, (xb.trans x) _ _ hla, La.ex (xb.trans x), okl, by omega, fun u us1 ls1 H1 e1 _ hu L1 mem asc => by
        have few1 : ls1.length ≤ 12 := by
          have h1 := sub_lenA (asc_nodup asc) fun z hz => (mem z).mp hz
          omega
        have x1 := (xb.trans x).trans e1
        exact ⟨.ref p, .ref u, n, l, ls1, rfl, lit_dp (SqT.of (x1 _ _ hpa)), ok, by omega, .tup (SqT.of hu) L1.dp, fun l hl => okl l ((mem l).mp hl), by omega, fun H2 e2 => q H2 (e1.trans e2)⟩⟩
    · exact fun H0 x Q q => e1' (H' := Hb) xb rfl H0 x _ fun v H1 e1 dv => ⟨_, rfl, _, rfl, rl, us, ls, rfl, (xb.trans (x.trans e1)) _ _ hla, La.ex (xb.trans (x.trans e1)), okl, by omega, fun u us1 ls1 H2 e2 _ hu L1 mem asc => by
        cases dv
        have few1 : ls1.length ≤ 12 := by
          have h1 := sub_lenA (asc_nodup asc) fun z hz => (mem z).mp hz
          omega
        exact ⟨y0, .ref u, n, ls1, rfl, n0y, by omega, .tup (SqT.of hu) L1.dp, fun l hl => okl l ((mem l).mp hl), by omega, fun H3 e3 => q H3 ((e1.trans e2).trans e3)⟩⟩
    · exact fun H0 x Q q => ⟨rfl, q⟩
end
end V1
set_option maxRecDepth 100000
set_option maxHeartbeats 8000000
namespace V1
open PySem L2 Evl GP HR EXV
theorem kit_me {K : PySem.W.Frag} {C : Addr} : PySem.W.kitOne K (.ref C) (.ref C) = some true := by
  unfold PySem.W.kitOne
  rw [if_pos (beq_self_eq_true _)]
theorem kit_ref {K : PySem.W.Frag} {C D : Addr} {v : Bool} (h1 : PySem.W.subIn K (.ref C) (.ref C) = some true) (h2 : PySem.W.subIn K (.ref C) (.ref D) = some v) (hd : PySem.W.hasDictIn K D = true) (ht : PySem.W.typeIn K (.ref D) = some (.type "type")) : PySem.W.kitOne K (.ref C) (.ref D) = some v := by
  by_cases ne : C = D
  · subst ne
    obtain rfl : true = v := Option.some.inj (h1.symm.trans h2)
    exact kit_me
  · obtain ⟨cd, hc, _⟩ := PySem.W.any_some hd
    have e2 : ((PySem.W.clsIn K D).isSome && PySem.W.typeIn K (.ref D) == some (.type "type")) = true := by rw [hc, ht] <;> rfl
    unfold PySem.W.kitOne
    rw [if_neg (fun z => ne (Value.ref.inj (eq_of_beq z)))]
    show (if ((PySem.W.clsIn K D).isSome && PySem.W.typeIn K (.ref D) == some (.type "type")) = true then PySem.W.subIn K (.ref C) (.ref D) else none) = some v
    rw [if_pos e2]
    exact h2
theorem kit_type {K : PySem.W.Frag} {C : Addr} {T : String} {v : Bool} (hm : PySem.W.kitMeta T = true) (h2 : PySem.W.subIn K (.ref C) (.type T) = some v) : PySem.W.kitOne K (.ref C) (.type T) = some v := by
  unfold PySem.W.kitOne
  rw [if_neg (fun z => nomatch (eq_of_beq z : Value.ref C = Value.type T))]
  show (if PySem.W.kitMeta T = true then PySem.W.subIn K (.ref C) (.type T) else none) = some v
  rw [if_pos hm]
  exact h2
/-- what stands behind an own error in its mro -/
def mroT (R : Addr) : List Value := [.ref R, .type "ValueError", .type "Exception", .type "BaseException", .type "object"]
/-- the class of an own error, as written -/
structure MR (K : PySem.W.Frag) (R D : Addr) : Prop where
  cls : ∃ nm q N bs sn sub ab col dd k0 k1 k2 k3 k5, K.lookup D = some (excClassObj nm q D N bs (mroT R) true sn sub ab col dd k0 k1 k2 k3 k5 "ValueError.__new__")
  hd : PySem.W.hasDictIn K D = true
  ty : PySem.W.typeIn K (.ref D) = some (.type "type")
  ga : PySem.W.findIn K (.ref D) "__getattribute__" = some (some (.builtin "BaseException.__getattribute__"))
  gg : PySem.W.findIn K (.ref D) "__getattr__" = some none
  ka : PySem.W.findIn K (.ref D) "__class__" = some (some (.builtin "object.__class__"))
theorem MR.mro {K : PySem.W.Frag} {R D : Addr} (M : MR K R D) (base : Value) : PySem.W.mroIn K D base = some ((Value.ref D :: mroT R).contains base) := by
  obtain ⟨nm, q, N, bs, sn, sub, ab, col, dd, k0, k1, k2, k3, k5, h⟩ := M.cls
  have hc : PySem.W.clsIn K D = some { name := nm, bases := bs, mro := .ref D :: mroT R, ns := N, qualname := q, hasDict := true, slotNames := sn, subclasses := sub, abstract := ab, collection := col, hasDel := false } := by
    unfold PySem.W.clsIn
    rw [h] <;> rfl
  unfold PySem.W.mroIn
  rw [hc]
  rfl
theorem MR.sub {K : PySem.W.Frag} {R D : Addr} (M : MR K R D) (base : Value) : PySem.W.subIn K (.ref D) base = some ((Value.ref D :: mroT R).contains base) := M.mro base
theorem con_ref {R D C : Addr} (h : C ≠ R) : (Value.ref D :: mroT R).contains (.ref C) = decide (D = C) := by
  have e1 : (Value.ref C == Value.ref R) = false := by
    rw [beq_eq_false_iff_ne]
    exact fun z => h (Value.ref.inj z)
  have e2 : (Value.ref C == Value.ref D) = decide (D = C) := by
    rw [Bool.eq_iff_iff, beq_iff_eq, decide_eq_true_iff]
    exact ⟨fun z => (Value.ref.inj z).symm, fun z => by rw [z]⟩
  unfold mroT
  simp only [List.contains_cons, List.contains_nil, e1, e2, Bool.or_false, Bool.false_or]
  simp
theorem con_ty {R D : Addr} {T : String} (h : T ∈ ["ValueError", "Exception", "BaseException", "object"]) : (Value.ref D :: mroT R).contains (.type T) = true := by
  rw [List.contains_iff_mem]
  unfold mroT
  simp only [List.mem_cons, List.not_mem_nil, or_false] at h
  rcases h with rfl | rfl | rfl | rfl <;> simp
theorem con_me {R D : Addr} : (Value.ref D :: mroT R).contains (.ref D) = true := by
  rw [List.contains_iff_mem]
  exact List.mem_cons_self
theorem con_R {R D : Addr} : (Value.ref D :: mroT R).contains (.ref R) = true := by
  rw [List.contains_iff_mem]
  exact List.mem_cons_of_mem _ List.mem_cons_self
theorem MR.exc {K : PySem.W.Frag} {R D : Addr} (M : MR K R D) (kn : PySem.W.specialIn K (.builtin "object.__class__") "__get__" = some (some (.builtin "getset_descriptor.__get__"))) (kt : PySem.W.takesIn K (.builtin "object.__class__") = some true) : ExcC K D :=
  ⟨M.ga, M.gg, by rw [M.sub, con_ty (by simp)], M.hd, M.ka, kn, kt, by rw [M.mro, con_ty (by simp)]⟩
theorem MR.xf {K : PySem.W.Frag} {R D : Addr} (M : MR K R D) : XfC K D := ⟨M.ga, M.gg, by rw [M.sub, con_ty (by simp)], M.hd⟩
theorem en_of {K : PySem.W.Frag} {a : Ad} (M : ∀ k < 22, MR K a.cR (a.eA k)) (nd : (a.cR :: a.es).Nodup) (kn : PySem.W.specialIn K (.builtin "object.__class__") "__get__" = some (some (.builtin "getset_descriptor.__get__"))) (kt : PySem.W.takesIn K (.builtin "object.__class__") = some true)
    (hR : PySem.W.hasDictIn K a.cR = true) (yR : PySem.W.typeIn K (.ref a.cR) = some (.type "type")) : EN K a := fun k hk => by
  have me : PySem.W.subIn K (.ref (a.eA k)) (.ref (a.eA k)) = some true := by rw [(M k hk).sub, con_me]
  refine ⟨(M k hk).exc kn kt, kit_ref me (by rw [(M k hk).sub, con_R]) hR yR, kit_type (by decide +kernel) (by rw [(M k hk).sub, con_ty (by simp)]), fun j hj => kit_ref me ?_ (M j hj).hd (M j hj).ty⟩
  have hj' : j < a.es.length := hj
  have hk' : k < a.es.length := hk
  have ej : a.eA j = a.es[j] := by unfold Ad.eA; rw [List.getD_eq_getElem?_getD, List.getElem?_eq_getElem hj']; rfl
  have ek : a.eA k = a.es[k] := by unfold Ad.eA; rw [List.getD_eq_getElem?_getD, List.getElem?_eq_getElem hk']; rfl
  obtain ⟨n1, n2⟩ := List.nodup_cons.mp nd
  rw [(M k hk).sub, con_ref (fun z => n1 (by rw [← z, ej]; exact List.getElem_mem hj'))]
  congr 1
  rw [ej, ek]
  by_cases e : k = j
  · subst e
    simp
  · rw [decide_eq_false e, decide_eq_false]
    intro z
    have pw := List.pairwise_iff_getElem.mp n2
    rcases Nat.lt_or_gt_of_ne e with g | g
    · exact pw k j hk' hj' g z
    · exact pw j k hj' hk' g z.symm
theorem ex2_of {K : PySem.W.Frag} {a : Ad} (M1 : MR K a.cR a.e1) (M2 : MR K a.cR a.e2) (n12 : a.e1 ≠ a.e2) (n2R : a.e2 ≠ a.cR) (n1 : PySem.W.findIn K (.ref a.e1) "value" = some none) (n2 : PySem.W.findIn K (.ref a.e2) "value" = some none) : EX2 K a where
  x12 := PySem.W.exm_ref M2.xf.exC M2.hd M2.ty (by rw [M1.sub, con_ref n2R, decide_eq_false n12])
  x11 := PySem.W.exm_ref M1.xf.exC M1.hd M1.ty (by rw [M1.sub, con_me])
  x22 := PySem.W.exm_ref M2.xf.exC M2.hd M2.ty (by rw [M2.sub, con_me])
  f1 := M1.xf
  f2 := M2.xf
  n1 := n1
  n2 := n2
theorem refs_mroT {R : Addr} : PySem.HandSPX.refsVE (mroT R) = true := rfl
end V1
set_option maxRecDepth 100000
set_option maxHeartbeats 4000000
namespace V1
open PySem L2 Evl GP HR EXV
theorem all_mk {l : PySem.W.OpenLaw} {w : World} {K : PySem.W.Frag} {h : Heap} {mg : Str → Option Value} {fa cR cE0 cE1 cE2 cE3 cE4 cE5 cE6 cE7 cE8 cE9 cE10 cE11 cE12 cE13 cE14 cE15 cE16 cE17 cE18 cE19 cE20 cE21 fXE0 fXE1 fXE2 fXE3 fXE4 fXE5 fXE6 fXE7 fXE8 fXE9 fXE10 fXE11 fXE12 fXE13 fXE14 fXE15 fXE16 fXE17 fXE18 fXE19 fXE20 fXE21 f1 f2 f3 f4 f5 f6 f7 f8 f9 f10 f11 f12 f13 f14 f15 f16 f17 f18 f19 f20 f21 f22 f23 f24 f25 f26 f27 f28 f29 : Addr} (X : K.In h) (G : h.Ns mainGlobals mg) (hfa : mg "law" = some (.ref fa))
    {od1 an1 od2 an2 od3 an3 od4 an4 od5 an5 od6 an6 od7 an7 od8 an8 od9 an9 od10 an10 od11 an11 od12 an12 od13 an13 od14 an14 od15 an15 od16 an16 od17 an17 od18 an18 od19 an19 od20 an20 od21 an21 od22 an22 od23 an23 od24 an24 od25 an25 od26 an26 od27 an27 od28 an28 od29 an29 od0E0 an0E0 od0E1 an0E1 od0E2 an0E2 od0E3 an0E3 od0E4 an0E4 od0E5 an0E5 od0E6 an0E6 od0E7 an0E7 od0E8 an0E8 od0E9 an0E9 od0E10 an0E10 od0E11 an0E11 od0E12 an0E12 od0E13 an0E13 od0E14 an0E14 od0E15 an0E15 od0E16 an0E16 od0E17 an0E17 od0E18 an0E18 od0E19 an0E19 od0E20 an0E20 od0E21 an0E21 : Option Addr} {sl1 sl2 sl3 sl4 sl5 sl6 sl7 sl8 sl9 sl10 sl11 sl12 sl13 sl14 sl15 sl16 sl17 sl18 sl19 sl20 sl21 sl22 sl23 sl24 sl25 sl26 sl27 sl28 sl29 sl0E0 sl0E1 sl0E2 sl0E3 sl0E4 sl0E5 sl0E6 sl0E7 sl0E8 sl0E9 sl0E10 sl0E11 sl0E12 sl0E13 sl0E14 sl0E15 sl0E16 sl0E17 sl0E18 sl0E19 sl0E20 sl0E21 : Array (Option Value)} {oc1 kV1 dc1 pm1 cd1 ct1 oc2 kV2 dc2 pm2 cd2 ct2 oc3 kV3 dc3 pm3 cd3 ct3 oc4 kV4 dc4 pm4 cd4 ct4 oc5 kV5 dc5 pm5 cd5 ct5 oc6 kV6 dc6 pm6 cd6 ct6 oc7 kV7 dc7 pm7 cd7 ct7 oc8 kV8 dc8 pm8 cd8 ct8 oc9 kV9 dc9 pm9 cd9 ct9 oc10 kV10 dc10 pm10 cd10 ct10 oc11 kV11 dc11 pm11 cd11 ct11 oc12 kV12 dc12 pm12 cd12 ct12 oc13 kV13 dc13 pm13 cd13 ct13 oc14 kV14 dc14 pm14 cd14 ct14 oc15 kV15 dc15 pm15 cd15 ct15 oc16 kV16 dc16 pm16 cd16 ct16 oc17 kV17 dc17 pm17 cd17 ct17 oc18 kV18 dc18 pm18 cd18 ct18 oc19 kV19 dc19 pm19 cd19 ct19 oc20 kV20 dc20 pm20 cd20 ct20 oc21 kV21 dc21 pm21 cd21 ct21 oc22 kV22 dc22 pm22 cd22 ct22 oc23 kV23 dc23 pm23 cd23 ct23 oc24 kV24 dc24 pm24 cd24 ct24 oc25 kV25 dc25 pm25 cd25 ct25 oc26 kV26 dc26 pm26 cd26 ct26 oc27 kV27 dc27 pm27 cd27 ct27 oc28 kV28 dc28 pm28 cd28 ct28 oc29 kV29 dc29 pm29 cd29 ct29 oc0E0 dc0E0 pm0E0 ct0E0 oc0E1 dc0E1 pm0E1 ct0E1 oc0E2 dc0E2 pm0E2 ct0E2 oc0E3 dc0E3 pm0E3 ct0E3 oc0E4 dc0E4 pm0E4 ct0E4 oc0E5 dc0E5 pm0E5 ct0E5 oc0E6 dc0E6 pm0E6 ct0E6 oc0E7 dc0E7 pm0E7 ct0E7 oc0E8 dc0E8 pm0E8 ct0E8 oc0E9 dc0E9 pm0E9 ct0E9 oc0E10 dc0E10 pm0E10 ct0E10 oc0E11 dc0E11 pm0E11 ct0E11 oc0E12 dc0E12 pm0E12 ct0E12 oc0E13 dc0E13 pm0E13 ct0E13 oc0E14 dc0E14 pm0E14 ct0E14 oc0E15 dc0E15 pm0E15 ct0E15 oc0E16 dc0E16 pm0E16 ct0E16 oc0E17 dc0E17 pm0E17 ct0E17 oc0E18 dc0E18 pm0E18 ct0E18 oc0E19 dc0E19 pm0E19 ct0E19 oc0E20 dc0E20 pm0E20 ct0E20 oc0E21 dc0E21 pm0E21 ct0E21 : Value}
    {nm_E0 q_E0 : Str} {NN_E0 : Addr} {bs_E0 bm_E0 : List Value} {sn_E0 : List Str} {sub_E0 : List Value} {ab_E0 : Bool} {col_E0 : Option Bool} {dd_E0 : Option Addr} {m0_E0 m1_E0 m2_E0 m3_E0 m5_E0 : Option Value} {cda_E0 cc_E0 : Addr}
    {cl0_E0 ccl_E0 : Value} {cld_E0 cdd_E0 : Option Addr} {csl_E0 ccs_E0 : Array (Option Value)} {rvs_E0 : Array Value} {file_E0 : Str} {tf_E0 : Tok}
    {nm_E1 q_E1 : Str} {NN_E1 : Addr} {bs_E1 bm_E1 : List Value} {sn_E1 : List Str} {sub_E1 : List Value} {ab_E1 : Bool} {col_E1 : Option Bool} {dd_E1 : Option Addr} {m0_E1 m1_E1 m2_E1 m3_E1 m5_E1 : Option Value} {cda_E1 cc_E1 : Addr}
    {cl0_E1 ccl_E1 : Value} {cld_E1 cdd_E1 : Option Addr} {csl_E1 ccs_E1 : Array (Option Value)} {rvs_E1 : Array Value} {file_E1 : Str} {tf_E1 : Tok}
    {nm_E2 q_E2 : Str} {NN_E2 : Addr} {bs_E2 bm_E2 : List Value} {sn_E2 : List Str} {sub_E2 : List Value} {ab_E2 : Bool} {col_E2 : Option Bool} {dd_E2 : Option Addr} {m0_E2 m1_E2 m2_E2 m3_E2 m5_E2 : Option Value} {cda_E2 cc_E2 : Addr}
    {cl0_E2 ccl_E2 : Value} {cld_E2 cdd_E2 : Option Addr} {csl_E2 ccs_E2 : Array (Option Value)} {rvs_E2 : Array Value} {file_E2 : Str} {tf_E2 : Tok}
    {nm_E3 q_E3 : Str} {NN_E3 : Addr} {bs_E3 bm_E3 : List Value} {sn_E3 : List Str} {sub_E3 : List Value} {ab_E3 : Bool} {col_E3 : Option Bool} {dd_E3 : Option Addr} {m0_E3 m1_E3 m2_E3 m3_E3 m5_E3 : Option Value} {cda_E3 cc_E3 : Addr}
    {cl0_E3 ccl_E3 : Value} {cld_E3 cdd_E3 : Option Addr} {csl_E3 ccs_E3 : Array (Option Value)} {rvs_E3 : Array Value} {file_E3 : Str} {tf_E3 : Tok}
    {nm_E4 q_E4 : Str} {NN_E4 : Addr} {bs_E4 bm_E4 : List Value} {sn_E4 : List Str} {sub_E4 : List Value} {ab_E4 : Bool} {col_E4 : Option Bool} {dd_E4 : Option Addr} {m0_E4 m1_E4 m2_E4 m3_E4 m5_E4 : Option Value} {cda_E4 cc_E4 : Addr}
    {cl0_E4 ccl_E4 : Value} {cld_E4 cdd_E4 : Option Addr} {csl_E4 ccs_E4 : Array (Option Value)} {rvs_E4 : Array Value} {file_E4 : Str} {tf_E4 : Tok}
    {nm_E5 q_E5 : Str} {NN_E5 : Addr} {bs_E5 bm_E5 : List Value} {sn_E5 : List Str} {sub_E5 : List Value} {ab_E5 : Bool} {col_E5 : Option Bool} {dd_E5 : Option Addr} {m0_E5 m1_E5 m2_E5 m3_E5 m5_E5 : Option Value} {cda_E5 cc_E5 : Addr}
    {cl0_E5 ccl_E5 : Value} {cld_E5 cdd_E5 : Option Addr} {csl_E5 ccs_E5 : Array (Option Value)} {rvs_E5 : Array Value} {file_E5 : Str} {tf_E5 : Tok}
    {nm_E6 q_E6 : Str} {NN_E6 : Addr} {bs_E6 bm_E6 : List Value} {sn_E6 : List Str} {sub_E6 : List Value} {ab_E6 : Bool} {col_E6 : Option Bool} {dd_E6 : Option Addr} {m0_E6 m1_E6 m2_E6 m3_E6 m5_E6 : Option Value} {cda_E6 cc_E6 : Addr}
    {cl0_E6 ccl_E6 : Value} {cld_E6 cdd_E6 : Option Addr} {csl_E6 ccs_E6 : Array (Option Value)} {rvs_E6 : Array Value} {file_E6 : Str} {tf_E6 : Tok}
    {nm_E7 q_E7 : Str} {NN_E7 : Addr} {bs_E7 bm_E7 : List Value} {sn_E7 : List Str} {sub_E7 : List Value} {ab_E7 : Bool} {col_E7 : Option Bool} {dd_E7 : Option Addr} {m0_E7 m1_E7 m2_E7 m3_E7 m5_E7 : Option Value} {cda_E7 cc_E7 : Addr}
    {cl0_E7 ccl_E7 : Value} {cld_E7 cdd_E7 : Option Addr} {csl_E7 ccs_E7 : Array (Option Value)} {rvs_E7 : Array Value} {file_E7 : Str} {tf_E7 : Tok}
    {nm_E8 q_E8 : Str} {NN_E8 : Addr} {bs_E8 bm_E8 : List Value} {sn_E8 : List Str} {sub_E8 : List Value} {ab_E8 : Bool} {col_E8 : Option Bool} {dd_E8 : Option Addr} {m0_E8 m1_E8 m2_E8 m3_E8 m5_E8 : Option Value} {cda_E8 cc_E8 : Addr}
    {cl0_E8 ccl_E8 : Value} {cld_E8 cdd_E8 : Option Addr} {csl_E8 ccs_E8 : Array (Option Value)} {rvs_E8 : Array Value} {file_E8 : Str} {tf_E8 : Tok}
    {nm_E9 q_E9 : Str} {NN_E9 : Addr} {bs_E9 bm_E9 : List Value} {sn_E9 : List Str} {sub_E9 : List Value} {ab_E9 : Bool} {col_E9 : Option Bool} {dd_E9 : Option Addr} {m0_E9 m1_E9 m2_E9 m3_E9 m5_E9 : Option Value} {cda_E9 cc_E9 : Addr}
    {cl0_E9 ccl_E9 : Value} {cld_E9 cdd_E9 : Option Addr} {csl_E9 ccs_E9 : Array (Option Value)} {rvs_E9 : Array Value} {file_E9 : Str} {tf_E9 : Tok}
    {nm_E10 q_E10 : Str} {NN_E10 : Addr} {bs_E10 bm_E10 : List Value} {sn_E10 : List Str} {sub_E10 : List Value} {ab_E10 : Bool} {col_E10 : Option Bool} {dd_E10 : Option Addr} {m0_E10 m1_E10 m2_E10 m3_E10 m5_E10 : Option Value} {cda_E10 cc_E10 : Addr}
    {cl0_E10 ccl_E10 : Value} {cld_E10 cdd_E10 : Option Addr} {csl_E10 ccs_E10 : Array (Option Value)} {rvs_E10 : Array Value} {file_E10 : Str} {tf_E10 : Tok}
    {nm_E11 q_E11 : Str} {NN_E11 : Addr} {bs_E11 bm_E11 : List Value} {sn_E11 : List Str} {sub_E11 : List Value} {ab_E11 : Bool} {col_E11 : Option Bool} {dd_E11 : Option Addr} {m0_E11 m1_E11 m2_E11 m3_E11 m5_E11 : Option Value} {cda_E11 cc_E11 : Addr}
    {cl0_E11 ccl_E11 : Value} {cld_E11 cdd_E11 : Option Addr} {csl_E11 ccs_E11 : Array (Option Value)} {rvs_E11 : Array Value} {file_E11 : Str} {tf_E11 : Tok}
    {nm_E12 q_E12 : Str} {NN_E12 : Addr} {bs_E12 bm_E12 : List Value} {sn_E12 : List Str} {sub_E12 : List Value} {ab_E12 : Bool} {col_E12 : Option Bool} {dd_E12 : Option Addr} {m0_E12 m1_E12 m2_E12 m3_E12 m5_E12 : Option Value} {cda_E12 cc_E12 : Addr}
    {cl0_E12 ccl_E12 : Value} {cld_E12 cdd_E12 : Option Addr} {csl_E12 ccs_E12 : Array (Option Value)} {rvs_E12 : Array Value} {file_E12 : Str} {tf_E12 : Tok}
    {nm_E13 q_E13 : Str} {NN_E13 : Addr} {bs_E13 bm_E13 : List Value} {sn_E13 : List Str} {sub_E13 : List Value} {ab_E13 : Bool} {col_E13 : Option Bool} {dd_E13 : Option Addr} {m0_E13 m1_E13 m2_E13 m3_E13 m5_E13 : Option Value} {cda_E13 cc_E13 : Addr}
    {cl0_E13 ccl_E13 : Value} {cld_E13 cdd_E13 : Option Addr} {csl_E13 ccs_E13 : Array (Option Value)} {rvs_E13 : Array Value} {file_E13 : Str} {tf_E13 : Tok}
    {nm_E14 q_E14 : Str} {NN_E14 : Addr} {bs_E14 bm_E14 : List Value} {sn_E14 : List Str} {sub_E14 : List Value} {ab_E14 : Bool} {col_E14 : Option Bool} {dd_E14 : Option Addr} {m0_E14 m1_E14 m2_E14 m3_E14 m5_E14 : Option Value} {cda_E14 cc_E14 : Addr}
    {cl0_E14 ccl_E14 : Value} {cld_E14 cdd_E14 : Option Addr} {csl_E14 ccs_E14 : Array (Option Value)} {rvs_E14 : Array Value} {file_E14 : Str} {tf_E14 : Tok}
    {nm_E15 q_E15 : Str} {NN_E15 : Addr} {bs_E15 bm_E15 : List Value} {sn_E15 : List Str} {sub_E15 : List Value} {ab_E15 : Bool} {col_E15 : Option Bool} {dd_E15 : Option Addr} {m0_E15 m1_E15 m2_E15 m3_E15 m5_E15 : Option Value} {cda_E15 cc_E15 : Addr}
    {cl0_E15 ccl_E15 : Value} {cld_E15 cdd_E15 : Option Addr} {csl_E15 ccs_E15 : Array (Option Value)} {rvs_E15 : Array Value} {file_E15 : Str} {tf_E15 : Tok}
    {nm_E16 q_E16 : Str} {NN_E16 : Addr} {bs_E16 bm_E16 : List Value} {sn_E16 : List Str} {sub_E16 : List Value} {ab_E16 : Bool} {col_E16 : Option Bool} {dd_E16 : Option Addr} {m0_E16 m1_E16 m2_E16 m3_E16 m5_E16 : Option Value} {cda_E16 cc_E16 : Addr}
    {cl0_E16 ccl_E16 : Value} {cld_E16 cdd_E16 : Option Addr} {csl_E16 ccs_E16 : Array (Option Value)} {rvs_E16 : Array Value} {file_E16 : Str} {tf_E16 : Tok}
    {nm_E17 q_E17 : Str} {NN_E17 : Addr} {bs_E17 bm_E17 : List Value} {sn_E17 : List Str} {sub_E17 : List Value} {ab_E17 : Bool} {col_E17 : Option Bool} {dd_E17 : Option Addr} {m0_E17 m1_E17 m2_E17 m3_E17 m5_E17 : Option Value} {cda_E17 cc_E17 : Addr}
    {cl0_E17 ccl_E17 : Value} {cld_E17 cdd_E17 : Option Addr} {csl_E17 ccs_E17 : Array (Option Value)} {rvs_E17 : Array Value} {file_E17 : Str} {tf_E17 : Tok}
    {nm_E18 q_E18 : Str} {NN_E18 : Addr} {bs_E18 bm_E18 : List Value} {sn_E18 : List Str} {sub_E18 : List Value} {ab_E18 : Bool} {col_E18 : Option Bool} {dd_E18 : Option Addr} {m0_E18 m1_E18 m2_E18 m3_E18 m5_E18 : Option Value} {cda_E18 cc_E18 : Addr}
    {cl0_E18 ccl_E18 : Value} {cld_E18 cdd_E18 : Option Addr} {csl_E18 ccs_E18 : Array (Option Value)} {rvs_E18 : Array Value} {file_E18 : Str} {tf_E18 : Tok}
    {nm_E19 q_E19 : Str} {NN_E19 : Addr} {bs_E19 bm_E19 : List Value} {sn_E19 : List Str} {sub_E19 : List Value} {ab_E19 : Bool} {col_E19 : Option Bool} {dd_E19 : Option Addr} {m0_E19 m1_E19 m2_E19 m3_E19 m5_E19 : Option Value} {cda_E19 cc_E19 : Addr}
    {cl0_E19 ccl_E19 : Value} {cld_E19 cdd_E19 : Option Addr} {csl_E19 ccs_E19 : Array (Option Value)} {rvs_E19 : Array Value} {file_E19 : Str} {tf_E19 : Tok}
    {nm_E20 q_E20 : Str} {NN_E20 : Addr} {bs_E20 bm_E20 : List Value} {sn_E20 : List Str} {sub_E20 : List Value} {ab_E20 : Bool} {col_E20 : Option Bool} {dd_E20 : Option Addr} {m0_E20 m1_E20 m2_E20 m3_E20 m5_E20 : Option Value} {cda_E20 cc_E20 : Addr}
    {cl0_E20 ccl_E20 : Value} {cld_E20 cdd_E20 : Option Addr} {csl_E20 ccs_E20 : Array (Option Value)} {rvs_E20 : Array Value} {file_E20 : Str} {tf_E20 : Tok}
    {nm_E21 q_E21 : Str} {NN_E21 : Addr} {bs_E21 bm_E21 : List Value} {sn_E21 : List Str} {sub_E21 : List Value} {ab_E21 : Bool} {col_E21 : Option Bool} {dd_E21 : Option Addr} {m0_E21 m1_E21 m2_E21 m3_E21 m5_E21 : Option Value} {cda_E21 cc_E21 : Addr}
    {cl0_E21 ccl_E21 : Value} {cld_E21 cdd_E21 : Option Addr} {csl_E21 ccs_E21 : Array (Option Value)} {rvs_E21 : Array Value} {file_E21 : Str} {tf_E21 : Tok}
    {tk0 tk1 tk2 : Tok}
    (a1 : PySem.W.nsIn K mainGlobals "is_name" = some (some (.ref f1)))
    (l1 : K.lookup f1 = some ⟨oc1, od1, .func (PySem.W.fnOf "is_name" "is_name" (defArgs s_is_name) (defBody s_is_name) (defScope s_is_name) .none kV1 dc1 pm1 an1 cd1 ct1), sl1⟩)
    (c1 : PySem.W.codeIn K cd1 "is_name" = true)
    (k1 : PySem.W.keepIn K (.ref f1) = true)
    (a2 : PySem.W.nsIn K mainGlobals "is_integer" = some (some (.ref f2)))
    (l2 : K.lookup f2 = some ⟨oc2, od2, .func (PySem.W.fnOf "is_integer" "is_integer" (defArgs s_is_integer) (defBody s_is_integer) (defScope s_is_integer) .none kV2 dc2 pm2 an2 cd2 ct2), sl2⟩)
    (c2 : PySem.W.codeIn K cd2 "is_integer" = true)
    (k2 : PySem.W.keepIn K (.ref f2) = true)
    (a3 : PySem.W.nsIn K mainGlobals "is_bound" = some (some (.ref f3)))
    (l3 : K.lookup f3 = some ⟨oc3, od3, .func (PySem.W.fnOf "is_bound" "is_bound" (defArgs s_is_bound) (defBody s_is_bound) (defScope s_is_bound) .none kV3 dc3 pm3 an3 cd3 ct3), sl3⟩)
    (c3 : PySem.W.codeIn K cd3 "is_bound" = true)
    (k3 : PySem.W.keepIn K (.ref f3) = true)
    (a4 : PySem.W.nsIn K mainGlobals "is_literal" = some (some (.ref f4)))
    (l4 : K.lookup f4 = some ⟨oc4, od4, .func (PySem.W.fnOf "is_literal" "is_literal" (defArgs s_is_literal) (defBody s_is_literal) (defScope s_is_literal) .none kV4 dc4 pm4 an4 cd4 ct4), sl4⟩)
    (c4 : PySem.W.codeIn K cd4 "is_literal" = true)
    (k4 : PySem.W.keepIn K (.ref f4) = true)
    (a5 : PySem.W.nsIn K mainGlobals "check_literal" = some (some (.ref f5)))
    (l5 : K.lookup f5 = some ⟨oc5, od5, .func (PySem.W.fnOf "check_literal" "check_literal" (defArgs s_check_literal) (defBody s_check_literal) (defScope s_check_literal) .none kV5 dc5 pm5 an5 cd5 ct5), sl5⟩)
    (c5 : PySem.W.codeIn K cd5 "check_literal" = true)
    (k5 : PySem.W.keepIn K (.ref f5) = true)
    (a6 : PySem.W.nsIn K mainGlobals "clause_of" = some (some (.ref f6)))
    (l6 : K.lookup f6 = some ⟨oc6, od6, .func (PySem.W.fnOf "clause_of" "clause_of" (defArgs s_clause_of) (defBody s_clause_of) (defScope s_clause_of) .none kV6 dc6 pm6 an6 cd6 ct6), sl6⟩)
    (c6 : PySem.W.codeIn K cd6 "clause_of" = true)
    (k6 : PySem.W.keepIn K (.ref f6) = true)
    (a7 : PySem.W.nsIn K mainGlobals "normal_form" = some (some (.ref f7)))
    (l7 : K.lookup f7 = some ⟨oc7, od7, .func (PySem.W.fnOf "normal_form" "normal_form" (defArgs s_normal_form) (defBody s_normal_form) (defScope s_normal_form) .none kV7 dc7 pm7 an7 cd7 ct7), sl7⟩)
    (c7 : PySem.W.codeIn K cd7 "normal_form" = true)
    (k7 : PySem.W.keepIn K (.ref f7) = true)
    (a8 : PySem.W.nsIn K mainGlobals "_law_bag" = some (some (.ref f8)))
    (l8 : K.lookup f8 = some ⟨oc8, od8, .func (PySem.W.fnOf "_law_bag" "_law_bag" (defArgs s_law_bag) (defBody s_law_bag) (defScope s_law_bag) .none kV8 dc8 pm8 an8 cd8 ct8), sl8⟩)
    (c8 : PySem.W.codeIn K cd8 "_law_bag" = true)
    (k8 : PySem.W.keepIn K (.ref f8) = true)
    (a9 : PySem.W.nsIn K mainGlobals "_law_take" = some (some (.ref f9)))
    (l9 : K.lookup f9 = some ⟨oc9, od9, .func (PySem.W.fnOf "_law_take" "_law_take" (defArgs s_law_take) (defBody s_law_take) (defScope s_law_take) .none kV9 dc9 pm9 an9 cd9 ct9), sl9⟩)
    (c9 : PySem.W.codeIn K cd9 "_law_take" = true)
    (k9 : PySem.W.keepIn K (.ref f9) = true)
    (a10 : PySem.W.nsIn K mainGlobals "_law_names" = some (some (.ref f10)))
    (l10 : K.lookup f10 = some ⟨oc10, od10, .func (PySem.W.fnOf "_law_names" "_law_names" (defArgs s_law_names) (defBody s_law_names) (defScope s_law_names) .none kV10 dc10 pm10 an10 cd10 ct10), sl10⟩)
    (c10 : PySem.W.codeIn K cd10 "_law_names" = true)
    (k10 : PySem.W.keepIn K (.ref f10) = true)
    (a11 : PySem.W.nsIn K mainGlobals "_law_integer" = some (some (.ref f11)))
    (l11 : K.lookup f11 = some ⟨oc11, od11, .func (PySem.W.fnOf "_law_integer" "_law_integer" (defArgs s_law_integer) (defBody s_law_integer) (defScope s_law_integer) .none kV11 dc11 pm11 an11 cd11 ct11), sl11⟩)
    (c11 : PySem.W.codeIn K cd11 "_law_integer" = true)
    (k11 : PySem.W.keepIn K (.ref f11) = true)
    (a12 : PySem.W.nsIn K mainGlobals "_law_literal" = some (some (.ref f12)))
    (l12 : K.lookup f12 = some ⟨oc12, od12, .func (PySem.W.fnOf "_law_literal" "_law_literal" (defArgs s_law_literal) (defBody s_law_literal) (defScope s_law_literal) .none kV12 dc12 pm12 an12 cd12 ct12), sl12⟩)
    (c12 : PySem.W.codeIn K cd12 "_law_literal" = true)
    (k12 : PySem.W.keepIn K (.ref f12) = true)
    (a13 : PySem.W.nsIn K mainGlobals "_law_opposite" = some (some (.ref f13)))
    (l13 : K.lookup f13 = some ⟨oc13, od13, .func (PySem.W.fnOf "_law_opposite" "_law_opposite" (defArgs s_law_opposite) (defBody s_law_opposite) (defScope s_law_opposite) .none kV13 dc13 pm13 an13 cd13 ct13), sl13⟩)
    (c13 : PySem.W.codeIn K cd13 "_law_opposite" = true)
    (k13 : PySem.W.keepIn K (.ref f13) = true)
    (a14 : PySem.W.nsIn K mainGlobals "_law_rows" = some (some (.ref f14)))
    (l14 : K.lookup f14 = some ⟨oc14, od14, .func (PySem.W.fnOf "_law_rows" "_law_rows" (defArgs s_law_rows) (defBody s_law_rows) (defScope s_law_rows) .none kV14 dc14 pm14 an14 cd14 ct14), sl14⟩)
    (c14 : PySem.W.codeIn K cd14 "_law_rows" = true)
    (k14 : PySem.W.keepIn K (.ref f14) = true)
    (a15 : PySem.W.nsIn K mainGlobals "_law_same" = some (some (.ref f15)))
    (l15 : K.lookup f15 = some ⟨oc15, od15, .func (PySem.W.fnOf "_law_same" "_law_same" (defArgs s_law_same) (defBody s_law_same) (defScope s_law_same) .none kV15 dc15 pm15 an15 cd15 ct15), sl15⟩)
    (c15 : PySem.W.codeIn K cd15 "_law_same" = true)
    (k15 : PySem.W.keepIn K (.ref f15) = true)
    (a16 : PySem.W.nsIn K mainGlobals "_law_once" = some (some (.ref f16)))
    (l16 : K.lookup f16 = some ⟨oc16, od16, .func (PySem.W.fnOf "_law_once" "_law_once" (defArgs s_law_once) (defBody s_law_once) (defScope s_law_once) .none kV16 dc16 pm16 an16 cd16 ct16), sl16⟩)
    (c16 : PySem.W.codeIn K cd16 "_law_once" = true)
    (k16 : PySem.W.keepIn K (.ref f16) = true)
    (a17 : PySem.W.nsIn K mainGlobals "_law_bad_name" = some (some (.ref f17)))
    (l17 : K.lookup f17 = some ⟨oc17, od17, .func (PySem.W.fnOf "_law_bad_name" "_law_bad_name" (defArgs s_law_bad_name) (defBody s_law_bad_name) (defScope s_law_bad_name) .none kV17 dc17 pm17 an17 cd17 ct17), sl17⟩)
    (c17 : PySem.W.codeIn K cd17 "_law_bad_name" = true)
    (k17 : PySem.W.keepIn K (.ref f17) = true)
    (a18 : PySem.W.nsIn K mainGlobals "_law_bad" = some (some (.ref f18)))
    (l18 : K.lookup f18 = some ⟨oc18, od18, .func (PySem.W.fnOf "_law_bad" "_law_bad" (defArgs s_law_bad) (defBody s_law_bad) (defScope s_law_bad) .none kV18 dc18 pm18 an18 cd18 ct18), sl18⟩)
    (c18 : PySem.W.codeIn K cd18 "_law_bad" = true)
    (k18 : PySem.W.keepIn K (.ref f18) = true)
    (a19 : PySem.W.nsIn K mainGlobals "_law_classes" = some (some (.ref f19)))
    (l19 : K.lookup f19 = some ⟨oc19, od19, .func (PySem.W.fnOf "_law_classes" "_law_classes" (defArgs s_law_classes) (defBody s_law_classes) (defScope s_law_classes) .none kV19 dc19 pm19 an19 cd19 ct19), sl19⟩)
    (c19 : PySem.W.codeIn K cd19 "_law_classes" = true)
    (k19 : PySem.W.keepIn K (.ref f19) = true)
    (a20 : PySem.W.nsIn K mainGlobals "_law_alike" = some (some (.ref f20)))
    (l20 : K.lookup f20 = some ⟨oc20, od20, .func (PySem.W.fnOf "_law_alike" "_law_alike" (defArgs s_law_alike) (defBody s_law_alike) (defScope s_law_alike) .none kV20 dc20 pm20 an20 cd20 ct20), sl20⟩)
    (c20 : PySem.W.codeIn K cd20 "_law_alike" = true)
    (k20 : PySem.W.keepIn K (.ref f20) = true)
    (a21 : PySem.W.nsIn K mainGlobals "_law_family_a" = some (some (.ref f21)))
    (l21 : K.lookup f21 = some ⟨oc21, od21, .func (PySem.W.fnOf "_law_family_a" "_law_family_a" (defArgs s_law_family_a) (defBody s_law_family_a) (defScope s_law_family_a) .none kV21 dc21 pm21 an21 cd21 ct21), sl21⟩)
    (c21 : PySem.W.codeIn K cd21 "_law_family_a" = true)
    (k21 : PySem.W.keepIn K (.ref f21) = true)
    (a22 : PySem.W.nsIn K mainGlobals "_law_family_b" = some (some (.ref f22)))
    (l22 : K.lookup f22 = some ⟨oc22, od22, .func (PySem.W.fnOf "_law_family_b" "_law_family_b" (defArgs s_law_family_b) (defBody s_law_family_b) (defScope s_law_family_b) .none kV22 dc22 pm22 an22 cd22 ct22), sl22⟩)
    (c22 : PySem.W.codeIn K cd22 "_law_family_b" = true)
    (k22 : PySem.W.keepIn K (.ref f22) = true)
    (a23 : PySem.W.nsIn K mainGlobals "_law_family_c" = some (some (.ref f23)))
    (l23 : K.lookup f23 = some ⟨oc23, od23, .func (PySem.W.fnOf "_law_family_c" "_law_family_c" (defArgs s_law_family_c) (defBody s_law_family_c) (defScope s_law_family_c) .none kV23 dc23 pm23 an23 cd23 ct23), sl23⟩)
    (c23 : PySem.W.codeIn K cd23 "_law_family_c" = true)
    (k23 : PySem.W.keepIn K (.ref f23) = true)
    (a24 : PySem.W.nsIn K mainGlobals "_law_refused" = some (some (.ref f24)))
    (l24 : K.lookup f24 = some ⟨oc24, od24, .func (PySem.W.fnOf "_law_refused" "_law_refused" (defArgs s_law_refused) (defBody s_law_refused) (defScope s_law_refused) .none kV24 dc24 pm24 an24 cd24 ct24), sl24⟩)
    (c24 : PySem.W.codeIn K cd24 "_law_refused" = true)
    (k24 : PySem.W.keepIn K (.ref f24) = true)
    (a25 : PySem.W.nsIn K mainGlobals "_law_normal" = some (some (.ref f25)))
    (l25 : K.lookup f25 = some ⟨oc25, od25, .func (PySem.W.fnOf "_law_normal" "_law_normal" (defArgs s_law_normal) (defBody s_law_normal) (defScope s_law_normal) .none kV25 dc25 pm25 an25 cd25 ct25), sl25⟩)
    (c25 : PySem.W.codeIn K cd25 "_law_normal" = true)
    (k25 : PySem.W.keepIn K (.ref f25) = true)
    (a26 : PySem.W.nsIn K mainGlobals "_law_bad_items" = some (some (.ref f26)))
    (l26 : K.lookup f26 = some ⟨oc26, od26, .func (PySem.W.fnOf "_law_bad_items" "_law_bad_items" (defArgs s_law_bad_items) (defBody s_law_bad_items) (defScope s_law_bad_items) .none kV26 dc26 pm26 an26 cd26 ct26), sl26⟩)
    (c26 : PySem.W.codeIn K cd26 "_law_bad_items" = true)
    (k26 : PySem.W.keepIn K (.ref f26) = true)
    (a27 : PySem.W.nsIn K mainGlobals "_law_bad_lists" = some (some (.ref f27)))
    (l27 : K.lookup f27 = some ⟨oc27, od27, .func (PySem.W.fnOf "_law_bad_lists" "_law_bad_lists" (defArgs s_law_bad_lists) (defBody s_law_bad_lists) (defScope s_law_bad_lists) .none kV27 dc27 pm27 an27 cd27 ct27), sl27⟩)
    (c27 : PySem.W.codeIn K cd27 "_law_bad_lists" = true)
    (k27 : PySem.W.keepIn K (.ref f27) = true)
    (a28 : PySem.W.nsIn K mainGlobals "_law_far_numbers" = some (some (.ref f28)))
    (l28 : K.lookup f28 = some ⟨oc28, od28, .func (PySem.W.fnOf "_law_far_numbers" "_law_far_numbers" (defArgs s_law_far_numbers) (defBody s_law_far_numbers) (defScope s_law_far_numbers) .none kV28 dc28 pm28 an28 cd28 ct28), sl28⟩)
    (c28 : PySem.W.codeIn K cd28 "_law_far_numbers" = true)
    (k28 : PySem.W.keepIn K (.ref f28) = true)
    (a29 : PySem.W.nsIn K mainGlobals "law" = some (some (.ref f29)))
    (l29 : K.lookup f29 = some ⟨oc29, od29, .func (PySem.W.fnOf "law" "law" (defArgs s_law) (defBody s_law) (defScope s_law) .none kV29 dc29 pm29 an29 cd29 ct29), sl29⟩)
    (c29 : PySem.W.codeIn K cd29 "law" = true)
    (k29 : PySem.W.keepIn K (.ref f29) = true)
    (z_isinstance : PySem.W.nsIn K mainGlobals "isinstance" = some none)
    (z_str : PySem.W.nsIn K mainGlobals "str" = some none)
    (z_int : PySem.W.nsIn K mainGlobals "int" = some none)
    (z_bool : PySem.W.nsIn K mainGlobals "bool" = some none)
    (z_tuple : PySem.W.nsIn K mainGlobals "tuple" = some none)
    (z_list : PySem.W.nsIn K mainGlobals "list" = some none)
    (z_len : PySem.W.nsIn K mainGlobals "len" = some none)
    (z_range : PySem.W.nsIn K mainGlobals "range" = some none)
    (z_sorted : PySem.W.nsIn K mainGlobals "sorted" = some none)
    (z_abs : PySem.W.nsIn K mainGlobals "abs" = some none)
    (z_set : PySem.W.nsIn K mainGlobals "set" = some none)
    (z_repr : PySem.W.nsIn K mainGlobals "repr" = some none)
    (z_ValueError : PySem.W.nsIn K mainGlobals "ValueError" = some none)
    (z_super : PySem.W.nsIn K mainGlobals "super" = some none)
    (aK0 : PySem.W.nsIn K mainGlobals "LETTERS" = some (some (.str letters tk0)))
    (aK1 : PySem.W.nsIn K mainGlobals "SIGNS" = some (some (.str signs tk1)))
    (aK2 : PySem.W.nsIn K mainGlobals "LONGEST_NAME" = some (some (.int 8 tk2)))
    (aR : PySem.W.nsIn K mainGlobals "RingclauseError" = some (some (.ref cR)))
    (hR : PySem.W.hasDictIn K cR = true)
    (yR : PySem.W.typeIn K (.ref cR) = some (.type "type"))
    (aE0 : PySem.W.nsIn K mainGlobals "InvalidName" = some (some (.ref cE0)))
    (hE0 : PySem.W.hasDictIn K cE0 = true)
    (yE0 : PySem.W.typeIn K (.ref cE0) = some (.type "type"))
    (aE1 : PySem.W.nsIn K mainGlobals "InvalidLiteral" = some (some (.ref cE1)))
    (hE1 : PySem.W.hasDictIn K cE1 = true)
    (yE1 : PySem.W.typeIn K (.ref cE1) = some (.type "type"))
    (aE2 : PySem.W.nsIn K mainGlobals "InvalidClause" = some (some (.ref cE2)))
    (hE2 : PySem.W.hasDictIn K cE2 = true)
    (yE2 : PySem.W.typeIn K (.ref cE2) = some (.type "type"))
    (aE3 : PySem.W.nsIn K mainGlobals "InvalidText" = some (some (.ref cE3)))
    (hE3 : PySem.W.hasDictIn K cE3 = true)
    (yE3 : PySem.W.typeIn K (.ref cE3) = some (.type "type"))
    (aE4 : PySem.W.nsIn K mainGlobals "UnknownMoment" = some (some (.ref cE4)))
    (hE4 : PySem.W.hasDictIn K cE4 = true)
    (yE4 : PySem.W.typeIn K (.ref cE4) = some (.type "type"))
    (aE5 : PySem.W.nsIn K mainGlobals "InvalidChain" = some (some (.ref cE5)))
    (hE5 : PySem.W.hasDictIn K cE5 = true)
    (yE5 : PySem.W.typeIn K (.ref cE5) = some (.type "type"))
    (aE6 : PySem.W.nsIn K mainGlobals "Inconsistent" = some (some (.ref cE6)))
    (hE6 : PySem.W.hasDictIn K cE6 = true)
    (yE6 : PySem.W.typeIn K (.ref cE6) = some (.type "type"))
    (aE7 : PySem.W.nsIn K mainGlobals "InvalidPivot" = some (some (.ref cE7)))
    (hE7 : PySem.W.hasDictIn K cE7 = true)
    (yE7 : PySem.W.typeIn K (.ref cE7) = some (.type "type"))
    (aE8 : PySem.W.nsIn K mainGlobals "WrongStep" = some (some (.ref cE8)))
    (hE8 : PySem.W.hasDictIn K cE8 = true)
    (yE8 : PySem.W.typeIn K (.ref cE8) = some (.type "type"))
    (aE9 : PySem.W.nsIn K mainGlobals "UnknownLiteral" = some (some (.ref cE9)))
    (hE9 : PySem.W.hasDictIn K cE9 = true)
    (yE9 : PySem.W.typeIn K (.ref cE9) = some (.type "type"))
    (aE10 : PySem.W.nsIn K mainGlobals "UnknownNumber" = some (some (.ref cE10)))
    (hE10 : PySem.W.hasDictIn K cE10 = true)
    (yE10 : PySem.W.typeIn K (.ref cE10) = some (.type "type"))
    (aE11 : PySem.W.nsIn K mainGlobals "NotAllowed" = some (some (.ref cE11)))
    (hE11 : PySem.W.hasDictIn K cE11 = true)
    (yE11 : PySem.W.typeIn K (.ref cE11) = some (.type "type"))
    (aE12 : PySem.W.nsIn K mainGlobals "NoPaper" = some (some (.ref cE12)))
    (hE12 : PySem.W.hasDictIn K cE12 = true)
    (yE12 : PySem.W.typeIn K (.ref cE12) = some (.type "type"))
    (aE13 : PySem.W.nsIn K mainGlobals "InvalidLimit" = some (some (.ref cE13)))
    (hE13 : PySem.W.hasDictIn K cE13 = true)
    (yE13 : PySem.W.typeIn K (.ref cE13) = some (.type "type"))
    (aE14 : PySem.W.nsIn K mainGlobals "InvalidWeights" = some (some (.ref cE14)))
    (hE14 : PySem.W.hasDictIn K cE14 = true)
    (yE14 : PySem.W.typeIn K (.ref cE14) = some (.type "type"))
    (aE15 : PySem.W.nsIn K mainGlobals "HasAnswer" = some (some (.ref cE15)))
    (hE15 : PySem.W.hasDictIn K cE15 = true)
    (yE15 : PySem.W.typeIn K (.ref cE15) = some (.type "type"))
    (aE16 : PySem.W.nsIn K mainGlobals "NoAnswer" = some (some (.ref cE16)))
    (hE16 : PySem.W.hasDictIn K cE16 = true)
    (yE16 : PySem.W.typeIn K (.ref cE16) = some (.type "type"))
    (aE17 : PySem.W.nsIn K mainGlobals "NothingPushed" = some (some (.ref cE17)))
    (hE17 : PySem.W.hasDictIn K cE17 = true)
    (yE17 : PySem.W.typeIn K (.ref cE17) = some (.type "type"))
    (aE18 : PySem.W.nsIn K mainGlobals "NothingToUndo" = some (some (.ref cE18)))
    (hE18 : PySem.W.hasDictIn K cE18 = true)
    (yE18 : PySem.W.typeIn K (.ref cE18) = some (.type "type"))
    (aE19 : PySem.W.nsIn K mainGlobals "NothingToRedo" = some (some (.ref cE19)))
    (hE19 : PySem.W.hasDictIn K cE19 = true)
    (yE19 : PySem.W.typeIn K (.ref cE19) = some (.type "type"))
    (aE20 : PySem.W.nsIn K mainGlobals "NotKept" = some (some (.ref cE20)))
    (hE20 : PySem.W.hasDictIn K cE20 = true)
    (yE20 : PySem.W.typeIn K (.ref cE20) = some (.type "type"))
    (aE21 : PySem.W.nsIn K mainGlobals "InvalidRow" = some (some (.ref cE21)))
    (hE21 : PySem.W.hasDictIn K cE21 = true)
    (yE21 : PySem.W.typeIn K (.ref cE21) = some (.type "type"))
    (oq : PySem.W.nsIn K cStatics "thirdparty.any" = some none)
    (hTop : (l.prog.main.scope.names.lookup ("super" : Str)).isSome = false)
    (kn : PySem.W.specialIn K (.builtin "object.__class__") "__get__" = some (some (.builtin "getset_descriptor.__get__")))
    (kt : PySem.W.takesIn K (.builtin "object.__class__") = some true)
    (xI_E0 : K.lookup cE0 = some (excClassObj nm_E0 q_E0 cE0 NN_E0 bs_E0 bm_E0 true sn_E0 sub_E0 ab_E0 col_E0 dd_E0 m0_E0 m1_E0 m2_E0 m3_E0 m5_E0 "ValueError.__new__"))
    (rv_E0 : bm_E0 = mroT cR)
    (ga_E0 : PySem.W.findIn K (.ref cE0) "__getattribute__" = some (some (.builtin "BaseException.__getattribute__")))
    (gg_E0 : PySem.W.findIn K (.ref cE0) "__getattr__" = some none)
    (ka_E0 : PySem.W.findIn K (.ref cE0) "__class__" = some (some (.builtin "object.__class__")))
    (sa_E0 : PySem.W.findIn K (.ref cE0) "__setattr__" = some (some (.builtin "object.__setattr__")))
    (nF_E0 : PySem.W.findIn K (.ref cE0) "name" = some none)
    (iX_E0 : PySem.W.findIn K (.ref cE0) "__init__" = some (some (.ref fXE0)))
    (tF_E0 : PySem.W.typeIn K (.ref fXE0) = some (.type "function"))
    (kI_E0 : PySem.W.keepIn K (.ref cE0) = true)
    (su_E0 : PySem.W.ks_superIn K cE0 cE0 "__init__" = some (some (.builtin "ValueError.__init__")))
    (lX_E0 : K.lookup fXE0 = some ⟨oc0E0, od0E0, .func (PySem.Sup.sFn "name" "not a name" "InvalidName.__init__" ⟨6, 17, 6, 21⟩ ⟨6, 23, 6, 27⟩ ⟨7, 8, 7, 13⟩ ⟨7, 8, 7, 15⟩ ⟨7, 8, 7, 24⟩ ⟨7, 25, 7, 37⟩ ⟨7, 8, 7, 38⟩ ⟨7, 8, 7, 38⟩ ⟨8, 8, 8, 12⟩ ⟨8, 8, 8, 17⟩ ⟨8, 20, 8, 24⟩ ⟨8, 8, 8, 24⟩ dc0E0 pm0E0 an0E0 cda_E0 cc_E0 ct0E0), sl0E0⟩)
    (cX_E0 : PySem.W.codeIn K (.ref cda_E0) "InvalidName.__init__" = true)
    (lC_E0 : K.lookup cc_E0 = some ⟨cl0_E0, cld_E0, .cell (some (.ref cE0)), csl_E0⟩)
    (lD_E0 : K.lookup cda_E0 = some ⟨ccl_E0, cdd_E0, .fields rvs_E0, ccs_E0⟩)
    (rf_E0 : rvs_E0[2]? = some (.str file_E0 tf_E0))
    (fi_E0 : ((l.prog.main.file : Str) == file_E0) = true)
    (xI_E1 : K.lookup cE1 = some (excClassObj nm_E1 q_E1 cE1 NN_E1 bs_E1 bm_E1 true sn_E1 sub_E1 ab_E1 col_E1 dd_E1 m0_E1 m1_E1 m2_E1 m3_E1 m5_E1 "ValueError.__new__"))
    (rv_E1 : bm_E1 = mroT cR)
    (ga_E1 : PySem.W.findIn K (.ref cE1) "__getattribute__" = some (some (.builtin "BaseException.__getattribute__")))
    (gg_E1 : PySem.W.findIn K (.ref cE1) "__getattr__" = some none)
    (ka_E1 : PySem.W.findIn K (.ref cE1) "__class__" = some (some (.builtin "object.__class__")))
    (sa_E1 : PySem.W.findIn K (.ref cE1) "__setattr__" = some (some (.builtin "object.__setattr__")))
    (nF_E1 : PySem.W.findIn K (.ref cE1) "value" = some none)
    (iX_E1 : PySem.W.findIn K (.ref cE1) "__init__" = some (some (.ref fXE1)))
    (tF_E1 : PySem.W.typeIn K (.ref fXE1) = some (.type "function"))
    (kI_E1 : PySem.W.keepIn K (.ref cE1) = true)
    (su_E1 : PySem.W.ks_superIn K cE1 cE1 "__init__" = some (some (.builtin "ValueError.__init__")))
    (lX_E1 : K.lookup fXE1 = some ⟨oc0E1, od0E1, .func (PySem.Sup.sFn "value" "not a literal" "InvalidLiteral.__init__" ⟨11, 17, 11, 21⟩ ⟨11, 23, 11, 28⟩ ⟨12, 8, 12, 13⟩ ⟨12, 8, 12, 15⟩ ⟨12, 8, 12, 24⟩ ⟨12, 25, 12, 40⟩ ⟨12, 8, 12, 41⟩ ⟨12, 8, 12, 41⟩ ⟨13, 8, 13, 12⟩ ⟨13, 8, 13, 18⟩ ⟨13, 21, 13, 26⟩ ⟨13, 8, 13, 26⟩ dc0E1 pm0E1 an0E1 cda_E1 cc_E1 ct0E1), sl0E1⟩)
    (cX_E1 : PySem.W.codeIn K (.ref cda_E1) "InvalidLiteral.__init__" = true)
    (lC_E1 : K.lookup cc_E1 = some ⟨cl0_E1, cld_E1, .cell (some (.ref cE1)), csl_E1⟩)
    (lD_E1 : K.lookup cda_E1 = some ⟨ccl_E1, cdd_E1, .fields rvs_E1, ccs_E1⟩)
    (rf_E1 : rvs_E1[2]? = some (.str file_E1 tf_E1))
    (fi_E1 : ((l.prog.main.file : Str) == file_E1) = true)
    (xI_E2 : K.lookup cE2 = some (excClassObj nm_E2 q_E2 cE2 NN_E2 bs_E2 bm_E2 true sn_E2 sub_E2 ab_E2 col_E2 dd_E2 m0_E2 m1_E2 m2_E2 m3_E2 m5_E2 "ValueError.__new__"))
    (rv_E2 : bm_E2 = mroT cR)
    (ga_E2 : PySem.W.findIn K (.ref cE2) "__getattribute__" = some (some (.builtin "BaseException.__getattribute__")))
    (gg_E2 : PySem.W.findIn K (.ref cE2) "__getattr__" = some none)
    (ka_E2 : PySem.W.findIn K (.ref cE2) "__class__" = some (some (.builtin "object.__class__")))
    (sa_E2 : PySem.W.findIn K (.ref cE2) "__setattr__" = some (some (.builtin "object.__setattr__")))
    (nF_E2 : PySem.W.findIn K (.ref cE2) "value" = some none)
    (iX_E2 : PySem.W.findIn K (.ref cE2) "__init__" = some (some (.ref fXE2)))
    (tF_E2 : PySem.W.typeIn K (.ref fXE2) = some (.type "function"))
    (kI_E2 : PySem.W.keepIn K (.ref cE2) = true)
    (su_E2 : PySem.W.ks_superIn K cE2 cE2 "__init__" = some (some (.builtin "ValueError.__init__")))
    (lX_E2 : K.lookup fXE2 = some ⟨oc0E2, od0E2, .func (PySem.Sup.sFn "value" "not a clause" "InvalidClause.__init__" ⟨16, 17, 16, 21⟩ ⟨16, 23, 16, 28⟩ ⟨17, 8, 17, 13⟩ ⟨17, 8, 17, 15⟩ ⟨17, 8, 17, 24⟩ ⟨17, 25, 17, 39⟩ ⟨17, 8, 17, 40⟩ ⟨17, 8, 17, 40⟩ ⟨18, 8, 18, 12⟩ ⟨18, 8, 18, 18⟩ ⟨18, 21, 18, 26⟩ ⟨18, 8, 18, 26⟩ dc0E2 pm0E2 an0E2 cda_E2 cc_E2 ct0E2), sl0E2⟩)
    (cX_E2 : PySem.W.codeIn K (.ref cda_E2) "InvalidClause.__init__" = true)
    (lC_E2 : K.lookup cc_E2 = some ⟨cl0_E2, cld_E2, .cell (some (.ref cE2)), csl_E2⟩)
    (lD_E2 : K.lookup cda_E2 = some ⟨ccl_E2, cdd_E2, .fields rvs_E2, ccs_E2⟩)
    (rf_E2 : rvs_E2[2]? = some (.str file_E2 tf_E2))
    (fi_E2 : ((l.prog.main.file : Str) == file_E2) = true)
    (xI_E3 : K.lookup cE3 = some (excClassObj nm_E3 q_E3 cE3 NN_E3 bs_E3 bm_E3 true sn_E3 sub_E3 ab_E3 col_E3 dd_E3 m0_E3 m1_E3 m2_E3 m3_E3 m5_E3 "ValueError.__new__"))
    (rv_E3 : bm_E3 = mroT cR)
    (ga_E3 : PySem.W.findIn K (.ref cE3) "__getattribute__" = some (some (.builtin "BaseException.__getattribute__")))
    (gg_E3 : PySem.W.findIn K (.ref cE3) "__getattr__" = some none)
    (ka_E3 : PySem.W.findIn K (.ref cE3) "__class__" = some (some (.builtin "object.__class__")))
    (sa_E3 : PySem.W.findIn K (.ref cE3) "__setattr__" = some (some (.builtin "object.__setattr__")))
    (nF_E3 : PySem.W.findIn K (.ref cE3) "line" = some none)
    (iX_E3 : PySem.W.findIn K (.ref cE3) "__init__" = some (some (.ref fXE3)))
    (tF_E3 : PySem.W.typeIn K (.ref fXE3) = some (.type "function"))
    (kI_E3 : PySem.W.keepIn K (.ref cE3) = true)
    (su_E3 : PySem.W.ks_superIn K cE3 cE3 "__init__" = some (some (.builtin "ValueError.__init__")))
    (lX_E3 : K.lookup fXE3 = some ⟨oc0E3, od0E3, .func (PySem.Sup.sFn "line" "not a text of this form" "InvalidText.__init__" ⟨21, 17, 21, 21⟩ ⟨21, 23, 21, 27⟩ ⟨22, 8, 22, 13⟩ ⟨22, 8, 22, 15⟩ ⟨22, 8, 22, 24⟩ ⟨22, 25, 22, 50⟩ ⟨22, 8, 22, 51⟩ ⟨22, 8, 22, 51⟩ ⟨23, 8, 23, 12⟩ ⟨23, 8, 23, 17⟩ ⟨23, 20, 23, 24⟩ ⟨23, 8, 23, 24⟩ dc0E3 pm0E3 an0E3 cda_E3 cc_E3 ct0E3), sl0E3⟩)
    (cX_E3 : PySem.W.codeIn K (.ref cda_E3) "InvalidText.__init__" = true)
    (lC_E3 : K.lookup cc_E3 = some ⟨cl0_E3, cld_E3, .cell (some (.ref cE3)), csl_E3⟩)
    (lD_E3 : K.lookup cda_E3 = some ⟨ccl_E3, cdd_E3, .fields rvs_E3, ccs_E3⟩)
    (rf_E3 : rvs_E3[2]? = some (.str file_E3 tf_E3))
    (fi_E3 : ((l.prog.main.file : Str) == file_E3) = true)
    (xI_E4 : K.lookup cE4 = some (excClassObj nm_E4 q_E4 cE4 NN_E4 bs_E4 bm_E4 true sn_E4 sub_E4 ab_E4 col_E4 dd_E4 m0_E4 m1_E4 m2_E4 m3_E4 m5_E4 "ValueError.__new__"))
    (rv_E4 : bm_E4 = mroT cR)
    (ga_E4 : PySem.W.findIn K (.ref cE4) "__getattribute__" = some (some (.builtin "BaseException.__getattribute__")))
    (gg_E4 : PySem.W.findIn K (.ref cE4) "__getattr__" = some none)
    (ka_E4 : PySem.W.findIn K (.ref cE4) "__class__" = some (some (.builtin "object.__class__")))
    (sa_E4 : PySem.W.findIn K (.ref cE4) "__setattr__" = some (some (.builtin "object.__setattr__")))
    (nF_E4 : PySem.W.findIn K (.ref cE4) "name" = some none)
    (iX_E4 : PySem.W.findIn K (.ref cE4) "__init__" = some (some (.ref fXE4)))
    (tF_E4 : PySem.W.typeIn K (.ref fXE4) = some (.type "function"))
    (kI_E4 : PySem.W.keepIn K (.ref cE4) = true)
    (su_E4 : PySem.W.ks_superIn K cE4 cE4 "__init__" = some (some (.builtin "ValueError.__init__")))
    (lX_E4 : K.lookup fXE4 = some ⟨oc0E4, od0E4, .func (PySem.Sup.sFn "name" "not a listed moment" "UnknownMoment.__init__" ⟨26, 17, 26, 21⟩ ⟨26, 23, 26, 27⟩ ⟨27, 8, 27, 13⟩ ⟨27, 8, 27, 15⟩ ⟨27, 8, 27, 24⟩ ⟨27, 25, 27, 46⟩ ⟨27, 8, 27, 47⟩ ⟨27, 8, 27, 47⟩ ⟨28, 8, 28, 12⟩ ⟨28, 8, 28, 17⟩ ⟨28, 20, 28, 24⟩ ⟨28, 8, 28, 24⟩ dc0E4 pm0E4 an0E4 cda_E4 cc_E4 ct0E4), sl0E4⟩)
    (cX_E4 : PySem.W.codeIn K (.ref cda_E4) "UnknownMoment.__init__" = true)
    (lC_E4 : K.lookup cc_E4 = some ⟨cl0_E4, cld_E4, .cell (some (.ref cE4)), csl_E4⟩)
    (lD_E4 : K.lookup cda_E4 = some ⟨ccl_E4, cdd_E4, .fields rvs_E4, ccs_E4⟩)
    (rf_E4 : rvs_E4[2]? = some (.str file_E4 tf_E4))
    (fi_E4 : ((l.prog.main.file : Str) == file_E4) = true)
    (xI_E5 : K.lookup cE5 = some (excClassObj nm_E5 q_E5 cE5 NN_E5 bs_E5 bm_E5 true sn_E5 sub_E5 ab_E5 col_E5 dd_E5 m0_E5 m1_E5 m2_E5 m3_E5 m5_E5 "ValueError.__new__"))
    (rv_E5 : bm_E5 = mroT cR)
    (ga_E5 : PySem.W.findIn K (.ref cE5) "__getattribute__" = some (some (.builtin "BaseException.__getattribute__")))
    (gg_E5 : PySem.W.findIn K (.ref cE5) "__getattr__" = some none)
    (ka_E5 : PySem.W.findIn K (.ref cE5) "__class__" = some (some (.builtin "object.__class__")))
    (sa_E5 : PySem.W.findIn K (.ref cE5) "__setattr__" = some (some (.builtin "object.__setattr__")))
    (nF_E5 : PySem.W.findIn K (.ref cE5) "bounds" = some none)
    (iX_E5 : PySem.W.findIn K (.ref cE5) "__init__" = some (some (.ref fXE5)))
    (tF_E5 : PySem.W.typeIn K (.ref fXE5) = some (.type "function"))
    (kI_E5 : PySem.W.keepIn K (.ref cE5) = true)
    (su_E5 : PySem.W.ks_superIn K cE5 cE5 "__init__" = some (some (.builtin "ValueError.__init__")))
    (lX_E5 : K.lookup fXE5 = some ⟨oc0E5, od0E5, .func (PySem.Sup.sFn "bounds" "not such a chain" "InvalidChain.__init__" ⟨31, 17, 31, 21⟩ ⟨31, 23, 31, 29⟩ ⟨32, 8, 32, 13⟩ ⟨32, 8, 32, 15⟩ ⟨32, 8, 32, 24⟩ ⟨32, 25, 32, 43⟩ ⟨32, 8, 32, 44⟩ ⟨32, 8, 32, 44⟩ ⟨33, 8, 33, 12⟩ ⟨33, 8, 33, 19⟩ ⟨33, 22, 33, 28⟩ ⟨33, 8, 33, 28⟩ dc0E5 pm0E5 an0E5 cda_E5 cc_E5 ct0E5), sl0E5⟩)
    (cX_E5 : PySem.W.codeIn K (.ref cda_E5) "InvalidChain.__init__" = true)
    (lC_E5 : K.lookup cc_E5 = some ⟨cl0_E5, cld_E5, .cell (some (.ref cE5)), csl_E5⟩)
    (lD_E5 : K.lookup cda_E5 = some ⟨ccl_E5, cdd_E5, .fields rvs_E5, ccs_E5⟩)
    (rf_E5 : rvs_E5[2]? = some (.str file_E5 tf_E5))
    (fi_E5 : ((l.prog.main.file : Str) == file_E5) = true)
    (xI_E6 : K.lookup cE6 = some (excClassObj nm_E6 q_E6 cE6 NN_E6 bs_E6 bm_E6 true sn_E6 sub_E6 ab_E6 col_E6 dd_E6 m0_E6 m1_E6 m2_E6 m3_E6 m5_E6 "ValueError.__new__"))
    (rv_E6 : bm_E6 = mroT cR)
    (ga_E6 : PySem.W.findIn K (.ref cE6) "__getattribute__" = some (some (.builtin "BaseException.__getattribute__")))
    (gg_E6 : PySem.W.findIn K (.ref cE6) "__getattr__" = some none)
    (ka_E6 : PySem.W.findIn K (.ref cE6) "__class__" = some (some (.builtin "object.__class__")))
    (sa_E6 : PySem.W.findIn K (.ref cE6) "__setattr__" = some (some (.builtin "object.__setattr__")))
    (nF_E6 : PySem.W.findIn K (.ref cE6) "ring" = some none)
    (iX_E6 : PySem.W.findIn K (.ref cE6) "__init__" = some (some (.ref fXE6)))
    (tF_E6 : PySem.W.typeIn K (.ref fXE6) = some (.type "function"))
    (kI_E6 : PySem.W.keepIn K (.ref cE6) = true)
    (su_E6 : PySem.W.ks_superIn K cE6 cE6 "__init__" = some (some (.builtin "ValueError.__init__")))
    (lX_E6 : K.lookup fXE6 = some ⟨oc0E6, od0E6, .func (PySem.Sup.sFn "ring" "the net has a negative ring" "Inconsistent.__init__" ⟨36, 17, 36, 21⟩ ⟨36, 23, 36, 27⟩ ⟨37, 8, 37, 13⟩ ⟨37, 8, 37, 15⟩ ⟨37, 8, 37, 24⟩ ⟨37, 25, 37, 54⟩ ⟨37, 8, 37, 55⟩ ⟨37, 8, 37, 55⟩ ⟨38, 8, 38, 12⟩ ⟨38, 8, 38, 17⟩ ⟨38, 20, 38, 24⟩ ⟨38, 8, 38, 24⟩ dc0E6 pm0E6 an0E6 cda_E6 cc_E6 ct0E6), sl0E6⟩)
    (cX_E6 : PySem.W.codeIn K (.ref cda_E6) "Inconsistent.__init__" = true)
    (lC_E6 : K.lookup cc_E6 = some ⟨cl0_E6, cld_E6, .cell (some (.ref cE6)), csl_E6⟩)
    (lD_E6 : K.lookup cda_E6 = some ⟨ccl_E6, cdd_E6, .fields rvs_E6, ccs_E6⟩)
    (rf_E6 : rvs_E6[2]? = some (.str file_E6 tf_E6))
    (fi_E6 : ((l.prog.main.file : Str) == file_E6) = true)
    (xI_E7 : K.lookup cE7 = some (excClassObj nm_E7 q_E7 cE7 NN_E7 bs_E7 bm_E7 true sn_E7 sub_E7 ab_E7 col_E7 dd_E7 m0_E7 m1_E7 m2_E7 m3_E7 m5_E7 "ValueError.__new__"))
    (rv_E7 : bm_E7 = mroT cR)
    (ga_E7 : PySem.W.findIn K (.ref cE7) "__getattribute__" = some (some (.builtin "BaseException.__getattribute__")))
    (gg_E7 : PySem.W.findIn K (.ref cE7) "__getattr__" = some none)
    (ka_E7 : PySem.W.findIn K (.ref cE7) "__class__" = some (some (.builtin "object.__class__")))
    (sa_E7 : PySem.W.findIn K (.ref cE7) "__setattr__" = some (some (.builtin "object.__setattr__")))
    (nF_E7 : PySem.W.findIn K (.ref cE7) "pivot" = some none)
    (iX_E7 : PySem.W.findIn K (.ref cE7) "__init__" = some (some (.ref fXE7)))
    (tF_E7 : PySem.W.typeIn K (.ref fXE7) = some (.type "function"))
    (kI_E7 : PySem.W.keepIn K (.ref cE7) = true)
    (su_E7 : PySem.W.ks_superIn K cE7 cE7 "__init__" = some (some (.builtin "ValueError.__init__")))
    (lX_E7 : K.lookup fXE7 = some ⟨oc0E7, od0E7, .func (PySem.Sup.sFn "pivot" "not a pivot of these clauses" "InvalidPivot.__init__" ⟨41, 17, 41, 21⟩ ⟨41, 23, 41, 28⟩ ⟨42, 8, 42, 13⟩ ⟨42, 8, 42, 15⟩ ⟨42, 8, 42, 24⟩ ⟨42, 25, 42, 55⟩ ⟨42, 8, 42, 56⟩ ⟨42, 8, 42, 56⟩ ⟨43, 8, 43, 12⟩ ⟨43, 8, 43, 18⟩ ⟨43, 21, 43, 26⟩ ⟨43, 8, 43, 26⟩ dc0E7 pm0E7 an0E7 cda_E7 cc_E7 ct0E7), sl0E7⟩)
    (cX_E7 : PySem.W.codeIn K (.ref cda_E7) "InvalidPivot.__init__" = true)
    (lC_E7 : K.lookup cc_E7 = some ⟨cl0_E7, cld_E7, .cell (some (.ref cE7)), csl_E7⟩)
    (lD_E7 : K.lookup cda_E7 = some ⟨ccl_E7, cdd_E7, .fields rvs_E7, ccs_E7⟩)
    (rf_E7 : rvs_E7[2]? = some (.str file_E7 tf_E7))
    (fi_E7 : ((l.prog.main.file : Str) == file_E7) = true)
    (xI_E8 : K.lookup cE8 = some (excClassObj nm_E8 q_E8 cE8 NN_E8 bs_E8 bm_E8 true sn_E8 sub_E8 ab_E8 col_E8 dd_E8 m0_E8 m1_E8 m2_E8 m3_E8 m5_E8 "ValueError.__new__"))
    (rv_E8 : bm_E8 = mroT cR)
    (ga_E8 : PySem.W.findIn K (.ref cE8) "__getattribute__" = some (some (.builtin "BaseException.__getattribute__")))
    (gg_E8 : PySem.W.findIn K (.ref cE8) "__getattr__" = some none)
    (ka_E8 : PySem.W.findIn K (.ref cE8) "__class__" = some (some (.builtin "object.__class__")))
    (sa_E8 : PySem.W.findIn K (.ref cE8) "__setattr__" = some (some (.builtin "object.__setattr__")))
    (nF_E8 : PySem.W.findIn K (.ref cE8) "index" = some none)
    (iX_E8 : PySem.W.findIn K (.ref cE8) "__init__" = some (some (.ref fXE8)))
    (tF_E8 : PySem.W.typeIn K (.ref fXE8) = some (.type "function"))
    (kI_E8 : PySem.W.keepIn K (.ref cE8) = true)
    (su_E8 : PySem.W.ks_superIn K cE8 cE8 "__init__" = some (some (.builtin "ValueError.__init__")))
    (lX_E8 : K.lookup fXE8 = some ⟨oc0E8, od0E8, .func (PySem.Sup.sFn "index" "a step of the paper is wrong" "WrongStep.__init__" ⟨46, 17, 46, 21⟩ ⟨46, 23, 46, 28⟩ ⟨47, 8, 47, 13⟩ ⟨47, 8, 47, 15⟩ ⟨47, 8, 47, 24⟩ ⟨47, 25, 47, 55⟩ ⟨47, 8, 47, 56⟩ ⟨47, 8, 47, 56⟩ ⟨48, 8, 48, 12⟩ ⟨48, 8, 48, 18⟩ ⟨48, 21, 48, 26⟩ ⟨48, 8, 48, 26⟩ dc0E8 pm0E8 an0E8 cda_E8 cc_E8 ct0E8), sl0E8⟩)
    (cX_E8 : PySem.W.codeIn K (.ref cda_E8) "WrongStep.__init__" = true)
    (lC_E8 : K.lookup cc_E8 = some ⟨cl0_E8, cld_E8, .cell (some (.ref cE8)), csl_E8⟩)
    (lD_E8 : K.lookup cda_E8 = some ⟨ccl_E8, cdd_E8, .fields rvs_E8, ccs_E8⟩)
    (rf_E8 : rvs_E8[2]? = some (.str file_E8 tf_E8))
    (fi_E8 : ((l.prog.main.file : Str) == file_E8) = true)
    (xI_E9 : K.lookup cE9 = some (excClassObj nm_E9 q_E9 cE9 NN_E9 bs_E9 bm_E9 true sn_E9 sub_E9 ab_E9 col_E9 dd_E9 m0_E9 m1_E9 m2_E9 m3_E9 m5_E9 "ValueError.__new__"))
    (rv_E9 : bm_E9 = mroT cR)
    (ga_E9 : PySem.W.findIn K (.ref cE9) "__getattribute__" = some (some (.builtin "BaseException.__getattribute__")))
    (gg_E9 : PySem.W.findIn K (.ref cE9) "__getattr__" = some none)
    (ka_E9 : PySem.W.findIn K (.ref cE9) "__class__" = some (some (.builtin "object.__class__")))
    (sa_E9 : PySem.W.findIn K (.ref cE9) "__setattr__" = some (some (.builtin "object.__setattr__")))
    (nF_E9 : PySem.W.findIn K (.ref cE9) "literal" = some none)
    (iX_E9 : PySem.W.findIn K (.ref cE9) "__init__" = some (some (.ref fXE9)))
    (tF_E9 : PySem.W.typeIn K (.ref fXE9) = some (.type "function"))
    (kI_E9 : PySem.W.keepIn K (.ref cE9) = true)
    (su_E9 : PySem.W.ks_superIn K cE9 cE9 "__init__" = some (some (.builtin "ValueError.__init__")))
    (lX_E9 : K.lookup fXE9 = some ⟨oc0E9, od0E9, .func (PySem.Sup.sFn "literal" "not a literal of the machine" "UnknownLiteral.__init__" ⟨51, 17, 51, 21⟩ ⟨51, 23, 51, 30⟩ ⟨52, 8, 52, 13⟩ ⟨52, 8, 52, 15⟩ ⟨52, 8, 52, 24⟩ ⟨52, 25, 52, 55⟩ ⟨52, 8, 52, 56⟩ ⟨52, 8, 52, 56⟩ ⟨53, 8, 53, 12⟩ ⟨53, 8, 53, 20⟩ ⟨53, 23, 53, 30⟩ ⟨53, 8, 53, 30⟩ dc0E9 pm0E9 an0E9 cda_E9 cc_E9 ct0E9), sl0E9⟩)
    (cX_E9 : PySem.W.codeIn K (.ref cda_E9) "UnknownLiteral.__init__" = true)
    (lC_E9 : K.lookup cc_E9 = some ⟨cl0_E9, cld_E9, .cell (some (.ref cE9)), csl_E9⟩)
    (lD_E9 : K.lookup cda_E9 = some ⟨ccl_E9, cdd_E9, .fields rvs_E9, ccs_E9⟩)
    (rf_E9 : rvs_E9[2]? = some (.str file_E9 tf_E9))
    (fi_E9 : ((l.prog.main.file : Str) == file_E9) = true)
    (xI_E10 : K.lookup cE10 = some (excClassObj nm_E10 q_E10 cE10 NN_E10 bs_E10 bm_E10 true sn_E10 sub_E10 ab_E10 col_E10 dd_E10 m0_E10 m1_E10 m2_E10 m3_E10 m5_E10 "ValueError.__new__"))
    (rv_E10 : bm_E10 = mroT cR)
    (ga_E10 : PySem.W.findIn K (.ref cE10) "__getattribute__" = some (some (.builtin "BaseException.__getattribute__")))
    (gg_E10 : PySem.W.findIn K (.ref cE10) "__getattr__" = some none)
    (ka_E10 : PySem.W.findIn K (.ref cE10) "__class__" = some (some (.builtin "object.__class__")))
    (sa_E10 : PySem.W.findIn K (.ref cE10) "__setattr__" = some (some (.builtin "object.__setattr__")))
    (nF_E10 : PySem.W.findIn K (.ref cE10) "number" = some none)
    (iX_E10 : PySem.W.findIn K (.ref cE10) "__init__" = some (some (.ref fXE10)))
    (tF_E10 : PySem.W.typeIn K (.ref fXE10) = some (.type "function"))
    (kI_E10 : PySem.W.keepIn K (.ref cE10) = true)
    (su_E10 : PySem.W.ks_superIn K cE10 cE10 "__init__" = some (some (.builtin "ValueError.__init__")))
    (lX_E10 : K.lookup fXE10 = some ⟨oc0E10, od0E10, .func (PySem.Sup.sFn "number" "not the number of a clause" "UnknownNumber.__init__" ⟨56, 17, 56, 21⟩ ⟨56, 23, 56, 29⟩ ⟨57, 8, 57, 13⟩ ⟨57, 8, 57, 15⟩ ⟨57, 8, 57, 24⟩ ⟨57, 25, 57, 53⟩ ⟨57, 8, 57, 54⟩ ⟨57, 8, 57, 54⟩ ⟨58, 8, 58, 12⟩ ⟨58, 8, 58, 19⟩ ⟨58, 22, 58, 28⟩ ⟨58, 8, 58, 28⟩ dc0E10 pm0E10 an0E10 cda_E10 cc_E10 ct0E10), sl0E10⟩)
    (cX_E10 : PySem.W.codeIn K (.ref cda_E10) "UnknownNumber.__init__" = true)
    (lC_E10 : K.lookup cc_E10 = some ⟨cl0_E10, cld_E10, .cell (some (.ref cE10)), csl_E10⟩)
    (lD_E10 : K.lookup cda_E10 = some ⟨ccl_E10, cdd_E10, .fields rvs_E10, ccs_E10⟩)
    (rf_E10 : rvs_E10[2]? = some (.str file_E10 tf_E10))
    (fi_E10 : ((l.prog.main.file : Str) == file_E10) = true)
    (xI_E11 : K.lookup cE11 = some (excClassObj nm_E11 q_E11 cE11 NN_E11 bs_E11 bm_E11 true sn_E11 sub_E11 ab_E11 col_E11 dd_E11 m0_E11 m1_E11 m2_E11 m3_E11 m5_E11 "ValueError.__new__"))
    (rv_E11 : bm_E11 = mroT cR)
    (ga_E11 : PySem.W.findIn K (.ref cE11) "__getattribute__" = some (some (.builtin "BaseException.__getattribute__")))
    (gg_E11 : PySem.W.findIn K (.ref cE11) "__getattr__" = some none)
    (ka_E11 : PySem.W.findIn K (.ref cE11) "__class__" = some (some (.builtin "object.__class__")))
    (sa_E11 : PySem.W.findIn K (.ref cE11) "__setattr__" = some (some (.builtin "object.__setattr__")))
    (nF_E11 : PySem.W.findIn K (.ref cE11) "deed" = some none)
    (iX_E11 : PySem.W.findIn K (.ref cE11) "__init__" = some (some (.ref fXE11)))
    (tF_E11 : PySem.W.typeIn K (.ref fXE11) = some (.type "function"))
    (kI_E11 : PySem.W.keepIn K (.ref cE11) = true)
    (su_E11 : PySem.W.ks_superIn K cE11 cE11 "__init__" = some (some (.builtin "ValueError.__init__")))
    (lX_E11 : K.lookup fXE11 = some ⟨oc0E11, od0E11, .func (PySem.Sup.sFn "deed" "the deed is not allowed" "NotAllowed.__init__" ⟨61, 17, 61, 21⟩ ⟨61, 23, 61, 27⟩ ⟨62, 8, 62, 13⟩ ⟨62, 8, 62, 15⟩ ⟨62, 8, 62, 24⟩ ⟨62, 25, 62, 50⟩ ⟨62, 8, 62, 51⟩ ⟨62, 8, 62, 51⟩ ⟨63, 8, 63, 12⟩ ⟨63, 8, 63, 17⟩ ⟨63, 20, 63, 24⟩ ⟨63, 8, 63, 24⟩ dc0E11 pm0E11 an0E11 cda_E11 cc_E11 ct0E11), sl0E11⟩)
    (cX_E11 : PySem.W.codeIn K (.ref cda_E11) "NotAllowed.__init__" = true)
    (lC_E11 : K.lookup cc_E11 = some ⟨cl0_E11, cld_E11, .cell (some (.ref cE11)), csl_E11⟩)
    (lD_E11 : K.lookup cda_E11 = some ⟨ccl_E11, cdd_E11, .fields rvs_E11, ccs_E11⟩)
    (rf_E11 : rvs_E11[2]? = some (.str file_E11 tf_E11))
    (fi_E11 : ((l.prog.main.file : Str) == file_E11) = true)
    (xI_E12 : K.lookup cE12 = some (excClassObj nm_E12 q_E12 cE12 NN_E12 bs_E12 bm_E12 true sn_E12 sub_E12 ab_E12 col_E12 dd_E12 m0_E12 m1_E12 m2_E12 m3_E12 m5_E12 "ValueError.__new__"))
    (rv_E12 : bm_E12 = mroT cR)
    (ga_E12 : PySem.W.findIn K (.ref cE12) "__getattribute__" = some (some (.builtin "BaseException.__getattribute__")))
    (gg_E12 : PySem.W.findIn K (.ref cE12) "__getattr__" = some none)
    (ka_E12 : PySem.W.findIn K (.ref cE12) "__class__" = some (some (.builtin "object.__class__")))
    (iX_E12 : PySem.W.findIn K (.ref cE12) "__init__" = some (some (.ref fXE12)))
    (tF_E12 : PySem.W.typeIn K (.ref fXE12) = some (.type "function"))
    (kI_E12 : PySem.W.keepIn K (.ref cE12) = true)
    (su_E12 : PySem.W.ks_superIn K cE12 cE12 "__init__" = some (some (.builtin "ValueError.__init__")))
    (lX_E12 : K.lookup fXE12 = some ⟨oc0E12, od0E12, .func (PySem.Sup.zFn "there is no paper" "NoPaper.__init__" ⟨66, 17, 66, 21⟩ ⟨67, 8, 67, 13⟩ ⟨67, 8, 67, 15⟩ ⟨67, 8, 67, 24⟩ ⟨67, 25, 67, 44⟩ ⟨67, 8, 67, 45⟩ ⟨67, 8, 67, 45⟩ dc0E12 pm0E12 an0E12 cda_E12 cc_E12 ct0E12), sl0E12⟩)
    (cX_E12 : PySem.W.codeIn K (.ref cda_E12) "NoPaper.__init__" = true)
    (lC_E12 : K.lookup cc_E12 = some ⟨cl0_E12, cld_E12, .cell (some (.ref cE12)), csl_E12⟩)
    (lD_E12 : K.lookup cda_E12 = some ⟨ccl_E12, cdd_E12, .fields rvs_E12, ccs_E12⟩)
    (rf_E12 : rvs_E12[2]? = some (.str file_E12 tf_E12))
    (fi_E12 : ((l.prog.main.file : Str) == file_E12) = true)
    (xI_E13 : K.lookup cE13 = some (excClassObj nm_E13 q_E13 cE13 NN_E13 bs_E13 bm_E13 true sn_E13 sub_E13 ab_E13 col_E13 dd_E13 m0_E13 m1_E13 m2_E13 m3_E13 m5_E13 "ValueError.__new__"))
    (rv_E13 : bm_E13 = mroT cR)
    (ga_E13 : PySem.W.findIn K (.ref cE13) "__getattribute__" = some (some (.builtin "BaseException.__getattribute__")))
    (gg_E13 : PySem.W.findIn K (.ref cE13) "__getattr__" = some none)
    (ka_E13 : PySem.W.findIn K (.ref cE13) "__class__" = some (some (.builtin "object.__class__")))
    (sa_E13 : PySem.W.findIn K (.ref cE13) "__setattr__" = some (some (.builtin "object.__setattr__")))
    (nF_E13 : PySem.W.findIn K (.ref cE13) "value" = some none)
    (iX_E13 : PySem.W.findIn K (.ref cE13) "__init__" = some (some (.ref fXE13)))
    (tF_E13 : PySem.W.typeIn K (.ref fXE13) = some (.type "function"))
    (kI_E13 : PySem.W.keepIn K (.ref cE13) = true)
    (su_E13 : PySem.W.ks_superIn K cE13 cE13 "__init__" = some (some (.builtin "ValueError.__init__")))
    (lX_E13 : K.lookup fXE13 = some ⟨oc0E13, od0E13, .func (PySem.Sup.sFn "value" "not a limit of this kind" "InvalidLimit.__init__" ⟨70, 17, 70, 21⟩ ⟨70, 23, 70, 28⟩ ⟨71, 8, 71, 13⟩ ⟨71, 8, 71, 15⟩ ⟨71, 8, 71, 24⟩ ⟨71, 25, 71, 51⟩ ⟨71, 8, 71, 52⟩ ⟨71, 8, 71, 52⟩ ⟨72, 8, 72, 12⟩ ⟨72, 8, 72, 18⟩ ⟨72, 21, 72, 26⟩ ⟨72, 8, 72, 26⟩ dc0E13 pm0E13 an0E13 cda_E13 cc_E13 ct0E13), sl0E13⟩)
    (cX_E13 : PySem.W.codeIn K (.ref cda_E13) "InvalidLimit.__init__" = true)
    (lC_E13 : K.lookup cc_E13 = some ⟨cl0_E13, cld_E13, .cell (some (.ref cE13)), csl_E13⟩)
    (lD_E13 : K.lookup cda_E13 = some ⟨ccl_E13, cdd_E13, .fields rvs_E13, ccs_E13⟩)
    (rf_E13 : rvs_E13[2]? = some (.str file_E13 tf_E13))
    (fi_E13 : ((l.prog.main.file : Str) == file_E13) = true)
    (xI_E14 : K.lookup cE14 = some (excClassObj nm_E14 q_E14 cE14 NN_E14 bs_E14 bm_E14 true sn_E14 sub_E14 ab_E14 col_E14 dd_E14 m0_E14 m1_E14 m2_E14 m3_E14 m5_E14 "ValueError.__new__"))
    (rv_E14 : bm_E14 = mroT cR)
    (ga_E14 : PySem.W.findIn K (.ref cE14) "__getattribute__" = some (some (.builtin "BaseException.__getattribute__")))
    (gg_E14 : PySem.W.findIn K (.ref cE14) "__getattr__" = some none)
    (ka_E14 : PySem.W.findIn K (.ref cE14) "__class__" = some (some (.builtin "object.__class__")))
    (iX_E14 : PySem.W.findIn K (.ref cE14) "__init__" = some (some (.ref fXE14)))
    (tF_E14 : PySem.W.typeIn K (.ref fXE14) = some (.type "function"))
    (kI_E14 : PySem.W.keepIn K (.ref cE14) = true)
    (su_E14 : PySem.W.ks_superIn K cE14 cE14 "__init__" = some (some (.builtin "ValueError.__init__")))
    (lX_E14 : K.lookup fXE14 = some ⟨oc0E14, od0E14, .func (PySem.Sup.zFn "not such weights" "InvalidWeights.__init__" ⟨75, 17, 75, 21⟩ ⟨76, 8, 76, 13⟩ ⟨76, 8, 76, 15⟩ ⟨76, 8, 76, 24⟩ ⟨76, 25, 76, 43⟩ ⟨76, 8, 76, 44⟩ ⟨76, 8, 76, 44⟩ dc0E14 pm0E14 an0E14 cda_E14 cc_E14 ct0E14), sl0E14⟩)
    (cX_E14 : PySem.W.codeIn K (.ref cda_E14) "InvalidWeights.__init__" = true)
    (lC_E14 : K.lookup cc_E14 = some ⟨cl0_E14, cld_E14, .cell (some (.ref cE14)), csl_E14⟩)
    (lD_E14 : K.lookup cda_E14 = some ⟨ccl_E14, cdd_E14, .fields rvs_E14, ccs_E14⟩)
    (rf_E14 : rvs_E14[2]? = some (.str file_E14 tf_E14))
    (fi_E14 : ((l.prog.main.file : Str) == file_E14) = true)
    (xI_E15 : K.lookup cE15 = some (excClassObj nm_E15 q_E15 cE15 NN_E15 bs_E15 bm_E15 true sn_E15 sub_E15 ab_E15 col_E15 dd_E15 m0_E15 m1_E15 m2_E15 m3_E15 m5_E15 "ValueError.__new__"))
    (rv_E15 : bm_E15 = mroT cR)
    (ga_E15 : PySem.W.findIn K (.ref cE15) "__getattribute__" = some (some (.builtin "BaseException.__getattribute__")))
    (gg_E15 : PySem.W.findIn K (.ref cE15) "__getattr__" = some none)
    (ka_E15 : PySem.W.findIn K (.ref cE15) "__class__" = some (some (.builtin "object.__class__")))
    (sa_E15 : PySem.W.findIn K (.ref cE15) "__setattr__" = some (some (.builtin "object.__setattr__")))
    (nF_E15 : PySem.W.findIn K (.ref cE15) "answer" = some none)
    (iX_E15 : PySem.W.findIn K (.ref cE15) "__init__" = some (some (.ref fXE15)))
    (tF_E15 : PySem.W.typeIn K (.ref fXE15) = some (.type "function"))
    (kI_E15 : PySem.W.keepIn K (.ref cE15) = true)
    (su_E15 : PySem.W.ks_superIn K cE15 cE15 "__init__" = some (some (.builtin "ValueError.__init__")))
    (lX_E15 : K.lookup fXE15 = some ⟨oc0E15, od0E15, .func (PySem.Sup.sFn "answer" "the question has an answer" "HasAnswer.__init__" ⟨79, 17, 79, 21⟩ ⟨79, 23, 79, 29⟩ ⟨80, 8, 80, 13⟩ ⟨80, 8, 80, 15⟩ ⟨80, 8, 80, 24⟩ ⟨80, 25, 80, 53⟩ ⟨80, 8, 80, 54⟩ ⟨80, 8, 80, 54⟩ ⟨81, 8, 81, 12⟩ ⟨81, 8, 81, 19⟩ ⟨81, 22, 81, 28⟩ ⟨81, 8, 81, 28⟩ dc0E15 pm0E15 an0E15 cda_E15 cc_E15 ct0E15), sl0E15⟩)
    (cX_E15 : PySem.W.codeIn K (.ref cda_E15) "HasAnswer.__init__" = true)
    (lC_E15 : K.lookup cc_E15 = some ⟨cl0_E15, cld_E15, .cell (some (.ref cE15)), csl_E15⟩)
    (lD_E15 : K.lookup cda_E15 = some ⟨ccl_E15, cdd_E15, .fields rvs_E15, ccs_E15⟩)
    (rf_E15 : rvs_E15[2]? = some (.str file_E15 tf_E15))
    (fi_E15 : ((l.prog.main.file : Str) == file_E15) = true)
    (xI_E16 : K.lookup cE16 = some (excClassObj nm_E16 q_E16 cE16 NN_E16 bs_E16 bm_E16 true sn_E16 sub_E16 ab_E16 col_E16 dd_E16 m0_E16 m1_E16 m2_E16 m3_E16 m5_E16 "ValueError.__new__"))
    (rv_E16 : bm_E16 = mroT cR)
    (ga_E16 : PySem.W.findIn K (.ref cE16) "__getattribute__" = some (some (.builtin "BaseException.__getattribute__")))
    (gg_E16 : PySem.W.findIn K (.ref cE16) "__getattr__" = some none)
    (ka_E16 : PySem.W.findIn K (.ref cE16) "__class__" = some (some (.builtin "object.__class__")))
    (sa_E16 : PySem.W.findIn K (.ref cE16) "__setattr__" = some (some (.builtin "object.__setattr__")))
    (nF_E16 : PySem.W.findIn K (.ref cE16) "paper" = some none)
    (iX_E16 : PySem.W.findIn K (.ref cE16) "__init__" = some (some (.ref fXE16)))
    (tF_E16 : PySem.W.typeIn K (.ref fXE16) = some (.type "function"))
    (kI_E16 : PySem.W.keepIn K (.ref cE16) = true)
    (su_E16 : PySem.W.ks_superIn K cE16 cE16 "__init__" = some (some (.builtin "ValueError.__init__")))
    (lX_E16 : K.lookup fXE16 = some ⟨oc0E16, od0E16, .func (PySem.Sup.sFn "paper" "the question has no answer" "NoAnswer.__init__" ⟨84, 17, 84, 21⟩ ⟨84, 23, 84, 28⟩ ⟨85, 8, 85, 13⟩ ⟨85, 8, 85, 15⟩ ⟨85, 8, 85, 24⟩ ⟨85, 25, 85, 53⟩ ⟨85, 8, 85, 54⟩ ⟨85, 8, 85, 54⟩ ⟨86, 8, 86, 12⟩ ⟨86, 8, 86, 18⟩ ⟨86, 21, 86, 26⟩ ⟨86, 8, 86, 26⟩ dc0E16 pm0E16 an0E16 cda_E16 cc_E16 ct0E16), sl0E16⟩)
    (cX_E16 : PySem.W.codeIn K (.ref cda_E16) "NoAnswer.__init__" = true)
    (lC_E16 : K.lookup cc_E16 = some ⟨cl0_E16, cld_E16, .cell (some (.ref cE16)), csl_E16⟩)
    (lD_E16 : K.lookup cda_E16 = some ⟨ccl_E16, cdd_E16, .fields rvs_E16, ccs_E16⟩)
    (rf_E16 : rvs_E16[2]? = some (.str file_E16 tf_E16))
    (fi_E16 : ((l.prog.main.file : Str) == file_E16) = true)
    (xI_E17 : K.lookup cE17 = some (excClassObj nm_E17 q_E17 cE17 NN_E17 bs_E17 bm_E17 true sn_E17 sub_E17 ab_E17 col_E17 dd_E17 m0_E17 m1_E17 m2_E17 m3_E17 m5_E17 "ValueError.__new__"))
    (rv_E17 : bm_E17 = mroT cR)
    (ga_E17 : PySem.W.findIn K (.ref cE17) "__getattribute__" = some (some (.builtin "BaseException.__getattribute__")))
    (gg_E17 : PySem.W.findIn K (.ref cE17) "__getattr__" = some none)
    (ka_E17 : PySem.W.findIn K (.ref cE17) "__class__" = some (some (.builtin "object.__class__")))
    (iX_E17 : PySem.W.findIn K (.ref cE17) "__init__" = some (some (.ref fXE17)))
    (tF_E17 : PySem.W.typeIn K (.ref fXE17) = some (.type "function"))
    (kI_E17 : PySem.W.keepIn K (.ref cE17) = true)
    (su_E17 : PySem.W.ks_superIn K cE17 cE17 "__init__" = some (some (.builtin "ValueError.__init__")))
    (lX_E17 : K.lookup fXE17 = some ⟨oc0E17, od0E17, .func (PySem.Sup.zFn "no frame is open" "NothingPushed.__init__" ⟨89, 17, 89, 21⟩ ⟨90, 8, 90, 13⟩ ⟨90, 8, 90, 15⟩ ⟨90, 8, 90, 24⟩ ⟨90, 25, 90, 43⟩ ⟨90, 8, 90, 44⟩ ⟨90, 8, 90, 44⟩ dc0E17 pm0E17 an0E17 cda_E17 cc_E17 ct0E17), sl0E17⟩)
    (cX_E17 : PySem.W.codeIn K (.ref cda_E17) "NothingPushed.__init__" = true)
    (lC_E17 : K.lookup cc_E17 = some ⟨cl0_E17, cld_E17, .cell (some (.ref cE17)), csl_E17⟩)
    (lD_E17 : K.lookup cda_E17 = some ⟨ccl_E17, cdd_E17, .fields rvs_E17, ccs_E17⟩)
    (rf_E17 : rvs_E17[2]? = some (.str file_E17 tf_E17))
    (fi_E17 : ((l.prog.main.file : Str) == file_E17) = true)
    (xI_E18 : K.lookup cE18 = some (excClassObj nm_E18 q_E18 cE18 NN_E18 bs_E18 bm_E18 true sn_E18 sub_E18 ab_E18 col_E18 dd_E18 m0_E18 m1_E18 m2_E18 m3_E18 m5_E18 "ValueError.__new__"))
    (rv_E18 : bm_E18 = mroT cR)
    (ga_E18 : PySem.W.findIn K (.ref cE18) "__getattribute__" = some (some (.builtin "BaseException.__getattribute__")))
    (gg_E18 : PySem.W.findIn K (.ref cE18) "__getattr__" = some none)
    (ka_E18 : PySem.W.findIn K (.ref cE18) "__class__" = some (some (.builtin "object.__class__")))
    (iX_E18 : PySem.W.findIn K (.ref cE18) "__init__" = some (some (.ref fXE18)))
    (tF_E18 : PySem.W.typeIn K (.ref fXE18) = some (.type "function"))
    (kI_E18 : PySem.W.keepIn K (.ref cE18) = true)
    (su_E18 : PySem.W.ks_superIn K cE18 cE18 "__init__" = some (some (.builtin "ValueError.__init__")))
    (lX_E18 : K.lookup fXE18 = some ⟨oc0E18, od0E18, .func (PySem.Sup.zFn "nothing to undo" "NothingToUndo.__init__" ⟨93, 17, 93, 21⟩ ⟨94, 8, 94, 13⟩ ⟨94, 8, 94, 15⟩ ⟨94, 8, 94, 24⟩ ⟨94, 25, 94, 42⟩ ⟨94, 8, 94, 43⟩ ⟨94, 8, 94, 43⟩ dc0E18 pm0E18 an0E18 cda_E18 cc_E18 ct0E18), sl0E18⟩)
    (cX_E18 : PySem.W.codeIn K (.ref cda_E18) "NothingToUndo.__init__" = true)
    (lC_E18 : K.lookup cc_E18 = some ⟨cl0_E18, cld_E18, .cell (some (.ref cE18)), csl_E18⟩)
    (lD_E18 : K.lookup cda_E18 = some ⟨ccl_E18, cdd_E18, .fields rvs_E18, ccs_E18⟩)
    (rf_E18 : rvs_E18[2]? = some (.str file_E18 tf_E18))
    (fi_E18 : ((l.prog.main.file : Str) == file_E18) = true)
    (xI_E19 : K.lookup cE19 = some (excClassObj nm_E19 q_E19 cE19 NN_E19 bs_E19 bm_E19 true sn_E19 sub_E19 ab_E19 col_E19 dd_E19 m0_E19 m1_E19 m2_E19 m3_E19 m5_E19 "ValueError.__new__"))
    (rv_E19 : bm_E19 = mroT cR)
    (ga_E19 : PySem.W.findIn K (.ref cE19) "__getattribute__" = some (some (.builtin "BaseException.__getattribute__")))
    (gg_E19 : PySem.W.findIn K (.ref cE19) "__getattr__" = some none)
    (ka_E19 : PySem.W.findIn K (.ref cE19) "__class__" = some (some (.builtin "object.__class__")))
    (iX_E19 : PySem.W.findIn K (.ref cE19) "__init__" = some (some (.ref fXE19)))
    (tF_E19 : PySem.W.typeIn K (.ref fXE19) = some (.type "function"))
    (kI_E19 : PySem.W.keepIn K (.ref cE19) = true)
    (su_E19 : PySem.W.ks_superIn K cE19 cE19 "__init__" = some (some (.builtin "ValueError.__init__")))
    (lX_E19 : K.lookup fXE19 = some ⟨oc0E19, od0E19, .func (PySem.Sup.zFn "nothing to redo" "NothingToRedo.__init__" ⟨97, 17, 97, 21⟩ ⟨98, 8, 98, 13⟩ ⟨98, 8, 98, 15⟩ ⟨98, 8, 98, 24⟩ ⟨98, 25, 98, 42⟩ ⟨98, 8, 98, 43⟩ ⟨98, 8, 98, 43⟩ dc0E19 pm0E19 an0E19 cda_E19 cc_E19 ct0E19), sl0E19⟩)
    (cX_E19 : PySem.W.codeIn K (.ref cda_E19) "NothingToRedo.__init__" = true)
    (lC_E19 : K.lookup cc_E19 = some ⟨cl0_E19, cld_E19, .cell (some (.ref cE19)), csl_E19⟩)
    (lD_E19 : K.lookup cda_E19 = some ⟨ccl_E19, cdd_E19, .fields rvs_E19, ccs_E19⟩)
    (rf_E19 : rvs_E19[2]? = some (.str file_E19 tf_E19))
    (fi_E19 : ((l.prog.main.file : Str) == file_E19) = true)
    (xI_E20 : K.lookup cE20 = some (excClassObj nm_E20 q_E20 cE20 NN_E20 bs_E20 bm_E20 true sn_E20 sub_E20 ab_E20 col_E20 dd_E20 m0_E20 m1_E20 m2_E20 m3_E20 m5_E20 "ValueError.__new__"))
    (rv_E20 : bm_E20 = mroT cR)
    (ga_E20 : PySem.W.findIn K (.ref cE20) "__getattribute__" = some (some (.builtin "BaseException.__getattribute__")))
    (gg_E20 : PySem.W.findIn K (.ref cE20) "__getattr__" = some none)
    (ka_E20 : PySem.W.findIn K (.ref cE20) "__class__" = some (some (.builtin "object.__class__")))
    (sa_E20 : PySem.W.findIn K (.ref cE20) "__setattr__" = some (some (.builtin "object.__setattr__")))
    (nF_E20 : PySem.W.findIn K (.ref cE20) "clause" = some none)
    (iX_E20 : PySem.W.findIn K (.ref cE20) "__init__" = some (some (.ref fXE20)))
    (tF_E20 : PySem.W.typeIn K (.ref fXE20) = some (.type "function"))
    (kI_E20 : PySem.W.keepIn K (.ref cE20) = true)
    (su_E20 : PySem.W.ks_superIn K cE20 cE20 "__init__" = some (some (.builtin "ValueError.__init__")))
    (lX_E20 : K.lookup fXE20 = some ⟨oc0E20, od0E20, .func (PySem.Sup.sFn "clause" "not a kept clause" "NotKept.__init__" ⟨101, 17, 101, 21⟩ ⟨101, 23, 101, 29⟩ ⟨102, 8, 102, 13⟩ ⟨102, 8, 102, 15⟩ ⟨102, 8, 102, 24⟩ ⟨102, 25, 102, 44⟩ ⟨102, 8, 102, 45⟩ ⟨102, 8, 102, 45⟩ ⟨103, 8, 103, 12⟩ ⟨103, 8, 103, 19⟩ ⟨103, 22, 103, 28⟩ ⟨103, 8, 103, 28⟩ dc0E20 pm0E20 an0E20 cda_E20 cc_E20 ct0E20), sl0E20⟩)
    (cX_E20 : PySem.W.codeIn K (.ref cda_E20) "NotKept.__init__" = true)
    (lC_E20 : K.lookup cc_E20 = some ⟨cl0_E20, cld_E20, .cell (some (.ref cE20)), csl_E20⟩)
    (lD_E20 : K.lookup cda_E20 = some ⟨ccl_E20, cdd_E20, .fields rvs_E20, ccs_E20⟩)
    (rf_E20 : rvs_E20[2]? = some (.str file_E20 tf_E20))
    (fi_E20 : ((l.prog.main.file : Str) == file_E20) = true)
    (xI_E21 : K.lookup cE21 = some (excClassObj nm_E21 q_E21 cE21 NN_E21 bs_E21 bm_E21 true sn_E21 sub_E21 ab_E21 col_E21 dd_E21 m0_E21 m1_E21 m2_E21 m3_E21 m5_E21 "ValueError.__new__"))
    (rv_E21 : bm_E21 = mroT cR)
    (ga_E21 : PySem.W.findIn K (.ref cE21) "__getattribute__" = some (some (.builtin "BaseException.__getattribute__")))
    (gg_E21 : PySem.W.findIn K (.ref cE21) "__getattr__" = some none)
    (ka_E21 : PySem.W.findIn K (.ref cE21) "__class__" = some (some (.builtin "object.__class__")))
    (sa_E21 : PySem.W.findIn K (.ref cE21) "__setattr__" = some (some (.builtin "object.__setattr__")))
    (nF_E21 : PySem.W.findIn K (.ref cE21) "index" = some none)
    (iX_E21 : PySem.W.findIn K (.ref cE21) "__init__" = some (some (.ref fXE21)))
    (tF_E21 : PySem.W.typeIn K (.ref fXE21) = some (.type "function"))
    (kI_E21 : PySem.W.keepIn K (.ref cE21) = true)
    (su_E21 : PySem.W.ks_superIn K cE21 cE21 "__init__" = some (some (.builtin "ValueError.__init__")))
    (lX_E21 : K.lookup fXE21 = some ⟨oc0E21, od0E21, .func (PySem.Sup.sFn "index" "not a row of a run" "InvalidRow.__init__" ⟨106, 17, 106, 21⟩ ⟨106, 23, 106, 28⟩ ⟨107, 8, 107, 13⟩ ⟨107, 8, 107, 15⟩ ⟨107, 8, 107, 24⟩ ⟨107, 25, 107, 45⟩ ⟨107, 8, 107, 46⟩ ⟨107, 8, 107, 46⟩ ⟨108, 8, 108, 12⟩ ⟨108, 8, 108, 18⟩ ⟨108, 21, 108, 26⟩ ⟨108, 8, 108, 26⟩ dc0E21 pm0E21 an0E21 cda_E21 cc_E21 ct0E21), sl0E21⟩)
    (cX_E21 : PySem.W.codeIn K (.ref cda_E21) "InvalidRow.__init__" = true)
    (lC_E21 : K.lookup cc_E21 = some ⟨cl0_E21, cld_E21, .cell (some (.ref cE21)), csl_E21⟩)
    (lD_E21 : K.lookup cda_E21 = some ⟨ccl_E21, cdd_E21, .fields rvs_E21, ccs_E21⟩)
    (rf_E21 : rvs_E21[2]? = some (.str file_E21 tf_E21))
    (fi_E21 : ((l.prog.main.file : Str) == file_E21) = true)
    (nd : ([cR, cE0, cE1, cE2, cE3, cE4, cE5, cE6, cE7, cE8, cE9, cE10, cE11, cE12, cE13, cE14, cE15, cE16, cE17, cE18, cE19, cE20, cE21] : List Addr).Nodup) :
    ∃ fd : FuncData, (∀ (s : Shared) (v : Value), BindsTo s fd ⟨[v], []⟩ [("script", v)]) ∧ ∀ base : Heap, K.In base → base.Ns mainGlobals mg → FnG l.prog w K mg base 9 fa fd ["script"] (spLaw K) := by
  have e := hfa.symm.trans (PySem.W.mg_of X G a29)
  cases e
  have g1 := PySem.W.mg_of X G a1
  have F1 := fun_mk (st := s_is_name) l1 c1 k1
  have b1 := F1.binds (ps := ["value"]) fun _ _ _ _ _ _ us hl => match us, hl with | [_], _ => rfl
  have g2 := PySem.W.mg_of X G a2
  have F2 := fun_mk (st := s_is_integer) l2 c2 k2
  have b2 := F2.binds (ps := ["value"]) fun _ _ _ _ _ _ us hl => match us, hl with | [_], _ => rfl
  have g3 := PySem.W.mg_of X G a3
  have F3 := fun_mk (st := s_is_bound) l3 c3 k3
  have b3 := F3.binds (ps := ["value"]) fun _ _ _ _ _ _ us hl => match us, hl with | [_], _ => rfl
  have g4 := PySem.W.mg_of X G a4
  have F4 := fun_mk (st := s_is_literal) l4 c4 k4
  have b4 := F4.binds (ps := ["value"]) fun _ _ _ _ _ _ us hl => match us, hl with | [_], _ => rfl
  have g5 := PySem.W.mg_of X G a5
  have F5 := fun_mk (st := s_check_literal) l5 c5 k5
  have b5 := F5.binds (ps := ["value"]) fun _ _ _ _ _ _ us hl => match us, hl with | [_], _ => rfl
  have g6 := PySem.W.mg_of X G a6
  have F6 := fun_mk (st := s_clause_of) l6 c6 k6
  have b6 := F6.binds (ps := ["literals"]) fun _ _ _ _ _ _ us hl => match us, hl with | [_], _ => rfl
  have g7 := PySem.W.mg_of X G a7
  have F7 := fun_mk (st := s_normal_form) l7 c7 k7
  have b7 := F7.binds (ps := ["literals"]) fun _ _ _ _ _ _ us hl => match us, hl with | [_], _ => rfl
  have g8 := PySem.W.mg_of X G a8
  have F8 := fun_mk (st := s_law_bag) l8 c8 k8
  have b8 := F8.binds (ps := ["script"]) fun _ _ _ _ _ _ us hl => match us, hl with | [_], _ => rfl
  have g9 := PySem.W.mg_of X G a9
  have F9 := fun_mk (st := s_law_take) l9 c9 k9
  have b9 := F9.binds (ps := ["bag", "size"]) fun _ _ _ _ _ _ us hl => match us, hl with | [_, _], _ => rfl
  have g10 := PySem.W.mg_of X G a10
  have F10 := fun_mk (st := s_law_names) l10 c10 k10
  have b10 := F10.binds (ps := ["bag", "many"]) fun _ _ _ _ _ _ us hl => match us, hl with | [_, _], _ => rfl
  have g11 := PySem.W.mg_of X G a11
  have F11 := fun_mk (st := s_law_integer) l11 c11 k11
  have b11 := F11.binds (ps := ["bag"]) fun _ _ _ _ _ _ us hl => match us, hl with | [_], _ => rfl
  have g12 := PySem.W.mg_of X G a12
  have F12 := fun_mk (st := s_law_literal) l12 c12 k12
  have b12 := F12.binds (ps := ["bag", "pool"]) fun _ _ _ _ _ _ us hl => match us, hl with | [_, _], _ => rfl
  have g13 := PySem.W.mg_of X G a13
  have F13 := fun_mk (st := s_law_opposite) l13 c13 k13
  have b13 := F13.binds (ps := ["row"]) fun _ _ _ _ _ _ us hl => match us, hl with | [_], _ => rfl
  have g14 := PySem.W.mg_of X G a14
  have F14 := fun_mk (st := s_law_rows) l14 c14 k14
  have b14 := F14.binds (ps := ["bag", "pool", "most"]) fun _ _ _ _ _ _ us hl => match us, hl with | [_, _, _], _ => rfl
  have g15 := PySem.W.mg_of X G a15
  have F15 := fun_mk (st := s_law_same) l15 c15 k15
  have b15 := F15.binds (ps := ["actual", "due"]) fun _ _ _ _ _ _ us hl => match us, hl with | [_, _], _ => rfl
  have g16 := PySem.W.mg_of X G a16
  have F16 := fun_mk (st := s_law_once) l16 c16 k16
  have b16 := F16.binds (ps := ["rows"]) fun _ _ _ _ _ _ us hl => match us, hl with | [_], _ => rfl
  have g17 := PySem.W.mg_of X G a17
  have F17 := fun_mk (st := s_law_bad_name) l17 c17 k17
  have b17 := F17.binds (ps := ["bag", "name"]) fun _ _ _ _ _ _ us hl => match us, hl with | [_, _], _ => rfl
  have g18 := PySem.W.mg_of X G a18
  have F18 := fun_mk (st := s_law_bad) l18 c18 k18
  have b18 := F18.binds (ps := ["bag", "pool"]) fun _ _ _ _ _ _ us hl => match us, hl with | [_, _], _ => rfl
  have g19 := PySem.W.mg_of X G a19
  have F19 := fun_mk (st := s_law_classes) l19 c19 k19
  have b19 := F19.binds (ps := ["e"]) fun _ _ _ _ _ _ us hl => match us, hl with | [_], _ => rfl
  have g20 := PySem.W.mg_of X G a20
  have F20 := fun_mk (st := s_law_alike) l20 c20 k20
  have b20 := F20.binds (ps := ["one", "two"]) fun _ _ _ _ _ _ us hl => match us, hl with | [_, _], _ => rfl
  have g21 := PySem.W.mg_of X G a21
  have F21 := fun_mk (st := s_law_family_a) l21 c21 k21
  have b21 := F21.binds (ps := ["name", "row", "number", "ring"]) fun _ _ _ _ _ _ us hl => match us, hl with | [_, _, _, _], _ => rfl
  have g22 := PySem.W.mg_of X G a22
  have F22 := fun_mk (st := s_law_family_b) l22 c22 k22
  have b22 := F22.binds (ps := ["row", "number", "due"]) fun _ _ _ _ _ _ us hl => match us, hl with | [_, _, _], _ => rfl
  have g23 := PySem.W.mg_of X G a23
  have F23 := fun_mk (st := s_law_family_c) l23 c23 k23
  have b23 := F23.binds (ps := ["name", "number", "due"]) fun _ _ _ _ _ _ us hl => match us, hl with | [_, _, _], _ => rfl
  have g24 := PySem.W.mg_of X G a24
  have F24 := fun_mk (st := s_law_refused) l24 c24 k24
  have b24 := F24.binds (ps := ["given", "number", "value"]) fun _ _ _ _ _ _ us hl => match us, hl with | [_, _, _], _ => rfl
  have g25 := PySem.W.mg_of X G a25
  have F25 := fun_mk (st := s_law_normal) l25 c25 k25
  have b25 := F25.binds (ps := ["bag", "rows"]) fun _ _ _ _ _ _ us hl => match us, hl with | [_, _], _ => rfl
  have g26 := PySem.W.mg_of X G a26
  have F26 := fun_mk (st := s_law_bad_items) l26 c26 k26
  have b26 := F26.binds (ps := ["bag", "pool", "rows"]) fun _ _ _ _ _ _ us hl => match us, hl with | [_, _, _], _ => rfl
  have g27 := PySem.W.mg_of X G a27
  have F27 := fun_mk (st := s_law_bad_lists) l27 c27 k27
  have b27 := F27.binds (ps := ["bag", "pool", "row"]) fun _ _ _ _ _ _ us hl => match us, hl with | [_, _, _], _ => rfl
  have g28 := PySem.W.mg_of X G a28
  have F28 := fun_mk (st := s_law_far_numbers) l28 c28 k28
  have b28 := F28.binds (ps := []) fun _ _ _ _ _ _ us hl => match us, hl with | [], _ => rfl
  have g29 := PySem.W.mg_of X G a29
  have F29 := fun_mk (st := s_law) l29 c29 k29
  have b29 := F29.binds (ps := ["script"]) fun _ _ _ _ _ _ us hl => match us, hl with | [_], _ => rfl
  have n_isinstance := PySem.W.mg_none_of X G z_isinstance
  have n_str := PySem.W.mg_none_of X G z_str
  have n_int := PySem.W.mg_none_of X G z_int
  have n_bool := PySem.W.mg_none_of X G z_bool
  have n_tuple := PySem.W.mg_none_of X G z_tuple
  have n_list := PySem.W.mg_none_of X G z_list
  have n_len := PySem.W.mg_none_of X G z_len
  have n_range := PySem.W.mg_none_of X G z_range
  have n_sorted := PySem.W.mg_none_of X G z_sorted
  have n_abs := PySem.W.mg_none_of X G z_abs
  have n_set := PySem.W.mg_none_of X G z_set
  have n_repr := PySem.W.mg_none_of X G z_repr
  have n_ValueError := PySem.W.mg_none_of X G z_ValueError
  have n_super := PySem.W.mg_none_of X G z_super
  subst rv_E0
  have M_E0 : MR K cR cE0 := ⟨⟨nm_E0, q_E0, NN_E0, bs_E0, sn_E0, sub_E0, ab_E0, col_E0, dd_E0, m0_E0, m1_E0, m2_E0, m3_E0, m5_E0, xI_E0⟩, hE0, yE0, ga_E0, gg_E0, ka_E0⟩
  have sup_E0 : PySem.Sup.SupTxt K mg l.prog "InvalidName" "name" "not a name" cE0 fXE0 :=
    { gC := PySem.W.mg_of X G aE0, ok := { bd := fun _ _ _ _ _ _ _ _ _ _ _ _ _ _ _ _ _ _ _ _ _ _ => rfl, lf := rfl, lc := rfl, ls := rfl, nd := by decide, ns := by decide }, cls := ⟨nm_E0, q_E0, NN_E0, bs_E0, mroT cR, sn_E0, sub_E0, ab_E0, col_E0, dd_E0, m0_E0, m1_E0, m2_E0, m3_E0, m5_E0, xI_E0, refs_mroT⟩,
      sa := sa_E0, ga := ga_E0, gg := gg_E0, noF := nF_E0, exC := by rw [M_E0.sub, con_ty (by simp)], tyC := yE0, hdC := hE0, iC := iX_E0, tF := tF_E0, kC := kI_E0, veC := by rw [M_E0.sub, con_ty (by simp)], mC := by rw [M_E0.mro, con_me], opq := oq, sup := su_E0, htop := hTop, mgS := n_super,
      fn := ⟨oc0E0, od0E0, _, dc0E0, pm0E0, an0E0, cda_E0, cc_E0, ct0E0, sl0E0, _, _, _, _, _, _, _, _, _, _, _, _, lX_E0, fun _ _ => ⟨_, rfl⟩, cX_E0, ⟨cl0_E0, cld_E0, csl_E0, lC_E0⟩, ⟨ccl_E0, cdd_E0, rvs_E0, ccs_E0, file_E0, tf_E0, lD_E0, rf_E0, fi_E0⟩⟩ }
  subst rv_E1
  have M_E1 : MR K cR cE1 := ⟨⟨nm_E1, q_E1, NN_E1, bs_E1, sn_E1, sub_E1, ab_E1, col_E1, dd_E1, m0_E1, m1_E1, m2_E1, m3_E1, m5_E1, xI_E1⟩, hE1, yE1, ga_E1, gg_E1, ka_E1⟩
  have sup_E1 : PySem.Sup.SupTxt K mg l.prog "InvalidLiteral" "value" "not a literal" cE1 fXE1 :=
    { gC := PySem.W.mg_of X G aE1, ok := { bd := fun _ _ _ _ _ _ _ _ _ _ _ _ _ _ _ _ _ _ _ _ _ _ => rfl, lf := rfl, lc := rfl, ls := rfl, nd := by decide, ns := by decide }, cls := ⟨nm_E1, q_E1, NN_E1, bs_E1, mroT cR, sn_E1, sub_E1, ab_E1, col_E1, dd_E1, m0_E1, m1_E1, m2_E1, m3_E1, m5_E1, xI_E1, refs_mroT⟩,
      sa := sa_E1, ga := ga_E1, gg := gg_E1, noF := nF_E1, exC := by rw [M_E1.sub, con_ty (by simp)], tyC := yE1, hdC := hE1, iC := iX_E1, tF := tF_E1, kC := kI_E1, veC := by rw [M_E1.sub, con_ty (by simp)], mC := by rw [M_E1.mro, con_me], opq := oq, sup := su_E1, htop := hTop, mgS := n_super,
      fn := ⟨oc0E1, od0E1, _, dc0E1, pm0E1, an0E1, cda_E1, cc_E1, ct0E1, sl0E1, _, _, _, _, _, _, _, _, _, _, _, _, lX_E1, fun _ _ => ⟨_, rfl⟩, cX_E1, ⟨cl0_E1, cld_E1, csl_E1, lC_E1⟩, ⟨ccl_E1, cdd_E1, rvs_E1, ccs_E1, file_E1, tf_E1, lD_E1, rf_E1, fi_E1⟩⟩ }
  subst rv_E2
  have M_E2 : MR K cR cE2 := ⟨⟨nm_E2, q_E2, NN_E2, bs_E2, sn_E2, sub_E2, ab_E2, col_E2, dd_E2, m0_E2, m1_E2, m2_E2, m3_E2, m5_E2, xI_E2⟩, hE2, yE2, ga_E2, gg_E2, ka_E2⟩
  have sup_E2 : PySem.Sup.SupTxt K mg l.prog "InvalidClause" "value" "not a clause" cE2 fXE2 :=
    { gC := PySem.W.mg_of X G aE2, ok := { bd := fun _ _ _ _ _ _ _ _ _ _ _ _ _ _ _ _ _ _ _ _ _ _ => rfl, lf := rfl, lc := rfl, ls := rfl, nd := by decide, ns := by decide }, cls := ⟨nm_E2, q_E2, NN_E2, bs_E2, mroT cR, sn_E2, sub_E2, ab_E2, col_E2, dd_E2, m0_E2, m1_E2, m2_E2, m3_E2, m5_E2, xI_E2, refs_mroT⟩,
      sa := sa_E2, ga := ga_E2, gg := gg_E2, noF := nF_E2, exC := by rw [M_E2.sub, con_ty (by simp)], tyC := yE2, hdC := hE2, iC := iX_E2, tF := tF_E2, kC := kI_E2, veC := by rw [M_E2.sub, con_ty (by simp)], mC := by rw [M_E2.mro, con_me], opq := oq, sup := su_E2, htop := hTop, mgS := n_super,
      fn := ⟨oc0E2, od0E2, _, dc0E2, pm0E2, an0E2, cda_E2, cc_E2, ct0E2, sl0E2, _, _, _, _, _, _, _, _, _, _, _, _, lX_E2, fun _ _ => ⟨_, rfl⟩, cX_E2, ⟨cl0_E2, cld_E2, csl_E2, lC_E2⟩, ⟨ccl_E2, cdd_E2, rvs_E2, ccs_E2, file_E2, tf_E2, lD_E2, rf_E2, fi_E2⟩⟩ }
  subst rv_E3
  have M_E3 : MR K cR cE3 := ⟨⟨nm_E3, q_E3, NN_E3, bs_E3, sn_E3, sub_E3, ab_E3, col_E3, dd_E3, m0_E3, m1_E3, m2_E3, m3_E3, m5_E3, xI_E3⟩, hE3, yE3, ga_E3, gg_E3, ka_E3⟩
  have sup_E3 : PySem.Sup.SupTxt K mg l.prog "InvalidText" "line" "not a text of this form" cE3 fXE3 :=
    { gC := PySem.W.mg_of X G aE3, ok := { bd := fun _ _ _ _ _ _ _ _ _ _ _ _ _ _ _ _ _ _ _ _ _ _ => rfl, lf := rfl, lc := rfl, ls := rfl, nd := by decide, ns := by decide }, cls := ⟨nm_E3, q_E3, NN_E3, bs_E3, mroT cR, sn_E3, sub_E3, ab_E3, col_E3, dd_E3, m0_E3, m1_E3, m2_E3, m3_E3, m5_E3, xI_E3, refs_mroT⟩,
      sa := sa_E3, ga := ga_E3, gg := gg_E3, noF := nF_E3, exC := by rw [M_E3.sub, con_ty (by simp)], tyC := yE3, hdC := hE3, iC := iX_E3, tF := tF_E3, kC := kI_E3, veC := by rw [M_E3.sub, con_ty (by simp)], mC := by rw [M_E3.mro, con_me], opq := oq, sup := su_E3, htop := hTop, mgS := n_super,
      fn := ⟨oc0E3, od0E3, _, dc0E3, pm0E3, an0E3, cda_E3, cc_E3, ct0E3, sl0E3, _, _, _, _, _, _, _, _, _, _, _, _, lX_E3, fun _ _ => ⟨_, rfl⟩, cX_E3, ⟨cl0_E3, cld_E3, csl_E3, lC_E3⟩, ⟨ccl_E3, cdd_E3, rvs_E3, ccs_E3, file_E3, tf_E3, lD_E3, rf_E3, fi_E3⟩⟩ }
  subst rv_E4
  have M_E4 : MR K cR cE4 := ⟨⟨nm_E4, q_E4, NN_E4, bs_E4, sn_E4, sub_E4, ab_E4, col_E4, dd_E4, m0_E4, m1_E4, m2_E4, m3_E4, m5_E4, xI_E4⟩, hE4, yE4, ga_E4, gg_E4, ka_E4⟩
  have sup_E4 : PySem.Sup.SupTxt K mg l.prog "UnknownMoment" "name" "not a listed moment" cE4 fXE4 :=
    { gC := PySem.W.mg_of X G aE4, ok := { bd := fun _ _ _ _ _ _ _ _ _ _ _ _ _ _ _ _ _ _ _ _ _ _ => rfl, lf := rfl, lc := rfl, ls := rfl, nd := by decide, ns := by decide }, cls := ⟨nm_E4, q_E4, NN_E4, bs_E4, mroT cR, sn_E4, sub_E4, ab_E4, col_E4, dd_E4, m0_E4, m1_E4, m2_E4, m3_E4, m5_E4, xI_E4, refs_mroT⟩,
      sa := sa_E4, ga := ga_E4, gg := gg_E4, noF := nF_E4, exC := by rw [M_E4.sub, con_ty (by simp)], tyC := yE4, hdC := hE4, iC := iX_E4, tF := tF_E4, kC := kI_E4, veC := by rw [M_E4.sub, con_ty (by simp)], mC := by rw [M_E4.mro, con_me], opq := oq, sup := su_E4, htop := hTop, mgS := n_super,
      fn := ⟨oc0E4, od0E4, _, dc0E4, pm0E4, an0E4, cda_E4, cc_E4, ct0E4, sl0E4, _, _, _, _, _, _, _, _, _, _, _, _, lX_E4, fun _ _ => ⟨_, rfl⟩, cX_E4, ⟨cl0_E4, cld_E4, csl_E4, lC_E4⟩, ⟨ccl_E4, cdd_E4, rvs_E4, ccs_E4, file_E4, tf_E4, lD_E4, rf_E4, fi_E4⟩⟩ }
  subst rv_E5
  have M_E5 : MR K cR cE5 := ⟨⟨nm_E5, q_E5, NN_E5, bs_E5, sn_E5, sub_E5, ab_E5, col_E5, dd_E5, m0_E5, m1_E5, m2_E5, m3_E5, m5_E5, xI_E5⟩, hE5, yE5, ga_E5, gg_E5, ka_E5⟩
  have sup_E5 : PySem.Sup.SupTxt K mg l.prog "InvalidChain" "bounds" "not such a chain" cE5 fXE5 :=
    { gC := PySem.W.mg_of X G aE5, ok := { bd := fun _ _ _ _ _ _ _ _ _ _ _ _ _ _ _ _ _ _ _ _ _ _ => rfl, lf := rfl, lc := rfl, ls := rfl, nd := by decide, ns := by decide }, cls := ⟨nm_E5, q_E5, NN_E5, bs_E5, mroT cR, sn_E5, sub_E5, ab_E5, col_E5, dd_E5, m0_E5, m1_E5, m2_E5, m3_E5, m5_E5, xI_E5, refs_mroT⟩,
      sa := sa_E5, ga := ga_E5, gg := gg_E5, noF := nF_E5, exC := by rw [M_E5.sub, con_ty (by simp)], tyC := yE5, hdC := hE5, iC := iX_E5, tF := tF_E5, kC := kI_E5, veC := by rw [M_E5.sub, con_ty (by simp)], mC := by rw [M_E5.mro, con_me], opq := oq, sup := su_E5, htop := hTop, mgS := n_super,
      fn := ⟨oc0E5, od0E5, _, dc0E5, pm0E5, an0E5, cda_E5, cc_E5, ct0E5, sl0E5, _, _, _, _, _, _, _, _, _, _, _, _, lX_E5, fun _ _ => ⟨_, rfl⟩, cX_E5, ⟨cl0_E5, cld_E5, csl_E5, lC_E5⟩, ⟨ccl_E5, cdd_E5, rvs_E5, ccs_E5, file_E5, tf_E5, lD_E5, rf_E5, fi_E5⟩⟩ }
  subst rv_E6
  have M_E6 : MR K cR cE6 := ⟨⟨nm_E6, q_E6, NN_E6, bs_E6, sn_E6, sub_E6, ab_E6, col_E6, dd_E6, m0_E6, m1_E6, m2_E6, m3_E6, m5_E6, xI_E6⟩, hE6, yE6, ga_E6, gg_E6, ka_E6⟩
  have sup_E6 : PySem.Sup.SupTxt K mg l.prog "Inconsistent" "ring" "the net has a negative ring" cE6 fXE6 :=
    { gC := PySem.W.mg_of X G aE6, ok := { bd := fun _ _ _ _ _ _ _ _ _ _ _ _ _ _ _ _ _ _ _ _ _ _ => rfl, lf := rfl, lc := rfl, ls := rfl, nd := by decide, ns := by decide }, cls := ⟨nm_E6, q_E6, NN_E6, bs_E6, mroT cR, sn_E6, sub_E6, ab_E6, col_E6, dd_E6, m0_E6, m1_E6, m2_E6, m3_E6, m5_E6, xI_E6, refs_mroT⟩,
      sa := sa_E6, ga := ga_E6, gg := gg_E6, noF := nF_E6, exC := by rw [M_E6.sub, con_ty (by simp)], tyC := yE6, hdC := hE6, iC := iX_E6, tF := tF_E6, kC := kI_E6, veC := by rw [M_E6.sub, con_ty (by simp)], mC := by rw [M_E6.mro, con_me], opq := oq, sup := su_E6, htop := hTop, mgS := n_super,
      fn := ⟨oc0E6, od0E6, _, dc0E6, pm0E6, an0E6, cda_E6, cc_E6, ct0E6, sl0E6, _, _, _, _, _, _, _, _, _, _, _, _, lX_E6, fun _ _ => ⟨_, rfl⟩, cX_E6, ⟨cl0_E6, cld_E6, csl_E6, lC_E6⟩, ⟨ccl_E6, cdd_E6, rvs_E6, ccs_E6, file_E6, tf_E6, lD_E6, rf_E6, fi_E6⟩⟩ }
  subst rv_E7
  have M_E7 : MR K cR cE7 := ⟨⟨nm_E7, q_E7, NN_E7, bs_E7, sn_E7, sub_E7, ab_E7, col_E7, dd_E7, m0_E7, m1_E7, m2_E7, m3_E7, m5_E7, xI_E7⟩, hE7, yE7, ga_E7, gg_E7, ka_E7⟩
  have sup_E7 : PySem.Sup.SupTxt K mg l.prog "InvalidPivot" "pivot" "not a pivot of these clauses" cE7 fXE7 :=
    { gC := PySem.W.mg_of X G aE7, ok := { bd := fun _ _ _ _ _ _ _ _ _ _ _ _ _ _ _ _ _ _ _ _ _ _ => rfl, lf := rfl, lc := rfl, ls := rfl, nd := by decide, ns := by decide }, cls := ⟨nm_E7, q_E7, NN_E7, bs_E7, mroT cR, sn_E7, sub_E7, ab_E7, col_E7, dd_E7, m0_E7, m1_E7, m2_E7, m3_E7, m5_E7, xI_E7, refs_mroT⟩,
      sa := sa_E7, ga := ga_E7, gg := gg_E7, noF := nF_E7, exC := by rw [M_E7.sub, con_ty (by simp)], tyC := yE7, hdC := hE7, iC := iX_E7, tF := tF_E7, kC := kI_E7, veC := by rw [M_E7.sub, con_ty (by simp)], mC := by rw [M_E7.mro, con_me], opq := oq, sup := su_E7, htop := hTop, mgS := n_super,
      fn := ⟨oc0E7, od0E7, _, dc0E7, pm0E7, an0E7, cda_E7, cc_E7, ct0E7, sl0E7, _, _, _, _, _, _, _, _, _, _, _, _, lX_E7, fun _ _ => ⟨_, rfl⟩, cX_E7, ⟨cl0_E7, cld_E7, csl_E7, lC_E7⟩, ⟨ccl_E7, cdd_E7, rvs_E7, ccs_E7, file_E7, tf_E7, lD_E7, rf_E7, fi_E7⟩⟩ }
  subst rv_E8
  have M_E8 : MR K cR cE8 := ⟨⟨nm_E8, q_E8, NN_E8, bs_E8, sn_E8, sub_E8, ab_E8, col_E8, dd_E8, m0_E8, m1_E8, m2_E8, m3_E8, m5_E8, xI_E8⟩, hE8, yE8, ga_E8, gg_E8, ka_E8⟩
  have sup_E8 : PySem.Sup.SupTxt K mg l.prog "WrongStep" "index" "a step of the paper is wrong" cE8 fXE8 :=
    { gC := PySem.W.mg_of X G aE8, ok := { bd := fun _ _ _ _ _ _ _ _ _ _ _ _ _ _ _ _ _ _ _ _ _ _ => rfl, lf := rfl, lc := rfl, ls := rfl, nd := by decide, ns := by decide }, cls := ⟨nm_E8, q_E8, NN_E8, bs_E8, mroT cR, sn_E8, sub_E8, ab_E8, col_E8, dd_E8, m0_E8, m1_E8, m2_E8, m3_E8, m5_E8, xI_E8, refs_mroT⟩,
      sa := sa_E8, ga := ga_E8, gg := gg_E8, noF := nF_E8, exC := by rw [M_E8.sub, con_ty (by simp)], tyC := yE8, hdC := hE8, iC := iX_E8, tF := tF_E8, kC := kI_E8, veC := by rw [M_E8.sub, con_ty (by simp)], mC := by rw [M_E8.mro, con_me], opq := oq, sup := su_E8, htop := hTop, mgS := n_super,
      fn := ⟨oc0E8, od0E8, _, dc0E8, pm0E8, an0E8, cda_E8, cc_E8, ct0E8, sl0E8, _, _, _, _, _, _, _, _, _, _, _, _, lX_E8, fun _ _ => ⟨_, rfl⟩, cX_E8, ⟨cl0_E8, cld_E8, csl_E8, lC_E8⟩, ⟨ccl_E8, cdd_E8, rvs_E8, ccs_E8, file_E8, tf_E8, lD_E8, rf_E8, fi_E8⟩⟩ }
  subst rv_E9
  have M_E9 : MR K cR cE9 := ⟨⟨nm_E9, q_E9, NN_E9, bs_E9, sn_E9, sub_E9, ab_E9, col_E9, dd_E9, m0_E9, m1_E9, m2_E9, m3_E9, m5_E9, xI_E9⟩, hE9, yE9, ga_E9, gg_E9, ka_E9⟩
  have sup_E9 : PySem.Sup.SupTxt K mg l.prog "UnknownLiteral" "literal" "not a literal of the machine" cE9 fXE9 :=
    { gC := PySem.W.mg_of X G aE9, ok := { bd := fun _ _ _ _ _ _ _ _ _ _ _ _ _ _ _ _ _ _ _ _ _ _ => rfl, lf := rfl, lc := rfl, ls := rfl, nd := by decide, ns := by decide }, cls := ⟨nm_E9, q_E9, NN_E9, bs_E9, mroT cR, sn_E9, sub_E9, ab_E9, col_E9, dd_E9, m0_E9, m1_E9, m2_E9, m3_E9, m5_E9, xI_E9, refs_mroT⟩,
      sa := sa_E9, ga := ga_E9, gg := gg_E9, noF := nF_E9, exC := by rw [M_E9.sub, con_ty (by simp)], tyC := yE9, hdC := hE9, iC := iX_E9, tF := tF_E9, kC := kI_E9, veC := by rw [M_E9.sub, con_ty (by simp)], mC := by rw [M_E9.mro, con_me], opq := oq, sup := su_E9, htop := hTop, mgS := n_super,
      fn := ⟨oc0E9, od0E9, _, dc0E9, pm0E9, an0E9, cda_E9, cc_E9, ct0E9, sl0E9, _, _, _, _, _, _, _, _, _, _, _, _, lX_E9, fun _ _ => ⟨_, rfl⟩, cX_E9, ⟨cl0_E9, cld_E9, csl_E9, lC_E9⟩, ⟨ccl_E9, cdd_E9, rvs_E9, ccs_E9, file_E9, tf_E9, lD_E9, rf_E9, fi_E9⟩⟩ }
  subst rv_E10
  have M_E10 : MR K cR cE10 := ⟨⟨nm_E10, q_E10, NN_E10, bs_E10, sn_E10, sub_E10, ab_E10, col_E10, dd_E10, m0_E10, m1_E10, m2_E10, m3_E10, m5_E10, xI_E10⟩, hE10, yE10, ga_E10, gg_E10, ka_E10⟩
  have sup_E10 : PySem.Sup.SupTxt K mg l.prog "UnknownNumber" "number" "not the number of a clause" cE10 fXE10 :=
    { gC := PySem.W.mg_of X G aE10, ok := { bd := fun _ _ _ _ _ _ _ _ _ _ _ _ _ _ _ _ _ _ _ _ _ _ => rfl, lf := rfl, lc := rfl, ls := rfl, nd := by decide, ns := by decide }, cls := ⟨nm_E10, q_E10, NN_E10, bs_E10, mroT cR, sn_E10, sub_E10, ab_E10, col_E10, dd_E10, m0_E10, m1_E10, m2_E10, m3_E10, m5_E10, xI_E10, refs_mroT⟩,
      sa := sa_E10, ga := ga_E10, gg := gg_E10, noF := nF_E10, exC := by rw [M_E10.sub, con_ty (by simp)], tyC := yE10, hdC := hE10, iC := iX_E10, tF := tF_E10, kC := kI_E10, veC := by rw [M_E10.sub, con_ty (by simp)], mC := by rw [M_E10.mro, con_me], opq := oq, sup := su_E10, htop := hTop, mgS := n_super,
      fn := ⟨oc0E10, od0E10, _, dc0E10, pm0E10, an0E10, cda_E10, cc_E10, ct0E10, sl0E10, _, _, _, _, _, _, _, _, _, _, _, _, lX_E10, fun _ _ => ⟨_, rfl⟩, cX_E10, ⟨cl0_E10, cld_E10, csl_E10, lC_E10⟩, ⟨ccl_E10, cdd_E10, rvs_E10, ccs_E10, file_E10, tf_E10, lD_E10, rf_E10, fi_E10⟩⟩ }
  subst rv_E11
  have M_E11 : MR K cR cE11 := ⟨⟨nm_E11, q_E11, NN_E11, bs_E11, sn_E11, sub_E11, ab_E11, col_E11, dd_E11, m0_E11, m1_E11, m2_E11, m3_E11, m5_E11, xI_E11⟩, hE11, yE11, ga_E11, gg_E11, ka_E11⟩
  have sup_E11 : PySem.Sup.SupTxt K mg l.prog "NotAllowed" "deed" "the deed is not allowed" cE11 fXE11 :=
    { gC := PySem.W.mg_of X G aE11, ok := { bd := fun _ _ _ _ _ _ _ _ _ _ _ _ _ _ _ _ _ _ _ _ _ _ => rfl, lf := rfl, lc := rfl, ls := rfl, nd := by decide, ns := by decide }, cls := ⟨nm_E11, q_E11, NN_E11, bs_E11, mroT cR, sn_E11, sub_E11, ab_E11, col_E11, dd_E11, m0_E11, m1_E11, m2_E11, m3_E11, m5_E11, xI_E11, refs_mroT⟩,
      sa := sa_E11, ga := ga_E11, gg := gg_E11, noF := nF_E11, exC := by rw [M_E11.sub, con_ty (by simp)], tyC := yE11, hdC := hE11, iC := iX_E11, tF := tF_E11, kC := kI_E11, veC := by rw [M_E11.sub, con_ty (by simp)], mC := by rw [M_E11.mro, con_me], opq := oq, sup := su_E11, htop := hTop, mgS := n_super,
      fn := ⟨oc0E11, od0E11, _, dc0E11, pm0E11, an0E11, cda_E11, cc_E11, ct0E11, sl0E11, _, _, _, _, _, _, _, _, _, _, _, _, lX_E11, fun _ _ => ⟨_, rfl⟩, cX_E11, ⟨cl0_E11, cld_E11, csl_E11, lC_E11⟩, ⟨ccl_E11, cdd_E11, rvs_E11, ccs_E11, file_E11, tf_E11, lD_E11, rf_E11, fi_E11⟩⟩ }
  subst rv_E12
  have M_E12 : MR K cR cE12 := ⟨⟨nm_E12, q_E12, NN_E12, bs_E12, sn_E12, sub_E12, ab_E12, col_E12, dd_E12, m0_E12, m1_E12, m2_E12, m3_E12, m5_E12, xI_E12⟩, hE12, yE12, ga_E12, gg_E12, ka_E12⟩
  have sup_E12 : PySem.Sup.SupZ K mg l.prog "NoPaper" "there is no paper" cE12 fXE12 :=
    { gC := PySem.W.mg_of X G aE12, cls := ⟨nm_E12, q_E12, NN_E12, bs_E12, mroT cR, sn_E12, sub_E12, ab_E12, col_E12, dd_E12, m0_E12, m1_E12, m2_E12, m3_E12, m5_E12, xI_E12, refs_mroT⟩,
      iC := iX_E12, tF := tF_E12, kC := kI_E12, veC := by rw [M_E12.sub, con_ty (by simp)], mC := by rw [M_E12.mro, con_me], opq := oq, sup := su_E12, htop := hTop, mgS := n_super,
      fn := ⟨oc0E12, od0E12, _, dc0E12, pm0E12, an0E12, cda_E12, cc_E12, ct0E12, sl0E12, _, _, _, _, _, _, _, lX_E12, fun _ _ => ⟨_, rfl⟩, cX_E12, ⟨cl0_E12, cld_E12, csl_E12, lC_E12⟩, ⟨ccl_E12, cdd_E12, rvs_E12, ccs_E12, file_E12, tf_E12, lD_E12, rf_E12, fi_E12⟩⟩ }
  subst rv_E13
  have M_E13 : MR K cR cE13 := ⟨⟨nm_E13, q_E13, NN_E13, bs_E13, sn_E13, sub_E13, ab_E13, col_E13, dd_E13, m0_E13, m1_E13, m2_E13, m3_E13, m5_E13, xI_E13⟩, hE13, yE13, ga_E13, gg_E13, ka_E13⟩
  have sup_E13 : PySem.Sup.SupTxt K mg l.prog "InvalidLimit" "value" "not a limit of this kind" cE13 fXE13 :=
    { gC := PySem.W.mg_of X G aE13, ok := { bd := fun _ _ _ _ _ _ _ _ _ _ _ _ _ _ _ _ _ _ _ _ _ _ => rfl, lf := rfl, lc := rfl, ls := rfl, nd := by decide, ns := by decide }, cls := ⟨nm_E13, q_E13, NN_E13, bs_E13, mroT cR, sn_E13, sub_E13, ab_E13, col_E13, dd_E13, m0_E13, m1_E13, m2_E13, m3_E13, m5_E13, xI_E13, refs_mroT⟩,
      sa := sa_E13, ga := ga_E13, gg := gg_E13, noF := nF_E13, exC := by rw [M_E13.sub, con_ty (by simp)], tyC := yE13, hdC := hE13, iC := iX_E13, tF := tF_E13, kC := kI_E13, veC := by rw [M_E13.sub, con_ty (by simp)], mC := by rw [M_E13.mro, con_me], opq := oq, sup := su_E13, htop := hTop, mgS := n_super,
      fn := ⟨oc0E13, od0E13, _, dc0E13, pm0E13, an0E13, cda_E13, cc_E13, ct0E13, sl0E13, _, _, _, _, _, _, _, _, _, _, _, _, lX_E13, fun _ _ => ⟨_, rfl⟩, cX_E13, ⟨cl0_E13, cld_E13, csl_E13, lC_E13⟩, ⟨ccl_E13, cdd_E13, rvs_E13, ccs_E13, file_E13, tf_E13, lD_E13, rf_E13, fi_E13⟩⟩ }
  subst rv_E14
  have M_E14 : MR K cR cE14 := ⟨⟨nm_E14, q_E14, NN_E14, bs_E14, sn_E14, sub_E14, ab_E14, col_E14, dd_E14, m0_E14, m1_E14, m2_E14, m3_E14, m5_E14, xI_E14⟩, hE14, yE14, ga_E14, gg_E14, ka_E14⟩
  have sup_E14 : PySem.Sup.SupZ K mg l.prog "InvalidWeights" "not such weights" cE14 fXE14 :=
    { gC := PySem.W.mg_of X G aE14, cls := ⟨nm_E14, q_E14, NN_E14, bs_E14, mroT cR, sn_E14, sub_E14, ab_E14, col_E14, dd_E14, m0_E14, m1_E14, m2_E14, m3_E14, m5_E14, xI_E14, refs_mroT⟩,
      iC := iX_E14, tF := tF_E14, kC := kI_E14, veC := by rw [M_E14.sub, con_ty (by simp)], mC := by rw [M_E14.mro, con_me], opq := oq, sup := su_E14, htop := hTop, mgS := n_super,
      fn := ⟨oc0E14, od0E14, _, dc0E14, pm0E14, an0E14, cda_E14, cc_E14, ct0E14, sl0E14, _, _, _, _, _, _, _, lX_E14, fun _ _ => ⟨_, rfl⟩, cX_E14, ⟨cl0_E14, cld_E14, csl_E14, lC_E14⟩, ⟨ccl_E14, cdd_E14, rvs_E14, ccs_E14, file_E14, tf_E14, lD_E14, rf_E14, fi_E14⟩⟩ }
  subst rv_E15
  have M_E15 : MR K cR cE15 := ⟨⟨nm_E15, q_E15, NN_E15, bs_E15, sn_E15, sub_E15, ab_E15, col_E15, dd_E15, m0_E15, m1_E15, m2_E15, m3_E15, m5_E15, xI_E15⟩, hE15, yE15, ga_E15, gg_E15, ka_E15⟩
  have sup_E15 : PySem.Sup.SupTxt K mg l.prog "HasAnswer" "answer" "the question has an answer" cE15 fXE15 :=
    { gC := PySem.W.mg_of X G aE15, ok := { bd := fun _ _ _ _ _ _ _ _ _ _ _ _ _ _ _ _ _ _ _ _ _ _ => rfl, lf := rfl, lc := rfl, ls := rfl, nd := by decide, ns := by decide }, cls := ⟨nm_E15, q_E15, NN_E15, bs_E15, mroT cR, sn_E15, sub_E15, ab_E15, col_E15, dd_E15, m0_E15, m1_E15, m2_E15, m3_E15, m5_E15, xI_E15, refs_mroT⟩,
      sa := sa_E15, ga := ga_E15, gg := gg_E15, noF := nF_E15, exC := by rw [M_E15.sub, con_ty (by simp)], tyC := yE15, hdC := hE15, iC := iX_E15, tF := tF_E15, kC := kI_E15, veC := by rw [M_E15.sub, con_ty (by simp)], mC := by rw [M_E15.mro, con_me], opq := oq, sup := su_E15, htop := hTop, mgS := n_super,
      fn := ⟨oc0E15, od0E15, _, dc0E15, pm0E15, an0E15, cda_E15, cc_E15, ct0E15, sl0E15, _, _, _, _, _, _, _, _, _, _, _, _, lX_E15, fun _ _ => ⟨_, rfl⟩, cX_E15, ⟨cl0_E15, cld_E15, csl_E15, lC_E15⟩, ⟨ccl_E15, cdd_E15, rvs_E15, ccs_E15, file_E15, tf_E15, lD_E15, rf_E15, fi_E15⟩⟩ }
  subst rv_E16
  have M_E16 : MR K cR cE16 := ⟨⟨nm_E16, q_E16, NN_E16, bs_E16, sn_E16, sub_E16, ab_E16, col_E16, dd_E16, m0_E16, m1_E16, m2_E16, m3_E16, m5_E16, xI_E16⟩, hE16, yE16, ga_E16, gg_E16, ka_E16⟩
  have sup_E16 : PySem.Sup.SupTxt K mg l.prog "NoAnswer" "paper" "the question has no answer" cE16 fXE16 :=
    { gC := PySem.W.mg_of X G aE16, ok := { bd := fun _ _ _ _ _ _ _ _ _ _ _ _ _ _ _ _ _ _ _ _ _ _ => rfl, lf := rfl, lc := rfl, ls := rfl, nd := by decide, ns := by decide }, cls := ⟨nm_E16, q_E16, NN_E16, bs_E16, mroT cR, sn_E16, sub_E16, ab_E16, col_E16, dd_E16, m0_E16, m1_E16, m2_E16, m3_E16, m5_E16, xI_E16, refs_mroT⟩,
      sa := sa_E16, ga := ga_E16, gg := gg_E16, noF := nF_E16, exC := by rw [M_E16.sub, con_ty (by simp)], tyC := yE16, hdC := hE16, iC := iX_E16, tF := tF_E16, kC := kI_E16, veC := by rw [M_E16.sub, con_ty (by simp)], mC := by rw [M_E16.mro, con_me], opq := oq, sup := su_E16, htop := hTop, mgS := n_super,
      fn := ⟨oc0E16, od0E16, _, dc0E16, pm0E16, an0E16, cda_E16, cc_E16, ct0E16, sl0E16, _, _, _, _, _, _, _, _, _, _, _, _, lX_E16, fun _ _ => ⟨_, rfl⟩, cX_E16, ⟨cl0_E16, cld_E16, csl_E16, lC_E16⟩, ⟨ccl_E16, cdd_E16, rvs_E16, ccs_E16, file_E16, tf_E16, lD_E16, rf_E16, fi_E16⟩⟩ }
  subst rv_E17
  have M_E17 : MR K cR cE17 := ⟨⟨nm_E17, q_E17, NN_E17, bs_E17, sn_E17, sub_E17, ab_E17, col_E17, dd_E17, m0_E17, m1_E17, m2_E17, m3_E17, m5_E17, xI_E17⟩, hE17, yE17, ga_E17, gg_E17, ka_E17⟩
  have sup_E17 : PySem.Sup.SupZ K mg l.prog "NothingPushed" "no frame is open" cE17 fXE17 :=
    { gC := PySem.W.mg_of X G aE17, cls := ⟨nm_E17, q_E17, NN_E17, bs_E17, mroT cR, sn_E17, sub_E17, ab_E17, col_E17, dd_E17, m0_E17, m1_E17, m2_E17, m3_E17, m5_E17, xI_E17, refs_mroT⟩,
      iC := iX_E17, tF := tF_E17, kC := kI_E17, veC := by rw [M_E17.sub, con_ty (by simp)], mC := by rw [M_E17.mro, con_me], opq := oq, sup := su_E17, htop := hTop, mgS := n_super,
      fn := ⟨oc0E17, od0E17, _, dc0E17, pm0E17, an0E17, cda_E17, cc_E17, ct0E17, sl0E17, _, _, _, _, _, _, _, lX_E17, fun _ _ => ⟨_, rfl⟩, cX_E17, ⟨cl0_E17, cld_E17, csl_E17, lC_E17⟩, ⟨ccl_E17, cdd_E17, rvs_E17, ccs_E17, file_E17, tf_E17, lD_E17, rf_E17, fi_E17⟩⟩ }
  subst rv_E18
  have M_E18 : MR K cR cE18 := ⟨⟨nm_E18, q_E18, NN_E18, bs_E18, sn_E18, sub_E18, ab_E18, col_E18, dd_E18, m0_E18, m1_E18, m2_E18, m3_E18, m5_E18, xI_E18⟩, hE18, yE18, ga_E18, gg_E18, ka_E18⟩
  have sup_E18 : PySem.Sup.SupZ K mg l.prog "NothingToUndo" "nothing to undo" cE18 fXE18 :=
    { gC := PySem.W.mg_of X G aE18, cls := ⟨nm_E18, q_E18, NN_E18, bs_E18, mroT cR, sn_E18, sub_E18, ab_E18, col_E18, dd_E18, m0_E18, m1_E18, m2_E18, m3_E18, m5_E18, xI_E18, refs_mroT⟩,
      iC := iX_E18, tF := tF_E18, kC := kI_E18, veC := by rw [M_E18.sub, con_ty (by simp)], mC := by rw [M_E18.mro, con_me], opq := oq, sup := su_E18, htop := hTop, mgS := n_super,
      fn := ⟨oc0E18, od0E18, _, dc0E18, pm0E18, an0E18, cda_E18, cc_E18, ct0E18, sl0E18, _, _, _, _, _, _, _, lX_E18, fun _ _ => ⟨_, rfl⟩, cX_E18, ⟨cl0_E18, cld_E18, csl_E18, lC_E18⟩, ⟨ccl_E18, cdd_E18, rvs_E18, ccs_E18, file_E18, tf_E18, lD_E18, rf_E18, fi_E18⟩⟩ }
  subst rv_E19
  have M_E19 : MR K cR cE19 := ⟨⟨nm_E19, q_E19, NN_E19, bs_E19, sn_E19, sub_E19, ab_E19, col_E19, dd_E19, m0_E19, m1_E19, m2_E19, m3_E19, m5_E19, xI_E19⟩, hE19, yE19, ga_E19, gg_E19, ka_E19⟩
  have sup_E19 : PySem.Sup.SupZ K mg l.prog "NothingToRedo" "nothing to redo" cE19 fXE19 :=
    { gC := PySem.W.mg_of X G aE19, cls := ⟨nm_E19, q_E19, NN_E19, bs_E19, mroT cR, sn_E19, sub_E19, ab_E19, col_E19, dd_E19, m0_E19, m1_E19, m2_E19, m3_E19, m5_E19, xI_E19, refs_mroT⟩,
      iC := iX_E19, tF := tF_E19, kC := kI_E19, veC := by rw [M_E19.sub, con_ty (by simp)], mC := by rw [M_E19.mro, con_me], opq := oq, sup := su_E19, htop := hTop, mgS := n_super,
      fn := ⟨oc0E19, od0E19, _, dc0E19, pm0E19, an0E19, cda_E19, cc_E19, ct0E19, sl0E19, _, _, _, _, _, _, _, lX_E19, fun _ _ => ⟨_, rfl⟩, cX_E19, ⟨cl0_E19, cld_E19, csl_E19, lC_E19⟩, ⟨ccl_E19, cdd_E19, rvs_E19, ccs_E19, file_E19, tf_E19, lD_E19, rf_E19, fi_E19⟩⟩ }
  subst rv_E20
  have M_E20 : MR K cR cE20 := ⟨⟨nm_E20, q_E20, NN_E20, bs_E20, sn_E20, sub_E20, ab_E20, col_E20, dd_E20, m0_E20, m1_E20, m2_E20, m3_E20, m5_E20, xI_E20⟩, hE20, yE20, ga_E20, gg_E20, ka_E20⟩
  have sup_E20 : PySem.Sup.SupTxt K mg l.prog "NotKept" "clause" "not a kept clause" cE20 fXE20 :=
    { gC := PySem.W.mg_of X G aE20, ok := { bd := fun _ _ _ _ _ _ _ _ _ _ _ _ _ _ _ _ _ _ _ _ _ _ => rfl, lf := rfl, lc := rfl, ls := rfl, nd := by decide, ns := by decide }, cls := ⟨nm_E20, q_E20, NN_E20, bs_E20, mroT cR, sn_E20, sub_E20, ab_E20, col_E20, dd_E20, m0_E20, m1_E20, m2_E20, m3_E20, m5_E20, xI_E20, refs_mroT⟩,
      sa := sa_E20, ga := ga_E20, gg := gg_E20, noF := nF_E20, exC := by rw [M_E20.sub, con_ty (by simp)], tyC := yE20, hdC := hE20, iC := iX_E20, tF := tF_E20, kC := kI_E20, veC := by rw [M_E20.sub, con_ty (by simp)], mC := by rw [M_E20.mro, con_me], opq := oq, sup := su_E20, htop := hTop, mgS := n_super,
      fn := ⟨oc0E20, od0E20, _, dc0E20, pm0E20, an0E20, cda_E20, cc_E20, ct0E20, sl0E20, _, _, _, _, _, _, _, _, _, _, _, _, lX_E20, fun _ _ => ⟨_, rfl⟩, cX_E20, ⟨cl0_E20, cld_E20, csl_E20, lC_E20⟩, ⟨ccl_E20, cdd_E20, rvs_E20, ccs_E20, file_E20, tf_E20, lD_E20, rf_E20, fi_E20⟩⟩ }
  subst rv_E21
  have M_E21 : MR K cR cE21 := ⟨⟨nm_E21, q_E21, NN_E21, bs_E21, sn_E21, sub_E21, ab_E21, col_E21, dd_E21, m0_E21, m1_E21, m2_E21, m3_E21, m5_E21, xI_E21⟩, hE21, yE21, ga_E21, gg_E21, ka_E21⟩
  have sup_E21 : PySem.Sup.SupTxt K mg l.prog "InvalidRow" "index" "not a row of a run" cE21 fXE21 :=
    { gC := PySem.W.mg_of X G aE21, ok := { bd := fun _ _ _ _ _ _ _ _ _ _ _ _ _ _ _ _ _ _ _ _ _ _ => rfl, lf := rfl, lc := rfl, ls := rfl, nd := by decide, ns := by decide }, cls := ⟨nm_E21, q_E21, NN_E21, bs_E21, mroT cR, sn_E21, sub_E21, ab_E21, col_E21, dd_E21, m0_E21, m1_E21, m2_E21, m3_E21, m5_E21, xI_E21, refs_mroT⟩,
      sa := sa_E21, ga := ga_E21, gg := gg_E21, noF := nF_E21, exC := by rw [M_E21.sub, con_ty (by simp)], tyC := yE21, hdC := hE21, iC := iX_E21, tF := tF_E21, kC := kI_E21, veC := by rw [M_E21.sub, con_ty (by simp)], mC := by rw [M_E21.mro, con_me], opq := oq, sup := su_E21, htop := hTop, mgS := n_super,
      fn := ⟨oc0E21, od0E21, _, dc0E21, pm0E21, an0E21, cda_E21, cc_E21, ct0E21, sl0E21, _, _, _, _, _, _, _, _, _, _, _, _, lX_E21, fun _ _ => ⟨_, rfl⟩, cX_E21, ⟨cl0_E21, cld_E21, csl_E21, lC_E21⟩, ⟨ccl_E21, cdd_E21, rvs_E21, ccs_E21, file_E21, tf_E21, lD_E21, rf_E21, fi_E21⟩⟩ }
  let a : Ad := { a_is_name := f1, a_is_integer := f2, a_is_bound := f3, a_is_literal := f4, a_check_literal := f5, a_clause_of := f6, a_normal_form := f7, a_law_bag := f8, a_law_take := f9, a_law_names := f10, a_law_integer := f11, a_law_literal := f12, a_law_opposite := f13, a_law_rows := f14, a_law_same := f15, a_law_once := f16, a_law_bad_name := f17, a_law_bad := f18, a_law_classes := f19, a_law_alike := f20, a_law_family_a := f21, a_law_family_b := f22, a_law_family_c := f23, a_law_refused := f24, a_law_normal := f25, a_law_bad_items := f26, a_law_bad_lists := f27, a_law_far_numbers := f28, a_law := fa, tL := tk0, tS := tk1, tN := tk2, cR := cR, e0 := cE0, e1 := cE1, e2 := cE2, e3 := cE3, e4 := cE4, e5 := cE5, e6 := cE6, e7 := cE7, e8 := cE8, e9 := cE9, e10 := cE10, e11 := cE11, e12 := cE12, e13 := cE13, e14 := cE14, e15 := cE15, e16 := cE16, e17 := cE17, e18 := cE18, e19 := cE19, e20 := cE20, e21 := cE21 }
  let d : Fd := { a_is_name := PySem.W.fnOf "is_name" "is_name" (defArgs s_is_name) (defBody s_is_name) (defScope s_is_name) .none kV1 dc1 pm1 an1 cd1 ct1, a_is_integer := PySem.W.fnOf "is_integer" "is_integer" (defArgs s_is_integer) (defBody s_is_integer) (defScope s_is_integer) .none kV2 dc2 pm2 an2 cd2 ct2, a_is_bound := PySem.W.fnOf "is_bound" "is_bound" (defArgs s_is_bound) (defBody s_is_bound) (defScope s_is_bound) .none kV3 dc3 pm3 an3 cd3 ct3, a_is_literal := PySem.W.fnOf "is_literal" "is_literal" (defArgs s_is_literal) (defBody s_is_literal) (defScope s_is_literal) .none kV4 dc4 pm4 an4 cd4 ct4, a_check_literal := PySem.W.fnOf "check_literal" "check_literal" (defArgs s_check_literal) (defBody s_check_literal) (defScope s_check_literal) .none kV5 dc5 pm5 an5 cd5 ct5, a_clause_of := PySem.W.fnOf "clause_of" "clause_of" (defArgs s_clause_of) (defBody s_clause_of) (defScope s_clause_of) .none kV6 dc6 pm6 an6 cd6 ct6, a_normal_form := PySem.W.fnOf "normal_form" "normal_form" (defArgs s_normal_form) (defBody s_normal_form) (defScope s_normal_form) .none kV7 dc7 pm7 an7 cd7 ct7, a_law_bag := PySem.W.fnOf "_law_bag" "_law_bag" (defArgs s_law_bag) (defBody s_law_bag) (defScope s_law_bag) .none kV8 dc8 pm8 an8 cd8 ct8, a_law_take := PySem.W.fnOf "_law_take" "_law_take" (defArgs s_law_take) (defBody s_law_take) (defScope s_law_take) .none kV9 dc9 pm9 an9 cd9 ct9, a_law_names := PySem.W.fnOf "_law_names" "_law_names" (defArgs s_law_names) (defBody s_law_names) (defScope s_law_names) .none kV10 dc10 pm10 an10 cd10 ct10, a_law_integer := PySem.W.fnOf "_law_integer" "_law_integer" (defArgs s_law_integer) (defBody s_law_integer) (defScope s_law_integer) .none kV11 dc11 pm11 an11 cd11 ct11, a_law_literal := PySem.W.fnOf "_law_literal" "_law_literal" (defArgs s_law_literal) (defBody s_law_literal) (defScope s_law_literal) .none kV12 dc12 pm12 an12 cd12 ct12, a_law_opposite := PySem.W.fnOf "_law_opposite" "_law_opposite" (defArgs s_law_opposite) (defBody s_law_opposite) (defScope s_law_opposite) .none kV13 dc13 pm13 an13 cd13 ct13, a_law_rows := PySem.W.fnOf "_law_rows" "_law_rows" (defArgs s_law_rows) (defBody s_law_rows) (defScope s_law_rows) .none kV14 dc14 pm14 an14 cd14 ct14, a_law_same := PySem.W.fnOf "_law_same" "_law_same" (defArgs s_law_same) (defBody s_law_same) (defScope s_law_same) .none kV15 dc15 pm15 an15 cd15 ct15, a_law_once := PySem.W.fnOf "_law_once" "_law_once" (defArgs s_law_once) (defBody s_law_once) (defScope s_law_once) .none kV16 dc16 pm16 an16 cd16 ct16, a_law_bad_name := PySem.W.fnOf "_law_bad_name" "_law_bad_name" (defArgs s_law_bad_name) (defBody s_law_bad_name) (defScope s_law_bad_name) .none kV17 dc17 pm17 an17 cd17 ct17, a_law_bad := PySem.W.fnOf "_law_bad" "_law_bad" (defArgs s_law_bad) (defBody s_law_bad) (defScope s_law_bad) .none kV18 dc18 pm18 an18 cd18 ct18, a_law_classes := PySem.W.fnOf "_law_classes" "_law_classes" (defArgs s_law_classes) (defBody s_law_classes) (defScope s_law_classes) .none kV19 dc19 pm19 an19 cd19 ct19, a_law_alike := PySem.W.fnOf "_law_alike" "_law_alike" (defArgs s_law_alike) (defBody s_law_alike) (defScope s_law_alike) .none kV20 dc20 pm20 an20 cd20 ct20, a_law_family_a := PySem.W.fnOf "_law_family_a" "_law_family_a" (defArgs s_law_family_a) (defBody s_law_family_a) (defScope s_law_family_a) .none kV21 dc21 pm21 an21 cd21 ct21, a_law_family_b := PySem.W.fnOf "_law_family_b" "_law_family_b" (defArgs s_law_family_b) (defBody s_law_family_b) (defScope s_law_family_b) .none kV22 dc22 pm22 an22 cd22 ct22, a_law_family_c := PySem.W.fnOf "_law_family_c" "_law_family_c" (defArgs s_law_family_c) (defBody s_law_family_c) (defScope s_law_family_c) .none kV23 dc23 pm23 an23 cd23 ct23, a_law_refused := PySem.W.fnOf "_law_refused" "_law_refused" (defArgs s_law_refused) (defBody s_law_refused) (defScope s_law_refused) .none kV24 dc24 pm24 an24 cd24 ct24, a_law_normal := PySem.W.fnOf "_law_normal" "_law_normal" (defArgs s_law_normal) (defBody s_law_normal) (defScope s_law_normal) .none kV25 dc25 pm25 an25 cd25 ct25, a_law_bad_items := PySem.W.fnOf "_law_bad_items" "_law_bad_items" (defArgs s_law_bad_items) (defBody s_law_bad_items) (defScope s_law_bad_items) .none kV26 dc26 pm26 an26 cd26 ct26, a_law_bad_lists := PySem.W.fnOf "_law_bad_lists" "_law_bad_lists" (defArgs s_law_bad_lists) (defBody s_law_bad_lists) (defScope s_law_bad_lists) .none kV27 dc27 pm27 an27 cd27 ct27, a_law_far_numbers := PySem.W.fnOf "_law_far_numbers" "_law_far_numbers" (defArgs s_law_far_numbers) (defBody s_law_far_numbers) (defScope s_law_far_numbers) .none kV28 dc28 pm28 an28 cd28 ct28, a_law := PySem.W.fnOf "law" "law" (defArgs s_law) (defBody s_law) (defScope s_law) .none kV29 dc29 pm29 an29 cd29 ct29 }
  have T : TX K mg a := { b_isinstance := n_isinstance, b_str := n_str, b_int := n_int, b_bool := n_bool, b_tuple := n_tuple, b_list := n_list, b_len := n_len, b_range := n_range, b_sorted := n_sorted, b_abs := n_abs, b_set := n_set, b_repr := n_repr, b_ValueError := n_ValueError, g_LETTERS := PySem.W.mg_of X G aK0, g_SIGNS := PySem.W.mg_of X G aK1, g_LONGEST_NAME := PySem.W.mg_of X G aK2, f_is_name := g1, k_is_name := k1, f_is_integer := g2, k_is_integer := k2, f_is_bound := g3, k_is_bound := k3, f_is_literal := g4, k_is_literal := k4, f_check_literal := g5, k_check_literal := k5, f_clause_of := g6, k_clause_of := k6, f_normal_form := g7, k_normal_form := k7, f__law_bag := g8, k__law_bag := k8, f__law_take := g9, k__law_take := k9, f__law_names := g10, k__law_names := k10, f__law_integer := g11, k__law_integer := k11, f__law_literal := g12, k__law_literal := k12, f__law_opposite := g13, k__law_opposite := k13, f__law_rows := g14, k__law_rows := k14, f__law_same := g15, k__law_same := k15, f__law_once := g16, k__law_once := k16, f__law_bad_name := g17, k__law_bad_name := k17, f__law_bad := g18, k__law_bad := k18, f__law_classes := g19, k__law_classes := k19, f__law_alike := g20, k__law_alike := k20, f__law_family_a := g21, k__law_family_a := k21, f__law_family_b := g22, k__law_family_b := k22, f__law_family_c := g23, k__law_family_c := k23, f__law_refused := g24, k__law_refused := k24, f__law_normal := g25, k__law_normal := k25, f__law_bad_items := g26, k__law_bad_items := k26, f__law_bad_lists := g27, k__law_bad_lists := k27, f__law_far_numbers := g28, k__law_far_numbers := k28, f_law := g29, k_law := k29, c_RingclauseError := PySem.W.mg_of X G aR, c_InvalidName := PySem.W.mg_of X G aE0, c_InvalidLiteral := PySem.W.mg_of X G aE1, c_InvalidClause := PySem.W.mg_of X G aE2, c_InvalidText := PySem.W.mg_of X G aE3, c_UnknownMoment := PySem.W.mg_of X G aE4, c_InvalidChain := PySem.W.mg_of X G aE5, c_Inconsistent := PySem.W.mg_of X G aE6, c_InvalidPivot := PySem.W.mg_of X G aE7, c_WrongStep := PySem.W.mg_of X G aE8, c_UnknownLiteral := PySem.W.mg_of X G aE9, c_UnknownNumber := PySem.W.mg_of X G aE10, c_NotAllowed := PySem.W.mg_of X G aE11, c_NoPaper := PySem.W.mg_of X G aE12, c_InvalidLimit := PySem.W.mg_of X G aE13, c_InvalidWeights := PySem.W.mg_of X G aE14, c_HasAnswer := PySem.W.mg_of X G aE15, c_NoAnswer := PySem.W.mg_of X G aE16, c_NothingPushed := PySem.W.mg_of X G aE17, c_NothingToUndo := PySem.W.mg_of X G aE18, c_NothingToRedo := PySem.W.mg_of X G aE19, c_NotKept := PySem.W.mg_of X G aE20, c_InvalidRow := PySem.W.mg_of X G aE21 }
  have D : FDS K a d := { F_is_name := F1, B_is_name := b1, F_is_integer := F2, B_is_integer := b2, F_is_bound := F3, B_is_bound := b3, F_is_literal := F4, B_is_literal := b4, F_check_literal := F5, B_check_literal := b5, F_clause_of := F6, B_clause_of := b6, F_normal_form := F7, B_normal_form := b7, F__law_bag := F8, B__law_bag := b8, F__law_take := F9, B__law_take := b9, F__law_names := F10, B__law_names := b10, F__law_integer := F11, B__law_integer := b11, F__law_literal := F12, B__law_literal := b12, F__law_opposite := F13, B__law_opposite := b13, F__law_rows := F14, B__law_rows := b14, F__law_same := F15, B__law_same := b15, F__law_once := F16, B__law_once := b16, F__law_bad_name := F17, B__law_bad_name := b17, F__law_bad := F18, B__law_bad := b18, F__law_classes := F19, B__law_classes := b19, F__law_alike := F20, B__law_alike := b20, F__law_family_a := F21, B__law_family_a := b21, F__law_family_b := F22, B__law_family_b := b22, F__law_family_c := F23, B__law_family_c := b23, F__law_refused := F24, B__law_refused := b24, F__law_normal := F25, B__law_normal := b25, F__law_bad_items := F26, B__law_bad_items := b26, F__law_bad_lists := F27, B__law_bad_lists := b27, F__law_far_numbers := F28, B__law_far_numbers := b28, F_law := F29, B_law := b29 }
  have R : ER K mg l.prog a fXE1 fXE2 := { eL := sup_E1, eC := sup_E2 }
  have MM : ∀ k < 22, MR K a.cR (a.eA k) := fun k hk => match k, hk with | 0, _ => M_E0 | 1, _ => M_E1 | 2, _ => M_E2 | 3, _ => M_E3 | 4, _ => M_E4 | 5, _ => M_E5 | 6, _ => M_E6 | 7, _ => M_E7 | 8, _ => M_E8 | 9, _ => M_E9 | 10, _ => M_E10 | 11, _ => M_E11 | 12, _ => M_E12 | 13, _ => M_E13 | 14, _ => M_E14 | 15, _ => M_E15 | 16, _ => M_E16 | 17, _ => M_E17 | 18, _ => M_E18 | 19, _ => M_E19 | 20, _ => M_E20 | 21, _ => M_E21 | n + 22, h => absurd h (by omega)
  have C : EN K a := en_of MM nd kn kt hR yR
  have X2 : EX2 K a := ex2_of M_E1 M_E2 (fun e => by
    have e : cE1 = cE2 := e
    rw [e] at nd
    simp at nd) (fun e => by
    have e : cE2 = cR := e
    rw [e] at nd
    simp at nd) nF_E1 nF_E2
  let f : Ed := { f0 := fXE0, f1 := fXE1, f2 := fXE2, f3 := fXE3, f4 := fXE4, f5 := fXE5, f6 := fXE6, f7 := fXE7, f8 := fXE8, f9 := fXE9, f10 := fXE10, f11 := fXE11, f12 := fXE12, f13 := fXE13, f14 := fXE14, f15 := fXE15, f16 := fXE16, f17 := fXE17, f18 := fXE18, f19 := fXE19, f20 := fXE20, f21 := fXE21 }
  have E : EA K mg l.prog a f := { s0 := sup_E0, n0 := nF_E0, x0 := M_E0.xf, s1 := sup_E1, n1 := nF_E1, x1 := M_E1.xf, s2 := sup_E2, n2 := nF_E2, x2 := M_E2.xf, s3 := sup_E3, n3 := nF_E3, x3 := M_E3.xf, s4 := sup_E4, n4 := nF_E4, x4 := M_E4.xf, s5 := sup_E5, n5 := nF_E5, x5 := M_E5.xf, s6 := sup_E6, n6 := nF_E6, x6 := M_E6.xf, s7 := sup_E7, n7 := nF_E7, x7 := M_E7.xf, s8 := sup_E8, n8 := nF_E8, x8 := M_E8.xf, s9 := sup_E9, n9 := nF_E9, x9 := M_E9.xf, s10 := sup_E10, n10 := nF_E10, x10 := M_E10.xf, s11 := sup_E11, n11 := nF_E11, x11 := M_E11.xf, s12 := sup_E12, s13 := sup_E13, n13 := nF_E13, x13 := M_E13.xf, s14 := sup_E14, s15 := sup_E15, n15 := nF_E15, x15 := M_E15.xf, s16 := sup_E16, n16 := nF_E16, x16 := M_E16.xf, s17 := sup_E17, s18 := sup_E18, s19 := sup_E19, s20 := sup_E20, n20 := nF_E20, x20 := M_E20.xf, s21 := sup_E21, n21 := nF_E21, x21 := M_E21.xf }
  exact ⟨d.a_law, fun s v => .of_eq rfl, fun base _ _ => ok_law (P := l.prog) (w := w) (base := base) T D R C X2 E⟩
theorem walk {l : PySem.W.OpenLaw} {q : Program} {loose : List Str} {XP : (Str → Option Value) → Heap → Prop} {YP : World → Heap → Prop} {d : DefRec} {K : Params → PySem.W.Frag} (hn : l.most = some 63) (hdf : d.params.defaults = [])
    (hY : ∀ (w : World) (h : Heap), YP w h → (K w.params).In h)
    (H : ∀ (w : World) (mg : Str → Option Value) (fa : Addr) (h : Heap), (K w.params).In h → h.Ns mainGlobals mg → mg d.name = some (.ref fa) →
      ∃ fd : FuncData, (∀ (s : Shared) (u : Value), BindsTo s fd ⟨[u], []⟩ [("script", u)]) ∧ ∀ base : Heap, (K w.params).In base → base.Ns mainGlobals mg → FnG l.prog w (K w.params) mg base 9 fa fd ["script"] (spLaw (K w.params))) :
    PySem.W.WalkO q loose XP YP l.row.toRowW d [] (fun f vs => PySem.call f vs) :=
  walk_ofG (n := 63) (k := 9) (x := "script") (sp := fun w => spLaw (K w.params)) hn (by decide) hdf ⟨rfl, by decide, by decide⟩ hY H (fun _ _ a ns hl _ hS => ⟨a, ns, rfl, hS, fun _ => rfl⟩)
end V1
set_option maxRecDepth 100000
open PySem PySem.W PyProof.Rows in
set_option maxRecDepth 100000 in
set_option maxHeartbeats 0 in
theorem PySem.Challenge.cw_ringclause_k01_normal_forms_and_errors_holds : PySem.Challenge.rw_ringclause_k01_normal_forms_and_errors.Holds := by
  w_on; o_law; k_head; (case hw => w_witness2)
  k_fill
  refine V1.walk (l := PySem.Challenge.rw_ringclause_k01_normal_forms_and_errors) rfl rfl (fun w h Y => PySem.W.kIn_of Y) ?F
  case F =>
    intro w mg fa h KX G hmg
    refine' V1.all_mk KX G hmg ?a1 ?l1 ?c1 ?k1 ?a2 ?l2 ?c2 ?k2 ?a3 ?l3 ?c3 ?k3 ?a4 ?l4 ?c4 ?k4 ?a5 ?l5 ?c5 ?k5 ?a6 ?l6 ?c6 ?k6 ?a7 ?l7 ?c7 ?k7 ?a8 ?l8 ?c8 ?k8 ?a9 ?l9 ?c9 ?k9 ?a10 ?l10 ?c10 ?k10 ?a11 ?l11 ?c11 ?k11 ?a12 ?l12 ?c12 ?k12 ?a13 ?l13 ?c13 ?k13 ?a14 ?l14 ?c14 ?k14 ?a15 ?l15 ?c15 ?k15 ?a16 ?l16 ?c16 ?k16 ?a17 ?l17 ?c17 ?k17 ?a18 ?l18 ?c18 ?k18 ?a19 ?l19 ?c19 ?k19 ?a20 ?l20 ?c20 ?k20 ?a21 ?l21 ?c21 ?k21 ?a22 ?l22 ?c22 ?k22 ?a23 ?l23 ?c23 ?k23 ?a24 ?l24 ?c24 ?k24 ?a25 ?l25 ?c25 ?k25 ?a26 ?l26 ?c26 ?k26 ?a27 ?l27 ?c27 ?k27 ?a28 ?l28 ?c28 ?k28 ?a29 ?l29 ?c29 ?k29 ?z_isinstance ?z_str ?z_int ?z_bool ?z_tuple ?z_list ?z_len ?z_range ?z_sorted ?z_abs ?z_set ?z_repr ?z_ValueError ?z_super ?aK0 ?aK1 ?aK2 ?aR ?hR ?yR ?aE0 ?hE0 ?yE0 ?aE1 ?hE1 ?yE1 ?aE2 ?hE2 ?yE2 ?aE3 ?hE3 ?yE3 ?aE4 ?hE4 ?yE4 ?aE5 ?hE5 ?yE5 ?aE6 ?hE6 ?yE6 ?aE7 ?hE7 ?yE7 ?aE8 ?hE8 ?yE8 ?aE9 ?hE9 ?yE9 ?aE10 ?hE10 ?yE10 ?aE11 ?hE11 ?yE11 ?aE12 ?hE12 ?yE12 ?aE13 ?hE13 ?yE13 ?aE14 ?hE14 ?yE14 ?aE15 ?hE15 ?yE15 ?aE16 ?hE16 ?yE16 ?aE17 ?hE17 ?yE17 ?aE18 ?hE18 ?yE18 ?aE19 ?hE19 ?yE19 ?aE20 ?hE20 ?yE20 ?aE21 ?hE21 ?yE21 ?oq ?hTop ?kn ?kt ?xI_E0 ?rv_E0 ?ga_E0 ?gg_E0 ?ka_E0 ?sa_E0 ?nF_E0 ?iX_E0 ?tF_E0 ?kI_E0 ?su_E0 ?lX_E0 ?cX_E0 ?lC_E0 ?lD_E0 ?rf_E0 ?fi_E0 ?xI_E1 ?rv_E1 ?ga_E1 ?gg_E1 ?ka_E1 ?sa_E1 ?nF_E1 ?iX_E1 ?tF_E1 ?kI_E1 ?su_E1 ?lX_E1 ?cX_E1 ?lC_E1 ?lD_E1 ?rf_E1 ?fi_E1 ?xI_E2 ?rv_E2 ?ga_E2 ?gg_E2 ?ka_E2 ?sa_E2 ?nF_E2 ?iX_E2 ?tF_E2 ?kI_E2 ?su_E2 ?lX_E2 ?cX_E2 ?lC_E2 ?lD_E2 ?rf_E2 ?fi_E2 ?xI_E3 ?rv_E3 ?ga_E3 ?gg_E3 ?ka_E3 ?sa_E3 ?nF_E3 ?iX_E3 ?tF_E3 ?kI_E3 ?su_E3 ?lX_E3 ?cX_E3 ?lC_E3 ?lD_E3 ?rf_E3 ?fi_E3 ?xI_E4 ?rv_E4 ?ga_E4 ?gg_E4 ?ka_E4 ?sa_E4 ?nF_E4 ?iX_E4 ?tF_E4 ?kI_E4 ?su_E4 ?lX_E4 ?cX_E4 ?lC_E4 ?lD_E4 ?rf_E4 ?fi_E4 ?xI_E5 ?rv_E5 ?ga_E5 ?gg_E5 ?ka_E5 ?sa_E5 ?nF_E5 ?iX_E5 ?tF_E5 ?kI_E5 ?su_E5 ?lX_E5 ?cX_E5 ?lC_E5 ?lD_E5 ?rf_E5 ?fi_E5 ?xI_E6 ?rv_E6 ?ga_E6 ?gg_E6 ?ka_E6 ?sa_E6 ?nF_E6 ?iX_E6 ?tF_E6 ?kI_E6 ?su_E6 ?lX_E6 ?cX_E6 ?lC_E6 ?lD_E6 ?rf_E6 ?fi_E6 ?xI_E7 ?rv_E7 ?ga_E7 ?gg_E7 ?ka_E7 ?sa_E7 ?nF_E7 ?iX_E7 ?tF_E7 ?kI_E7 ?su_E7 ?lX_E7 ?cX_E7 ?lC_E7 ?lD_E7 ?rf_E7 ?fi_E7 ?xI_E8 ?rv_E8 ?ga_E8 ?gg_E8 ?ka_E8 ?sa_E8 ?nF_E8 ?iX_E8 ?tF_E8 ?kI_E8 ?su_E8 ?lX_E8 ?cX_E8 ?lC_E8 ?lD_E8 ?rf_E8 ?fi_E8 ?xI_E9 ?rv_E9 ?ga_E9 ?gg_E9 ?ka_E9 ?sa_E9 ?nF_E9 ?iX_E9 ?tF_E9 ?kI_E9 ?su_E9 ?lX_E9 ?cX_E9 ?lC_E9 ?lD_E9 ?rf_E9 ?fi_E9 ?xI_E10 ?rv_E10 ?ga_E10 ?gg_E10 ?ka_E10 ?sa_E10 ?nF_E10 ?iX_E10 ?tF_E10 ?kI_E10 ?su_E10 ?lX_E10 ?cX_E10 ?lC_E10 ?lD_E10 ?rf_E10 ?fi_E10 ?xI_E11 ?rv_E11 ?ga_E11 ?gg_E11 ?ka_E11 ?sa_E11 ?nF_E11 ?iX_E11 ?tF_E11 ?kI_E11 ?su_E11 ?lX_E11 ?cX_E11 ?lC_E11 ?lD_E11 ?rf_E11 ?fi_E11 ?xI_E12 ?rv_E12 ?ga_E12 ?gg_E12 ?ka_E12 ?iX_E12 ?tF_E12 ?kI_E12 ?su_E12 ?lX_E12 ?cX_E12 ?lC_E12 ?lD_E12 ?rf_E12 ?fi_E12 ?xI_E13 ?rv_E13 ?ga_E13 ?gg_E13 ?ka_E13 ?sa_E13 ?nF_E13 ?iX_E13 ?tF_E13 ?kI_E13 ?su_E13 ?lX_E13 ?cX_E13 ?lC_E13 ?lD_E13 ?rf_E13 ?fi_E13 ?xI_E14 ?rv_E14 ?ga_E14 ?gg_E14 ?ka_E14 ?iX_E14 ?tF_E14 ?kI_E14 ?su_E14 ?lX_E14 ?cX_E14 ?lC_E14 ?lD_E14 ?rf_E14 ?fi_E14 ?xI_E15 ?rv_E15 ?ga_E15 ?gg_E15 ?ka_E15 ?sa_E15 ?nF_E15 ?iX_E15 ?tF_E15 ?kI_E15 ?su_E15 ?lX_E15 ?cX_E15 ?lC_E15 ?lD_E15 ?rf_E15 ?fi_E15 ?xI_E16 ?rv_E16 ?ga_E16 ?gg_E16 ?ka_E16 ?sa_E16 ?nF_E16 ?iX_E16 ?tF_E16 ?kI_E16 ?su_E16 ?lX_E16 ?cX_E16 ?lC_E16 ?lD_E16 ?rf_E16 ?fi_E16 ?xI_E17 ?rv_E17 ?ga_E17 ?gg_E17 ?ka_E17 ?iX_E17 ?tF_E17 ?kI_E17 ?su_E17 ?lX_E17 ?cX_E17 ?lC_E17 ?lD_E17 ?rf_E17 ?fi_E17 ?xI_E18 ?rv_E18 ?ga_E18 ?gg_E18 ?ka_E18 ?iX_E18 ?tF_E18 ?kI_E18 ?su_E18 ?lX_E18 ?cX_E18 ?lC_E18 ?lD_E18 ?rf_E18 ?fi_E18 ?xI_E19 ?rv_E19 ?ga_E19 ?gg_E19 ?ka_E19 ?iX_E19 ?tF_E19 ?kI_E19 ?su_E19 ?lX_E19 ?cX_E19 ?lC_E19 ?lD_E19 ?rf_E19 ?fi_E19 ?xI_E20 ?rv_E20 ?ga_E20 ?gg_E20 ?ka_E20 ?sa_E20 ?nF_E20 ?iX_E20 ?tF_E20 ?kI_E20 ?su_E20 ?lX_E20 ?cX_E20 ?lC_E20 ?lD_E20 ?rf_E20 ?fi_E20 ?xI_E21 ?rv_E21 ?ga_E21 ?gg_E21 ?ka_E21 ?sa_E21 ?nF_E21 ?iX_E21 ?tF_E21 ?kI_E21 ?su_E21 ?lX_E21 ?cX_E21 ?lC_E21 ?lD_E21 ?rf_E21 ?fi_E21 ?nd
    (case a1 => k_is)
    (case l1 => k_is)
    (case c1 => k_is)
    (case k1 => k_is)
    (case a2 => k_is)
    (case l2 => k_is)
    (case c2 => k_is)
    (case k2 => k_is)
    (case a3 => k_is)
    (case l3 => k_is)
    (case c3 => k_is)
    (case k3 => k_is)
    (case a4 => k_is)
    (case l4 => k_is)
    (case c4 => k_is)
    (case k4 => k_is)
    (case a5 => k_is)
    (case l5 => k_is)
    (case c5 => k_is)
    (case k5 => k_is)
    (case a6 => k_is)
    (case l6 => k_is)
    (case c6 => k_is)
    (case k6 => k_is)
    (case a7 => k_is)
    (case l7 => k_is)
    (case c7 => k_is)
    (case k7 => k_is)
    (case a8 => k_is)
    (case l8 => k_is)
    (case c8 => k_is)
    (case k8 => k_is)
    (case a9 => k_is)
    (case l9 => k_is)
    (case c9 => k_is)
    (case k9 => k_is)
    (case a10 => k_is)
    (case l10 => k_is)
    (case c10 => k_is)
    (case k10 => k_is)
    (case a11 => k_is)
    (case l11 => k_is)
    (case c11 => k_is)
    (case k11 => k_is)
    (case a12 => k_is)
    (case l12 => k_is)
    (case c12 => k_is)
    (case k12 => k_is)
    (case a13 => k_is)
    (case l13 => k_is)
    (case c13 => k_is)
    (case k13 => k_is)
    (case a14 => k_is)
    (case l14 => k_is)
    (case c14 => k_is)
    (case k14 => k_is)
    (case a15 => k_is)
    (case l15 => k_is)
    (case c15 => k_is)
    (case k15 => k_is)
    (case a16 => k_is)
    (case l16 => k_is)
    (case c16 => k_is)
    (case k16 => k_is)
    (case a17 => k_is)
    (case l17 => k_is)
    (case c17 => k_is)
    (case k17 => k_is)
    (case a18 => k_is)
    (case l18 => k_is)
    (case c18 => k_is)
    (case k18 => k_is)
    (case a19 => k_is)
    (case l19 => k_is)
    (case c19 => k_is)
    (case k19 => k_is)
    (case a20 => k_is)
    (case l20 => k_is)
    (case c20 => k_is)
    (case k20 => k_is)
    (case a21 => k_is)
    (case l21 => k_is)
    (case c21 => k_is)
    (case k21 => k_is)
    (case a22 => k_is)
    (case l22 => k_is)
    (case c22 => k_is)
    (case k22 => k_is)
    (case a23 => k_is)
    (case l23 => k_is)
    (case c23 => k_is)
    (case k23 => k_is)
    (case a24 => k_is)
    (case l24 => k_is)
    (case c24 => k_is)
    (case k24 => k_is)
    (case a25 => k_is)
    (case l25 => k_is)
    (case c25 => k_is)
    (case k25 => k_is)
    (case a26 => k_is)
    (case l26 => k_is)
    (case c26 => k_is)
    (case k26 => k_is)
    (case a27 => k_is)
    (case l27 => k_is)
    (case c27 => k_is)
    (case k27 => k_is)
    (case a28 => k_is)
    (case l28 => k_is)
    (case c28 => k_is)
    (case k28 => k_is)
    (case a29 => k_is)
    (case l29 => k_is)
    (case c29 => k_is)
    (case k29 => k_is)
    (case z_isinstance => k_is)
    (case z_str => k_is)
    (case z_int => k_is)
    (case z_bool => k_is)
    (case z_tuple => k_is)
    (case z_list => k_is)
    (case z_len => k_is)
    (case z_range => k_is)
    (case z_sorted => k_is)
    (case z_abs => k_is)
    (case z_set => k_is)
    (case z_repr => k_is)
    (case z_ValueError => k_is)
    (case z_super => k_is)
    (case aK0 => k_is)
    (case aK1 => k_is)
    (case aK2 => k_is)
    (case aR => k_is)
    (case hR => k_is)
    (case yR => k_is)
    (case aE0 => k_is)
    (case hE0 => k_is)
    (case yE0 => k_is)
    (case aE1 => k_is)
    (case hE1 => k_is)
    (case yE1 => k_is)
    (case aE2 => k_is)
    (case hE2 => k_is)
    (case yE2 => k_is)
    (case aE3 => k_is)
    (case hE3 => k_is)
    (case yE3 => k_is)
    (case aE4 => k_is)
    (case hE4 => k_is)
    (case yE4 => k_is)
    (case aE5 => k_is)
    (case hE5 => k_is)
    (case yE5 => k_is)
    (case aE6 => k_is)
    (case hE6 => k_is)
    (case yE6 => k_is)
    (case aE7 => k_is)
    (case hE7 => k_is)
    (case yE7 => k_is)
    (case aE8 => k_is)
    (case hE8 => k_is)
    (case yE8 => k_is)
    (case aE9 => k_is)
    (case hE9 => k_is)
    (case yE9 => k_is)
    (case aE10 => k_is)
    (case hE10 => k_is)
    (case yE10 => k_is)
    (case aE11 => k_is)
    (case hE11 => k_is)
    (case yE11 => k_is)
    (case aE12 => k_is)
    (case hE12 => k_is)
    (case yE12 => k_is)
    (case aE13 => k_is)
    (case hE13 => k_is)
    (case yE13 => k_is)
    (case aE14 => k_is)
    (case hE14 => k_is)
    (case yE14 => k_is)
    (case aE15 => k_is)
    (case hE15 => k_is)
    (case yE15 => k_is)
    (case aE16 => k_is)
    (case hE16 => k_is)
    (case yE16 => k_is)
    (case aE17 => k_is)
    (case hE17 => k_is)
    (case yE17 => k_is)
    (case aE18 => k_is)
    (case hE18 => k_is)
    (case yE18 => k_is)
    (case aE19 => k_is)
    (case hE19 => k_is)
    (case yE19 => k_is)
    (case aE20 => k_is)
    (case hE20 => k_is)
    (case yE20 => k_is)
    (case aE21 => k_is)
    (case hE21 => k_is)
    (case yE21 => k_is)
    (case oq => k_is)
    (case hTop => rfl)
    (case kn => k_is)
    (case kt => k_is)
    (case xI_E0 => k_is)
    (case rv_E0 => rfl)
    (case ga_E0 => k_is)
    (case gg_E0 => k_is)
    (case ka_E0 => k_is)
    (case sa_E0 => k_is)
    (case nF_E0 => k_is)
    (case iX_E0 => k_is)
    (case tF_E0 => k_is)
    (case kI_E0 => k_is)
    (case su_E0 => ks_is)
    (case lX_E0 => k_is)
    (case cX_E0 => k_is)
    (case lC_E0 => k_is)
    (case lD_E0 => k_is)
    (case rf_E0 => rfl)
    (case fi_E0 => rfl)
    (case xI_E1 => k_is)
    (case rv_E1 => rfl)
    (case ga_E1 => k_is)
    (case gg_E1 => k_is)
    (case ka_E1 => k_is)
    (case sa_E1 => k_is)
    (case nF_E1 => k_is)
    (case iX_E1 => k_is)
    (case tF_E1 => k_is)
    (case kI_E1 => k_is)
    (case su_E1 => ks_is)
    (case lX_E1 => k_is)
    (case cX_E1 => k_is)
    (case lC_E1 => k_is)
    (case lD_E1 => k_is)
    (case rf_E1 => rfl)
    (case fi_E1 => rfl)
    (case xI_E2 => k_is)
    (case rv_E2 => rfl)
    (case ga_E2 => k_is)
    (case gg_E2 => k_is)
    (case ka_E2 => k_is)
    (case sa_E2 => k_is)
    (case nF_E2 => k_is)
    (case iX_E2 => k_is)
    (case tF_E2 => k_is)
    (case kI_E2 => k_is)
    (case su_E2 => ks_is)
    (case lX_E2 => k_is)
    (case cX_E2 => k_is)
    (case lC_E2 => k_is)
    (case lD_E2 => k_is)
    (case rf_E2 => rfl)
    (case fi_E2 => rfl)
    (case xI_E3 => k_is)
    (case rv_E3 => rfl)
    (case ga_E3 => k_is)
    (case gg_E3 => k_is)
    (case ka_E3 => k_is)
    (case sa_E3 => k_is)
    (case nF_E3 => k_is)
    (case iX_E3 => k_is)
    (case tF_E3 => k_is)
    (case kI_E3 => k_is)
    (case su_E3 => ks_is)
    (case lX_E3 => k_is)
    (case cX_E3 => k_is)
    (case lC_E3 => k_is)
    (case lD_E3 => k_is)
    (case rf_E3 => rfl)
    (case fi_E3 => rfl)
    (case xI_E4 => k_is)
    (case rv_E4 => rfl)
    (case ga_E4 => k_is)
    (case gg_E4 => k_is)
    (case ka_E4 => k_is)
    (case sa_E4 => k_is)
    (case nF_E4 => k_is)
    (case iX_E4 => k_is)
    (case tF_E4 => k_is)
    (case kI_E4 => k_is)
    (case su_E4 => ks_is)
    (case lX_E4 => k_is)
    (case cX_E4 => k_is)
    (case lC_E4 => k_is)
    (case lD_E4 => k_is)
    (case rf_E4 => rfl)
    (case fi_E4 => rfl)
    (case xI_E5 => k_is)
    (case rv_E5 => rfl)
    (case ga_E5 => k_is)
    (case gg_E5 => k_is)
    (case ka_E5 => k_is)
    (case sa_E5 => k_is)
    (case nF_E5 => k_is)
    (case iX_E5 => k_is)
    (case tF_E5 => k_is)
    (case kI_E5 => k_is)
    (case su_E5 => ks_is)
    (case lX_E5 => k_is)
    (case cX_E5 => k_is)
    (case lC_E5 => k_is)
    (case lD_E5 => k_is)
    (case rf_E5 => rfl)
    (case fi_E5 => rfl)
    (case xI_E6 => k_is)
    (case rv_E6 => rfl)
    (case ga_E6 => k_is)
    (case gg_E6 => k_is)
    (case ka_E6 => k_is)
    (case sa_E6 => k_is)
    (case nF_E6 => k_is)
    (case iX_E6 => k_is)
    (case tF_E6 => k_is)
    (case kI_E6 => k_is)
    (case su_E6 => ks_is)
    (case lX_E6 => k_is)
    (case cX_E6 => k_is)
    (case lC_E6 => k_is)
    (case lD_E6 => k_is)
    (case rf_E6 => rfl)
    (case fi_E6 => rfl)
    (case xI_E7 => k_is)
    (case rv_E7 => rfl)
    (case ga_E7 => k_is)
    (case gg_E7 => k_is)
    (case ka_E7 => k_is)
    (case sa_E7 => k_is)
    (case nF_E7 => k_is)
    (case iX_E7 => k_is)
    (case tF_E7 => k_is)
    (case kI_E7 => k_is)
    (case su_E7 => ks_is)
    (case lX_E7 => k_is)
    (case cX_E7 => k_is)
    (case lC_E7 => k_is)
    (case lD_E7 => k_is)
    (case rf_E7 => rfl)
    (case fi_E7 => rfl)
    (case xI_E8 => k_is)
    (case rv_E8 => rfl)
    (case ga_E8 => k_is)
    (case gg_E8 => k_is)
    (case ka_E8 => k_is)
    (case sa_E8 => k_is)
    (case nF_E8 => k_is)
    (case iX_E8 => k_is)
    (case tF_E8 => k_is)
    (case kI_E8 => k_is)
    (case su_E8 => ks_is)
    (case lX_E8 => k_is)
    (case cX_E8 => k_is)
    (case lC_E8 => k_is)
    (case lD_E8 => k_is)
    (case rf_E8 => rfl)
    (case fi_E8 => rfl)
    (case xI_E9 => k_is)
    (case rv_E9 => rfl)
    (case ga_E9 => k_is)
    (case gg_E9 => k_is)
    (case ka_E9 => k_is)
    (case sa_E9 => k_is)
    (case nF_E9 => k_is)
    (case iX_E9 => k_is)
    (case tF_E9 => k_is)
    (case kI_E9 => k_is)
    (case su_E9 => ks_is)
    (case lX_E9 => k_is)
    (case cX_E9 => k_is)
    (case lC_E9 => k_is)
    (case lD_E9 => k_is)
    (case rf_E9 => rfl)
    (case fi_E9 => rfl)
    (case xI_E10 => k_is)
    (case rv_E10 => rfl)
    (case ga_E10 => k_is)
    (case gg_E10 => k_is)
    (case ka_E10 => k_is)
    (case sa_E10 => k_is)
    (case nF_E10 => k_is)
    (case iX_E10 => k_is)
    (case tF_E10 => k_is)
    (case kI_E10 => k_is)
    (case su_E10 => ks_is)
    (case lX_E10 => k_is)
    (case cX_E10 => k_is)
    (case lC_E10 => k_is)
    (case lD_E10 => k_is)
    (case rf_E10 => rfl)
    (case fi_E10 => rfl)
    (case xI_E11 => k_is)
    (case rv_E11 => rfl)
    (case ga_E11 => k_is)
    (case gg_E11 => k_is)
    (case ka_E11 => k_is)
    (case sa_E11 => k_is)
    (case nF_E11 => k_is)
    (case iX_E11 => k_is)
    (case tF_E11 => k_is)
    (case kI_E11 => k_is)
    (case su_E11 => ks_is)
    (case lX_E11 => k_is)
    (case cX_E11 => k_is)
    (case lC_E11 => k_is)
    (case lD_E11 => k_is)
    (case rf_E11 => rfl)
    (case fi_E11 => rfl)
    (case xI_E12 => k_is)
    (case rv_E12 => rfl)
    (case ga_E12 => k_is)
    (case gg_E12 => k_is)
    (case ka_E12 => k_is)
    (case iX_E12 => k_is)
    (case tF_E12 => k_is)
    (case kI_E12 => k_is)
    (case su_E12 => ks_is)
    (case lX_E12 => k_is)
    (case cX_E12 => k_is)
    (case lC_E12 => k_is)
    (case lD_E12 => k_is)
    (case rf_E12 => rfl)
    (case fi_E12 => rfl)
    (case xI_E13 => k_is)
    (case rv_E13 => rfl)
    (case ga_E13 => k_is)
    (case gg_E13 => k_is)
    (case ka_E13 => k_is)
    (case sa_E13 => k_is)
    (case nF_E13 => k_is)
    (case iX_E13 => k_is)
    (case tF_E13 => k_is)
    (case kI_E13 => k_is)
    (case su_E13 => ks_is)
    (case lX_E13 => k_is)
    (case cX_E13 => k_is)
    (case lC_E13 => k_is)
    (case lD_E13 => k_is)
    (case rf_E13 => rfl)
    (case fi_E13 => rfl)
    (case xI_E14 => k_is)
    (case rv_E14 => rfl)
    (case ga_E14 => k_is)
    (case gg_E14 => k_is)
    (case ka_E14 => k_is)
    (case iX_E14 => k_is)
    (case tF_E14 => k_is)
    (case kI_E14 => k_is)
    (case su_E14 => ks_is)
    (case lX_E14 => k_is)
    (case cX_E14 => k_is)
    (case lC_E14 => k_is)
    (case lD_E14 => k_is)
    (case rf_E14 => rfl)
    (case fi_E14 => rfl)
    (case xI_E15 => k_is)
    (case rv_E15 => rfl)
    (case ga_E15 => k_is)
    (case gg_E15 => k_is)
    (case ka_E15 => k_is)
    (case sa_E15 => k_is)
    (case nF_E15 => k_is)
    (case iX_E15 => k_is)
    (case tF_E15 => k_is)
    (case kI_E15 => k_is)
    (case su_E15 => ks_is)
    (case lX_E15 => k_is)
    (case cX_E15 => k_is)
    (case lC_E15 => k_is)
    (case lD_E15 => k_is)
    (case rf_E15 => rfl)
    (case fi_E15 => rfl)
    (case xI_E16 => k_is)
    (case rv_E16 => rfl)
    (case ga_E16 => k_is)
    (case gg_E16 => k_is)
    (case ka_E16 => k_is)
    (case sa_E16 => k_is)
    (case nF_E16 => k_is)
    (case iX_E16 => k_is)
    (case tF_E16 => k_is)
    (case kI_E16 => k_is)
    (case su_E16 => ks_is)
    (case lX_E16 => k_is)
    (case cX_E16 => k_is)
    (case lC_E16 => k_is)
    (case lD_E16 => k_is)
    (case rf_E16 => rfl)
    (case fi_E16 => rfl)
    (case xI_E17 => k_is)
    (case rv_E17 => rfl)
    (case ga_E17 => k_is)
    (case gg_E17 => k_is)
    (case ka_E17 => k_is)
    (case iX_E17 => k_is)
    (case tF_E17 => k_is)
    (case kI_E17 => k_is)
    (case su_E17 => ks_is)
    (case lX_E17 => k_is)
    (case cX_E17 => k_is)
    (case lC_E17 => k_is)
    (case lD_E17 => k_is)
    (case rf_E17 => rfl)
    (case fi_E17 => rfl)
    (case xI_E18 => k_is)
    (case rv_E18 => rfl)
    (case ga_E18 => k_is)
    (case gg_E18 => k_is)
    (case ka_E18 => k_is)
    (case iX_E18 => k_is)
    (case tF_E18 => k_is)
    (case kI_E18 => k_is)
    (case su_E18 => ks_is)
    (case lX_E18 => k_is)
    (case cX_E18 => k_is)
    (case lC_E18 => k_is)
    (case lD_E18 => k_is)
    (case rf_E18 => rfl)
    (case fi_E18 => rfl)
    (case xI_E19 => k_is)
    (case rv_E19 => rfl)
    (case ga_E19 => k_is)
    (case gg_E19 => k_is)
    (case ka_E19 => k_is)
    (case iX_E19 => k_is)
    (case tF_E19 => k_is)
    (case kI_E19 => k_is)
    (case su_E19 => ks_is)
    (case lX_E19 => k_is)
    (case cX_E19 => k_is)
    (case lC_E19 => k_is)
    (case lD_E19 => k_is)
    (case rf_E19 => rfl)
    (case fi_E19 => rfl)
    (case xI_E20 => k_is)
    (case rv_E20 => rfl)
    (case ga_E20 => k_is)
    (case gg_E20 => k_is)
    (case ka_E20 => k_is)
    (case sa_E20 => k_is)
    (case nF_E20 => k_is)
    (case iX_E20 => k_is)
    (case tF_E20 => k_is)
    (case kI_E20 => k_is)
    (case su_E20 => ks_is)
    (case lX_E20 => k_is)
    (case cX_E20 => k_is)
    (case lC_E20 => k_is)
    (case lD_E20 => k_is)
    (case rf_E20 => rfl)
    (case fi_E20 => rfl)
    (case xI_E21 => k_is)
    (case rv_E21 => rfl)
    (case ga_E21 => k_is)
    (case gg_E21 => k_is)
    (case ka_E21 => k_is)
    (case sa_E21 => k_is)
    (case nF_E21 => k_is)
    (case iX_E21 => k_is)
    (case tF_E21 => k_is)
    (case kI_E21 => k_is)
    (case su_E21 => ks_is)
    (case lX_E21 => k_is)
    (case cX_E21 => k_is)
    (case lC_E21 => k_is)
    (case lD_E21 => k_is)
    (case rf_E21 => rfl)
    (case fi_E21 => rfl)
    (case nd => decide)
