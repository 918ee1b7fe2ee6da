import PyProof.Rows.All
import Wide.All
import OpenK.AllK
import Wide.FinOn
import KE.KExcSuper
import HandS.ForExc
import HandS.TryMany
import HandS.ExcCtx
import HandS.HotCalls
import HandS.ForMost
import HandS.ExcIs
import HandS.ExcField
import KE.KExcIs
import HandS.IsInst
import HandS.Comp
import HandS.Ends
import PyProof.ReprRoads
import HandS.FStrTup
import PyProof.ReprText
import HandS.SetTxt0
import HandS.Set
import HandS.SetFor
import HandS.Strs
import PyProof.Rows.SortStr
import PyProof.Rows.SortShellK
import HandS.DictTup
import HandS.Conv
import HandS.DictSubView
import KE.KDictCopyH
import KE.KDictWalk
import PyProof.TupleOfGen
import HandS.SortKw
import HandS.MakeKw
import KE.DataMinMax
import KE.DataCmp
import PyProof.SliceList
import PyProof.CallFns
import HandS.DictComp
import KE.DataMinKey
import KE.GoesMore
import KE.GoesEnum
import HandS.Walk
import HandS.SortInts
import HandS.TupAny
import HandS.TupMul
import HandS.Dict
import HandS.Evl
import HandS.TupSets
import HandS.SortRule
import KE.SortData
import HandS.List
import HandS.Wide
import HandS.Zip
import HandS.StrMore
import PyProof.Rows.StrCut
import PySem.Challenge.RW_ringclause_k15_resolve_two_clauses
import HandS.Deep
import HandS.RaiseMore
import KE.RegKSuper
set_option Elab.async false
set_option linter.all false
set_option maxRecDepth 100000
set_option maxHeartbeats 4000000
/-! An own exception over ValueError whose __init__ is: super().__init__('..'); self.f = f -/
namespace PySem
namespace Sup
open PySem.W PySem.Calls PyProof.Rows PySem.HandSPX

def sArgs (fld : Str) (p1 p2 : Pos) : Arguments :=
  { posonlyargs := [], args := [{ arg := "self", annotation := none, pos := p1 }, { arg := fld, annotation := none, pos := p2 }], vararg := none, kwonlyargs := [], kw_defaults := [], kwarg := none, defaults := [] }
def sBody (fld msg : Str) (a1 a2 a3 a4 a5 a6 b1 b2 b3 b4 : Pos) : List Stmt :=
  [.Expr (.Call (.Attribute (.Call (.Name "super" a1) [] [] a2) "__init__" a3) [.Constant (.str msg) 0 a4] [] a5) a6,
   .Assign [.Attribute (.Name "self" b1) fld b2] (.Name fld b3) b4]
def sScope (fld : Str) : Scope :=
  { kind := .function, names := [(PySem.Str.ofString "self", .local), (fld, .local), (PySem.Str.ofString "__class__", .free), (PySem.Str.ofString "super", .globalImplicit)], isGenerator := false, isCoroutine := false, more := [] }

abbrev sFn (fld msg qual : Str) (p1 p2 a1 a2 a3 a4 a5 a6 b1 b2 b3 b4 : Pos) (doc pm : Value) (an : Option Addr) (cda cc : Addr) (ct : Value) : FuncData :=
  fnX "__init__" qual (sArgs fld p1 p2) (sBody fld msg a1 a2 a3 a4 a5 a6 b1 b2 b3 b4) (sScope fld) [("__class__", cc)] .none .none doc pm an (.ref cda) ct
/-- the field's name is none of the other names; what follows from it, each by rfl -/
structure FldOk (fld : Str) : Prop where
  bd : ∀ (msg qual : Str) (p1 p2 a1 a2 a3 a4 a5 a6 b1 b2 b3 b4 : Pos) (doc pm : Value) (an : Option Addr) (cda cc : Addr) (ct u v : Value),
    bindArgs (sFn fld msg qual p1 p2 a1 a2 a3 a4 a5 a6 b1 b2 b3 b4 doc pm an cda cc ct) ⟨[u, v], []⟩ = pure [(("self" : Str), u), (fld, v)]
  lf : (sScope fld).names.lookup fld = some .local
  lc : (sScope fld).names.lookup ("__class__" : Str) = some .free
  ls : (sScope fld).names.lookup ("super" : Str) = some .globalImplicit
  nd : (fld == ("__debug__" : Str)) = false
  ns : ("self" : Str) ≠ fld

/-- super().__init__('..') is a method's call on one row of the text: by ⟨_, rfl⟩ where the places are written -/
def EvOk (fld msg qual : Str) (p1 p2 a1 a2 a3 a4 a5 a6 b1 b2 b3 b4 : Pos) (doc pm : Value) (an : Option Addr) (cda cc : Addr) (ct : Value) : Prop := ∀ (L a : Addr), ∃ pl : Sem Bool,
    eval (.Call (.Attribute (.Call (.Name "super" a1) [] [] a2) "__init__" a3) [.Constant (.str msg) 0 a4] [] a5) (callEnv (sFn fld msg qual p1 p2 a1 a2 a3 a4 a5 a6 b1 b2 b3 b4 doc pm an cda cc ct) L a) = (do
      let ov ← attributeBase (.Call (.Name "super" a1) [] [] a2) "__init__" (callEnv (sFn fld msg qual p1 p2 a1 a2 a3 a4 a5 a6 b1 b2 b3 b4 doc pm an cda cc ct) L a)
        (eval (.Call (.Name "super" a1) [] [] a2) (callEnv (sFn fld msg qual p1 p2 a1 a2 a3 a4 a5 a6 b1 b2 b3 b4 doc pm an cda cc ct) L a))
      standAt a3.atName
      let (f, first) ← holding [ov] (getMethod ov "__init__" pl)
      callWith a5 f first (backTo a5 (starEach [.Constant (.str msg) 0 a4] (callEnv (sFn fld msg qual p1 p2 a1 a2 a3 a4 a5 a6 b1 b2 b3 b4 doc pm an cda cc ct) L a))) [])
/-- what the written part says of such a class at C, its __init__ at fI, the cell at cc that holds C, the code record at cda -/
structure SupTxt (K : Frag) (mg : Str → Option Value) (prog : Program) (cn fld msg : Str) (C fI : Addr) : Prop where
  gC : mg cn = some (.ref C)
  ok : FldOk fld
  cls : ∃ nm q N bs bm sn sub ab col dd k0 k1 k2 k3 k5, K.lookup C = some (excClassObj nm q C N bs bm true sn sub ab col dd k0 k1 k2 k3 k5 "ValueError.__new__") ∧ refsVE bm = true
  sa : findIn K (.ref C) "__setattr__" = some (some (.builtin "object.__setattr__"))
  ga : findIn K (.ref C) "__getattribute__" = some (some (.builtin "BaseException.__getattribute__"))
  gg : findIn K (.ref C) "__getattr__" = some none
  noF : findIn K (.ref C) fld = some none
  iC : findIn K (.ref C) "__init__" = some (some (.ref fI))
  tF : typeIn K (.ref fI) = some (.type "function")
  kC : keepIn K (.ref C) = true
  exC : subIn K (.ref C) (.type "BaseException") = some true
  veC : subIn K (.ref C) (.type "ValueError") = some true
  tyC : typeIn K (.ref C) = some (.type "type")
  hdC : hasDictIn K C = true
  mC : mroIn K C (.ref C) = some true
  opq : nsIn K cStatics "thirdparty.any" = some none
  sup : ks_superIn K C C "__init__" = some (some (.builtin "ValueError.__init__"))
  htop : (prog.main.scope.names.lookup ("super" : Str)).isSome = false
  mgS : mg "super" = none
  fn : ∃ (oc : Value) (od : Option Addr) (qual : Str) (doc pm : Value) (an : Option Addr) (cda cc : Addr) (ct : Value) (osl : Array (Option Value)) (p1 p2 a1 a2 a3 a4 a5 a6 b1 b2 b3 b4 : Pos),
    K.lookup fI = some ⟨oc, od, .func (sFn fld msg qual p1 p2 a1 a2 a3 a4 a5 a6 b1 b2 b3 b4 doc pm an cda cc ct), osl⟩ ∧ EvOk fld msg qual p1 p2 a1 a2 a3 a4 a5 a6 b1 b2 b3 b4 doc pm an cda cc ct ∧
    codeIn K (.ref cda) qual = true ∧
    (∃ cl cld csl, K.lookup cc = some ⟨cl, cld, .cell (some (.ref C)), csl⟩) ∧
    (∃ ccl cdd vs ccs file tf, K.lookup cda = some ⟨ccl, cdd, .fields vs, ccs⟩ ∧ vs[2]? = some (.str file tf) ∧ ((prog.main.file : Str) == file) = true)

theorem line1 (v : Value) : [v].length ≤ sizeLine := by
  rw [sizeLine_eq]
  exact (by decide : 1 ≤ 16777216)

/-- what __init__ leaves of a fresh exception at x -/
structure SupEnd (h h' : Heap) (x C dx : Addr) (fld : Str) (v : Value) : Prop where
  keep : ∀ b o, b ≠ x → h.get? b = some o → h'.get? b = some o
  obj : ∃ t1 : Addr, h'.get? x = some { cls := .ref C, dict := some dx, data := .fields #[.ref t1, .none, .none, .none, .bool false, .none] }
  dbig : h.objs.size ≤ dx
  dne : dx ≠ x
  ns : h'.Ns1 dx (fun y => if y = fld then some v else none)

section
variable {prog : Program} {w : World} {A : Around} {E : Value → Shared → Prop} {R : Result → Shared → Prop} {s : Shared} {K : Frag} {mg mb : Str → Option Value} {cn fld msg : Str} {C fI : Addr}

/-- the bound ValueError.__init__ called with one argument -/
theorem base_init {u x t0 : Addr} {a : Value} {Q : Value → Shared → Prop} (T : SupTxt K mg prog cn fld msg C fI) (X : K.In s.heap)
    (hu : s.heap.get? u = some (kxs_mw "ValueError.__init__" x)) (hx : s.heap.get? x = some (excO C t0))
    (hq : ∀ h' t1, (∀ b o, b ≠ x → s.heap.get? b = some o → h'.get? b = some o) → h'.get? x = some (excO C t1) → Q .none { s with heap := h' }) :
    wpAny (model prog w) A (call (.ref u) [a]) Q E s := by
  obtain ⟨nm, q, N, bs, bm, sn, sub, ab, col, dd, k0, k1, k2, k3, k5, hC, hbm⟩ := T.cls
  obtain ⟨hh, g, d, tk, os⟩ := s
  have hC' := X _ _ hC
  refine wpAny_call (codeAny_of_tree ?_)
  show wpAny (model prog w) A.in1 (callAny (.ref u) ⟨[a], []⟩) _ _ _
  unfold callAny
  refine wpAny_bind (wpAny_load hu ?_)
  have m1 : (Value.type "method-wrapper" == Value.type "method") = false := by decide
  have m2 : (Value.type "method-wrapper" == Value.type "builtin_function_or_method") = false := by decide
  have m3 : (Value.type "method-wrapper" == Value.type "method-wrapper") = true := by decide
  simp only [kxs_mw, m1, m2, m3, Bool.or_true, Bool.false_or, if_true]
  refine KFB.if_so (by decide) ?_
  refine wpAny_bind (check_bound_init PySem.F.excBase_ValueError.toExcCallFacts hC' hx rfl ?_)
  refine wpAny_bind (wpAny_pure (wpAny_pure ?_))
  refine ⟨plainId_quiet PySem.F.excBase_ValueError.init.plain _, codeAny_builtin PySem.F.excBase_ValueError.initEntry ?_⟩
  exact exc_init_tree (cls := .ref C) (t0 := t0) (dv := none) (c2 := .none) (c3 := .none) (b4 := .bool false) hx (line1 a) fun h' k e _ => hq h' _ k e

theorem sup_init (T : SupTxt K mg prog cn fld msg C fI) {x t0 : Addr} {v : Value} (X : K.In s.heap) (hlim : s.heap.NoLimit) (hG : s.heap.Ns mainGlobals mg) (hB : s.heap.Ns builtinsNs mb) (hmb : mb "super" = some (.type "super"))
    (hx : s.heap.get? x = some (excO C t0)) (hnx : K.lookup x = none) (hroom : A.depth < recursionLimit)
    (hq : ∀ h' tk dx, SupEnd s.heap h' x C dx fld v → R (.ok (.ret .none)) { s with heap := h', toks := tk }) :
    codeAny (model prog w) A (.call (.ref fI) ⟨[.ref x, v], []⟩) R s := by
  obtain ⟨oc, od, qual, doc, pm, an, cda, cc, ct, osl, p1, p2, a1, a2, a3, a4, a5, a6, b1, b2, b3, b4, ho, hevO, hcd, ⟨cl, cld, csl, hcell⟩, ⟨ccl, cdd, vs, ccs, file, tf, hcda, hvs, hfile⟩⟩ := T.fn
  obtain ⟨nm, q, N, bs, bm, sn, sub, ab, col, dd, k0, k1, k2, k3, k5, hC, hbm⟩ := T.cls
  have O := T.ok
  refine ks_codeAny_call_defAt (fd := fnX "__init__" qual (sArgs fld p1 p2) (sBody fld msg a1 a2 a3 a4 a5 a6 b1 b2 b3 b4) (sScope fld) [("__class__", cc)] .none .none doc pm an (.ref cda) ct) (binds := [("self", .ref x), (fld, v)])
    hroom (X _ _ ho) rfl hlim (codeRec_of X hcd) rfl (BindsTo.of_eq (O.bd _ _ _ _ _ _ _ _ _ _ _ _ _ _ _ _ _ _ _ _ _ _)) (by
      intro y hy
      simp only [sScope, List.mem_cons, List.not_mem_nil, or_false] at hy
      rcases hy with rfl | rfl | rfl | rfl <;> (intro z; cases z)) (by
      intro y hy
      simp only [List.mem_cons, List.not_mem_nil, or_false] at hy
      rcases hy with rfl | rfl
      · rfl
      · exact O.lf) (fun h₁ hns k => ?_) rfl rfl rfl
  have X₁ : K.In h₁ := X.keeps k
  have hx₁ := k _ _ hx
  have hvf : ([(("self" : Str), Value.ref x), (fld, v)].reverse).lookup fld = some v := by
    show List.lookup fld [(fld, v), (("self" : Str), Value.ref x)] = some v
    simp [List.lookup]
  have hvs' : ([(("self" : Str), Value.ref x), (fld, v)].reverse).lookup ("self" : Str) = some (.ref x) := by
    show List.lookup ("self" : Str) [(fld, v), (("self" : Str), Value.ref x)] = some (.ref x)
    have e : (("self" : Str) == fld) = false := by simpa using O.ns
    simp [List.lookup, e]
  have hcls : clsIn K C = some { name := nm, bases := bs, mro := .ref C :: bm, ns := N, qualname := q, hasDict := true, slotNames := sn, subclasses := sub, abstract := ab, collection := col, hasDel := false } := by unfold clsIn; rw [hC] <;> rfl
  have hsc : (sScope fld).names.lookup ("self" : Str) = some .local := rfl
  show wpAt (model prog w) _ _ (execs (sBody fld msg a1 a2 a3 a4 a5 a6 b1 b2 b3 b4) _) _ _ _
  obtain ⟨pl, hev⟩ := hevO s.heap.objs.size fI
  refine ks_wpAt_execs_cons (ks_wpAt_Expr_any (ks_wpAt_MethodCall (pl := pl) (he := hev) (ks_wpAt_super_base O.ls O.lc (by decide) rfl (X₁ _ _ ho) rfl rfl rfl (X₁ _ _ hcda) rfl hvs hfile T.htop ?_)))
  refine ks_loadName_global rfl O.ls (loadGlobal_builtin (hG.keeps k) T.mgS (hB.keeps k) hmb ⟨rfl, ?_⟩)
  refine wpAny_loadName_free rfl O.lc rfl ⟨_, X₁ _ _ hcell, rfl⟩ ?_
  refine wpAny_loadName_local rfl hsc hns hvs' ?_
  refine ks_wpAny_isType_cls (X₁ _ _ hC) rfl ⟨rfl, ?_⟩
  refine ks_wpAny_call_super (X₁ _ _ hC) rfl hx₁ rfl (fun c e => by cases e) (looks_mroIn X₁ T.mC) (fun h₂ e₂ k₂ => ?_)
  have X₂ : K.In h₂ := X₁.keeps k₂
  have hx₂ := k₂ _ _ hx₁
  have I₂ : InstAt h₂ x (excO C t0) C none := ⟨hx₂, rfl, rfl, trivial⟩
  have xC : x ≠ C := ks_ne X₂ I₂ hcls
  have hsup : alongIn K "__init__" ((_root_.List.dropWhile (· != Value.ref C) (.ref C :: bm)).drop 1) = some (some (.builtin "ValueError.__init__")) := by
    have z := T.sup
    unfold ks_superIn at z
    rw [hcls] at z
    exact z
  refine kxs_getMethod kxs_ValueError e₂ (looks_opaque X₂ T.opq) (l₀ := .ref C :: bm) (fun A Q E s k q => wpAny_bind ((looks_clsIn X₂ hcls) A _ E s k (wpAny_pure q))) rfl X₂ hsup (I₂.type.andThen (looks_subIn X₂ T.veC)) xC (by decide) ?_
  refine kxs_callWith (i := "ValueError.__init__") (x := x) rfl (evalArgs_plain ?_)
  refine spliced_cons (Constant_str (k := 0) (pos := a4) (spliced_nil ?_))
  have hu₃ : (h₂.push (kxs_mw "ValueError.__init__" x)).get? h₂.objs.size = some (kxs_mw "ValueError.__init__" x) := Heap.get?_push_at rfl rfl
  have k₃ : ∀ b o, h₂.get? b = some o → (h₂.push (kxs_mw "ValueError.__init__" x)).get? b = some o := fun b o e => Heap.get?_push_of_some _ e
  refine ⟨hu₃, base_init T (X₂.keeps k₃) hu₃ (k₃ _ _ hx₂) (fun h₄ t4 k₄ hx₄ => ?_)⟩
  have kx : ∀ b o, b ≠ x → s.heap.get? b = some o → h₄.get? b = some o := fun b o hb e => k₄ b o hb (k₃ _ _ (k₂ _ _ (k _ _ e)))
  have X₄ : K.In h₄ := fun a o e => kx a o (fun z => by rw [z, hnx] at e; cases e) (X a o e)
  have nL : s.heap.objs.size ≠ x := Nat.ne_of_gt (Heap.lt_size hx)
  have hns₄ : h₄.Ns s.heap.objs.size (fun y => ([(("self" : Str), Value.ref x), (fld, v)].reverse).lookup y) := by
    obtain ⟨oL, es, ep, hL, r⟩ := hns
    exact ⟨oL, es, ep, k₄ _ _ nL (k₃ _ _ (k₂ _ _ hL)), r⟩
  show wpAt (model prog w) _ _ (execs [.Assign [.Attribute (.Name "self" b1) fld b2] (.Name fld b3) b4] _) _ _ _
  refine wpAt_of_wpAny (wpAny_execs_cons (plainObj_wpAny_Assign_Attribute ?_))
  refine wpAny_Name (wpAny_loadName_local rfl O.lf hns₄ hvf ?_) O.nd
  refine wpAny_Name (wpAny_loadName_local rfl hsc hns₄ hvs' ?_) (by decide)
  refine set_plain X₄ (ox := excO C t4) (od := none) ⟨hx₄, rfl, rfl, trivial⟩ T.sa ?_
  refine exc_osa X₄ hx₄ hcls (show refsVE (.ref C :: bm) = true from hbm) rfl T.noF (fun h₅ tk₅ dx k₅ dn dne hx₅ hn₅ => ?_)
  have le1 : s.heap.objs.size < h₄.objs.size := by
    obtain ⟨oL, es, ep, hL, r⟩ := hns₄
    exact Heap.lt_size hL
  refine wpAny_execs_nil (hq h₅ tk₅ dx ⟨fun b o hb e => k₅ b o hb (kx b o hb e), ⟨t4, hx₅⟩, Nat.le_of_lt (Nat.lt_of_lt_of_le le1 dn), dne, hn₅⟩)
end

/-- C(v): the exception at e, its own dict at d -/
structure SupMade (h h' : Heap) (e C d : Addr) (fld : Str) (v : Value) : Prop where
  keep : ∀ b o, h.get? b = some o → h'.get? b = some o
  new : h.objs.size ≤ e
  obj : ∃ oe vs, h'.get? e = some oe ∧ oe.cls = .ref C ∧ oe.dict = some d ∧ oe.data = .fields vs ∧ vs[1]? = some .none ∧ vs[2]? = some .none
  dbig : h.objs.size ≤ d
  dne : d ≠ e
  ns : h'.Ns1 d (fun y => if y = fld then some v else none)
section
variable {prog : Program} {w : World} {A : Around} {E : Value → Shared → Prop} {R : Result → Shared → Prop} {s : Shared} {K : Frag} {mg mb : Str → Option Value} {cn fld msg : Str} {C fI : Addr}
theorem sup_made (T : SupTxt K mg prog cn fld msg C fI) {v : Value} (X : K.In s.heap) (hlim : s.heap.NoLimit) (hG : s.heap.Ns mainGlobals mg) (hB : s.heap.Ns builtinsNs mb) (hmb : mb "super" = some (.type "super")) (hroom : A.depth + 1 < recursionLimit)
    (hq : ∀ h' tk e d, SupMade s.heap h' e C d fld v → R (.ok (.ret (.ref e))) { s with heap := h', toks := tk }) :
    codeAny (model prog w) A (.call (.ref C) ⟨[v], []⟩) R s := by
  obtain ⟨nm, q, N, bs, bm, sn, sub, ab, col, dd, k0, k1, k2, k3, k5, hC, hbm⟩ := T.cls
  obtain ⟨hp, g, dr, tk, os⟩ := s
  have k : ∀ b o, hp.get? b = some o → ((hp.push (kdv_tup [v])).push (excO C hp.objs.size)).get? b = some o := fun b o e => Heap.get?_push_of_some _ (Heap.get?_push_of_some _ e)
  have hget : ((hp.push (kdv_tup [v])).push (excO C hp.objs.size)).get? (hp.objs.size + 1) = some (excO C hp.objs.size) := by heap_get
  have hnx : K.lookup (hp.objs.size + 1) = none := by
    cases e : K.lookup (hp.objs.size + 1) with
    | none => rfl
    | some o =>
      have z : hp.get? (hp.objs.size + 1) = some o := X _ _ e
      have z2 : hp.objs.size + 1 < hp.objs.size := Heap.lt_size z
      omega
  refine call_own PySem.F.excBase_ValueError (fun Y => refsVE_contains Y bm hbm) (X _ _ hC) (looks_findIn X T.iC) (fun self => bind_fn X self T.tF) (line1 v) ?_
  refine sup_init (s := ⟨(hp.push (kdv_tup [v])).push (excO C hp.objs.size), g, dr, tk, os⟩) T (X.keeps k) (hlim.keeps k) (hG.keeps k) (hB.keeps k) hmb hget hnx hroom fun h' tk' dx M => ?_
  obtain ⟨kp, ⟨t1, hob⟩, hd, hne, hns⟩ := M
  have sz : ((hp.push (kdv_tup [v])).push (excO C hp.objs.size)).objs.size = hp.objs.size + 1 + 1 := by simp only [Heap.size_push]
  have hd' : hp.objs.size + 2 ≤ dx := by
    have z : ((hp.push (kdv_tup [v])).push (excO C hp.objs.size)).objs.size ≤ dx := hd
    omega
  have old : ∀ b o, hp.get? b = some o → h'.get? b = some o := fun b o e => kp b o (Nat.ne_of_lt (Nat.lt_succ_of_lt (Heap.lt_size e))) (k b o e)
  exact ⟨rfl, hq h' tk' (hp.objs.size + 1) dx ⟨old, Nat.le_succ _, ⟨_, _, hob, rfl, rfl, rfl, rfl, rfl⟩, (by show hp.objs.size ≤ dx; omega), hne, hns⟩⟩
end
theorem fld_value : FldOk "value" := ⟨fun _ _ _ _ _ _ _ _ _ _ _ _ _ _ _ _ _ _ _ _ _ _ => rfl, rfl, rfl, rfl, by decide, by decide +kernel⟩
theorem ev_test (doc pm : Value) (an : Option Addr) (cda cc : Addr) (ct : Value) : EvOk "bounds" "abc" "q" ⟨6, 17, 6, 21⟩ ⟨6, 23, 6, 28⟩ ⟨7, 8, 7, 13⟩ ⟨7, 8, 7, 15⟩ ⟨7, 8, 7, 24⟩ ⟨7, 25, 7, 40⟩ ⟨7, 8, 7, 41⟩ ⟨7, 8, 7, 41⟩ ⟨8, 8, 8, 12⟩ ⟨8, 8, 8, 18⟩ ⟨8, 21, 8, 26⟩ ⟨8, 8, 8, 26⟩ doc pm an cda cc ct := fun _ _ => ⟨_, rfl⟩
end Sup
end PySem
namespace L2
open PySem PySem.Spec PyProof.Rows
theorem relO_one {fld : Str} {v : V} {v' : Value} (r : RelV v v') (f : Str) : RelO (List.lookup f [(fld, v)]) (if f = fld then some v' else none) := by
  by_cases hw : f = fld
  · have q : List.lookup f [(fld, v)] = some v := by simp [List.lookup, hw]
    rw [q, if_pos hw]
    exact r
  · have qw : (f == fld) = false := by simpa using hw
    have q2 : List.lookup f [(fld, v)] = none := by simp [List.lookup, qw]
    rw [q2, if_neg hw]
    trivial
section
variable {X : Cx} {C fI : Addr} {cn fld msg : Str}
/-- X(e), an own error whose __init__ is super().__init__('..'); self.f = f -/
def tMkSup (C : Addr) (fld : Str) (ta : TA) : St → Hp → XK → Prop := fun σ H Q => ta σ H fun vs H1 => ∃ v, vs = [v] ∧ ∀ d, H1 d = none → Q (.ref C) (some d) (upd H1 d (.xd [(fld, v)]))
theorem pmk_sup {a : Expr} {ta : TA} {p pos : Pos} {k : Nat} (T : PySem.Sup.SupTxt X.K X.mg X.prog cn fld msg C fI) (hr : Room k X.A) (ha : PA X [a] ta) (hg : Gl X cn := by rfl) (nd : (cn == ("__debug__" : Str)) = false := by decide)
    (he : starEach (a :: []) X.env = (false, eval a X.env) :: starEach [] X.env := by rfl) (hpl : (backTo pos (starEach [] X.env)).any (·.1) = false := by rfl) :
    PMk X (.Call (.Name cn p) [a] [] pos) (tMkSup C fld ta) := by
  intro pins s σ H Q I h
  refine wpAny_Call_Name_kw (ld_glob I hg T.gC ?_ nd)
  refine PySem.W.callWith_K (h₀ := X.base) I.ok.mod.kin T.kC (thn (ha.run pos pins s σ H _ I h) fun us s1 hh => ?_) he hpl
  obtain ⟨vs, H1, I1, r1, v, ev, q1⟩ := hh
  subst ev
  refine ⟨I1.kIn, ?_⟩
  cases r1 with
  | cons rv rn =>
    rename_i v' us'
    cases rn
    show wpAny _ _ (call (.ref C) [v']) _ _ _
    have hlim := I1.nolimit
    obtain ⟨mb, hb1, hb2⟩ := I1.mod.blt
    have hmb : mb "super" = some (.type "super") := (hb2 "super" (by decide)).trans (by decide +kernel)
    have hGl : s1.heap.Ns mainGlobals X.mg := I1.mod.glob.keeps I1.bk
    have hBl : s1.heap.Ns builtinsNs mb := hb1.keeps I1.bk
    obtain ⟨hp, g, dr, tk, os⟩ := s1
    refine wpAny_call (PySem.Sup.sup_made T I1.kIn hlim hGl hBl hmb (by have := hr.dp; omega) fun h' tk' e d M => ?_)
    show MkP X pins σ Q (.ref e) ⟨h', g, dr, tk', os⟩
    obtain ⟨kp, nw, ⟨oe, fv, hoe, hc, hd, hdat, h1, _⟩, dbig, dne, hns⟩ := M
    obtain ⟨G', g1, g2⟩ := restrict h' fun b => decide (b ≠ e)
    have gk : ∀ b, b ≠ e → G'.get? b = h'.get? b := fun b hb => g1 b (decide_eq_true hb)
    have ge : G'.get? e = none := g2 e (by simp)
    have old : ∀ b o, hp.get? b = some o → G'.get? b = some o := fun b o q => (gk b (Nat.ne_of_lt (Nat.lt_of_lt_of_le (Heap.lt_size q) nw))).trans (kp b o q)
    have ob : ObjOk X.prog X.w (upd H1 d (.xd [(fld, v)])) G' d (.xd [(fld, v)]) :=
      ⟨_, hns.at (fun o q => (gk d dne).trans q), fun f => relO_one rv f⟩
    have J : Inv X pins σ (upd H1 d (.xd [(fld, v)])) ⟨G', g, dr, tk', os⟩ := I1.laid (t' := tk') old dbig ob
    refine ⟨e, oe, fv, ⟨G', g, dr, tk', os⟩, _, .ref C, some d, rfl, J, fun b o q => ?_, ge, hoe, ⟨hc, hd⟩, hdat, h1, ?_, rfl, I1.bare, raises_own T.exC T.tyC, q1 d (I1.hok.fresh dbig)⟩
    · by_cases hb : b = e
      · have q' : G'.get? b = some o := q
        rw [hb, ge] at q'; cases q'
      · exact (gk b hb).symm.trans q
    · rw [upd_ne (Ne.symm dne)]
      exact I1.hok.fresh nw
/-- raise X(e) -/
def tRaiseSup (C : Addr) (fld : Str) (W : WX) (ta : TA) : TS := fun _ σ H => tMkSup C fld ta σ H fun cls d H' => W cls d σ H'
theorem ps_raiseSup {a : Expr} {ta : TA} {W : WX} {p pos pos2 : Pos} {k : Nat} (hc : X.calm = true) (T : PySem.Sup.SupTxt X.K X.mg X.prog cn fld msg C fI) (hr : Room k X.A) (tk : Takes X W) (ha : PA X [a] ta) (hg : Gl X cn := by rfl) (nd : (cn == ("__debug__" : Str)) = false := by decide)
    (he : starEach (a :: []) X.env = (false, eval a X.env) :: starEach [] X.env := by rfl) (hpl : (backTo pos (starEach [] X.env)).any (·.1) = false := by rfl) :
    PS X (.Raise (some (.Call (.Name cn p) [a] [] pos)) none pos2) (tRaiseSup C fld W ta) := ps_raise hc tk (pmk_sup T hr ha hg nd he hpl)
end
end L2
set_option maxRecDepth 100000
set_option maxHeartbeats 4000000
/-! errors whose context is None: raising them, several except clauses with a name, and what is called and walked while one is handled -/
namespace NX
open PySem PySem.Spec PyProof.Rows L2
section
variable {P : Program} {w : World} {K : PySem.W.Frag} {mg : Str → Option Value} {base : Heap}
theorem okX {x qual : Str} {st : Stmt} {f : Addr} {fd : FuncData} {N ps : List Str} {k : Nat} {sp : Sp} (F : Fun K x qual st f fd) (S : FnScope N ps (defScope st)) (len : ∀ vs H Q E, sp vs H Q E → vs.length = ps.length)
    (body : ∀ (cdv : Value) (A : Around) (outer : List Env) (s : Shared) (H : Hp) (vs : List V) (Q : VK) (E : XK), Room k (A.deeper (envOfC qual (defScope st) s.heap.objs.size f cdv)) → sp vs H Q E →
      ∃ t, PSs (cxOf (L2N.CX P w) P w K mg base N qual (defScope st) f cdv A outer s H E) (defBody st) t ∧ t { nx := fun _ H' => Q .non H', rt := Q } (L2.start N vs) H) : FnOk P w K mg base (L2N.CX P w) (k + 1) f fd ps sp := by
  obtain ⟨_, _, _, _, _, _, cdv, _, _, rfl, lk, hcd⟩ := F.ex
  exact fn_of lk hcd S len fun A outer s H vs Q E hr => body cdv A outer s H vs Q E hr
theorem takes0 {X : Cx} : L2N.Takes X (fun _ _ _ _ => False) := fun _ _ x => by
  obtain ⟨_, _, _, _, _, _, _, _, _, _, _, _, _, _, _, _, w⟩ := x
  exact w.elim
end
section
variable {X : Cx} {C fI : Addr} {cn fld msg : Str}
theorem pmk_sup {a : Expr} {ta : TA} {p pos : Pos} {k : Nat} (T : PySem.Sup.SupTxt X.K X.mg X.prog cn fld msg C fI) (hr : Room k X.A) (ha : PA X [a] ta) (hg : Gl X cn := by rfl) (nd : (cn == ("__debug__" : Str)) = false := by decide)
    (he : starEach (a :: []) X.env = (false, eval a X.env) :: starEach [] X.env := by rfl) (hpl : (backTo pos (starEach [] X.env)).any (·.1) = false := by rfl) :
    L2N.PMk X (.Call (.Name cn p) [a] [] pos) (tMkSup C fld ta) := by
  intro pins s σ H Q I h
  refine wpAny_Call_Name_kw (ld_glob I hg T.gC ?_ nd)
  refine PySem.W.callWith_K (h₀ := X.base) I.ok.mod.kin T.kC (thn (ha.run pos pins s σ H _ I h) fun us s1 hh => ?_) he hpl
  obtain ⟨vs, H1, I1, r1, v, ev, q1⟩ := hh
  subst ev
  refine ⟨I1.kIn, ?_⟩
  cases r1 with
  | cons rv rn =>
    rename_i v' us'
    cases rn
    show wpAny _ _ (call (.ref C) [v']) _ _ _
    have hlim := I1.nolimit
    obtain ⟨mb, hb1, hb2⟩ := I1.mod.blt
    have hmb : mb "super" = some (.type "super") := (hb2 "super" (by decide)).trans (by decide +kernel)
    have hGl : s1.heap.Ns mainGlobals X.mg := I1.mod.glob.keeps I1.bk
    have hBl : s1.heap.Ns builtinsNs mb := hb1.keeps I1.bk
    obtain ⟨hp, g, dr, tk, os⟩ := s1
    refine wpAny_call (PySem.Sup.sup_made T I1.kIn hlim hGl hBl hmb (by have := hr.dp; omega) fun h' tk' e d M => ?_)
    show L2N.MkP X pins σ Q (.ref e) ⟨h', g, dr, tk', os⟩
    obtain ⟨kp, nw, ⟨oe, fv, hoe, hc, hd, hdat, h1, h2⟩, dbig, dne, hns⟩ := M
    obtain ⟨G', g1, g2⟩ := restrict h' fun b => decide (b ≠ e)
    have gk : ∀ b, b ≠ e → G'.get? b = h'.get? b := fun b hb => g1 b (decide_eq_true hb)
    have ge : G'.get? e = none := g2 e (by simp)
    have old : ∀ b o, hp.get? b = some o → G'.get? b = some o := fun b o q => (gk b (Nat.ne_of_lt (Nat.lt_of_lt_of_le (Heap.lt_size q) nw))).trans (kp b o q)
    have ob : ObjOk X.prog X.w (upd H1 d (.xd [(fld, v)])) G' d (.xd [(fld, v)]) :=
      ⟨_, hns.at (fun o q => (gk d dne).trans q), fun f => relO_one rv f⟩
    have J : Inv X pins σ (upd H1 d (.xd [(fld, v)])) ⟨G', g, dr, tk', os⟩ := I1.laid (t' := tk') old dbig ob
    refine ⟨e, oe, fv, ⟨G', g, dr, tk', os⟩, _, .ref C, some d, rfl, J, fun b o q => ?_, ge, hoe, ⟨hc, hd, fun vs ev => ?_⟩, hdat, h1, ?_, rfl, I1.bare, raises_own T.exC T.tyC, q1 d (I1.hok.fresh dbig)⟩
    · by_cases hb : b = e
      · have q' : G'.get? b = some o := q
        rw [hb, ge] at q'; cases q'
      · exact (gk b hb).symm.trans q
    · rw [hdat] at ev
      cases ev
      exact h2
    · rw [upd_ne (Ne.symm dne)]
      exact I1.hok.fresh nw
theorem ps_raiseSup {a : Expr} {ta : TA} {W : WX} {p pos pos2 : Pos} {k : Nat} (hc : X.calm = true) (T : PySem.Sup.SupTxt X.K X.mg X.prog cn fld msg C fI) (hr : Room k X.A) (tk : L2N.Takes X W) (ha : PA X [a] ta) (hg : Gl X cn := by rfl) (nd : (cn == ("__debug__" : Str)) = false := by decide)
    (he : starEach (a :: []) X.env = (false, eval a X.env) :: starEach [] X.env := by rfl) (hpl : (backTo pos (starEach [] X.env)).any (·.1) = false := by rfl) :
    PS X (.Raise (some (.Call (.Name cn p) [a] [] pos)) none pos2) (tRaiseSup C fld W ta) := L2N.ps_raise hc tk (pmk_sup T hr ha hg nd he hpl)
end
/-- while the error that a suite names is handled -/
theorem hot {X : Cx} {a : Addr} {oe : Obj} {cls : Value} {d : Option Addr} {pn : List (Addr × Obj)} (hz : L2N.Zn cls d oe) (hf : ∃ vs, oe.data = .fields vs) : L2H.HotC (X.suite a ((a, oe) :: pn)) :=
  let ⟨vs, hv⟩ := hf
  ⟨(a, oe), ⟨rfl, vs, hv, hz.2.2 vs hv⟩, List.mem_cons_self⟩
end NX
namespace NX
open PySem PySem.Spec PyProof.Rows L2
abbrev Cl := Value × Option Nat × (Addr → Value → Option Addr → TS)
/-- what follows the suite, once the name has gone -/
def endA (i : Option Nat) (D : Ends) : Ends := match i with
  | none => D
  | some i => { nx := fun σ' H' => D.nx (σ'.set i none) H', rt := D.rt, bk := fun σ' H' => D.bk (σ'.set i none) H', ct := fun σ' H' => D.ct (σ'.set i none) H' }
def stA (i : Option Nat) (a : Addr) (σ : L2.St) : L2.St := match i with
  | none => σ
  | some i => σ.set i (some (.ref a))
/-- what the clauses wish of an exception of the body -/
def wManyA (K : PySem.W.Frag) (Wout : WX) (D : Ends) : List Cl → WX
  | [] => Wout
  | (c, i, ts) :: r => fun cls d σ H => ∃ b, PySem.W.exmOne K cls c = some b ∧ (b = true → ∀ a, H a = none → ts a cls d (endA i D) (stA i a σ) H) ∧ (b = false → wManyA K Wout D r cls d σ H)
inductive HdsA (X : Cx) : List ExceptHandler → List Cl → Prop
  | nil : HdsA X [] []
  | only {x : Str} {c : Value} {ts : Addr → Value → Option Addr → TS} {b₀ : Stmt} {suite : List Stmt} {np pos' : Pos} {hds : List ExceptHandler} {l : List Cl} (hc : Names X x c)
      (hsu : ∀ (a : Addr) (oe : Obj) (cls : Value) (d : Option Addr) (pn : List (Addr × Obj)), L2N.Zn cls d oe → (∃ vs, oe.data = .fields vs) → PSs (X.suite a ((a, oe) :: pn)) (b₀ :: suite) (ts a cls d)) (r : HdsA X hds l) :
      HdsA X (.ExceptHandler (some (.Name x np)) none (b₀ :: suite) pos' :: hds) ((c, none, ts) :: l)
  | as {x n : Str} {i : Nat} {c : Value} {ts : Addr → Value → Option Addr → TS} {b₀ : Stmt} {suite : List Stmt} {np pos' : Pos} {hds : List ExceptHandler} {l : List Cl} (hN : X.N.Nodup) (hi : X.N[i]? = some n) (hln : X.env.kindOf n = some .local) (hc : Names X x c)
      (hsu : ∀ (a : Addr) (oe : Obj) (cls : Value) (d : Option Addr) (pn : List (Addr × Obj)), L2N.Zn cls d oe → (∃ vs, oe.data = .fields vs) → PSs (X.suite a ((a, oe) :: pn)) (b₀ :: suite) (ts a cls d)) (r : HdsA X hds l) :
      HdsA X (.ExceptHandler (some (.Name x np)) (some n) (b₀ :: suite) pos' :: hds) ((c, some i, ts) :: l)
section
variable {X : Cx} {body : List Stmt} {h₀ : ExceptHandler} {hds : List ExceptHandler} {l : List Cl} {pos : Pos} {tb : WX → TS} {Wout : WX}
theorem ps_try_manyA (hs : X.stack = X.env :: X.outer) (hf : X.env.frame = some X.env.locals) (tk : L2N.Takes X Wout)
    (hb : ∀ (W : WX) (pn : List (Addr × Obj)) (xe : Value → Shared → Prop), L2N.Takes (X.tr pn xe) W → PassesOwn (model X.prog X.w) X.A X.env xe → PSs (X.tr pn xe) body (tb W))
    (hh : HdsA X (h₀ :: hds) l) : PS X (.Try body (h₀ :: hds) [] [] pos) (fun D σ H => tb (wManyA X.K Wout D l) D σ H) := by
  refine ⟨fun pins s σ H D I h => ?_⟩
  have ok := I.ok
  have hfr : X.A.frames = some (X.env :: X.outer) := by rw [ok.frames, hs]
  refine wpAny_Try_except ?_
  refine wpAny_mono ((hb (wManyA X.K Wout D l) (X.pn ++ pins) (fun e s₁ => wpAny (model X.prog X.w) X.A (noteFrame e X.env) (fun _ s₂ => wpAny (model X.prog X.w) X.A (setFlight e none) (fun _ s₃ =>
    wpAny (model X.prog X.w) X.A (handleBy e X.env (h₀ :: hds)) (SP X pins D) X.xe s₃) X.xe s₂) X.xe s₁) (fun u s' xx => ?_) PassesOwn.looking).run [] s σ H D (I.toTry _) h) (fun f s1 hsp => ?_) (fun e s1 he => he)
  · -- the catch
    obtain ⟨a, B, sI, pins', σ', H', cls, d, rfl, J', nb, up, sky, na, os, ag, w⟩ := xx
    have J : Inv X pins σ' H' sI := J'.ofTry ok
    have sky' : Sky B (X.env :: X.outer) a (L2N.Zn cls d) X.env.locals s'.heap := by rw [← hs]; exact sky
    show wpAny (model X.prog X.w) X.A (noteFrame (.ref a) X.env) _ _ _
    refine L2N.Sky.land L2N.Zn.steady hfr hf sky' fun h3 fl3 up3 => ?_
    have J3 : Inv X pins σ' H' { s' with heap := h3 } := J.landed nb fl3.1 (up.trans up3) os ag
    obtain ⟨oe3, vs3, he3, hz3, hd3⟩ := fl3.there
    have notFr : ∀ {h : Heap} {o : Obj} {vs : Array Value}, h.FunFrames B (X.env :: X.outer) → h.get? a = some o → o.data = .fields vs → a ∉ frs (X.env :: X.outer) := fun {h o vs} ff e dd hm => by
      obtain ⟨_, o', e', hnf⟩ := ff.mem hm
      rw [e] at e'; cases e'
      exact hnf _ dd
    have nfr := notFr fl3.2.2.1 he3 hd3
    have nL : a ≠ X.env.locals := fun z => nfr (List.mem_filterMap.mpr ⟨X.env, List.mem_cons_self, by rw [hf, z]⟩)
    have nF : a ∉ X.fs := fun hm => by
      obtain ⟨e, he, q⟩ := List.mem_filterMap.mp hm
      exact nfr (List.mem_filterMap.mpr ⟨e, List.mem_cons_of_mem _ he, q⟩)
    have S3 := J3.suite he3 hd3 na nL nF
    have go : ∀ {hds' : List ExceptHandler} {l' : List Cl}, HdsA X hds' l' → wManyA X.K Wout D l' cls d σ' H' →
        wpAny (model X.prog X.w) X.A (handleBy (.ref a) X.env hds') (SP X pins D) X.xe { s' with heap := h3 } := by
      intro hds' l' hk
      induction hk with
      | nil =>
        intro w
        refine wpAny_handleBy_nil ?_
        obtain ⟨k1, k2, k3, oe, vs, T, oT, ts', he, hz, hd, h1, hr⟩ := id fl3
        unfold PySem.passOn
        refine wpAny_bind (wpAny_field he hd h1 ?_)
        rw [if_neg (show ¬ ((Value.ref T == Value.none) = true) from by simp)]
        have fin : wpAny (model X.prog X.w) X.A (setFlight (.ref a) X.env.frame) (fun _ s4 => wpAny (model X.prog X.w) X.A (throw (.ref a) : Sem Flow) (SP X pins D) X.xe s4) X.xe { s' with heap := h3 } := by
          rw [hf]
          refine HandSPX.setFlight_upZ fl3 fun h4 hh4 up4 => wpAny_throw (tk _ _ ?_)
          exact ⟨a, B, sI, pins, σ', H', cls, d, rfl, J, nb, (up.trans up3).trans up4, .inr (.inr (by rw [hs]; exact hh4)), na, os, ag, w⟩
        first
          | exact wpAny_bind (wpAny_pure (wpAny_bind fin))
          | exact wpAny_bind fin
      | @only x c ts b₀ suite np pos' hds2 l2 hc hsu r ih =>
        intro w
        obtain ⟨b, hb1, hyes, hno⟩ := w
        refine wpAny_handleBy_cons (codeAny_handlers_test ?_) (by intro q; cases q)
        have LT : PySem.W.Looks (model X.prog X.w) h3 (typeOf (.ref a)) cls := fun A Q E s k q => wpAny_typeOf_ref (k _ _ he3) (by rw [hz3.1]; exact q)
        have LM := PySem.W.exm_one (M := model X.prog X.w) (J3.kIn) LT hb1
        have test : ∀ {Q : Value → Shared → Prop} {E : Value → Shared → Prop}, Q c { s' with heap := h3 } → wpAny (model X.prog X.w) (X.A.mark (some (.ref a))) (eval (.Name x np) X.env) Q E { s' with heap := h3 } := fun {Q E} q => by
          obtain ⟨hg, hdbg, hm | ⟨hm, hv, hnn⟩⟩ := hc
          · exact ld_glob (X := X.suite a ((a, oe3) :: (X.pn ++ pins))) S3 hg hm q hdbg
          · exact ld_blt (X := X.suite a ((a, oe3) :: (X.pn ++ pins))) S3 hg hm hv q hnn hdbg
        refine test (LM.here ?_)
        cases b with
        | true =>
          refine codeAny_handlers_suite ?_
          refine HandSPX.lands_againZ fl3 fun h4 fl4 up4 => ?_
          have J4 : Inv X pins σ' H' { s' with heap := h4 } := J.landed nb fl4.1 ((up.trans up3).trans up4) os ag
          obtain ⟨oe4, vs4, he4, hz4, hd4⟩ := fl4.there
          have S4 := J4.suite he4 hd4 na nL nF
          refine wpAny_mono ((hsu a oe4 cls d (X.pn ++ pins) hz4 ⟨_, hd4⟩).run [] _ _ H' _ S4 (hyes rfl a na)) (fun f s6 hsp => ?_) (fun _ _ z => False.elim z)
          cases f with
          | next =>
            obtain ⟨σ6, H6, S6, q6⟩ := hsp
            exact ⟨_, _, S6.unsuite ok, q6⟩
          | brk =>
            obtain ⟨σ6, H6, S6, q6⟩ := hsp
            exact ⟨_, _, S6.unsuite ok, q6⟩
          | cont =>
            obtain ⟨σ6, H6, S6, q6⟩ := hsp
            exact ⟨_, _, S6.unsuite ok, q6⟩
          | ret u =>
            obtain ⟨v6, σ6, H6, S6, r6, q6⟩ := hsp
            exact ⟨_, _, _, S6.unsuite ok, r6, q6⟩
        | false =>
          show wpAny _ X.A (handleBy (.ref a) X.env hds2) _ _ _
          exact ih (hno rfl)
      | @as x n i c ts b₀ suite np pos' hds2 l2 hN hi hln hc hsu r ih =>
        intro w
        obtain ⟨b, hb1, hyes, hno⟩ := w
        have hloc : Loc X.env.scope n := .inl hln
        refine wpAny_handleBy_cons (codeAny_handlers_test ?_) (by intro q; cases q)
        have LT : PySem.W.Looks (model X.prog X.w) h3 (typeOf (.ref a)) cls := fun A Q E s k q => wpAny_typeOf_ref (k _ _ he3) (by rw [hz3.1]; exact q)
        have LM := PySem.W.exm_one (M := model X.prog X.w) (J3.kIn) LT hb1
        have test : ∀ {Q : Value → Shared → Prop} {E : Value → Shared → Prop}, Q c { s' with heap := h3 } → wpAny (model X.prog X.w) (X.A.mark (some (.ref a))) (eval (.Name x np) X.env) Q E { s' with heap := h3 } := fun {Q E} q => by
          obtain ⟨hg, hdbg, hm | ⟨hm, hv, hnn⟩⟩ := hc
          · exact ld_glob (X := X.suite a ((a, oe3) :: (X.pn ++ pins))) S3 hg hm q hdbg
          · exact ld_blt (X := X.suite a ((a, oe3) :: (X.pn ++ pins))) S3 hg hm hv q hnn hdbg
        refine test (LM.here ?_)
        cases b with
        | true =>
          refine codeAny_handlers_suite_as ?_
          refine HandSPX.lands_againZ fl3 fun h4 fl4 up4 => ?_
          have J4 : Inv X pins σ' H' { s' with heap := h4 } := J.landed nb fl4.1 ((up.trans up3).trans up4) os ag
          obtain ⟨oe4, vs4, he4, hz4, hd4⟩ := fl4.there
          have S4 := J4.suite he4 hd4 na nL nF
          refine store_ok (X := X.suite a ((a, oe4) :: (X.pn ++ pins))) (v := .ref a) S4 hN hi hloc rfl (fun s5 S5 => ?_) (.inr hln)
          refine wpAny_mono ((hsu a oe4 cls d (X.pn ++ pins) hz4 ⟨_, hd4⟩).run [] s5 _ H' _ S5 (hyes rfl a na)) (fun f s6 hsp => ?_) (fun _ _ z => False.elim z)
          have end_ : ∀ {σ6 : L2.St} {H6 : Hp} {Q : Shared → Prop}, Inv (X.suite a ((a, oe4) :: (X.pn ++ pins))) [] σ6 H6 s6 → (∀ s7, Inv X pins (σ6.set i none) H6 s7 → Q s7) →
              wpAny (model X.prog X.w) X.A (do bindName X.env n .none; unbindBehindTheSuite X.env n pos') (fun _ s7 => Q s7) X.xe s6 := fun {σ6 H6 Q} S6 hq => gone_ok (S6.unsuite ok) hN hi hln hq
          cases f with
          | next =>
            obtain ⟨σ6, H6, S6, q6⟩ := hsp
            exact end_ S6 fun s7 J7 => ⟨_, _, J7, q6⟩
          | brk =>
            obtain ⟨σ6, H6, S6, q6⟩ := hsp
            exact end_ S6 fun s7 J7 => ⟨_, _, J7, q6⟩
          | cont =>
            obtain ⟨σ6, H6, S6, q6⟩ := hsp
            exact end_ S6 fun s7 J7 => ⟨_, _, J7, q6⟩
          | ret u =>
            obtain ⟨v6, σ6, H6, S6, r6, q6⟩ := hsp
            exact end_ S6 fun s7 J7 => ⟨_, _, _, J7, r6, q6⟩
        | false =>
          show wpAny _ X.A (handleBy (.ref a) X.env hds2) _ _ _
          exact ih (hno rfl)
    exact go hh w
  · cases f with
    | next =>
      obtain ⟨σ', H', J', q⟩ := hsp
      exact wpAny_execs_nil ⟨σ', H', J'.ofTry ok, q⟩
    | brk =>
      obtain ⟨σ', H', J', q⟩ := hsp
      exact ⟨σ', H', J'.ofTry ok, q⟩
    | cont =>
      obtain ⟨σ', H', J', q⟩ := hsp
      exact ⟨σ', H', J'.ofTry ok, q⟩
    | ret u =>
      obtain ⟨v, σ', H', J', r, q⟩ := hsp
      exact ⟨v, σ', H', J'.ofTry ok, r, q⟩
end
end NX
set_option maxRecDepth 100000
set_option maxHeartbeats 4000000
/-! while an error is handled: defs that are handed it and raise nothing, list comprehensions over range -/
namespace NX
open PySem PySem.Spec PyProof.Rows L2 L2H
section
variable {P : Program} {w : World} {K : PySem.W.Frag} {mg : Str → Option Value} {base : Heap}
/-- what a def promises that is called while p's object is the error that is handled; p in the promise -/
structure FnP (P : Program) (w : World) (K : PySem.W.Frag) (mg : Str → Option Value) (base : Heap) (k : Nat) (f : Addr) (fd : FuncData) (ps : List Str) (sp : Addr × Obj → Sp) : Prop where
  len : ∀ p vs H Q E, sp p vs H Q E → vs.length = ps.length
  run : ∀ (A : Around) (outer : List Env) (s : Shared) (H : Hp) (args : Args) (us : List Value) (vs : List V) (Q : VK) (p : Addr × Obj), RoomH k A → Hot1 A p → PinOk outer H s p → Env0 P w K mg base A outer s H → BindsTo s fd args (ps.zip us) → Vals vs us →
    sp p vs H Q (fun _ _ _ => False) → codeAny (model P w) A (.call (.ref f) args) (CR CX0 outer P w H s Q fun _ _ _ => False) s
/-- such a def by its body -/
theorem okP {x qual : Str} {st : Stmt} {f : Addr} {fd : FuncData} {N ps : List Str} {k : Nat} {sp : Addr × Obj → Sp} (F : Fun K x qual st f fd) (S : FnScope N ps (defScope st)) (len : ∀ p vs H Q E, sp p vs H Q E → vs.length = ps.length)
    (body : ∀ (cdv : Value) (A : Around) (outer : List Env) (s : Shared) (H : Hp) (vs : List V) (Q : VK) (p : Addr × Obj), Hot1 (A.deeper (envOfC qual (defScope st) s.heap.objs.size f cdv)) p → RoomH k (A.deeper (envOfC qual (defScope st) s.heap.objs.size f cdv)) → sp p vs H Q (fun _ _ _ => False) →
      ∃ t, PSs (cxH CX0 P w K mg base N qual (defScope st) f cdv A outer s H (fun _ _ _ => False) p) (defBody st) t ∧ t { nx := fun _ H' => Q .non H', rt := Q } (L2.start N vs) H) : FnP P w K mg base (k + 1) f fd ps sp := by
  obtain ⟨oc, od, kV, doc, pm, an, cdv, ct, osl, rfl, lk, hcd⟩ := F.ex
  refine ⟨len, fun A outer s H args us vs Q p room hp pin e0 bind r h => ?_⟩
  have lenV := len _ _ _ _ _ h
  have inS : K.In s.heap := e0.mod.kin.keeps fun b o e => (e0.bs b o e).1
  have noLim : s.heap.NoLimit := e0.mod.nolimit.keeps fun b o e => (e0.bs b o e).1
  have kinds : ∀ y ∈ ps.zip us, (defScope st).names.lookup y.1 = some .local ∨ ((defScope st).names.lookup y.1 = some .cell ∧ ((cellsFrom (s.heap.objs.size + 1) (defScope st).names []).lookup y.1).isSome = true) := by
    rintro ⟨n, v⟩ hy
    cases S.par n (List.of_mem_zip hy).1 with
    | inl q => exact .inl q
    | inr q => exact .inr ⟨q, PySem.W.cellsFrom_some _ _ _ (.inl q)⟩
  refine codeAny_call_function room.depth (inS _ _ lk) rfl S.co S.gen rfl (PySem.W.codeRec_of inS hcd) (bind _ _ _ _ (wpAny_newFunctionEnv_cells S.kind kinds fun env he s1 y => ?_))
  subst he
  refine ⟨noLim.keeps y.toInCall.keep, codeAny_func ?_⟩
  obtain ⟨t, ht, hq⟩ := body cdv A outer s H vs Q p ⟨hp.1, hp.2⟩ (room.deeper _) h
  have I0 := inv_startH (CX := CX0) (E := fun _ _ _ => False) S pin e0 lenV r y
  refine wpAny_mono (ht.run [] s1 (L2.start N vs) H _ I0 hq) (fun fl s' hs => ?_) fun e s' hs => hs
  cases fl with
  | ret u => obtain ⟨v, σ', H', J, rv, q⟩ := hs; exact ⟨v, H', J.os, J.bare, J.base, J.hok, rv, q⟩
  | next => obtain ⟨σ', H', J, q⟩ := hs; exact ⟨V.non, H', J.os, J.bare, J.base, J.hok, rfl, q⟩
  | brk => obtain ⟨_, _, _, q⟩ := hs; exact q.elim
  | cont => obtain ⟨_, _, _, q⟩ := hs; exact q.elim
end
/-- the call, within the suite of the error at a; its object is not named -/
def tCallZ (sp : Addr × Obj → Sp) (a : Addr) (cls : Value) (d : Option Addr) (t : TA) : TE := fun σ H Q => t σ H fun vs H1 => ∀ oe : Obj, L2N.Zn cls d oe → (∃ fs, oe.data = .fields fs) → sp (a, oe) vs H1 Q fun _ _ _ => False
theorem pe_callZ {X : Cx} {k : Nat} {f : Addr} {fd : FuncData} {ps : List Str} {sp : Addr × Obj → Sp} {x : Str} {q pos : Pos} {e : Expr} {es : List Expr} {t : TA} {a : Addr} {oe : Obj} {cls : Value} {d : Option Addr} {pn : List (Addr × Obj)}
    (hz : L2N.Zn cls d oe) (hf : ∃ fs, oe.data = .fields fs) (F : FnP X.prog X.w X.K X.mg X.base k f fd ps sp) (hr : RoomH k X.A) (hg : Gl (X.suite a ((a, oe) :: pn)) x) (hm : X.mg x = some (.ref f)) (hk : PySem.W.keepIn X.K (.ref f) = true) (hb : Binds X.K fd ps [])
    (ha : PA (X.suite a ((a, oe) :: pn)) (e :: es) t) (hdb : (x == ("__debug__" : Str)) = false := by decide) (he : starEach (e :: es) X.env = (false, eval e X.env) :: starEach es X.env := by rfl) (hpl : (backTo pos (starEach es X.env)).any (·.1) = false := by rfl) :
    PE (X.suite a ((a, oe) :: pn)) (.Call (.Name x q) (e :: es) [] pos) (tCallZ sp a cls d t) := by
  refine ⟨fun pins s σ H Q I h => wpAny_Call_Name_kw (ld_glob I hg hm ?_ hdb)⟩
  refine PySem.W.callWith_K (h₀ := X.base) I.ok.mod.kin hk (thn (ha.run pos pins s σ H _ I h) fun us s1 ⟨vs, H1, I1, r, w0⟩ => ⟨I1.kIn, ?_⟩) he hpl
  have w1 := w0 oe hz hf
  have lenU : us.length = ps.length := by rw [← r.length]; exact F.len _ _ _ _ _ w1
  have bd := hb s1 us I1.kIn (by rw [List.append_nil]; exact lenU)
  rw [List.append_nil] at bd
  have P1 := I1.pin (a, oe) (List.mem_append_left _ List.mem_cons_self)
  have pin : PinOk X.stack H1 s1 (a, oe) := ⟨P1.1, P1.2.1, fun z => (List.mem_cons.mp (I1.stkSub a z)).elim P1.2.2.1 P1.2.2.2.1, P1.2.2.2.2⟩
  have hp : Hot1 (X.suite a ((a, oe) :: pn)).A (a, oe) := let ⟨fs, e⟩ := hf; ⟨rfl, fs, e, hz.2.2 fs e⟩
  refine wpAny_call (codeAny_mono (F.run (X.suite a ((a, oe) :: pn)).A X.stack s1 H1 ⟨us, []⟩ us vs Q (a, oe) ⟨hr.dp, hr.un⟩ hp pin I1.env0 bd r w1) fun r s' hq => ?_)
  cases r with
  | error e => exact hq.elim
  | ok fl =>
    cases fl with
    | ret u => exact I1.after hq
    | next => exact hq.elim
    | brk => exact hq.elim
    | cont => exact hq.elim
/-- isinstance(e, c), e the error that p is -/
def rIsP (K : PySem.W.Frag) (p : Addr × Obj) : List V → Hp → VK → Prop := fun xs H Q => ∃ (D dd : Addr) (fs : List (Str × V)) (c : V) (cv : Value) (b : Bool),
  Zc (.ref D) (some dd) p.2 ∧ (∃ vs, p.2.data = .fields vs) ∧ H dd = some (.xd fs) ∧ ExcC K D ∧ xs = [.ref p.1, c] ∧ ClsV c cv ∧ PySem.W.kitOne K (.ref D) cv = some b ∧ Q (.bl b) H
theorem call_isP {X : Cx} {p : Addr × Obj} (hp : p ∈ X.pn) : CallR X (.builtin "isinstance") (rIsP X.K p) := by
  intro pins s σ H xs us Q I r h
  obtain ⟨D, dd, fs, c, cv, b, hz, ⟨vs, hv⟩, hdd, C, rfl, hcv, e, q⟩ := h
  obtain ⟨u1, u2, rfl, r1, r2⟩ := vals2 r
  obtain rfl := hcv.eq r2
  cases (show u1 = Value.ref p.1 from r1)
  obtain ⟨got, _⟩ := I.pin p (List.mem_append_left _ hp)
  have hx : ObjOk X.prog X.w H s.heap dd (.xd fs) := I.hok dd _ hdd
  obtain ⟨mA, hns, _⟩ := hx
  obtain ⟨od, ho, _⟩ := lookIn_ns hns
  have J : PySem.W.InstAt s.heap p.1 p.2 D (some od) := ⟨got, hz.1, by unfold PySem.W.notCls; rw [hv] <;> rfl, by rw [hz.2]; exact ho⟩
  have isC : (PySem.W.clsIn X.K D).isSome = true := by
    obtain ⟨cd, hc, _⟩ := PySem.W.any_some C.hd
    rw [hc]
    rfl
  exact PySem.W.kia_one (PySem.W.kitx_exc isC C.hg C.hk C.hs C.ha C.hn C.ht C.hm) I.kIn J e (fun z => nomatch z) fun tk => ⟨.bl b, H, I.kept (t' := tk) fun _ _ z => z, rfl, q⟩

/-! ### a list comprehension while an error is handled -/
/-- a comprehension's block that bears the handled error -/
abbrev blkH (X : Cx) (p : Addr × Obj) (s : Shared) (H : Hp) (scope : Scope) (ce : Env) (fp : List Addr) : Cx := { X.blk s H scope ce fp with pn := [p] }
section
variable {X : Cx} {p : Addr × Obj}
theorem blkH_start {pins : List (Addr × Obj)} {σ : L2.St} {H : Hp} {s : Shared} {scope : Scope} {own : List (Str × Nat)} {fp : List Addr} (I : Inv X pins σ H s) (hp : p ∈ X.pn) (ok : BlkOk X.N X.env.scope scope own) (hN : X.N.Nodup) (hfp : ∀ b ∈ fp, FpOk X pins H b ∧ b < s.heap.objs.size) :
    Inv (blkH X p s H scope (compEnvC scope (cellsFrom (s.heap.objs.size + 1) scope.names (cloFrom X.env.cells scope.names [])) s.heap.objs.size X.env) fp) [] (wipe σ (own.map (·.2))) H { s with heap := pushCells (s.heap.push { cls := .type "dict", data := .dict #[] }) scope.names } := by
  have J := block_start I ok hN hfp
  have o := J.ok
  obtain ⟨g1, g2, g3, g4, g5⟩ := I.pin p (List.mem_append_left _ hp)
  refine ⟨⟨o.mod, o.kind, o.glob, o.blt, o.above, o.inj, o.has, o.cab, o.hd, o.frames, o.stk, o.exf, o.bs, o.bsz, o.noex, o.exfs, o.funs, o.frf⟩, J.os, J.bare, J.base, J.loc, J.cell, J.free, J.freeC, fun q hq => ?_, J.hok, J.len⟩
  obtain rfl : q = p := by simpa using hq
  refine ⟨pushCells_keeps _ _ _ _ (Heap.get?_push_of_some _ g1), g2, Nat.ne_of_lt (Heap.lt_size g1), fun z => ?_, g5⟩
  exact (List.mem_cons.mp (I.stkSub q.1 z)).elim g3 g4
theorem pe_lcH {elt tg iter : Expr} {ifs : List Expr} {scope : Scope} {own : List (Str × Nat)} {pos : Pos} {wi : TI} {g : TG} {tt : TT} {te : TE} (hp : p ∈ X.pn) (hot : Hot1 X.A p) (hN : X.N.Nodup) (hi : PIH X tg iter wi) (ok : BlkOk X.N X.env.scope scope own)
    (hg : ∀ (s : Shared) (H : Hp) (C : Addr) (cl : List (Str × Addr)) (fp : List Addr), PG (blkH X p s H scope (compEnvC scope cl C X.env) fp) tg g) (ht : ∀ (s : Shared) (H : Hp) (C : Addr) (cl : List (Str × Addr)) (fp : List Addr), PTs (blkH X p s H scope (compEnvC scope cl C X.env) fp) ifs tt)
    (he : ∀ (s : Shared) (H : Hp) (C : Addr) (cl : List (Str × Addr)) (fp : List Addr), PE (blkH X p s H scope (compEnvC scope cl C X.env) fp) elt te) (hs : ∀ x, foldedSetIterable iter X.env x = pure x := by intro _; rfl) :
    PE X (.ListComp elt [⟨tg, iter, ifs, 0⟩] scope pos) (tLc wi g tt te (own.map (·.2))) := by
  refine ⟨fun pins s σ H Q I h => ?_⟩
  rw [eval_ListComp]
  have hfree : ∀ y ∈ scope.names, y.2 = .free → ∃ c, X.env.cells.lookup y.1 = some c := fun y hy e => (ok.free y hy e).elim (fun k => I.ok.has _ (.inl k)) fun k => I.ok.has _ (.inr k)
  refine wpAny_comprehension_free (use := none) rfl hs (closure_ok hfree) ok.kind (fun y hy e => by rw [ok.uniq y hy, e])
    (thn (hi.run pins s σ H _ I h) fun xv s1 hx => thn hx fun itv s2 h2 => ?_)
  obtain ⟨it, fp, tn, J, H2, rfl, I2, T, st2, f2, q⟩ := h2
  refine wpAny_newObj_type (newEnv_comp ?_) (by show 0 ≤ sizeLine; decide)
  generalize hD : s2.heap.objs.size = D
  have hDn : H2 D = none := I2.hok.fresh (Nat.le_of_eq hD)
  obtain ⟨W, ⟨m0, w0⟩, turn⟩ := q D hDn
  generalize hs3 : ({ s2 with heap := s2.heap.push { cls := .type "list", data := .seq ([] : List Value).toArray } } : Shared) = s3
  have h3 : s3.heap = s2.heap.push { cls := .type "list", data := .seq ([] : List Value).toArray } := by rw [← hs3]
  have I3 : Inv X pins σ (upd H2 D (.lst [])) s3 := by
    rw [← hs3]
    exact I2.laid (t' := s2.toks) (fun b o e => Heap.get?_push_of_some _ e) (Nat.le_of_eq hD) ⟨Nat.zero_le _, [], 0, .nil, hD ▸ Heap.get?_push_size _ rfl⟩
  have f3 : ∀ b ∈ fp, FpOk X pins (upd H2 D (.lst [])) b ∧ b < s3.heap.objs.size := fun b hb => by
    obtain ⟨o, e, _⟩ := T.obj _ _ st2 b hb
    have hlt := Heap.lt_size e
    refine ⟨⟨?_, (f2 b hb).2⟩, by rw [h3, Heap.size_push]; exact Nat.lt_succ_of_lt hlt⟩
    rw [upd_ne (hD ▸ Nat.ne_of_lt hlt)]
    exact (f2 b hb).1
  have I4 := blkH_start (p := p) I3 hp ok hN f3
  have pg := hg s3 (upd H2 D (.lst [])) s3.heap.objs.size (cellsFrom (s3.heap.objs.size + 1) scope.names (cloFrom X.env.cells scope.names [])) fp
  have pt := ht s3 (upd H2 D (.lst [])) s3.heap.objs.size (cellsFrom (s3.heap.objs.size + 1) scope.names (cloFrom X.env.cells scope.names [])) fp
  have pe := he s3 (upd H2 D (.lst [])) s3.heap.objs.size (cellsFrom (s3.heap.objs.size + 1) scope.names (cloFrom X.env.cells scope.names [])) fp
  show codeAny _ _ (.compStart (.ListComp elt [⟨tg, iter, ifs, 0⟩] scope pos) 0 (.ref it) (.ref D) (compEnvC scope (cellsFrom (s3.heap.objs.size + 1) scope.names (cloFrom X.env.cells scope.names [])) s3.heap.objs.size X.env)) (compPost (model X.prog X.w) X.A X.xe none (EP X pins σ Q) (.ref D) s3.heap.objs.size) { s3 with heap := pushCells (s3.heap.push { cls := .type "dict", data := .dict #[] }) scope.names }
  generalize hce : compEnvC scope (cellsFrom (s3.heap.objs.size + 1) scope.names (cloFrom X.env.cells scope.names [])) s3.heap.objs.size X.env = ce at I4 pg pt pe ⊢
  have cL : ce.locals = s3.heap.objs.size := by subst hce; rfl
  have nfp : ∀ b ∈ fp, (upd H2 D (.lst [])) b = none := fun b hb => (f3 b hb).1.1
  generalize upd H2 D (.lst []) = H3 at *
  have keepP : ∀ b o, s2.heap.get? b = some o → (pushCells (s3.heap.push { cls := .type "dict", data := .dict #[] }) scope.names).get? b = some o := fun b o e => pushCells_keeps _ _ _ _ (Heap.get?_push_of_some _ (by rw [h3]; exact Heap.get?_push_of_some _ e))
  generalize hs4 : ({ s3 with heap := pushCells (s3.heap.push { cls := .type "dict", data := .dict #[] }) scope.names } : Shared) = s4 at I4 ⊢
  have st4 : tn 0 s4.heap := T.keep _ _ _ st2 fun b _ o e => by rw [← hs4]; exact keepP b o e
  have hotB : HotC (blkH X p s3 H3 scope ce fp) := ⟨p, hot, List.mem_singleton.mpr rfl⟩
  have far : ∀ b ∈ fp, p.1 ≠ b := fun b hb => (f3 b hb).1.2.2.2.2.2 p (List.mem_append_left _ hp)
  have stat : ∀ {σ' : L2.St} {H' : Hp} {s' : Shared}, Inv (blkH X p s3 H3 scope ce fp) [] σ' H' s' → (∀ b ∈ fp, H' b = none) → ∀ b ∈ fp, FpOk (blkH X p s3 H3 scope ce fp) [] H' b := fun {σ' H' s'} I' hn b hb =>
    ⟨hn b hb, (I'.ok.exf b hb).1, I'.ok.exfs b hb, .inl hb, fun x c e => (I'.ok.exf b hb).2 x c e, fun q hq => by
      obtain rfl : q = p := by simpa using hq
      exact far b hb⟩
  refine codeAny_compStart_list ?_ (T.self X.A 0 _ _ _ st4 ?_)
  all_goals
    refine compLoop_any (fun n s' => ∃ i H', Inv (blkH X p s3 H3 scope ce fp) [] (wipe σ (own.map (·.2))) H' s' ∧ tn i s'.heap ∧ (∀ b ∈ fp, H' b = none) ∧ W i n H') ?_ m0 ⟨0, H3, I4, st4, nfp, w0⟩
    rintro n s5 ⟨i, H5, I5, st5, n5, w5⟩
    rcases turn i n H5 w5 with ⟨stop, qq⟩ | ⟨go, Nx, hNx, step⟩
    · refine thnF (T.done (blkH X p s3 H3 scope ce fp) rfl rfl rfl hotB i [] s5 _ H5 (fun _ _ => False) I5 (stat I5 n5) st5 stop) fun r s6 ⟨hr, I6⟩ => ?_
      subst hr
      have I7 : Inv X pins σ H5 s6 := I3.call' (ch := fp) I6.os I6.base I6.hok I6.bare fun b hb => ⟨(f3 b hb).1.2.2.2.1, (f3 b hb).1.2.1, (f3 b hb).1.2.2.2.2.1, (f3 b hb).1.2.2.2.2.2⟩
      have nC : H5 s3.heap.objs.size = none := cL ▸ (show H5 ce.locals = none from I6.free)
      obtain ⟨m, hn, _⟩ := I6.loc
      have hn : s6.heap.Ns ce.locals m := hn
      rw [cL] at hn
      refine ⟨m, hn, fun h'' sb => ?_⟩
      obtain ⟨a0, a1, a2, a3, a4, a5⟩ := I3.fpOk (Nat.le_refl _) nC
      exact ⟨.ref D, H5, I7.turned (t' := s6.toks) (fun b o hb e => (sb.2 b hb).trans e) a0 a1 a3 a4 a5, rfl, qq⟩
    · refine thnF (T.item (blkH X p s3 H3 scope ce fp) rfl rfl rfl hotB i [] s5 _ H5 (fun _ _ => False) I5 (stat I5 n5) st5 go) fun r s6 ⟨u, hr, h6⟩ => ?_
      subst hr
      refine thnF h6 fun _ s7 ⟨x, H7, I7, r7, y7, st7, n7⟩ => ?_
      refine thnF (pg.run _ s7 _ H7 x u _ (I7.pinned (stat I7 n7) (T.obj _ _ st7)) r7 (step x H7 y7)) fun _ s8 ⟨σ8, H8, I8, hw8, q8⟩ => ?_
      refine thnF (pt.run _ s8 σ8 H8 _ I8 q8) fun b s9 ⟨H9, I9, q9⟩ => ?_
      have fin : ∀ {s' : Shared} {H' : Hp}, Inv (blkH X p s3 H3 scope ce fp) ([] ++ pinsAt fp s7.heap) σ8 H' s' → Nx H' → ∃ m, m < n ∧ ∃ i H', Inv (blkH X p s3 H3 scope ce fp) [] (wipe σ (own.map (·.2))) H' s' ∧ tn i s'.heap ∧ (∀ b ∈ fp, H' b = none) ∧ W i m H' := fun {s' H'} I' nx => by
        obtain ⟨m', hm, w'⟩ := hNx H' nx
        have still : ∀ b ∈ fp, ∀ o, s7.heap.get? b = some o → s'.heap.get? b = some o ∧ H' b = none := fun b hb o e =>
          let z := I'.pin (b, o) (List.mem_append_right _ (List.mem_append_right _ (mem_pinsAt hb e)))
          ⟨z.1, z.2.1⟩
        refine ⟨m', hm, i + 1, H', (I'.unpinned (pins := [])).weak (by rw [← hw8, wipe_length]) (fun j v e => ?_), T.keep _ _ _ st7 fun b hb o e => (still b hb o e).1, fun b hb => ?_, w'⟩
        · rw [← hw8] at e
          exact (wipe_some e).1
        · obtain ⟨o, e, _⟩ := T.obj _ _ st7 b hb
          exact (still b hb o e).2
      cases b with
      | false =>
        simp only [Bool.false_eq_true, if_false] at q9 ⊢
        exact fin I9 q9
      | true =>
        simp only [if_true] at q9 ⊢
        refine thnF (pe.run _ s9 σ8 H9 _ I9 q9) fun z s10 ⟨yv, H10, I10, r10, acc, hD10, hz10, nx⟩ => ?_
        exact app_ok (X := blkH X p s3 H3 scope ce fp) I10 hD10 hz10 r10 fun s11 I11 => fin I11 nx
end
end NX
set_option maxRecDepth 100000
set_option maxHeartbeats 4000000
/-! repr of tuples and lists: defs that are called while nothing is being shown -/
namespace GP
open PySem PySem.Spec PyProof.Rows L2
/-- what a def promises that is called while nothing is being shown -/
structure FnG (P : Program) (w : World) (K : PySem.W.Frag) (mg : Str → Option Value) (base : Heap) (k : Nat) (f : Addr) (fd : FuncData) (ps : List Str) (sp : Sp) : Prop where
  len : ∀ vs H Q E, sp vs H Q E → vs.length = ps.length
  run : ∀ (A : Around) (outer : List Env) (s : Shared) (H : Hp) (args : Args) (us : List Value) (vs : List V) (Q : VK) (E : XK), Room k A → A.guards = some [] → Env0 P w K mg base A outer s H → BindsTo s fd args (ps.zip us) → Vals vs us →
    sp vs H Q E → codeAny (model P w) A (.call (.ref f) args) (CR CX0 outer P w H s Q E) s
section
variable {P : Program} {w : World} {K : PySem.W.Frag} {mg : Str → Option Value} {base : Heap}
theorem FnG.of {k : Nat} {f : Addr} {fd : FuncData} {ps : List Str} {sp : Sp} (F : FnOk P w K mg base CX0 k f fd ps sp) : FnG P w K mg base k f fd ps sp :=
  ⟨F.len, fun A outer s H args us vs Q E hr _ => F.run A outer s H args us vs Q E hr⟩
/-- such a def by its body -/
theorem okG {x qual : Str} {st : Stmt} {f : Addr} {fd : FuncData} {N ps : List Str} {k : Nat} {sp : Sp} (F : Fun K x qual st f fd) (S : FnScope N ps (defScope st)) (len : ∀ vs H Q E, sp vs H Q E → vs.length = ps.length)
    (body : ∀ (cdv : Value) (A : Around) (outer : List Env) (s : Shared) (H : Hp) (vs : List V) (Q : VK) (E : XK), Room k (A.deeper (envOfC qual (defScope st) s.heap.objs.size f cdv)) → A.guards = some [] → sp vs H Q E →
      ∃ t, PSs (cxOf CX0 P w K mg base N qual (defScope st) f cdv A outer s H E).nox (defBody st) t ∧ t { nx := fun _ H' => Q .non H', rt := Q } (L2.start N vs) H) : FnG P w K mg base (k + 1) f fd ps sp := by
  obtain ⟨oc, od, kV, doc, pm, an, cdv, ct, osl, rfl, lk, hcd⟩ := F.ex
  refine ⟨len, fun A outer s H args us vs Q E room gd e0 bind r h => ?_⟩
  have lenV := len _ _ _ _ h
  have inS : K.In s.heap := e0.mod.kin.keeps fun b o e => (e0.bs b o e).1
  have noLim : s.heap.NoLimit := e0.mod.nolimit.keeps fun b o e => (e0.bs b o e).1
  have kinds : ∀ y ∈ ps.zip us, (defScope st).names.lookup y.1 = some .local ∨ ((defScope st).names.lookup y.1 = some .cell ∧ ((cellsFrom (s.heap.objs.size + 1) (defScope st).names []).lookup y.1).isSome = true) := by
    rintro ⟨n, v⟩ hy
    cases S.par n (List.of_mem_zip hy).1 with
    | inl q => exact .inl q
    | inr q => exact .inr ⟨q, PySem.W.cellsFrom_some _ _ _ (.inl q)⟩
  refine codeAny_call_function room.depth (inS _ _ lk) rfl S.co S.gen rfl (PySem.W.codeRec_of inS hcd) (bind _ _ _ _ (wpAny_newFunctionEnv_cells S.kind kinds fun env he s1 y => ?_))
  subst he
  refine ⟨noLim.keeps y.toInCall.keep, codeAny_func ?_⟩
  obtain ⟨t, ht0, hq⟩ := body cdv A outer s H vs Q E (room.deeper _) gd h
  have ht := ht0.nox
  have I0 := inv_start (CX := CX0) (E := E) S room.hd e0 lenV r y
  refine wpAny_mono (ht.run [] s1 (L2.start N vs) H _ I0 hq) (fun fl s' hs => ?_) fun e s' hs => hs
  cases fl with
  | ret u => obtain ⟨v, σ', H', J, rv, q⟩ := hs; exact ⟨v, H', J.os, J.bare, J.base, J.hok, rv, q⟩
  | next => obtain ⟨σ', H', J, q⟩ := hs; exact ⟨V.non, H', J.os, J.bare, J.base, J.hok, rfl, q⟩
  | brk => obtain ⟨_, _, _, q⟩ := hs; exact q.elim
  | cont => obtain ⟨_, _, _, q⟩ := hs; exact q.elim
end
section
variable {X : Cx} {k : Nat} {f : Addr} {fd : FuncData} {ps : List Str} {sp : Sp} {x : Str} {q pos : Pos} {e : Expr} {es : List Expr} {t : TA} {E : XK}
/-- the call of such a def -/
theorem pe_callG (F : FnG X.prog X.w X.K X.mg X.base k f fd ps sp) (hr : Room k X.A) (gd : X.A.guards = some []) (hg : Gl X x) (hm : X.mg x = some (.ref f)) (hk : PySem.W.keepIn X.K (.ref f) = true) (hb : Binds X.K fd ps []) (hx : Passes CX0 X E)
    (ha : PA X (e :: es) t) (hdb : (x == ("__debug__" : Str)) = false := by decide) (he : starEach (e :: es) X.env = (false, eval e X.env) :: starEach es X.env := by rfl) (hpl : (backTo pos (starEach es X.env)).any (·.1) = false := by rfl) :
    PE X (.Call (.Name x q) (e :: es) [] pos) (tCall sp [] E t) := by
  refine ⟨fun pins s σ H Q I h => wpAny_Call_Name_kw (ld_glob I hg hm ?_ hdb)⟩
  refine PySem.W.callWith_K (h₀ := X.base) I.ok.mod.kin hk (thn (ha.run pos pins s σ H _ I h) fun us s1 ⟨vs, H1, I1, r, w0⟩ => ⟨I1.kIn, ?_⟩) he hpl
  have w1 : sp (vs ++ []) H1 Q E := w0
  rw [List.append_nil] at w1
  have lenU : us.length = ps.length := by rw [← r.length]; exact F.len _ _ _ _ w1
  have bd := hb s1 us I1.kIn (by rw [List.append_nil]; exact lenU)
  rw [List.append_nil] at bd
  refine wpAny_call (codeAny_mono (F.run X.A X.stack s1 H1 ⟨us, []⟩ us vs Q E hr gd I1.env0 bd r w1) fun r s' hq => ?_)
  cases r with
  | error e => exact hx pins σ H1 s1 e s' I1 hq
  | ok fl =>
    cases fl with
    | ret u => exact I1.after hq
    | next => exact hq.elim
    | brk => exact hq.elim
    | cont => exact hq.elim
/-- repr of a tuple or a list -/
theorem call_reprD (gd : X.A.guards = some []) (hu : X.A.units + 70 < cLine) : CallR X (.builtin "repr") (fun xs H Q => ∃ p d, xs = [.ref p] ∧ Dp X.K H (.ref p) d ∧ d.showable = true ∧ d.hasDict = false ∧ d.depth ≤ 60 ∧ d.shown.length ≤ sizeLine ∧ Q (.str d.shown) H) := by
  intro pins s σ H xs us Q I r h
  obtain ⟨p, d, rfl, hd, sh, nd, dep, hsz, q⟩ := h
  obtain ⟨u, rfl, ru⟩ := vals1 r
  cases (show u = Value.ref p from ru)
  obtain ⟨as, r1⟩ := Dp.reads I d (.ref p) (.ref p) hd rfl
  exact repr_of_reads' r1 sh (fun z => by rw [nd] at z; cases z) gd (by omega) (fun _ _ z => z) (fun h' u tk hk => ⟨.str d.shown, H, I.kept (t' := tk) hk, ⟨u, rfl⟩, q⟩) hsz
end
end GP
set_option maxRecDepth 100000
set_option maxHeartbeats 4000000
namespace GP
open PySem PySem.Spec PyProof.Rows L2
section
variable {P : Program} {w : World} {K : PySem.W.Frag} {mg mb : Str → Option Value} {k : Nat} {fa script : Addr} {fd : FuncData} {x : Str} {sp : Sp} {st : Shared} {cells : List Value} {ns : List Int}
def Fin0 (st : Shared) : Except Value Flow → Shared → Prop := fun r s2 => r = .ok (.ret (.bool true)) ∧ OldK st.heap s2.heap ∧ s2.os = st.os ∧ AllBare s2.gens
/-- the law, from a heap in which at most the script is told -/
theorem law_part (inK : K.In st.heap) (g1 : st.heap.Ns mainGlobals mg) (g2 : st.heap.Ns builtinsNs mb) (g3 : ∀ x : Str, x ≠ "__name__" → mb x = bootBuiltins x) (g4 : st.heap.NoLimit) (g5 : st.gens = #[])
    (is : st.heap.get? script = some { cls := .type "list", data := .seq cells.toArray }) (room : Room k callerA) (F : ∀ base : Heap, K.In base → base.Ns mainGlobals mg → FnG P w K mg base k fa fd [x] sp) (bind : ∀ (s : Shared) (u : Value), BindsTo s fd ⟨[u], []⟩ [(x, u)])
    (H : Hp) (only : Only H) (h : sp [.ref script] H (fun v _ => v = .bl true) fun _ _ _ => False) (ok : HOk P w H st.heap) (one : ∀ b, H b ≠ none → b = script) (notK : H script ≠ none → K.lookup script = none) :
    codeAny (model P w) callerA (.call (.ref fa) ⟨[.ref script], []⟩) (Fin0 st) st := by
  have seen : ∀ {b : Addr} {o : Obj}, st.heap.get? b = some o → H b = none → (hidT st.heap H).get? b = some o := fun a1 a2 => hidT_get a1 a2
  have free : ∀ {b : Addr} {o : Obj} {es : Array DictEntry} {ep : Nat}, st.heap.get? b = some o → o.data = .dict es ep → H b = none := by
    intro b o es ep a1 a2
    rcases e : H b with _ | u
    · rfl
    · have := one b (by rw [e]; exact fun z => nomatch z)
      rw [this, is] at a1
      rw [← Option.some.inj a1] at a2
      cases a2
  have names : ∀ {b : Addr} {m : Str → Option Value}, st.heap.Ns b m → (hidT st.heap H).Ns b m := by
    rintro b m ⟨o, es, ep, a1, a2, a3⟩
    exact ⟨o, es, ep, seen a1 (free a1 a2), a2, a3⟩
  have inB : K.In (hidT st.heap H) := by
    intro b o a1
    refine seen (inK b o a1) ?_
    rcases e : H b with _ | u
    · rfl
    · have := one b (by rw [e]; exact fun z => nomatch z)
      rw [this] at e a1
      rw [notK (by rw [e]; exact fun z => nomatch z)] at a1
      cases a1
  obtain ⟨mc, c1, c2⟩ := g4
  have M : Mod K mg (hidT st.heap H) := ⟨inB, names g1, ⟨mb, names g2, g3⟩, ⟨mc, names c1, c2⟩⟩
  have e0 : Env0 P w K mg (hidT st.heap H) callerA [] st H := ⟨rfl, M, fun b o e => of_hidT e, Nat.le_of_eq (hidT_size _ _), trivial, fun b hb => absurd hb List.not_mem_nil, ok, .of_eq g5⟩
  have R := (F _ inB (names g1)).run callerA [] st H ⟨[.ref script], []⟩ [.ref script] [.ref script] _ _ room rfl e0 (bind st (.ref script)) (.cons rfl .nil) h
  refine codeAny_mono R fun r s2 z => ?_
  match r, z with
  | .error e, z => exact absurd z (fun y => by exact y.elim)
  | .ok .next, z => exact z.elim
  | .ok .brk, z => exact z.elim
  | .ok .cont, z => exact z.elim
  | .ok (.ret u), ⟨v, H2, os, bare, un, ok2, ru, hv⟩ =>
    have hv2 : v = .bl true := hv
    rw [hv2] at ru
    have ru2 : u = Value.bool true := ru
    rw [ru2]
    refine ⟨rfl, OldK.of_keep fun b o a1 => ?_, os, bare⟩
    rcases e : H b with _ | t
    · exact un.keep b o a1 e (fun z => absurd z List.not_mem_nil) List.not_mem_nil
    · rcases only b with z | ⟨ob, xs, z⟩
      · rw [e] at z; cases z
      · have f1 := (ok b _ z).1
        have f2 := (ok2 b _ (un.frzs b ob _ z)).1
        rw [a1] at f1
        rw [Option.some.inj f1]
        exact f2
theorem law_whole (inK : K.In st.heap) (g1 : st.heap.Ns mainGlobals mg) (g2 : st.heap.Ns builtinsNs mb) (g3 : ∀ x : Str, x ≠ "__name__" → mb x = bootBuiltins x) (g4 : st.heap.NoLimit) (g5 : st.gens = #[])
    (is : st.heap.get? script = some { cls := .type "list", data := .seq cells.toArray }) (nums : IntsAre cells ns) (few : ns.length ≤ sizeLine) (room : Room k callerA) (F : ∀ base : Heap, K.In base → base.Ns mainGlobals mg → FnG P w K mg base k fa fd [x] sp)
    (bind : ∀ (s : Shared) (u : Value), BindsTo s fd ⟨[u], []⟩ [(x, u)]) (h : ∀ H : Hp, Only H → SqL K H script (ns.map V.int) → sp [.ref script] H (fun v _ => v = .bl true) fun _ _ _ => False) :
    codeAny (model P w) callerA (.call (.ref fa) ⟨[.ref script], []⟩) (Fin0 st) st := by
  have vals := vals_ints nums
  have len := nums.length
  rcases e : K.lookup script with _ | o
  · let ob : Obj := { cls := .type "list", data := .seq cells.toArray }
    let G : Hp := fun b => if b = script then some (.frz ob (.lst (ns.map V.int))) else none
    have at1 : G script = some (.frz ob (.lst (ns.map V.int))) := if_pos rfl
    have at2 : ∀ b, b ≠ script → G b = none := fun b n => if_neg n
    refine law_part inK g1 g2 g3 g4 g5 is room F bind G (fun b => ?_) (h G (fun b => ?_) (.inl (.inr ⟨ob, at1⟩))) (fun b u z => ?_) (fun b z => ?_) fun _ => e
    · by_cases n : b = script
      · exact .inr ⟨ob, _, by rw [n]; exact at1⟩
      · exact .inl (at2 b n)
    · by_cases n : b = script
      · exact .inr ⟨ob, _, by rw [n]; exact at1⟩
      · exact .inl (at2 b n)
    · by_cases n : b = script
      · subst n
        cases at1.symm.trans z
        exact ⟨is, by rw [List.length_map]; exact few, cells, _, vals, is⟩
      · cases (at2 b n).symm.trans z
    · by_cases n : b = script
      · exact n
      · exact absurd (at2 b n) z
  · have mine := inK script o e
    rw [is] at mine
    cases mine
    let G : Hp := fun _ => none
    exact law_part inK g1 g2 g3 g4 g5 is room F bind G (fun _ => .inl rfl) (h G (fun _ => .inl rfl) (.inr ⟨_, cells.toArray, _, e, rfl, rfl, rfl, by rw [List.size_toArray, len]; exact few, by simpa using vals⟩)) (fun _ _ z => nomatch z) (fun _ z => absurd rfl z) fun z => absurd rfl z
end
theorem walk_ofG {l : PySem.W.OpenLaw} {n k : Nat} {q : Program} {loose : List Str} {XP : (Str → Option Value) → Heap → Prop} {YP : World → Heap → Prop} {d : DefRec} {K : Params → PySem.W.Frag} {sp : World → Sp} {x : Str}
    (most : l.most = some n) (few : n ≤ sizeLine) (plain : d.params.defaults = []) (room : Room k callerA) (inK : ∀ (w : World) (h : Heap), YP w h → (K w.params).In h)
    (F : ∀ (w : World) (mg : Str → Option Value) (fa : Addr) (h : Heap), (K w.params).In h → h.Ns mainGlobals mg → mg d.name = some (.ref fa) →
      ∃ fd : FuncData, (∀ (s : Shared) (u : Value), BindsTo s fd ⟨[u], []⟩ [(x, u)]) ∧ ∀ base : Heap, (K w.params).In base → base.Ns mainGlobals mg → FnG l.prog w (K w.params) mg base k fa fd [x] (sp w))
    (h : ∀ (w : World) (H : Hp) (a : Addr) (ns : List Int), ns.length ≤ n → Only H → SqL (K w.params) H a (ns.map V.int) → sp w [.ref a] H (fun v _ => v = .bl true) fun _ _ _ => False) :
    PySem.W.WalkO q loose XP YP l.row.toRowW d [] (fun f vs => PySem.call f vs) := by
  refine Att.attach_call most plain fun w _ _ mg _ fa _ _ _ _ a cells ns S Y _ _ _ named is nums len gens => ?_
  obtain ⟨fd, bind, G⟩ := F w mg fa _ (inK w _ Y) S.T.g named
  exact law_whole (inK w _ Y) S.T.g S.T.b S.T.builtins S.T.nolimit gens is nums (Nat.le_trans len few) room G bind fun H only z => h w H a ns len only z
end GP
set_option maxRecDepth 100000
set_option maxHeartbeats 4000000
/-! which data repr may be asked of -/
namespace GP
open PySem PySem.Spec PyProof.Rows L2
structure Rp (n c : Nat) (d : PyData) : Prop where
  sh : d.showable = true
  nd : d.hasDict = false
  dp : d.depth ≤ n
  ln : d.shown.length ≤ c
theorem Rp.mono {n c m e : Nat} {d : PyData} (r : Rp n c d) (h1 : n ≤ m) (h2 : c ≤ e) : Rp m e d := ⟨r.sh, r.nd, Nat.le_trans r.dp h1, Nat.le_trans r.ln h2⟩
theorem Rp.none : Rp 0 4 .none := ⟨by simp [PyData.showable], by simp [PyData.hasDict], by simp [PyData.depth], by simp only [PyData.shown]; decide +kernel⟩
theorem Rp.int {i : Int} (h : i.natAbs.log2 < 1920) : Rp 0 1921 (.int i) := ⟨by simp only [PyData.showable]; exact decide_eq_true h, by simp [PyData.hasDict], by simp [PyData.depth], by simp only [PyData.shown]; exact int_text_len_1921 h⟩
theorem Rp.str {x : Str} (h : ∀ c ∈ x.cps.toList, c < 16 ^ 8) : Rp 0 (10 * x.length + 2) (.str x) := ⟨by simp [PyData.showable], by simp [PyData.hasDict], by simp [PyData.depth], by simp only [PyData.shown]; exact StrLaws.reprText_len x h⟩
theorem all_sh : ∀ {n c : Nat} {ds : List PyData}, (∀ d ∈ ds, Rp n c d) → PyData.showableAll ds = true ∧ PyData.hasDictAll ds = false ∧ PyData.depthAll ds ≤ n ∧ piled (PyData.shownAll ds) ≤ ds.length * (c + 2)
  | n, c, [], _ => ⟨by simp [PyData.showableAll], by simp [PyData.hasDictAll], by simp [PyData.depthAll], by simp [PyData.shownAll, piled]⟩
  | n, c, d :: ds, h => by
    have r := h d List.mem_cons_self
    obtain ⟨h1, h2, h3, h4⟩ := all_sh (n := n) (c := c) (ds := ds) fun x hx => h x (List.mem_cons_of_mem _ hx)
    refine ⟨by simp only [PyData.showableAll, r.sh, h1, Bool.and_self], by simp only [PyData.hasDictAll, r.nd, h2, Bool.or_self], ?_, ?_⟩
    · simp only [PyData.depthAll]
      exact Nat.max_le.mpr ⟨r.dp, h3⟩
    · simp only [PyData.shownAll]
      rw [piled_cons, List.length_cons, Nat.add_mul, Nat.one_mul]
      have := r.ln
      omega
theorem Rp.tuple {n c : Nat} {ds : List PyData} (h : ∀ d ∈ ds, Rp n c d) : Rp (n + 1) (ds.length * (c + 2) + 2) (.tuple ds) := by
  obtain ⟨h1, h2, h3, h4⟩ := all_sh h
  refine ⟨by simp only [PyData.showable, h1], by simp only [PyData.hasDict, h2], by simp only [PyData.depth]; omega, ?_⟩
  simp only [PyData.shown]
  exact Nat.le_trans (fmt_text _) (by omega)
theorem list_text (ts : List Str) : (listText ts).length ≤ piled ts + 2 := by
  have e1 : (("[" : Str)).length = 1 := rfl
  have e2 : (("]" : Str)).length = 1 := rfl
  rw [listText_eq_join, strLen_append, strLen_append, e1, e2]
  by_cases h : ts = []
  · subst h
    decide +kernel
  · have := join_length_add ts h
    omega
theorem Rp.list {n c : Nat} {ds : List PyData} (h : ∀ d ∈ ds, Rp n c d) : Rp (n + 1) (ds.length * (c + 2) + 2) (.list ds) := by
  obtain ⟨h1, h2, h3, h4⟩ := all_sh h
  refine ⟨by simp only [PyData.showable, h1], by simp only [PyData.hasDict, h2], by simp only [PyData.depth]; omega, ?_⟩
  simp only [PyData.shown]
  exact Nat.le_trans (list_text _) (by omega)
section
variable {X : Cx}
theorem call_reprR (gd : X.A.guards = some []) (hu : X.A.units + 70 < cLine) : CallR X (.builtin "repr") (fun xs H Q => ∃ p d n c, xs = [.ref p] ∧ Dp X.K H (.ref p) d ∧ Rp n c d ∧ n ≤ 60 ∧ c ≤ sizeLine ∧ Q (.str d.shown) H) := by
  intro pins s σ H xs us Q I r h
  obtain ⟨p, d, n, c, rfl, hd, rp, hn, hc, q⟩ := h
  exact call_reprD gd hu pins s σ H [.ref p] us Q I r ⟨p, d, rfl, hd, rp.sh, rp.nd, Nat.le_trans rp.dp hn, Nat.le_trans rp.ln hc, q⟩
end
end GP
set_option maxRecDepth 100000
set_option maxHeartbeats 3200000
/-! set(texts) and sorted of it -/
namespace TSet
open PySem PySem.Spec PyProof.Rows L2 Froz
def txtOf : Int × Value → Str | (_, .str x _) => x | _ => Str.empty
/-- the payload D of a set holds exactly the texts l, and can be walked -/
structure Txs (P : Program) (w : World) (D : SD) (l : List Str) : Prop where
  ok : TxOk P w D l
  pm : (D.1.toList.map txtOf).Perm l
  all : ∀ e ∈ D.1.toList, ∃ x t, e.2 = Value.str x t
  nd : l.Nodup
  ris : Ris D.2.2.place.toList
  led : w.params.followText "set-order" = true ∨ D.2.2.led = true
section
variable {P : Program} {w : World} {A : Around} {E : Value → Shared → Prop} {s : Shared}
theorem tail_perm (ep : Nat) (es : Array (Int × Value)) (t : SetTable) (b : Bool) : (tailTx ep es t b).1.toList.Perm es.toList := by
  unfold tailTx
  split
  · exact relayAll_perm _ _ _
  · exact List.Perm.refl _
theorem tail_ris (ep : Nat) (es : Array (Int × Value)) (t : SetTable) (b : Bool) (r : Ris t.place.toList) : Ris (tailTx ep es t b).2.2.place.toList := by
  unfold tailTx
  split
  · exact relayAll_ris _ _ _
  · exact r
theorem tail_led (ep : Nat) (es : Array (Int × Value)) (t : SetTable) (b : Bool) : (tailTx ep es t b).2.2.led = t.led := by
  unfold tailTx
  split
  · exact relayAll_led _ _ _
  · rfl
theorem Txs.add {D : SD} {l : List Str} {k : Str} (u : Tok) (F : Txs P w D l) (hk : k ∉ l) : Txs P w (addTx (hashStr w k) (.str k u) D) (k :: l) := by
  have hp : (addTx (hashStr w k) (.str k u) D).1.toList.Perm ((hashStr w k, Value.str k u) :: D.1.toList) := by
    refine (tail_perm _ _ _ _).trans ((layNew_perm _ _ _ _).trans ?_)
    rw [Array.toList_push]
    exact List.perm_append_singleton _ _
  refine ⟨add_ok u F.ok, ?_, fun e he => ?_, List.nodup_cons.mpr ⟨hk, F.nd⟩, tail_ris _ _ _ _ ?_, ?_⟩
  · exact (hp.map txtOf).trans (List.Perm.cons _ F.pm)
  · rcases List.mem_cons.mp (hp.mem_iff.mp he) with z | z
    · exact ⟨k, u, by rw [z]⟩
    · exact F.all e z
  · have r := layNew_ris D.2.2 D.1 (hashStr w k) (.str k u) F.ris
    split <;> exact r
  · refine F.led.imp id fun z => ?_
    refine (tail_led _ _ _ _).trans ?_
    have q := (layNew_led D.2.2 D.1 (hashStr w k) (.str k u)).trans z
    split <;> exact q
/-- a text that is there already -/
theorem add_old {a : Addr} {T : String} {D : SD} {l : List Str} {k : Str} {u : Tok} {Q : Bool → Shared → Prop} (at_ : s.heap.get? a = some (sObj T D)) (F : TxOk P w D l) (hk : k ∈ l) (few : l.length + 1 < scanBound) (h : Q false s) :
    wpAny (model P w) A (setAddHashed a (.str k u) (hashStr w k)) Q E s := by
  obtain ⟨es, ep, t⟩ := D
  have dt : (sObj T (es, ep, t)).data = .set es ep t := rfl
  have el : ElemsOf (strKind P w) es.toList := F.el
  have sz : es.size < scanBound := by have : es.size = l.length := F.sz; omega
  obtain ⟨j, hj⟩ : ∃ j, List.findIdx? (fun e => (strKind P w).is k e.2) es.toList = some j := by
    obtain ⟨e, he, q⟩ := (F.mem k).mp hk
    cases hr : List.findIdx? (fun e => (strKind P w).is k e.2) es.toList with
    | some j => exact ⟨j, rfl⟩
    | none =>
      have c := List.findIdx?_eq_none_iff.mp hr e he
      rw [q] at c
      cases c
  unfold setAddHashed
  unfold setAddHashedIn
  refine wpAny_holding (wpAny_bind (wpAny_setState_of at_ dt F.fit ?_))
  dsimp only
  rw [byScan_of rfl sz el]
  simp only [↓reduceIte]
  unfold setAddByScan
  refine wpAny_bind (wpAny_bind (wpAny_rule (wpAny_bind (wpAny_setScan_of (knd := strKind P w) (k := k) (is_str k u) at_ dt F.fit el ?_))))
  rw [hj]
  dsimp only
  exact wpAny_pure (wpAny_pure h)
theorem add_any {a : Addr} {D : SD} {l : List Str} {k : Str} {u : Tok} {Q : Bool → Shared → Prop} (at_ : s.heap.get? a = some (sObj "set" D)) (F : Txs P w D l) (few : l.length + 1 < scanBound)
    (h : ∀ b h' D' l', Heap.SameBut a s.heap h' → h'.get? a = some (sObj "set" D') → Txs P w D' l' → (∀ z, z ∈ l' ↔ z = k ∨ z ∈ l) → l'.length ≤ l.length + 1 → Q b { s with heap := h' }) :
    wpAny (model P w) A (setAddHashed a (.str k u) (hashStr w k)) Q E s := by
  by_cases hk : k ∈ l
  · exact add_old at_ F.ok hk few (h false s.heap D l (Heap.SameBut.refl a _) at_ F (fun z => ⟨.inr, fun q => q.elim (fun e => e ▸ hk) id⟩) (by omega))
  · refine add_x at_ F.ok hk few (h true _ _ _ ?_ (get_upd _ at_ rfl) (F.add u hk) (fun z => List.mem_cons) (Nat.le_refl _))
    exact ⟨Heap.size_after_update _ _ _, fun b hb => Heap.get?_update_ne _ _ _ _ hb⟩
end
section
variable {P : Program} {w : World} {A : Around} {E : Value → Shared → Prop} {s : Shared}
/-- the loop of set's making, for any way of adding: T i h says what the set is behind i items -/
theorem loop_any {I : Addr} {fp wr : List Addr} {G : Array GenState → Array GenState → Prop} {n : Nat} {Pv : Nat → Value → Prop} {St : Nat → Shared → Prop} {R : Result → Shared → Prop} (W : WalksS P w A.in1 I fp wr G n Pv St)
    {S : Addr} (out : S ∉ fp) (T : Nat → Heap → Prop) (fr : ∀ i h h', T i h → (∀ b o, b ∉ wr → h.get? b = some o → h'.get? b = some o) → T i h')
    (add : ∀ i v (s : Shared) (E : Value → Shared → Prop) (Q : Bool → Shared → Prop), i < n → Pv i v → T i s.heap → (∀ b h' tk, s.toks ≤ tk → Heap.SameBut S s.heap h' → T (i + 1) h' → Q b { s with heap := h', toks := tk }) → wpAny (model P w) A.in1 (setAdd S v) Q E s) :
    ∀ (k i : Nat) (s : Shared), n - i = k → i ≤ n → St i s → T i s.heap → (∀ s', Moved (S :: wr) G s s' → T n s'.heap → R (.ok (.ret .none)) s') → codeAny (model P w) A (.builtin "set.update.loop" ⟨[.ref S, .ref I], []⟩) R s := by
  intro k
  induction k with
  | zero =>
    intro i s ek ei st t r
    obtain rfl : i = n := by omega
    refine codeAny_builtin F.entry_set_update_loop ?_
    rw [Around.under_plainId F.plain_set_update_loop _]
    show wpAny (model P w) A.in1 (pyNext (.ref I) >>= _) _ _ s
    refine wpAny_bind (W.done s _ _ st fun s1 m => ?_)
    show wpAny (model P w) A.in1 (ret Value.none) _ _ s1
    exact wpAny_pure (r s1 ⟨fun b o nb => m.heap b o fun z => nb (List.mem_cons_of_mem _ z), m.gens, m.drawn, m.os, m.toks⟩ (fr i _ _ t m.heap))
  | succ k ih =>
    intro i s ek ei st t r
    have lt : i < n := by omega
    refine codeAny_builtin F.entry_set_update_loop ?_
    rw [Around.under_plainId F.plain_set_update_loop _]
    show wpAny (model P w) A.in1 (pyNext (.ref I) >>= _) _ _ s
    refine wpAny_bind (W.item i s _ _ lt st fun v s1 pv st1 m => ?_)
    show wpAny (model P w) A.in1 (holding [v] (setAdd S v) >>= _) _ _ s1
    refine wpAny_bind (wpAny_holding (add i v s1 _ _ lt pv (fr i _ _ t m.heap) fun b h' tk tk' same t' => ?_))
    refine wpAny_pure ⟨plainId_quiet F.plain_set_update_loop _, ih (i + 1) _ (by omega) lt (W.frame _ s1 _ _ st1 tk' fun c hc o e => ?_) t' fun s2 m2 t2 => r s2 ⟨fun c o nc e => ?_, W.gtrans _ _ _ m.gens m2.gens, m2.drawn.trans m.drawn, m2.os.trans m.os, ?_⟩ t2⟩
    · rw [same.2 c fun z : c = S => out (z ▸ hc)]
      exact e
    · refine m2.heap c o nc ?_
      show h'.get? c = some o
      rw [same.2 c fun z : c = S => nc (by rw [z]; exact List.mem_cons_self)]
      exact m.heap c o (fun z => nc (List.mem_cons_of_mem _ z)) e
    · exact Nat.le_trans m.toks (Nat.le_trans tk' m2.toks)
def freshSet (w : World) : Obj := { cls := .type "set", dict := none, data := .set #[] 0 (.fresh 0 0 (!w.params.followText "set-order")) }
def listIt (l : Addr) : Obj := { cls := .type "list_iterator", data := .fields #[.ref l, .int 0 0] }
/-- set(a list), for any way of adding -/
theorem made_any {l : Addr} {items : Array Value} {Q : Value → Shared → Prop} (hh : A.handled = none) (hl : s.heap.IsList l items) (T : Nat → Heap → Prop)
    (fr : ∀ i h h', T i h → (∀ b o, b ≠ s.heap.objs.size + 1 → h.get? b = some o → h'.get? b = some o) → T i h')
    (zero : ∀ h, h.get? s.heap.objs.size = some (freshSet w) → (∀ b o, s.heap.get? b = some o → h.get? b = some o) → T 0 h)
    (add : ∀ (B : Around) i v (s1 : Shared) (E : Value → Shared → Prop) (Q : Bool → Shared → Prop), B.units ≤ A.units + 3 → items[i]? = some v → T i s1.heap →
      (∀ b h' tk, s1.toks ≤ tk → Heap.SameBut s.heap.objs.size s1.heap h' → T (i + 1) h' → Q b { s1 with heap := h', toks := tk }) → wpAny (model P w) B (setAdd s.heap.objs.size v) Q E s1)
    (k : ∀ (h' : Heap) (tk : Nat), T items.size h' → (∀ b o, s.heap.get? b = some o → h'.get? b = some o) → Q (.ref s.heap.objs.size) { s with heap := h', toks := tk }) :
    wpAny (model P w) A (call (.type "set") [.ref l]) Q E s := by
  obtain ⟨_, _, hmro⟩ := PySem.F.called_set.mro
  have made_ := PySem.F.called_set.made
  have sub_ := PySem.F.called_set.sub
  refine wpAny_call (codeAny_of_tree ?_)
  show wpAny (model P w) _ (callAny (.type "set") _) _ _ _
  refine wpAny_pure ⟨Code.quiet_builtin _ (by decide +kernel), codeAny_builtin PySem.F.entry_type_call ?_⟩
  rw [Around.under_plain (weight_type_call_type "set" [.ref l] []) rfl]
  have notT := PySem.F.called_set.notType
  have canC := PySem.F.called_set.canCreate
  have typC := PySem.F.typeCall_set_1 (.ref l)
  repeat (any_goals (first | assumption | wp_step))
  let S := s.heap.objs.size
  let hp1 := s.heap.push (freshSet w)
  refine codeAny_mono (code_set_led1 (.ref l) (E := E) (Q₁ := fun obj s1 => obj = .ref S ∧ s1 = { s with heap := hp1 }) ⟨rfl, rfl⟩) fun r s1 hr => ?_
  rcases r with _ | e
  case error => exact hr
  cases e with
  | ret obj =>
    obtain ⟨rfl, rfl⟩ := hr
    have atS : hp1.get? S = some (freshSet w) := Heap.get?_push_size _ rfl
    have tyS : Shared.TypeIs { s with heap := hp1 } (.ref S) "set" := ⟨_, atS, rfl⟩
    have iLook := PySem.F.called_set.init.lookup
    have iBind := PySem.F.called_set.init.bind (.ref S)
    repeat (any_goals (first | assumption | wp_step))
    refine codeAny_mono (codeAny_call_builtin (R := wants (fun r s2 => r = .none ∧ ∃ h' tk, s2 = { s with heap := h', toks := tk } ∧ T items.size h' ∧ (∀ b o, s.heap.get? b = some o → h'.get? b = some o)) E)
      PySem.F.called_set.init.plain PySem.F.entry_set_init (check_set_init_1 tyS ?_)) fun r2 s2 hr2 => ?_
    · obtain ⟨ol, hol, cl, nl, dl⟩ := hl
      obtain ⟨ocl, odi, oda, osl⟩ := ol
      simp only at cl dl
      subst cl
      subst dl
      have ltl : l < S := Heap.lt_size hol
      have atl : hp1.get? l = some { cls := .type "list", dict := odi, data := .seq items nl, slots := osl } := Heap.get?_push_of_some _ hol
      have ls1 := PySem.F.sub_list_set
      have ls2 := PySem.F.sub_list_frozenset
      have nd1 : (Value.type "list" == Value.type "dict") = false := by decide
      have isl : hp1.IsList l items := ⟨_, atl, rfl, nl, rfl⟩
      have szI : hp1.objs.size = S + 1 := Heap.size_push ..
      unfold Builtin.«set.__init__» noKeywords Builtin.Frozenset.updateFrom
      generalize ePI : pyIter = PI
      wp_walk
      subst ePI
      refine wpAny_pyIter_list isl (wpAny_bind (wpAny_runValue ?_))
      have h3 : A.in1.in1.in1.handled = none := by simp [hh]
      have nI : l ≠ hp1.objs.size := by rw [szI]; exact Nat.ne_of_lt (Nat.lt_succ_of_lt ltl)
      have nS : S ∉ [hp1.objs.size, l] := by
        rw [szI]
        intro z
        rcases List.mem_cons.mp z with z | z
        · exact absurd z (Nat.ne_of_lt (Nat.lt_succ_self _))
        · exact absurd (List.mem_singleton.mp z) (Nat.ne_of_gt ltl)
      refine loop_any ((Walks.list h3 _ l nI items).toS) nS T (fun i h h' t e => fr i h h' t fun b o nb => e b o (by rw [szI]; simpa using nb)) (fun i v s1 E1 Q1 _ pv t q => add _ i v s1 E1 Q1 (Nat.le_refl _) pv t q)
        (items.size - 0) 0 _ (by omega) (Nat.zero_le _) ⟨⟨_, Heap.get?_push_size _ rfl, rfl, rfl⟩, isl.push _⟩ (zero _ (Heap.get?_push_of_some _ atS) fun b o e => Heap.get?_push_of_some _ (Heap.get?_push_of_some _ e)) ?_
      intro s' m t'
      obtain ⟨h', g', d', tk', os'⟩ := s'
      obtain rfl : g' = s.gens := m.gens
      obtain rfl : d' = s.drawn := m.drawn
      obtain rfl : os' = s.os := m.os
      show wpAny _ _ _ _ _ _
      refine wpAny_pure ?_
      show wpAny _ _ (ret Value.none) _ _ _
      refine wpAny_pure ⟨rfl, h', tk', rfl, t', fun b o e => ?_⟩
      have ltb : b < S := Heap.lt_size e
      refine m.heap b o (fun z => ?_) (Heap.get?_push_of_some _ (Heap.get?_push_of_some _ e))
      rcases List.mem_cons.mp z with z | z
      · exact absurd z (Nat.ne_of_lt ltb)
      · have z2 := List.mem_singleton.mp z
        rw [szI] at z2
        exact absurd z2 (Nat.ne_of_lt (Nat.lt_succ_of_lt ltb))
    · rcases r2 with _ | e2
      case error => exact hr2
      cases e2 with
      | ret r =>
        obtain ⟨rfl, h', tk, rfl, t', keep⟩ := hr2
        repeat (any_goals (first | assumption | wp_step))
        exact k _ _ t' keep
      | _ => exact hr2.elim
  | _ => exact hr.elim
end
section
variable {P : Program} {w : World} {A : Around} {E : Value → Shared → Prop} {s : Shared}
theorem Txs.fresh : Txs P w (#[], 0, .fresh 0 0 (!w.params.followText "set-order")) [] where
  ok := TxOk.nil rfl
  pm := List.Perm.refl _
  all := fun e he => by simp at he
  nd := List.nodup_nil
  ris := List.Pairwise.nil
  led := by
    show _ ∨ (!w.params.followText "set-order") = true
    cases w.params.followText "set-order"
    · exact .inr rfl
    · exact .inl rfl
theorem strs_get : ∀ {vs : List Value} {xs : List Str}, StrsAre vs xs → ∀ {i : Nat} {v : Value}, vs[i]? = some v → ∃ z t, xs[i]? = some z ∧ v = .str z t
  | _, _, .nil, _, _, h => by simp at h
  | _, _, .cons y t r, 0, v, h => ⟨y, t, rfl, (Option.some.inj h).symm⟩
  | _, _, .cons y t r, i + 1, v, h => strs_get r (by simpa using h)
/-- set(a list of texts) -/
theorem set_txt {l : Addr} {items : Array Value} {xs : List Str} {Q : Value → Shared → Prop} (hh : A.handled = none) (hl : s.heap.IsList l items) (hi : StrsAre items.toList xs) (few : xs.length + 1 < scanBound)
    (k : ∀ (h' : Heap) (tk : Nat) D l', h'.get? s.heap.objs.size = some (sObj "set" D) → Txs P w D l' → (∀ z, z ∈ l' ↔ z ∈ xs) → l'.length ≤ xs.length → (∀ b o, s.heap.get? b = some o → h'.get? b = some o) → Q (.ref s.heap.objs.size) { s with heap := h', toks := tk }) :
    wpAny (model P w) A (call (.type "set") [.ref l]) Q E s := by
  have len : items.size = xs.length := by
    have : ∀ {vs : List Value} {ys : List Str}, StrsAre vs ys → vs.length = ys.length := by
      intro vs ys h
      induction h with
      | nil => rfl
      | cons y t r ih => simp [ih]
    rw [← this hi, Array.length_toList]
  refine made_any hh hl (fun i h => ∃ D l', h.get? s.heap.objs.size = some (sObj "set" D) ∧ Txs P w D l' ∧ (∀ z, z ∈ l' ↔ z ∈ xs.take i) ∧ l'.length ≤ i) ?_ ?_ ?_ ?_
  · rintro i h h' ⟨D, l', a, f, m, n⟩ e
    exact ⟨D, l', e _ _ (Nat.ne_of_lt (Nat.lt_succ_self _)) a, f, m, n⟩
  · intro h a _
    exact ⟨(#[], 0, .fresh 0 0 (!w.params.followText "set-order")), [], a, Txs.fresh, fun z => by simp, Nat.le_refl _⟩
  · rintro B i v s1 E1 Q1 _ hv ⟨D, l', a, f, m, n⟩ q
    obtain ⟨z, t, hz, rfl⟩ := strs_get hi (i := i) (v := v) (by rw [Array.getElem?_toList]; exact hv)
    have li : i < xs.length := (List.getElem?_eq_some_iff.mp hz).1
    unfold setAdd
    refine wpAny_holding (wpAny_bind ((strKind P w).pyHash (k := z) (is_str z t) ?_))
    refine add_any (s := { s1 with toks := s1.toks + 1 }) a f (by omega) fun b h' D' l2 same a2 f2 m2 n2 => q b h' (s1.toks + 1) (Nat.le_succ _) same ⟨D', l2, a2, f2, fun y => ?_, by omega⟩
    rw [m2 y, m y, List.take_add_one, hz]
    simp only [Option.toList_some, List.mem_append, List.mem_singleton]
    exact Or.comm
  · rintro h' tk ⟨D, l', a, f, m, n⟩ keep
    exact k h' tk D l' a f (fun z => by rw [m z, List.take_of_length_le (by omega)]) (by omega) keep
/-- sorted(a set of texts) -/
theorem sorted_txt {a : Addr} {D : SD} {l : List Str} {Q : Value → Shared → Prop} (at_ : s.heap.get? a = some (sObj "set" D)) (F : Txs P w D l) (hh : A.handled = none) (few : l.length < 64)
    (k : ∀ s' p (out : Array Value) (c : Nat) (ys : List Str), (∀ b o, s.heap.get? b = some o → s'.heap.get? b = some o) → s'.gens = s.gens → s'.os = s.os → s.heap.objs.size ≤ p →
      s'.heap.get? p = some (seqObj "list" out c) → StrsAre out.toList ys → ys.Perm l → sortedS ys = true → Q (.ref p) s') : wpAny (model P w) A (call (.builtin "sorted") [.ref a]) Q E s := by
  obtain ⟨es, ep, t⟩ := D
  have sz : es.size = l.length := F.ok.sz
  have sc : es.size < scanBound := by unfold scanBound; omega
  refine Calls.call_function_entry kind_sorted plain_sorted entry_sorted (args_sorted1 _) ?_
  unfold Builtin.«sorted»
  refine wpAny_bind (m := checkCount "sorted" 1 1 _) (wpAny_pure (wpAny_bind ?_))
  refine collect_set (A := A.in1) hh ⟨_, at_, rfl, rfl⟩ F.ok.fit sc F.ris F.led fun s1 vs k1 z1 g1 o1 pm => ?_
  have lv : vs.length = l.length := by rw [pm.length_eq, List.length_map, Array.length_toList, sz]
  have sv : ∀ us : List Value, (∀ u ∈ us, ∃ x t, u = Value.str x t) → StrsAre us (us.map fun u => txtOf (0, u)) := by
    intro us
    induction us with
    | nil => exact fun _ => .nil
    | cons u us ih =>
      intro h
      obtain ⟨x, t, rfl⟩ := h u List.mem_cons_self
      exact .cons x t (ih fun v hv => h v (List.mem_cons_of_mem _ hv))
  have hS := sv vs fun u hu => by
    obtain ⟨e, he, rfl⟩ := List.mem_map.mp (pm.mem_iff.mp hu)
    exact F.all e he
  have pl : (vs.map fun u => txtOf (0, u)).Perm l := by
    refine (pm.map _).trans ?_
    rw [List.map_map]
    refine List.Perm.trans (List.Perm.of_eq ?_) F.pm
    exact List.map_congr_left fun e _ => by obtain ⟨h, v⟩ := e; cases v <;> rfl
  refine wpAny_bind (wpAny_newList ?_ (by rw [lv, sizeLine_eq]; omega))
  have oL : (s1.heap.push (seqObj "list" vs.toArray 0)).get? s1.heap.objs.size = some (seqObj "list" vs.toArray 0) := Heap.get?_push_size _ rfl
  refine wpAny_bind (wpAny_holding (wpAny_call_entry slot_list_sort ⟨_, oL, rfl⟩ entry_list_sort
    (list_sort_treeK strKind_oneLt oL hS.keysOf (fun v1 v2 rest e => keyKind_strs (by rw [← e]; exact hS)) (by rw [lv]; exact few) fun st h1 h2 => ⟨_, rfl, ?_⟩) (args_list_sort _)))
  obtain ⟨ys, a1, a2, a3⟩ := sorted_out_str hS h1 h2
  obtain ⟨c, hc⟩ := sortedHeap_at (vs := vs) (out := (arrOf st).map (·.2)) oL
  refine wpAny_pure ⟨_, rfl, k _ s1.heap.objs.size _ c ys (fun b u e => ?_) g1 o1 z1 hc a1 (a2.trans pl) a3⟩
  have q := k1 b u e
  have lt := Heap.lt_size q
  refine (sortedHeap_old (Nat.ne_of_lt lt) (by rw [size_push']; exact Nat.lt_succ_of_lt lt)).trans ?_
  exact Heap.get?_push_of_some _ q
end
/-! ### as calls -/
/-- at a a set of just the texts l -/
def SetX (P : Program) (w : World) (a : Addr) (l : List Str) : HO := .ext fun h => ∃ D, h.get? a = some (sObj "set" D) ∧ Txs P w D l
section
variable {X : Cx}
theorem setX_new {w : World} {P : Program} {H : Hp} {h : Heap} {a : Addr} {l : List Str} (R : ∃ D, h.get? a = some (sObj "set" D) ∧ Txs P w D l) : ObjOk P w H h a (SetX P w a l) := by
  obtain ⟨D, e, F⟩ := id R
  exact ⟨R, ⟨_, e⟩, fun h1 h2 ⟨D2, e2, F2⟩ keep => ⟨D2, keep _ e2, F2⟩⟩
def rSetX (K : PySem.W.Frag) (P : Program) (w : World) : List V → Hp → VK → Prop := fun vs H Q => ∃ (a : Addr) (xs : List Str), vs = [V.ref a] ∧ SqL K H a (xs.map V.str) ∧ xs.length < 64 ∧
  ∀ (l : List Str) (p : Addr), l.Nodup → (∀ z, z ∈ l ↔ z ∈ xs) → l.length ≤ xs.length → H p = none → Q (.ref p) (upd H p (SetX P w p l))
theorem cr_setX (hc : X.calm = true) : CallR X (.type "set") (rSetX X.K X.prog X.w) := by
  intro pins s σ H vs us Q I r h
  obtain ⟨a, xs, rfl, hs, few, q⟩ := h
  obtain ⟨its, rv, hl, _⟩ := I.list hs
  rw [Vals.ref1 r]
  refine set_txt (I.ok.hd hc) hl.isList rv.strs (by unfold scanBound; omega) fun h' tk D l' e F m ll keep => ?_
  exact ⟨.ref _, upd H s.heap.objs.size (SetX X.prog X.w s.heap.objs.size l'), I.laid (t' := tk) keep (Nat.le_refl _) (setX_new ⟨D, e, F⟩), rfl, q l' _ F.nd m ll (I.hok.fresh (Nat.le_refl _))⟩
def rSortedX (P : Program) (w : World) : List V → Hp → VK → Prop := fun vs H Q => ∃ (a : Addr) (l : List Str), vs = [V.ref a] ∧ H a = some (SetX P w a l) ∧ l.length < 64 ∧
  ∀ (ys : List Str) (p : Addr), ys.Perm l → sortedS ys = true → H p = none → Q (.ref p) (upd H p (.lst (ys.map V.str)))
theorem cr_sortedX (hc : X.calm = true) : CallR X (.builtin "sorted") (rSortedX X.prog X.w) := by
  intro pins s σ H vs us Q I r h
  obtain ⟨a, l, rfl, at_, few, q⟩ := h
  obtain ⟨D, e, F⟩ := (I.hok a _ at_).1
  rw [Vals.ref1 r]
  refine sorted_txt e F (I.ok.hd hc) few fun s' p out c ys keep g o hp he hy pm so => ?_
  have hn : H p = none := I.hok.fresh hp
  have hlen : (ys.map V.str).length ≤ sizeLine := by rw [List.length_map, pm.length_eq]; exact small64 few
  have J : Inv X pins σ (upd H p (.lst (ys.map V.str))) { s with heap := s'.heap, gens := s'.gens, drawn := s'.drawn, toks := s'.toks } :=
    I.call (ch := []) (Un.laid keep hp hn) (I.hok.laid keep hp ⟨hlen, out.toList, c, vals_of_strs hy, he⟩) (by rw [g]; exact I.bare) (fun _ z => nomatch z)
  have es : s' = { s with heap := s'.heap, gens := s'.gens, drawn := s'.drawn, toks := s'.toks } := by
    cases s'
    cases s
    cases o
    rfl
  rw [es]
  exact ⟨.ref p, _, J, rfl, q ys p pm so hn⟩
end
end TSet
set_option maxRecDepth 100000
set_option maxHeartbeats 4000000
/-! tuple(d.values()), the keys of d tuples of ints and texts -/
namespace TV
open PySem PySem.Spec PyProof.Rows L2
section
variable {prog : Program} {w : World} {A : Around} {E : Value → Shared → Prop} {s : Shared} {T : String} {r d : Addr} {n : Nat} {P : Nat → Value → Prop} {OK : Heap → Prop}
theorem collect_kdl {Q : List Value → Shared → Prop} (K : PySem.W.KdlSrc prog w T r d n P OK) (hh : A.handled = none) (hok : OK s.heap) (hn : n ≤ sizeLine)
    (hQ : ∀ (h' : Heap) (tk : Nat) (acc : Array Value), (∀ b o, s.heap.get? b = some o → h'.get? b = some o) → ItemsOf P acc n → Q acc.toList { s with heap := h', toks := tk }) :
    wpAny (model prog w) A (collect (.ref r)) Q E s := by
  have hok1 : OK (s.heap.push { cls := .type "list", data := .seq ([] : List Value).toArray }) := K.keep _ _ hok fun b _ o e => Heap.get?_push_of_some _ e
  have hlt := K.there _ hok
  unfold collect
  refine wpAny_bind (wpAny_runValue (codeAny_builtin F.entry_proto_collect ?_))
  rw [Around.under_plainId F.plain_proto_collect _]
  show wpAny _ A.in1 (newList [] >>= fun l => again (.builtin "list.__iadd__" ⟨[l, .ref r], []⟩)) _ _ s
  refine wpAny_bind (wpAny_newObj_type ?_)
  refine wpAny_pure ⟨plainId_quiet F.plain_list_iadd _, codeAny_builtin F.entry_list_iadd ?_⟩
  rw [Around.under_plainId F.plain_list_iadd _]
  show wpAny _ A.in1 (Builtin.List.listExtendWith (.ref s.heap.objs.size) (.ref r) (.ref s.heap.objs.size)) _ _ _
  have hS : (s.heap.push { cls := .type "list", data := .seq ([] : List Value).toArray }).get? s.heap.objs.size = some { cls := .type "list", data := .seq #[] 0 } := Heap.get?_push_size _ rfl
  refine wpAny_mono (PySem.W.kdl_extend (A := A) (R := fun rr s' => rr = .ok (.ret (.ref s.heap.objs.size)) ∧ ∃ (h' : Heap) (tk : Nat) (acc : Array Value) (c' : Nat), s' = { s with heap := h', toks := tk } ∧
      (∀ b o, s.heap.get? b = some o → h'.get? b = some o) ∧ h'.get? s.heap.objs.size = some { cls := .type "list", dict := none, data := .seq acc c', slots := #[] } ∧ ItemsOf P acc n)
    (s := { s with heap := s.heap.push { cls := .type "list", data := .seq ([] : List Value).toArray } }) K hh hok1 s.heap.objs.size (Nat.ne_of_gt hlt.1) (Nat.ne_of_gt hlt.2) _ 0 hS
    (fun h' tk acc c' hk e hi => ⟨rfl, h', tk, acc, c', rfl, fun b o q => hk b o (Nat.ne_of_lt (Heap.lt_size q)) (Heap.get?_push_of_some _ q), e, hi⟩) hn) (fun fin s' h => ?_) (fun e s' h => ?_)
  · cases fin with
    | done f =>
      obtain ⟨e, h', tk, acc, c', rfl, hk, hS', hi⟩ := h
      cases e
      show wpAny _ A (load s.heap.objs.size >>= _) _ _ _
      exact wpAny_bind (wpAny_load hS' (wpAny_pure (hQ h' tk acc hk hi)))
    | again c' =>
      refine ⟨h.1, codeAny_mono h.2 fun rr s'' hr' => ?_⟩
      obtain ⟨rfl, h', tk, acc, c', rfl, hk, hS', hi⟩ := hr'
      show wpAny _ A (load s.heap.objs.size >>= _) _ _ _
      exact wpAny_bind (wpAny_load hS' (wpAny_pure (hQ h' tk acc hk hi)))
  · exact absurd h.1 (by simp)
theorem code_tuple_new_vals {Q₁ : Value → Shared → Prop} (K : PySem.W.KdlSrc prog w "dict_values" r d n P OK) (hh : A.handled = none) (hok : OK s.heap) (hn : n ≤ sizeLine)
    (h : ∀ (h' : Heap) (tk : Nat) (acc : Array Value), (∀ b o, s.heap.get? b = some o → h'.get? b = some o) → ItemsOf P acc n →
      Q₁ (.ref h'.objs.size) { s with heap := h'.push { cls := .type "tuple", data := .seq acc }, toks := tk }) :
    codeAny (model prog w) A (.call (.builtin "tuple.__new__") ⟨[.type "tuple", .ref r], []⟩) (wants Q₁ E) s := by
  refine codeAny_of_tree ?_
  show wpAny _ A.in1 (do checkBuiltinCall "tuple.__new__" ⟨[.type "tuple", .ref r], []⟩; again (.builtin "tuple.__new__" ⟨[.type "tuple", .ref r], []⟩)) _ _ s
  refine wpAny_bind (wpAny_of_eq (F.newCall_tuple_1 _) (wpAny_pure ⟨plainId_quiet F.plain_tuple_new _, codeAny_builtin F.entry_tuple_new ?_⟩))
  rw [Around.under_plainId F.plain_tuple_new _]
  have hsub := sub_tuple_self
  have hinit := init_tuple_lookup
  have hmh := madeHere_tuple
  have hTI : s.TypeIs (.ref r) "dict_values" := K.type s hok
  have hh1 : A.in1.handled = none := hh
  wp_walk using wpAny_typeOf hTI, collect_kdl (A := A.in1) K hh1 hok hn
  intro h' tk acc hk hacc
  show wpAny _ _ (Builtin.Tuple.tupleExact acc.toList.toArray >>= fun v => ret v) _ _ _
  unfold Builtin.Tuple.tupleExact
  refine wpAny_bind (wpAny_newObj_type ?_ (by show acc.toList.toArray.size ≤ sizeLine; simp only [Array.toArray_toList]; rw [hacc.1]; exact hn))
  refine wpAny_pure ?_
  have e : acc.toList.toArray = acc := by simp
  rw [e]
  exact h h' tk acc hk hacc
theorem call_tuple_vals {Q : Value → Shared → Prop} (K : PySem.W.KdlSrc prog w "dict_values" r d n P OK) (hh : A.handled = none) (hok : OK s.heap) (hn : n ≤ sizeLine)
    (hQ : ∀ (h' : Heap) (tk : Nat) (acc : Array Value), (∀ b o, s.heap.get? b = some o → h'.get? b = some o) → ItemsOf P acc n →
      Q (.ref h'.objs.size) { s with heap := h'.push { cls := .type "tuple", data := .seq acc }, toks := tk }) :
    wpAny (model prog w) A (call (.type "tuple") [.ref r]) Q E s := by
  refine callType_codes (Q₁ := fun obj s₁ => s₁.TypeIs obj "tuple" ∧ Q obj s₁) F.called_tuple (F.typeCall_tuple_1 _) F.entry_object_init
    (code_tuple_new_vals (A := A.in1) K hh hok hn fun h' tk acc hk hacc => ⟨⟨_, Heap.get?_push_size _ rfl, rfl⟩, hQ h' tk acc hk hacc⟩) fun obj s₁ h₁ => ?_
  exact ⟨h₁.1, F.args_object_init_2 obj _, object_init_meets F.called_tuple.init.lookup F.called_tuple.made (by decide) prog w A.in1 _ s₁ ⟨h₁.1, rfl, h₁.2⟩⟩
end
section
variable {X : Cx} {e : Expr} {td : TE} {apos cpos : Pos}
theorem raw_of {P : Program} {w : World} {h : Heap} {a : Addr} {xs : List (List L2.Key × Addr × Value)} (x : h.DictOfH (tupleKind (mixKind P w)) a xs) : ∃ es ep, h.DictRaw a es ep ∧ es.toList = xs.map (entryOfKey (tupleKind (mixKind P w))) := by
  obtain ⟨o, es, ep, h1, h2, h3, h4, _⟩ := x
  exact ⟨es, ep, ⟨o, h1, h2, h3⟩, h4⟩
def tValsT (td : TE) : TE := fun σ H Q => td σ H fun x H1 => ∃ d, x = .ref d ∧ (∃ kvs, H1 d = some (.dT kvs)) ∧ ∀ p, H1 p = none → Q (.ref p) (upd H1 p (viewO "dict_values" p d))
theorem pe_valsT (he : PE X e td) (hbase : attributeBase e "values" X.env (eval e X.env) = eval e X.env := by rfl) (hline : (apos.endLine == cpos.line) = true := by rfl) : PE X (.Call (.Attribute e "values" apos) [] [] cpos) (tValsT td) := by
  refine ⟨fun pins s σ H Q I h => ?_⟩
  refine wpAny_Call_method (T := "dict") (id := "dict.values") hbase rfl hline F.plainAttrs_dict F.slot_dict_values F.type_dict_values (thn (he.run pins s σ H _ I h) fun u s1 ⟨x, H1, I1, rx, d, ex, ⟨kvs, hd⟩, q⟩ => ?_)
  subst ex
  obtain rfl : u = Value.ref d := rx
  obtain ⟨z, hs, xs, rel, dd⟩ := dt_of I1.hok hd
  obtain ⟨es, ep, raw, _⟩ := raw_of dd
  refine ⟨raw.typeIs, fun b e => ?_, ?_⟩
  · cases e
    obtain ⟨o, h1, h2, _⟩ := raw
    exact ⟨o, h1, h2.2.1⟩
  show wpAny _ _ (callWith cpos (.builtin "dict.values") [.ref d] [] []) _ X.xe s1
  exact method_meetsIn F.slot_dict_values F.entry_dict_values rfl (PySem.evalArgs_none ⟨rfl, raw.typeIs, F.args_dict_values_1 _, _, meets_dict_values_raw d hs, ⟨⟨es, ep, raw⟩, ⟨.ref s1.heap.objs.size, _, I1.laid (t' := s1.toks) (fun b o q => Heap.get?_push_of_some _ q) (Nat.le_refl _) (viewO_ok (Heap.get?_push_size _ rfl)), rfl, q _ (I1.hok.fresh (Nat.le_refl _))⟩⟩⟩)
theorem pair_get {α β : Type} {F : α → β → Prop} : ∀ {l : List α} {m : List β}, Paired F l m → ∀ {j : Nat} {a : α}, l[j]? = some a → ∃ b, m[j]? = some b ∧ F a b
  | _, _, .nil, _, _, h => by simp at h
  | _, _, .cons (a := c) (b := b) hq r, 0, a, h => ⟨b, rfl, by have e : c = a := Option.some.inj h; rw [← e]; exact hq⟩
  | _, _, .cons hq r, j + 1, a, h => pair_get r (j := j) (by simpa using h)
def rTupVals : List V → Hp → VK → Prop := fun xs H Q => ∃ (p d : Addr) (kvs : List (List L2.Key × V)), xs = [.ref p] ∧ H p = some (viewO "dict_values" p d) ∧ H d = some (.dT kvs) ∧ ∀ q, H q = none → Q (.ref q) (upd H q (.tup (kvs.map (·.2))))
theorem cr_tupVals (hc : X.calm = true) : CallR X (.type "tuple") rTupVals := by
  intro pins s σ H xs us Q I rx h
  obtain ⟨p, d, kvs, rfl, hp, hd, q⟩ := h
  rw [Vals.ref1 rx]
  have hv : s.heap.get? p = some (DSub.viewOb "dict_values" d) := (show ObjOk X.prog X.w H s.heap p (viewO "dict_values" p d) from I.hok p _ hp).1
  obtain ⟨z, hs, ys, rel, dd⟩ := dt_of I.hok hd
  obtain ⟨es, ep, raw, he⟩ := raw_of dd
  have hl : kvs.length = ys.length := Paired.length rel
  have hes : es.size = ys.length := by
    have := congrArg List.length he
    rwa [List.length_map, Array.length_toList] at this
  refine call_tuple_vals (PySem.KdlSrc.rawValues (r := p) (d := d) (es := es) (ep := ep)) (I.ok.hd hc) ⟨⟨_, hv, rfl, rfl⟩, raw⟩ (by omega) fun h' tk acc hk hacc => ?_
  have I1 : Inv X pins σ H { s with heap := h', toks := tk } := I.kept hk
  refine ⟨.ref h'.objs.size, upd H h'.objs.size (.tup (kvs.map (·.2))), I1.laid (t' := tk) (fun b o q => Heap.get?_push_of_some _ q) (Nat.le_refl _) (show ObjOk X.prog X.w _ _ _ (.tup (kvs.map (·.2))) from ⟨by rw [List.length_map]; exact z, acc.toList, ?_, ?_⟩), rfl, q _ (I1.hok.fresh (Nat.le_refl _))⟩
  · have el : acc.toList.length = acc.size := by simp
    refine vals_of_at (by rw [List.length_map, el, hacc.1, hl, hes]) fun j x w h1 h2 => ?_
    obtain ⟨hi, hw⟩ := hacc.2 j w (by rw [← Array.getElem?_toList]; exact h2)
    rw [List.getElem?_map] at h1
    obtain ⟨kv, hkv, rfl⟩ := Option.map_eq_some_iff.mp h1
    obtain ⟨y, hy, hr⟩ := pair_get rel hkv
    have e1 : es.toList[j]? = some (entryOfKey (tupleKind (mixKind X.prog X.w)) y) := by rw [he, List.getElem?_map, hy]; rfl
    have e2 : es.toList[j]? = some es[j] := by rw [Array.getElem?_toList, Array.getElem?_eq_getElem hi]
    have e3 := Option.some.inj (e2.symm.trans e1)
    rw [hw, e3]
    exact hr.2.2
  · have := IsTup.new h' acc.toList.toArray
    rw [Array.toArray_toList] at this ⊢
    exact this
end
end TV
set_option maxRecDepth 100000
set_option maxHeartbeats 4000000
/-! rules for sets of ints, min with default=, data compared by <, a list turned round, dict.update -/
namespace HR
open PySem PySem.Spec PyProof.Rows L2 PySem.W
section
variable {X : Cx}
theorem ints_get : ∀ {us : List Value} {ns : List Int}, IntsAre us ns → ∀ {i : Nat} {v : Value}, us[i]? = some v → ∃ z t, ns[i]? = some z ∧ v = .int z t
  | _, _, .nil, _, _, h => by simp at h
  | _, _, .cons n t _, 0, v, h => ⟨n, t, rfl, (Option.some.inj h).symm⟩
  | _, _, .cons n t r, i + 1, v, h => ints_get r (i := i) (by simpa using h)
/-- set(a list or tuple of ints) -/
def rSetI (K : PySem.W.Frag) (w : World) : List V → Hp → VK → Prop := fun vs H Q => ∃ (a : Addr) (ns : List Int), vs = [V.ref a] ∧ (SqL K H a (ns.map V.int) ∨ SqT K H a (ns.map V.int)) ∧ ns.length < 64 ∧
  ∀ (n : Nat) (p : Addr), n ≤ ns.length → H p = none → Q (.ref p) (upd H p (SetO w p (fun j => decide (j ∈ ns)) n))
theorem cr_setI (hc : X.calm = true) : CallR X (.type "set") (rSetI X.K X.w) := by
  intro pins s σ H vs us Q I r h
  obtain ⟨a, ns, rfl, hs, few, q⟩ := h
  rw [Vals.ref1 r]
  rcases hs with hs | hs
  · obtain ⟨its, rv, hl, _⟩ := I.list hs
    have hit : IntsAre its.toArray.toList ns := intsAre_of rv
    refine TSet.made_any (P := X.prog) (w := X.w) (items := its.toArray) (I.ok.hd hc) hl.isList (fun i h => ∃ c, c ≤ i ∧ SetR X.w h s.heap.objs.size (fun j => decide (j ∈ ns.take i)) c) (fun i h h' ⟨c, hc, S⟩ k => ⟨c, hc, S.at fun o e => k _ o (by omega) e⟩)
      (fun h e _ => ⟨0, Nat.le_refl _, setR_new_at e⟩) (fun B i v s1 E' Q' hB hv ⟨c, hc, S⟩ k => ?_) fun h' tk ⟨c, hc, S⟩ keep => ?_
    · obtain ⟨z, t, hz, rfl⟩ := ints_get hit (i := i) (v := v) (by rw [Array.getElem?_toList]; exact hv)
      have hi : i < ns.length := (List.getElem?_eq_some_iff.mp hz).1
      unfold setAdd
      refine wpAny_holding ?_
      refine wpAny_bind ((intKind X.prog X.w).pyHash (k := z) (intKind_is _ _ _ _) ?_)
      refine setR_add_hashed (s := { s1 with toks := s1.toks + 1 }) S (by unfold scanBound; omega) fun h' hsb hS2 => ?_
      have hS3 : SetR X.w h' s.heap.objs.size (fun j => decide (j ∈ ns.take (i + 1))) (if decide (z ∈ ns.take i) = true then c else c + 1) := hS2.congr fun j => by
        rw [List.take_add_one, hz]
        simp [List.mem_append]
      exact k _ h' _ (Nat.le_succ _) hsb ⟨_, by split <;> omega, hS3⟩
    · have e : ns.take its.toArray.size = ns := List.take_of_length_le (by
        have := IntsAre.length hit
        rw [← this]
        simp)
      rw [e] at S
      have hl2 : its.toArray.size = ns.length := by
        have := IntsAre.length hit
        simpa using this
      exact ⟨.ref _, upd H s.heap.objs.size (SetO X.w s.heap.objs.size (fun j => decide (j ∈ ns)) c), I.laid (t' := tk) keep (Nat.le_refl _) (setO_new S), rfl, q c _ (by omega) (I.hok.fresh (Nat.le_refl _))⟩
  · obtain ⟨its, rv, hl, _⟩ := I.tuple hs
    have hit : IntsAre its.toArray.toList ns := intsAre_of rv
    refine call_set_tupI ns (I.ok.hd hc) (show s.heap.IsTuple a its.toArray from hl) hit (by unfold scanBound; omega) fun h' tk c S hcl keep => ?_
    exact ⟨.ref _, upd H s.heap.objs.size (SetO X.w s.heap.objs.size (fun j => decide (j ∈ ns)) c), I.laid (t' := tk) keep (Nat.le_refl _) (setO_new S), rfl, q c _ hcl (I.hok.fresh (Nat.le_refl _))⟩
/-- min(a list of ints, default=d) -/
def minI (d : Int) : List Int → Int
  | [] => d
  | x :: r => r.foldl (fun a y => if y < a then y else a) x
theorem minD_ints (x : Int) : ∀ (r : List Int), minD (.int x) (r.map .int) = .int (r.foldl (fun a y => if y < a then y else a) x) := by
  intro r
  induction r generalizing x with
  | nil => rfl
  | cons y r ih =>
    unfold minD at ih ⊢
    rw [List.map_cons, List.foldl_cons, List.foldl_cons, dataLt_int]
    by_cases h : y < x
    · rw [decide_eq_true h, if_pos rfl, if_pos h]
      exact ih y
    · rw [decide_eq_false h, if_neg Bool.false_ne_true, if_neg h]
      exact ih x
def rMinDef (K : PySem.W.Frag) : List V → List V → Hp → VK → Prop := fun vs zs H Q => ∃ (a : Addr) (ns : List Int) (d : Int), vs = [V.ref a] ∧ zs = [V.int d] ∧ SqL K H a (ns.map V.int) ∧ Q (.int (minI d ns)) H
theorem dp_ints {K : PySem.W.Frag} {H : Hp} : ∀ ns : List Int, DpAll K H (ns.map V.int) (ns.map .int)
  | [] => .nil
  | n :: ns => .cons (.int n) (dp_ints ns)
theorem depth_ints : ∀ ns : List Int, PyData.depthAll (ns.map .int) ≤ 1
  | [] => by simp [PyData.depthAll]
  | n :: ns => by
    rw [List.map_cons, PyData.depthAll]
    exact Nat.max_le.mpr ⟨by simp [PyData.depth], depth_ints ns⟩
theorem cr_minDef (hc : X.calm = true) (hu : X.A.units + 64 < cLine) : CallRK X (.builtin "min") [Str.ofString "default"] (rMinDef X.K) := by
  intro pins s σ H xs zs us ws Q I rx rz h
  obtain ⟨a, ns, d, rfl, rfl, hs, q⟩ := h
  obtain ⟨wd, rfl, rd⟩ := vals1 rz
  obtain ⟨t, rfl⟩ := rd
  obtain ⟨its, rv, hl, _⟩ := I.list hs
  rw [Vals.ref1 rx]
  obtain ⟨as, rr⟩ := Dp.readsAll I (ns.map .int) (ns.map V.int) its (dp_ints ns) rv
  show wpAny _ _ (call (.builtin "min") [.ref a] [(Str.ofString "default", .int d t)]) _ _ s
  refine min_list_default (vs := its.toArray) (xs := ns.map .int) (as := as) (I.ok.hd hc) hl.isList rr ⟨fun x hx y hy => ?_, fun x hx => ?_⟩ (by have := depth_ints ns; omega) (fun e h' tk keep => ?_) fun y ys i v h' tk bs e hv rd keep => ?_
  · obtain ⟨n, _, rfl⟩ := List.mem_map.mp hx
    obtain ⟨m, _, rfl⟩ := List.mem_map.mp hy
    rfl
  · obtain ⟨n, _, rfl⟩ := List.mem_map.mp hx
    exact fun e => by cases e
  · have : ns = [] := by
      cases ns with
      | nil => rfl
      | cons _ _ => cases e
    subst this
    exact ⟨.int d, H, I.kept (t' := tk) keep, ⟨t, rfl⟩, q⟩
  · cases ns with
    | nil => cases e
    | cons n ns =>
      obtain ⟨rfl, rfl⟩ : .int n = y ∧ ns.map .int = ys := by
        have := List.cons.inj e
        exact ⟨this.1, this.2⟩
      rw [minD_ints] at rd
      obtain ⟨z, t2, hz, rfl⟩ := ints_get (show IntsAre its.toArray.toList (n :: ns) from intsAre_of rv) (i := i) (v := v) (by rw [Array.getElem?_toList]; exact hv)
      refine ⟨.int (minI d (n :: ns)), H, I.kept (t' := tk) keep, ?_, q⟩
      show ∃ t', Value.int z t2 = Value.int (ns.foldl (fun a y => if y < a then y else a) n) t'
      cases rd
      exact ⟨_, rfl⟩
/-- x < y, data of one shape -/
def rLtD (K : PySem.W.Frag) : R2 := fun x y H Q => ∃ d e, Dp K H x d ∧ Dp K H y e ∧ alike d e = true ∧ d ≠ .none ∧ d.depth ≤ 60 ∧ Q (.bl (dataLt d e)) H
theorem op_ltD (hu : X.A.units + 64 < cLine) : OpR X (compareOp .Lt) (rLtD X.K) := by
  intro pins s σ H x y v u Q I rx ry h
  obtain ⟨d, e, hd, he, al, nn, dep, q⟩ := h
  obtain ⟨as, r1⟩ := Dp.reads I d x v hd rx
  obtain ⟨bs, r2⟩ := Dp.reads I e y u he ry
  refine lt_data r1 r2 al nn (by have := Nat.min_le_left d.depth e.depth; omega) ⟨.bl (dataLt d e), H, I, rfl, q⟩
/-- repr(None) -/
theorem call_reprN (gd : X.A.guards = some []) (hu : X.A.units + 70 < cLine) : CallR X (.builtin "repr") (fun xs H Q => xs = [.non] ∧ Q (.str "None") H) := by
  intro pins s σ H xs us Q I r h
  obtain ⟨rfl, q⟩ := h
  obtain ⟨u, rfl, ru⟩ := vals1 r
  have e : u = .none := ru
  subst e
  exact PySem.P.repr_of_none ⟨.str "None", H, I.tok _, ⟨_, rfl⟩, q⟩
/-- xs[::-1] of a list -/
def tRev (K : PySem.W.Frag) (te : TE) : TE := fun σ H Q => te σ H fun x H1 => ∃ a xs, x = .ref a ∧ SqL K H1 a xs ∧ ∀ p, H1 p = none → Q (.ref p) (upd H1 p (.lst xs.reverse))
/-- d.update(e), dicts by ints and texts -/
def rUpdK : V → List V → Hp → VK → Prop := fun x xs H Q => ∃ (a b : Addr) (kvs more : List (L2.Key × V)), x = .ref a ∧ xs = [.ref b] ∧ a ≠ b ∧ H a = some (.dK kvs) ∧ H b = some (.dK more) ∧ kvs.length + more.length ≤ sizeLine ∧ Q .non (upd H a (.dK (mergeK kvs more)))
theorem mt_updK : MtR X "dict.update" rUpdK := by
  intro pins s σ H x xs v us Q I rx rxs h
  obtain ⟨a, b, kvs, more, rfl, rfl, nab, ha, hb, few, q⟩ := h
  cases rx
  rw [Vals.ref1 rxs]
  obtain ⟨z, hs, vs, rel, dd⟩ := dk_of I.hok ha
  obtain ⟨z2, hs2, ms, rel2, dd2⟩ := dk_of I.hok hb
  have l1 : kvs.length = vs.length := Paired.length rel
  have l2 : more.length = ms.length := Paired.length rel2
  refine call_meetsIn F.slot_dict_update dd.typeIs F.entry_dict_update (F.args_dict_update_2 _ _) (meets_dict_update (mixKind X.prog X.w) a b nab hs2) ⟨vs, ms, dd, dd2, by omega, fun h' d1 d2 same => ?_⟩
  have hz : (mergeK kvs more).length ≤ sizeLine := Nat.le_trans (length_mergeK more kvs) few
  have I2 : Inv X pins σ (upd H a (.dK (mergeK kvs more))) { s with heap := h', toks := s.toks } := d_write I (by rw [ha]; exact True.intro) same (by obtain ⟨ep, o, es, ho, _⟩ := d1.dictAt; exact ⟨o, ho⟩) (dk_new hz hs (KV.merge rel2 rel) d1)
  exact ⟨.non, _, I2, rfl, q⟩
end
end HR
set_option maxRecDepth 100000
set_option maxHeartbeats 4000000
/-! {k: v for ..} with keys that are tuples of ints and texts -/
namespace HR
open PySem PySem.Spec PyProof.Rows L2
/-- one more entry, by a tuple -/
theorem put_tup {X : Cx} {pp : List (Addr × Obj)} {st : L2.St} {G : Hp} {sh : Shared} {EE : Value → Shared → Prop} {D b : Addr} {kvs : List (List L2.Key × V)} {k : List L2.Key} {v : V} {r : Value} {Q : Unit → Shared → Prop} (roomy : X.A.units < cLine)
    (J : Inv X pp st G sh) (at_ : G D = some (.dT kvs)) (few : kvs.length < sizeLine) (key : G b = some (.tup (k.map kV))) (rv : RelV v r) (nxt : ∀ sh', Inv X pp st (upd G D (.dT (putK kvs k v))) sh' → Q () sh') :
    wpAny (model X.prog X.w) X.A (dictSet D (.ref b) r) Q EE sh := by
  obtain ⟨z, notSys, ys, rel, dd⟩ := dt_of J.hok at_
  have ly : ys.length ≤ sizeLine := by rw [← Paired.length rel]; exact z
  have lk : (putK kvs k v).length ≤ sizeLine := by have := length_putK kvs k v; omega
  refine wpAny_dictSet_heap (hsz := ly) (knd := tupleKind (mixKind X.prog X.w)) (k := k) (show X.A.units < cLine from roomy) (key_of J.hok key) dd fun h' dd' same => nxt _ ?_
  obtain ⟨o, es, ep, ho, h2, h3, h4, _, h5⟩ := dd'
  refine d_write J (by rw [at_]; exact True.intro) same ⟨o, ho⟩ ⟨lk, notSys, _, (rel.put k key rv).keeps fun c zs ec => ?_, o, es, ep, ho, h2, h3, h4, h5⟩
  rw [upd_ne (ne_of ec at_ (fun z => nomatch z))]
  exact ec
def tDcT (wi : TI) (g : TG) (tt : TT) (tk tv : TE) (own : List Nat) : TE := fun st G Q => wi st G fun J G1 => ∀ D, G1 D = none → ∃ W : Nat → Nat → Hp → Prop, (∃ m, W 0 m (upd G1 D (.dT []))) ∧ ∀ i m G, W i m G →
  (J.stop i G ∧ Q (.ref D) G) ∨ (J.go i G ∧ ∃ Nx : Hp → Prop, (∀ G', Nx G' → ∃ m', m' < m ∧ W (i + 1) m' G') ∧ ∀ x G', J.yld i G x G' → g x (wipe st own) G' fun st2 G2 => wipe st2 own = wipe st own ∧ tt st2 G2 fun yes G3 =>
    if yes = true then tk st2 G3 fun y G4 => tv st2 G4 fun z G5 => ∃ kvs k b, y = .ref b ∧ G5 b = some (.tup (k.map kV)) ∧ G5 D = some (.dT kvs) ∧ kvs.length < sizeLine ∧ Nx (upd G5 D (.dT (putK kvs k z))) else Nx G3)
section
variable {X : Cx} {kx vx tg iter : Expr} {ifs : List Expr} {scope : Scope} {own : List (Str × Nat)} {wi : TI} {g : TG} {tt : TT} {tk tv : TE}
theorem pe_dcT {pos : Pos} (calm : X.calm = true) (roomy : X.A.units < cLine) (diff : X.N.Nodup) (walk : PI X tg iter wi) (blk : BlkOk X.N X.env.scope scope own)
    (aim : ∀ (sh : Shared) (G : Hp) (C : Addr) (cl : List (Str × Addr)) (feet : List Addr), PG (X.blk sh G scope (compEnvC scope cl C X.env) feet) tg g)
    (tests : ∀ (sh : Shared) (G : Hp) (C : Addr) (cl : List (Str × Addr)) (feet : List Addr), PTs (X.blk sh G scope (compEnvC scope cl C X.env) feet) ifs tt)
    (keys : ∀ (sh : Shared) (G : Hp) (C : Addr) (cl : List (Str × Addr)) (feet : List Addr), PE (X.blk sh G scope (compEnvC scope cl C X.env) feet) kx tk)
    (vals : ∀ (sh : Shared) (G : Hp) (C : Addr) (cl : List (Str × Addr)) (feet : List Addr), PE (X.blk sh G scope (compEnvC scope cl C X.env) feet) vx tv)
    (plain : ∀ x, foldedSetIterable iter X.env x = pure x := by intro _; rfl) : PE X (.DictComp kx vx [⟨tg, iter, ifs, 0⟩] scope pos) (tDcT wi g tt tk tv (own.map (·.2))) := by
  refine ⟨fun pp sh0 st G0 Q I0 ask => ?_⟩
  rw [arm_eval_DictComp]
  have frees : ∀ y ∈ scope.names, y.2 = .free → ∃ c, X.env.cells.lookup y.1 = some c := fun y hy e => (blk.free y hy e).elim (fun k => I0.ok.has _ (.inl k)) fun k => I0.ok.has _ (.inr k)
  refine wpAny_comprehension_free (use := none) rfl plain (closure_ok frees) blk.kind (fun y hy e => by rw [blk.uniq y hy, e]) (thn (walk.run pp sh0 st G0 _ I0 ask) fun xv sh1 came => thn came fun itv sh2 more => ?_)
  obtain ⟨it, feet, ten, J, G2, rfl, I2, T, at0, free2, turn⟩ := more
  refine wpAny_newObj_type (newEnv_comp ?_)
  have new : G2 sh2.heap.objs.size = none := I2.hok.fresh (Nat.le_refl _)
  obtain ⟨W, ⟨m0, w0⟩, step⟩ := turn _ new
  -- the dict is laid
  obtain ⟨G3, eG3⟩ : ∃ G3, G3 = upd G2 sh2.heap.objs.size (.dT []) := ⟨_, rfl⟩
  rw [← eG3] at w0
  obtain ⟨sh3, e3⟩ : ∃ sh3 : Shared, sh3 = { sh2 with heap := sh2.heap.push { cls := .type "dict", data := .dict #[] } } := ⟨_, rfl⟩
  have I3 : Inv X pp st G3 sh3 := by
    rw [e3, eG3]
    exact I2.laid (t' := sh2.toks) (fun b o q => Heap.get?_push_of_some _ q) (Nat.le_refl _) (dt_empty sh2.heap I2.big)
  have heap3 : sh3.heap = sh2.heap.push { cls := .type "dict", data := .dict #[] } := by rw [e3]
  have low : ∀ b ∈ feet, b < sh2.heap.objs.size := fun b hb => Heap.lt_size (T.obj _ _ at0 b hb).choose_spec.1
  have free3 : ∀ b ∈ feet, FpOk X pp G3 b ∧ b < sh3.heap.objs.size := fun b hb => ⟨⟨by rw [eG3, upd_ne (Nat.ne_of_lt (low b hb))]; exact (free2 b hb).1, (free2 b hb).2⟩, by rw [heap3, Heap.size_push]; exact Nat.lt_succ_of_lt (low b hb)⟩
  have at3 : ten 0 sh3.heap := T.keep _ _ _ at0 fun b _ o q => by rw [heap3]; exact Heap.get?_push_of_some _ q
  have I4 := block_start I3 blk diff free3
  obtain ⟨C, eC⟩ : ∃ C, C = sh3.heap.objs.size := ⟨_, rfl⟩
  obtain ⟨cl, ecl⟩ : ∃ cl, cl = cellsFrom (sh3.heap.objs.size + 1) scope.names (cloFrom X.env.cells scope.names []) := ⟨_, rfl⟩
  obtain ⟨sh4, e4⟩ : ∃ sh4 : Shared, sh4 = { sh3 with heap := pushCells (sh3.heap.push { cls := .type "dict", data := .dict #[] }) scope.names } := ⟨_, rfl⟩
  rw [← ecl, ← eC, ← e4] at I4
  have at4 : ten 0 sh4.heap := T.keep _ _ _ at3 fun b _ o q => by rw [e4]; exact pushCells_keeps _ _ _ _ (Heap.get?_push_of_some _ q)
  have none3 : ∀ b ∈ feet, G3 b = none := fun b hb => (free3 b hb).1.1
  obtain ⟨Y, eY⟩ : ∃ Y, Y = X.blk sh3 G3 scope (compEnvC scope cl C X.env) feet := ⟨_, rfl⟩
  rw [← eY] at I4
  have held : ∀ {st' : L2.St} {G' : Hp} {sh' : Shared}, Inv Y [] st' G' sh' → (∀ b ∈ feet, G' b = none) → ∀ b ∈ feet, FpOk Y [] G' b := by
    subst eY
    exact fun {_ _ _} I' no b hb => ⟨no b hb, (I'.ok.exf b hb).1, I'.ok.exfs b hb, .inl hb, fun x c q => (I'.ok.exf b hb).2 x c q, fun p hp => absurd (show p ∈ ([] : List (Addr × Obj)) ++ [] from hp) (by simp)⟩
  have locC : (compEnvC scope cl C X.env).locals = C := rfl
  have loop : codeAny (model X.prog X.w) X.A (.compLoop (.DictComp kx vx [⟨tg, iter, ifs, 0⟩] scope pos) 0 (.ref it) (.ref sh2.heap.objs.size) (compEnvC scope cl C X.env)) (compPost (model X.prog X.w) X.A X.xe none (EP X pp st Q) (.ref sh2.heap.objs.size) C) sh4 := by
    subst eY
    refine compLoop_anyD (fun left sh => ∃ i G, Inv (X.blk sh3 G3 scope (compEnvC scope cl C X.env) feet) [] (wipe st (own.map (·.2))) G sh ∧ ten i sh.heap ∧ (∀ b ∈ feet, G b = none) ∧ W i left G) ?_ m0 ⟨0, G3, I4, at4, none3, w0⟩
    rintro left sh5 ⟨i, G5, I5, at5, no5, w5⟩
    rcases step i left G5 w5 with ⟨over, good⟩ | ⟨on, Nx, fewer, go⟩
    · -- the walk is over
      refine thnF (T.done (X.blk sh3 G3 scope (compEnvC scope cl C X.env) feet) rfl rfl rfl calm i [] sh5 _ G5 (fun _ _ => False) I5 (held I5 no5) at5 over) fun r sh6 ⟨er, I6⟩ => ?_
      subst er
      have I7 : Inv X pp st G5 sh6 := I3.call' (ch := feet) I6.os I6.base I6.hok I6.bare fun b hb => let f := (free3 b hb).1.2; ⟨f.2.2.1, f.1, f.2.2.2.1, f.2.2.2.2⟩
      have noC : G5 C = none := I6.free
      obtain ⟨m, names, _⟩ := I6.loc
      obtain ⟨f0, f1, f2, f3, f4, f5⟩ := I3.fpOk (Nat.le_of_eq eC.symm) noC
      exact ⟨m, names, fun h'' sb => ⟨.ref sh2.heap.objs.size, G5, I7.turned (t' := sh6.toks) (fun b o hb q => (sb.2 b hb).trans q) f0 f1 f3 f4 f5, rfl, good⟩⟩
    · -- one turn
      refine thnF (T.item (X.blk sh3 G3 scope (compEnvC scope cl C X.env) feet) rfl rfl rfl calm i [] sh5 _ G5 (fun _ _ => False) I5 (held I5 no5) at5 on) fun r sh6 ⟨u, er, rest⟩ => ?_
      subst er
      refine thnF rest fun _ sh7 ⟨x, G7, I7, rx, y7, at7, no7⟩ => ?_
      have P7 := I7.pinned (held I7 no7) (T.obj _ _ at7)
      refine thnF ((aim sh3 G3 C cl feet).run _ sh7 _ G7 x u _ P7 rx (go x G7 y7)) fun _ sh8 ⟨st8, G8, I8, same8, q8⟩ => ?_
      refine thnF ((tests sh3 G3 C cl feet).run _ sh8 st8 G8 _ I8 q8) fun yes sh9 ⟨G9, I9, q9⟩ => ?_
      have back : ∀ {sh' : Shared} {G' : Hp}, Inv (X.blk sh3 G3 scope (compEnvC scope cl C X.env) feet) ([] ++ pinsAt feet sh7.heap) st8 G' sh' → Nx G' →
          ∃ m, m < left ∧ ∃ i G, Inv (X.blk sh3 G3 scope (compEnvC scope cl C X.env) feet) [] (wipe st (own.map (·.2))) G sh' ∧ ten i sh'.heap ∧ (∀ b ∈ feet, G b = none) ∧ W i m G := by
        intro sh' G' I' nx
        obtain ⟨m', less, w'⟩ := fewer G' nx
        have pin : ∀ b ∈ feet, ∀ o, sh7.heap.get? b = some o → sh'.heap.get? b = some o ∧ G' b = none := fun b hb o q => by
          have z := I'.pin (b, o) (List.mem_append_right _ (List.mem_append_right _ (mem_pinsAt hb q)))
          exact ⟨z.1, z.2.1⟩
        have len : (wipe st (own.map (·.2))).length = st8.length := by rw [← same8, wipe_length]
        refine ⟨m', less, i + 1, G', (I'.unpinned (pins := [])).weak len (fun j v q => ?_), T.keep _ _ _ at7 fun b hb o q => (pin b hb o q).1, fun b hb => ?_, w'⟩
        · rw [← same8] at q
          exact (wipe_some q).1
        · obtain ⟨o, q, _⟩ := T.obj _ _ at7 b hb
          exact (pin b hb o q).2
      cases yes with
      | false => exact back I9 q9
      | true =>
        refine thnF ((keys sh3 G3 C cl feet).run _ sh9 st8 G9 _ I9 q9) fun ku sh10 ⟨yk, G10, I10, rk, q10⟩ => ?_
        refine thnF ((vals sh3 G3 C cl feet).run _ sh10 st8 G10 _ I10 q10) fun vu sh11 ⟨yv, G11, I11, rv, kvs, k, b, ek, hb, hD, few, nx⟩ => ?_
        subst ek
        obtain rfl : ku = .ref b := rk
        exact put_tup (X := X.blk sh3 G3 scope (compEnvC scope cl C X.env) feet) roomy I11 hD few hb rv fun sh12 I12 => back I12 nx
  show codeAny _ _ (.compStart (.DictComp kx vx [⟨tg, iter, ifs, 0⟩] scope pos) 0 (.ref it) (.ref sh2.heap.objs.size) (compEnvC scope (cellsFrom (sh2.heap.push { cls := .type "dict", data := .dict #[] }).objs.size.succ scope.names (cloFrom X.env.cells scope.names [])) (sh2.heap.push { cls := .type "dict", data := .dict #[] }).objs.size X.env)) _ _
  rw [heap3] at eC ecl
  subst e3
  subst e4 ecl eC
  exact codeAny_compStart_dict loop (T.self X.A 0 _ _ _ at4 loop)
end
end HR
set_option maxRecDepth 100000
set_option maxHeartbeats 4000000
/-! min(rows, key=len); xs[::-1]; list(d), d by tuples -/
namespace HR
open PySem PySem.Spec PyProof.Rows L2 PySem.W
section
variable {X : Cx} {e : Expr} {te : TE} {t : TA} {p p2 pos kpos : Pos}
theorem tups_at {pp : List (Addr × Obj)} {st : L2.St} {H : Hp} {s : Shared} (I : Inv X pp st H s) {xs : List V} {its : List Value} (r : Vals xs its) (all : ∀ v ∈ xs, ∃ b ys, v = V.ref b ∧ SqT X.K H b ys) :
    ∀ (i : Nat) (v : Value), its[i]? = some v → ∃ b ys us, v = Value.ref b ∧ xs[i]? = some (V.ref b) ∧ Vals ys us ∧ IsTup s.heap b us.toArray ∧ us.length ≤ sizeLine := by
  intro i v hv
  have hi : i < xs.length := by rw [r.length]; exact (List.getElem?_eq_some_iff.mp hv).1
  obtain ⟨u, hu, ru⟩ := r.get (List.getElem?_eq_getElem hi)
  obtain ⟨b, ys, eb, hb⟩ := all _ (List.getElem_mem hi)
  obtain ⟨us, rv, ht, z⟩ := I.tuple hb
  rw [eb] at ru
  have ev : u = Value.ref b := ru
  rw [hv] at hu
  exact ⟨b, ys, us, by rw [← ev]; exact (Option.some.inj hu), by rw [List.getElem?_eq_getElem hi, eb], rv, ht, by rw [← rv.length]; exact z⟩
/-- some row of a list of tuples (the shortest; which is not told) -/
def tMinLen (K : PySem.W.Frag) (t : TA) : TE := fun σ H Q => t σ H fun vs H1 => ∃ a xs, vs = [V.ref a] ∧ SqL K H1 a xs ∧ xs ≠ [] ∧ (∀ v ∈ xs, ∃ b ys, v = V.ref b ∧ SqT K H1 b ys) ∧ ∀ v ∈ xs, Q v H1
theorem pe_minLen (calm : X.calm = true) (hu : X.A.units + 64 < cLine) (g1 : Gl X "min") (m1 : X.mg "min" = none) (g2 : Gl X "len") (m2 : X.mg "len" = none) (ha : PA X [e] t)
    (h1 : backTo pos (starEach [e] X.env) = (false, eval e X.env) :: backTo pos (starEach [] X.env) := by rfl) (h2 : (backTo pos (starEach [e] X.env)).any (·.1) = false := by rfl) :
    PE X (.Call (.Name "min" p) [e] [⟨some "key", .Name "len" p2, kpos⟩] pos) (tMinLen X.K t) := by
  refine ⟨fun pins s σ H Q I h => ?_⟩
  refine wpAny_Call_Name_kw (ld_blt I g1 m1 (u := .builtin "min") (by first | rfl | decide +kernel) ?_)
  refine PyProof.Rows.callWith_kw (thn (ha.run pos pins s σ H _ I h) fun us s1 ⟨vs, H1, I1, r1, a, xs, ev, hs, ne, all, q⟩ => ?_) h1 h2
  subst ev
  obtain ⟨u, rfl, ru⟩ := vals1 r1
  have eu : u = Value.ref a := ru
  subst eu
  show wpAny _ _ (evalAll ((do let v ← eval (.Name "len" p2) X.env; standAt pos; pure v) :: [])) _ _ s1
  refine wpAny_evalAll_cons (wpAny_bind (ld_blt I1 g2 m2 (u := .builtin "len") (by first | rfl | decide +kernel) (wpAny_bind (wpAny_standAt (wpAny_pure ?_)))))
  refine wpAny_evalAll_nil ?_
  show wpAny _ _ (call (.builtin "min") [.ref a] [(Str.ofString "key", .builtin "len")]) _ _ s1
  obtain ⟨its, rv, hl, z⟩ := I1.list hs
  have hd : X.A.in1.handled = none := I1.ok.hd calm
  have at_ := tups_at I1 rv all
  have lx : xs.length = its.length := rv.length
  let lens : List Nat := its.map fun v => match v with | Value.ref b => (match s1.heap.get? b with | some o => (match o.data with | .seq vs _ => vs.size | _ => 0) | none => 0) | _ => 0
  have lenAt : ∀ (i : Nat) (v : Value), its[i]? = some v → ∃ b, ∃ us : List Value, v = Value.ref b ∧ IsTup s1.heap b us.toArray ∧ us.length ≤ sizeLine ∧ lens.getD i 0 = us.length := fun i v hv => by
    obtain ⟨b, ys, us, rfl, _, _, ht, zu⟩ := at_ i v hv
    refine ⟨b, us, rfl, ht, zu, ?_⟩
    obtain ⟨o, ho, _, n, hdt⟩ := id ht
    show (its.map _).getD i 0 = _
    rw [List.getD_eq_getElem?_getD, List.getElem?_map, hv]
    show (match s1.heap.get? b with | some o => (match o.data with | .seq vs _ => vs.size | _ => 0) | none => 0) = _
    rw [ho]
    show (match o.data with | .seq vs _ => vs.size | _ => 0) = _
    rw [hdt]
    simp
  refine call_min_walkKB (iter_listW (A := X.A.in1) hd hl.isList fun s2 e2 W st0 hfp hw hk => ?_)
  have hn : 0 < its.toArray.size := by
    rw [List.size_toArray, ← lx]
    exact List.length_pos_iff.mpr ne
  refine ⟨_, _, _, _, _, _, _, (fun s' => ∃ h' tk, s' = { s1 with heap := h', toks := tk } ∧ ∀ b o, s1.heap.get? b = some o → h'.get? b = some o), (fun i k _ => ∃ tk, k = Value.int (lens.getD i 0 : Nat) tk), (fun i j => (fun (m n : Nat) => decide (m < n)) (lens.getD i 0) (lens.getD j 0)), rfl, W, st0, hfp, hn, ?_, ⟨s2.heap, s2.toks, by rw [e2], hk⟩, fun v s' hv ⟨h', tk, es, keep⟩ => ?_⟩
  · exact {
      keep := fun s s' ⟨h', tk, es, keep⟩ m => by
        subst es
        obtain ⟨hp, g, d, tk', os⟩ := s'
        have hg : g = s1.gens := m.gens
        have hdr : d = s1.drawn := m.drawn
        have hos : os = s1.os := m.os
        subst hg hdr hos
        refine ⟨hp, tk', rfl, fun b o q => m.heap b o (fun hb => ?_) (keep b o q)⟩
        have hlt := Heap.lt_size q
        have e3 : s2.heap.objs.size = s1.heap.objs.size + 1 := by rw [e2]; exact Heap.size_push _ _
        simp only [List.mem_cons, List.not_mem_nil, or_false] at hb
        rcases hb with hb | hb
        · rw [hb, e3] at hlt
          exact absurd hlt (Nat.not_lt.mpr (Nat.le_succ _))
        · rw [hb] at hlt
          exact absurd hlt (Nat.lt_irrefl _)
      keepV := fun i k s s' hv _ => hv
      turn := fun i v s o Q' E' hi hv ⟨h', tk, es, keep⟩ st ho nxt => by
        subst es
        obtain ⟨b, us, rfl, ht, zu, el⟩ := lenAt i v (by simpa using hv)
        have ht2 : IsTup h' b us.toArray := by
          obtain ⟨o2, h1, h2, h3⟩ := ht
          exact ⟨o2, keep _ _ h1, h2, h3⟩
        refine len_tuple (s := { s1 with heap := h', toks := tk }) ht2 (by have := line63; rw [List.size_toArray]; omega) (nxt _ _ ⟨h', tk + 1 + 1, rfl, keep⟩ st ho ⟨tk + 1, ?_⟩ fun j k' z => z)
        rw [el, List.size_toArray]
      cmp := fun i j ki kj s Q' E' _ ⟨t1, e1⟩ ⟨t2, e2⟩ q' => by
        subst e1 e2
        refine P.lt_int ?_
        rw [show decide (((lens.getD i 0 : Nat) : Int) < ((lens.getD j 0 : Nat) : Int)) = decide (lens.getD i 0 < lens.getD j 0) from decide_eq_decide.mpr (by omega)]
        exact q' }
  · subst es
    have hb : argBest (fun i j => (fun (m n : Nat) => decide (m < n)) (lens.getD i 0) (lens.getD j 0)) (its.toArray.size - 1) < its.length := by
      have le : lens.length = its.length := List.length_map _
      cases hle : lens with
      | nil => rw [hle] at le; rw [List.size_toArray] at hn; simp at le; omega
      | cons x ls =>
        have ab := (argBest_fold (fun (m n : Nat) => decide (m < n)) 0 x ls (its.toArray.size - 1) (by rw [hle] at le; rw [List.size_toArray]; simp at le; omega)).1
        rw [List.size_toArray] at ab hn ⊢
        exact Nat.lt_of_le_of_lt ab (by omega)
    have hv2 : its[argBest (fun i j => (fun (m n : Nat) => decide (m < n)) (lens.getD i 0) (lens.getD j 0)) (its.toArray.size - 1)]? = some v := by simpa using hv
    obtain ⟨b, ys, us, rfl, hx, _⟩ := at_ _ v hv2
    exact ⟨.ref b, H1, I1.kept (t' := tk) keep, rfl, q _ (List.mem_of_getElem? hx)⟩
end
end HR
set_option maxRecDepth 100000
set_option maxHeartbeats 4000000
/-! xs[::-1]; list(d), d by tuples -/
namespace HR
open PySem PySem.Spec PyProof.Rows L2
theorem pick_back (l : List Value) : slicePick l.toArray none none (some (-1)) = l.reverse.toArray := by
  unfold slicePick
  rw [List.size_toArray]
  show ((sliceRange ((l.length : Int) - 1) (-1) (-1)).filterMap (l.toArray[·]?)).toArray = _
  congr 1
  unfold sliceRange
  by_cases h0 : l.length = 0
  · have : l = [] := List.eq_nil_of_length_eq_zero h0
    subst this
    rfl
  have c : (if (-1 : Int) > 0 then (if ((l.length : Int) - 1) < -1 then (-1 - ((l.length : Int) - 1) + -1 - 1) / -1 else 0) else (if ((l.length : Int) - 1) > -1 then ((l.length : Int) - 1 - -1 - -1 - 1) / (- -1) else 0)) = (l.length : Int) := by
    rw [if_neg (by decide), if_pos (by omega), show (- -1 : Int) = 1 from rfl, Int.ediv_one]
    omega
  dsimp only
  rw [c, Int.toNat_natCast]
  apply List.ext_getElem?
  intro i
  have fm : ∀ (n : Nat), n ≤ l.length → ((List.range n).map fun (k : Nat) => (((l.length : Int) - 1) + -1 * (k : Int)).toNat).filterMap (l.toArray[·]?) = l.reverse.take n := by
    intro n
    induction n with
    | zero => intro _; rfl
    | succ n ih =>
      intro hn
      rw [List.range_succ, List.map_append, List.filterMap_append, ih (by omega), List.take_add_one]
      congr 1
      have e : ((l.length : Int) - 1 + -1 * (n : Int)).toNat = l.length - 1 - n := by omega
      simp only [List.map_cons, List.map_nil, List.filterMap_cons, List.filterMap_nil, e]
      rw [List.getElem?_reverse (by omega)]
      have hi : l.length - 1 - n < l.length := by omega
      simp [List.getElem?_eq_getElem hi]
  rw [fm l.length (Nat.le_refl _), List.take_of_length_le (by simp)]
section
variable {X : Cx} {e st : Expr} {te ts : TE} {p2 pos : Pos}
/-- xs[::k] with k = -1 -/
def tBack (K : PySem.W.Frag) (te ts : TE) : TE := fun σ H Q => te σ H fun x H1 => ts σ H1 fun y H2 => y = .int (-1) ∧ ∃ a xs, x = .ref a ∧ SqL K H2 a xs ∧ ∀ p, H2 p = none → Q (.ref p) (upd H2 p (.lst xs.reverse))
theorem pe_back (he : PE X e te) (hs : PE X st ts) : PE X (.Subscript e (.Slice none none (some st) p2) pos) (tBack X.K te ts) := by
  refine ⟨fun pins s σ H Q I h => ?_⟩
  refine Subscript_ (thn (he.run pins s σ H _ I h) fun v s1 ⟨x, H1, I1, r1, q1⟩ => ?_)
  refine wpAny_Slice ?_
  rw [evalPart_none]
  refine wpAny_pure (wpAny_pure ?_)
  rw [evalPart_some]
  refine thn (hs.run pins s1 σ H1 _ I1 q1) fun u s2 ⟨y, H2, I2, r2, ey, a, xs, ex, hx, q⟩ => ?_
  subst ey ex
  obtain ⟨tk, rfl⟩ := r2
  obtain rfl : v = .ref a := r1
  have I3 : Inv X pins σ H2 { s2 with heap := s2.heap.push { cls := .type "slice", data := .fields #[.none, .none, .int (-1) tk] } } := I2.kept (t' := s2.toks) fun b ob q => Heap.get?_push_of_some _ q
  obtain ⟨its, r, ht, hz⟩ := I3.list hx
  show wpAny (model X.prog X.w) X.A (subscriptTail e (.Slice none none (some st) p2) (.ref a) (.ref s2.heap.objs.size)) (EP X pins σ Q) X.xe { s2 with heap := s2.heap.push { cls := .type "slice", data := .fields #[.none, .none, .int (-1) tk] } }
  refine tail_any (ops := [.ref a, .ref s2.heap.objs.size]) ht.isList.typeIs slot_list_getitem.lookup ?_ (by with_unfolding_all rfl)
  refine wpAny_getItem_list_slice ht.isList (Heap.IsSliceOf.new ..) .none .none (.int (-1) tk) (by simp) ?_ (by rw [List.size_toArray, ← r.length]; exact hz)
  rw [pick_back]
  refine ⟨.ref _, _, I3.laid (t' := s2.toks) (o := .lst xs.reverse) (fun b ob q => Heap.get?_push_of_some _ q) (Nat.le_refl _) ⟨by rw [List.length_reverse]; exact hz, its.reverse, 0, r.reverse, Heap.get?_push_size _ rfl⟩, rfl, q _ (I3.hok.fresh (Nat.le_refl _))⟩
/-- list(d), d by tuples: its keys -/
def rKeysT : List V → Hp → VK → Prop := fun xs H Q => ∃ (d : Addr) (kvs : List (List L2.Key × V)), xs = [.ref d] ∧ H d = some (.dT kvs) ∧ ∀ (ks : List Addr) q, ks.length = kvs.length → (∀ (i : Nat) (b : Addr) (kv : List L2.Key × V), ks[i]? = some b → kvs[i]? = some kv → H b = some (.tup (kv.1.map kV))) → H q = none → Q (.ref q) (upd H q (.lst (ks.map V.ref)))
theorem cr_keysT (hc : X.calm = true) : CallR X (.type "list") rKeysT := by
  intro pins s σ H xs us Q I rx h
  obtain ⟨d, kvs, rfl, hd, q⟩ := h
  rw [Vals.ref1 rx]
  obtain ⟨z, hs, ys, rel, dd⟩ := dt_of I.hok hd
  obtain ⟨es, ep, raw, he⟩ := TV.raw_of dd
  have hl : kvs.length = ys.length := Paired.length rel
  have hes : es.size = ys.length := by
    have := congrArg List.length he
    rwa [List.length_map, Array.length_toList] at this
  refine PySem.W.kdl_call (PySem.KdlSrc.rawDict (d := d) (es := es) (ep := ep) hs) (I.ok.hd hc) raw (by omega) fun h' tk acc c hk hS hacc => ?_
  have ent : ∀ (j : Nat) (w : Value), acc.toList[j]? = some w → ∃ y : List L2.Key × Addr × Value, ys[j]? = some y ∧ w = .ref y.2.1 := fun j w hw => by
    obtain ⟨hi, hv⟩ := hacc.2 j w (by rw [← Array.getElem?_toList]; exact hw)
    have hj : j < ys.length := by omega
    refine ⟨ys[j], List.getElem?_eq_getElem hj, ?_⟩
    have e1 : es.toList[j]? = some (entryOfKey (tupleKind (mixKind X.prog X.w)) ys[j]) := by rw [he, List.getElem?_map, List.getElem?_eq_getElem hj]; rfl
    have e2 : es.toList[j]? = some es[j] := by rw [Array.getElem?_toList, Array.getElem?_eq_getElem hi]
    rw [hv, Option.some.inj (e2.symm.trans e1)]
    rfl
  have la : acc.toList.length = ys.length := by rw [Array.length_toList, hacc.1, hes]
  refine ⟨.ref s.heap.objs.size, upd H s.heap.objs.size (.lst ((ys.map fun y => y.2.1).map V.ref)), I.laid (t' := tk) hk (Nat.le_refl _) (show ObjOk X.prog X.w _ _ _ (.lst _) from ⟨by rw [List.length_map, List.length_map, ← hl]; exact z, acc.toList, c, ?_, ?_⟩), rfl, q _ _ (by rw [List.length_map, hl]) (fun i b kv hb hkv => ?_) (I.hok.fresh (Nat.le_refl _))⟩
  · refine vals_of_at (by rw [List.length_map, List.length_map, la]) fun j x w h1 h2 => ?_
    obtain ⟨y, hy, rfl⟩ := ent j w h2
    rw [List.map_map, List.getElem?_map, hy] at h1
    cases h1
    rfl
  · rw [Array.toArray_toList]; exact hS
  · rw [List.getElem?_map] at hb
    obtain ⟨y, hy, rfl⟩ := Option.map_eq_some_iff.mp hb
    obtain ⟨y2, hy2, hr⟩ := TV.pair_get rel hkv
    rw [hy] at hy2
    cases hy2
    exact hr.2.1
end
end HR
set_option maxRecDepth 100000
set_option maxHeartbeats 4000000
/-! enumerate(a list or tuple) -/
namespace HR
open PySem PySem.Spec PyProof.Rows L2 PySem.W
/-- the tuple at a, its items in new pairs -/
def ItT (K : PySem.W.Frag) (a : Addr) : It :=
  ⟨fun i H => ∃ (xs : List V) (x : V), SqT K H a xs ∧ xs[i]? = some x, fun i H v H' => ∃ T x, v = .ref T ∧ H T = none ∧ H' = upd H T (.tup [.int (i : Nat), x]) ∧ ∀ xs, SqT K H a xs → xs[i]? = some x, fun i H => ∃ xs : List V, SqT K H a xs ∧ xs.length ≤ i⟩
theorem walk_enT {K : PySem.W.Frag} {a : Addr} {xs : List V} : L2.Walk (ItT K a) xs.length (fun H => SqT K H a xs) (YPair (fun i => some (.int (i : Nat))) (fun i => xs[i]?)) :=
  ⟨fun i _ hi q => ⟨xs, xs[i], q, by simp [hi]⟩, fun _ q => ⟨xs, q, Nat.le_refl _⟩, fun i H v H' _ q ⟨T, x, h1, h2, h3, h4⟩ => ⟨T, .int (i : Nat), x, h1, h2, h3, rfl, h4 xs q⟩⟩
theorem turn_enT {P : Program} {w : World} {K : PySem.W.Frag} {elts : List Expr} {kk : Nat} {tpos : Pos} (a e it : Addr) :
    Turn P w K (.Tuple elts kk tpos) (ItT K a) [e, it] e (fun i h => (∃ old, IsEnum h e it ((i : Nat) : Int) old) ∧ h.IsTupleIter it a i ∧ e ≠ it) where
  mem := List.mem_cons_self
  obj := fun i h st b hb => by
    obtain ⟨⟨old, he⟩, ⟨o, ho, _, hd⟩, _⟩ := st
    rcases List.mem_cons.mp hb with z | hb
    · rw [z]
      exact ⟨_, he, fun v q => nomatch q⟩
    · exact ⟨o, by rw [List.mem_singleton.mp hb]; exact ho, fun v q => by rw [hd] at q; cases q⟩
  keep := fun i h h' ⟨⟨old, he⟩, hi, ne⟩ k => ⟨⟨old, k e List.mem_cons_self _ he⟩, hi.at fun o q => k it (List.mem_cons_of_mem _ List.mem_cons_self) o q, ne⟩
  item := by
    intro X hP hw hK calm i pp s σ H E I feet ⟨⟨old, he⟩, hit, ne⟩ ⟨xs, x, hx, hi⟩
    subst hP hw hK
    obtain ⟨its, rv, pt, few⟩ := I.tuple hx
    obtain ⟨u, hu, ru⟩ := rv.get hi
    have he' : e < s.heap.objs.size := Heap.lt_size he
    have hit' : it < s.heap.objs.size := by obtain ⟨o, q, _⟩ := hit; exact Heap.lt_size q
    obtain ⟨f1, f2⟩ := feet it (List.mem_cons_of_mem _ List.mem_cons_self)
    obtain ⟨ob, hob, _⟩ := id hit
    have hai : a ≠ it := fun z => by
      obtain ⟨o2, h2, c2, _⟩ := pt
      obtain ⟨o3, h3, c3, _⟩ := id hit
      rw [z] at h2
      rw [h2] at h3
      cases h3
      rw [c2] at c3
      exact absurd (Value.type.inj c3) (by decide)
    have hae : e ∉ [it, a] := by
      intro z
      rcases List.mem_cons.mp z with z | z
      · exact ne z
      · rw [List.mem_singleton.mp z] at he
        obtain ⟨o2, h2, c2, _⟩ := pt
        rw [show s.heap.get? a = some _ from he] at h2
        cases h2
        exact absurd (Value.type.inj c2) (by decide)
    refine wpAny_pyNext_enum_itemD (Draws.tuple (prog := X.prog) (w := X.w) (A := X.A.in1) (I.ok.hd calm) it a hai its.toArray) he ⟨hit, pt⟩ (i := i) (by rw [List.size_toArray]; exact (List.getElem?_eq_some_iff.mp hu).1) ne hae fun y h' tk hy ho st' hT hsz hk => ?_
    have ey : y = u := by
      have : its[i]? = some y := by simpa using hy
      rw [hu] at this
      exact (Option.some.inj this).symm
    subst ey
    refine ⟨_, rfl, wpAny_letOwnedTupleGo_enum (s := { s with heap := h', toks := tk + 1 }) ho fun h'' he2 sb => ?_⟩
    have hT2 : h''.get? s.heap.objs.size = some { cls := .type "tuple", data := .seq #[.int i tk, y] } := (sb.2 _ (Nat.ne_of_gt he')).trans hT
    have new : ObjOk X.prog X.w (upd H s.heap.objs.size (.tup [.int (i : Nat), x])) h'' s.heap.objs.size (.tup [.int (i : Nat), x]) := ⟨by show 2 ≤ sizeLine; decide, [.int i tk, y], .cons ⟨_, rfl⟩ (.cons ru .nil), ⟨_, hT2, rfl, _, rfl⟩⟩
    have I2 : Inv X pp σ (upd H s.heap.objs.size (.tup [.int (i : Nat), x])) { s with heap := h'', toks := tk + 1 } :=
      I.turnedNew (ch := [e, it]) (fun b o hb q => (sb.2 b (fun z => hb (by rw [z]; exact List.mem_cons_self))).trans (hk b o (fun z => hb (by rw [z]; exact List.mem_cons_self)) (fun z => hb (by rw [z]; exact List.mem_cons_of_mem _ List.mem_cons_self)) q)) feet (Nat.le_refl _) new
    refine ⟨.ref s.heap.objs.size, _, I2, rfl, ⟨_, x, rfl, I.hok.fresh (Nat.le_refl _), rfl, fun ys hy2 => by rw [I.tuple_inj hy2 hx]; exact hi⟩, ⟨⟨y, ?_⟩, st'.1.at fun o q => (sb.2 it (Ne.symm ne)).trans q, ne⟩, fun b hb => ?_⟩
    · have e1 : ((i + 1 : Nat) : Int) = (i : Int) + 1 := by omega
      rw [e1]; exact he2
    · have lt : b < s.heap.objs.size := by
        rcases List.mem_cons.mp hb with z | z
        · rw [z]; exact he'
        · rw [List.mem_singleton.mp z]; exact hit'
      rw [upd_ne (Nat.ne_of_lt lt)]
      exact (feet b hb).1
  done := by
    intro X hP hw hK calm i pp s σ H E I feet ⟨⟨old, he⟩, hit, ne⟩ ⟨xs, hx, over⟩
    subst hP hw hK
    obtain ⟨its, rv, pt, few⟩ := I.tuple hx
    obtain ⟨f0, f1, f2, f3, f4, f5⟩ := feet it (List.mem_cons_of_mem _ List.mem_cons_self)
    have hai : a ≠ it := fun z => by
      obtain ⟨o2, h2, c2, _⟩ := pt
      obtain ⟨o3, h3, c3, _⟩ := id hit
      rw [z] at h2
      rw [h2] at h3
      cases h3
      rw [c2] at c3
      exact absurd (Value.type.inj c3) (by decide)
    have hl := rv.length
    have none_ : its.toArray[i]? = none := by simp; omega
    have hT : s.TypeIs (.ref e) "enumerate" := ⟨_, he, rfl⟩
    unfold pyNext
    refine wpAny_bind (wpAny_attempt (wpAny_callSpecial?_slot (name := Str.ofString "__next__") hT F.slot_enumerate_next (wpAny_call_entry F.slot_enumerate_next hT F.entry_enumerate_next ?_ (F.args_enumerate_next_1 _))))
    show wpAny _ _ (field (.ref e) 2 >>= _) _ _ _
    refine wpAny_bind (wpAny_field he rfl (x := .ref it) rfl ?_)
    refine wpAny_bind (wpAny_nextOf_tuple_end (I.ok.hd calm) hit pt none_ fun h' x eb hx' => ?_)
    obtain ⟨o, ho, hc⟩ := hx'
    refine wpAny_bind (wpAny_isInstance (T := "StopIteration") (b := true) ⟨o, ho, hc⟩ isSubtype_stop ?_)
    exact wpAny_pure ⟨rfl, I.turned (t' := s.toks) (fun b o hb q => eb b o hb q) f0 f1 f3 f4 f5⟩
  self := fun A i s Q E ⟨⟨_, he⟩, _⟩ h => wpAny_pyIter_enum he h
set_option maxHeartbeats 4000000 in
theorem meets_enum_new {v : Value} {o : Obj} {Hh : Heap → Prop} (B : Begins v o Hh) :
    Meets (Builtin.«enumerate.__new__» ⟨[.type "enumerate", v], []⟩) (fun _ R s => Hh s.heap ∧
      R (.ok (.ret (.ref (s.heap.push o).objs.size))) { s with heap := (s.heap.push o).push { cls := .type "enumerate", data := .fields #[.none, .bool false, .ref s.heap.objs.size, rawInt 0, .none, .none] } }) :=
  .of_wp fun prog w A R s both => by
    obtain ⟨hp, g, d, tk, os⟩ := s
    obtain ⟨h1, h⟩ := both
    have sub := sub_enumerate
    have it_ : ∀ {A' : Around} {E : Value → Shared → Prop} {Q : Value → Shared → Prop}, Q (.ref hp.objs.size) ⟨hp.push o, g, d, tk, os⟩ → wpAny (model prog w) A' (pyIter v) Q E ⟨hp, g, d, tk, os⟩ := fun q => B.iter prog w _ _ ⟨hp, g, d, tk, os⟩ _ h1 q
    wp_walk using it_
    refine wpAny_stack_any fun st => wpAny_pure ?_
    split
    · rename_i c _ _ _ _ _
      cases (c == Value.type "enumerate") <;> (wp_walk using it_; exact ⟨_, rfl, h⟩)
    · wp_walk using it_
      exact ⟨_, rfl, h⟩
section
variable {X : Cx} {e : Expr} {ta : TA} {p pos tpos : Pos} {elts : List Expr} {kk : Nat}
/-- enumerate(a list or tuple) -/
def iEnS (K : PySem.W.Frag) (ta : TA) : TI := fun σ H R => ta σ H fun vs H1 => ∃ a xs, vs = [.ref a] ∧ ((SqL K H1 a xs ∧ R (Ite K a) H1) ∨ (SqT K H1 a xs ∧ R (ItT K a) H1))
theorem pi_enS (hg : Gl X "enumerate") (hm : X.mg "enumerate" = none) (ha : PA X [e] ta) (hs : starEach [e] X.env = [(false, eval e X.env)] := by rfl) : PI X (.Tuple elts kk tpos) (.Call (.Name "enumerate" p) [e] [] pos) (iEnS X.K ta) := by
  refine ⟨fun pins s σ H R I h => ?_⟩
  refine Call_ (ld_blt I hg hm boot_enumerate (PyProof.Rows.callWith_type1 (thn (ha.run pos pins s σ H _ I h) fun us s1 ⟨vs, H1, I1, r1, a, xs, ex, q⟩ => ?_) hs rfl))
  subst ex
  obtain ⟨u, rfl, ru⟩ := vals1 r1
  have eu : u = Value.ref a := ru
  subst eu
  have low : ∀ b ∈ [s1.heap.objs.size + 1, s1.heap.objs.size], s1.heap.objs.size ≤ b := fun b hb => by
    rcases List.mem_cons.mp hb with z | z
    · rw [z]; exact Nat.le_succ _
    · rw [List.mem_singleton.mp z]; exact Nat.le_refl _
  rcases q with ⟨hq, q⟩ | ⟨hq, q⟩
  · obtain ⟨its, rv, p', hz⟩ := I1.list hq
    refine call_enumerate_list p'.isList fun h' he hit hsz hk => wpAny_pyIter_enum he ?_
    have I2 : Inv X pins σ H1 { s1 with heap := h' } := I1.kept (t' := s1.toks) hk
    exact ⟨s1.heap.objs.size + 1, [s1.heap.objs.size + 1, s1.heap.objs.size], _, _, H1, rfl, I2, turn_enum a (s1.heap.objs.size + 1) s1.heap.objs.size, ⟨⟨.none, he⟩, hit, Nat.succ_ne_self _⟩, fun b hb => I1.fpOk (low b hb) (I1.hok.fresh (low b hb)), q⟩
  · obtain ⟨its, rv, p', hz⟩ := I1.tuple hq
    refine callType_new F.called_enumerate (by decide) (F.typeCall_enumerate_1 _) (F.newCall_enumerate_1 _) (fun obj => F.args_object_init_2 obj _) F.entry_enumerate_new (meets_enum_new (begins_tuple a its.toArray)) ⟨p', ?_⟩
    have hz : (s1.heap.push { cls := .type "tuple_iterator", data := .fields #[.ref a, .int 0 0] }).objs.size = s1.heap.objs.size + 1 := Heap.size_push ..
    show _ ∧ _
    rw [hz]
    have he : IsEnum ((s1.heap.push { cls := .type "tuple_iterator", data := .fields #[.ref a, .int 0 0] }).push { cls := .type "enumerate", data := .fields #[.none, .bool false, .ref s1.heap.objs.size, rawInt 0, .none, .none] }) (s1.heap.objs.size + 1) s1.heap.objs.size 0 .none := by
      have z := Heap.get?_push_size (s1.heap.push { cls := .type "tuple_iterator", data := .fields #[.ref a, .int 0 0] }) (o := { cls := .type "enumerate", data := .fields #[.none, .bool false, .ref s1.heap.objs.size, rawInt 0, .none, .none] }) rfl
      rw [hz] at z
      exact z
    refine ⟨⟨_, he, rfl⟩, wpAny_pyIter_enum he ?_⟩
    have hk : ∀ b o, s1.heap.get? b = some o → ((s1.heap.push { cls := .type "tuple_iterator", data := .fields #[.ref a, .int 0 0] }).push { cls := .type "enumerate", data := .fields #[.none, .bool false, .ref s1.heap.objs.size, rawInt 0, .none, .none] }).get? b = some o := fun b o x => Heap.get?_push_of_some _ (Heap.get?_push_of_some _ x)
    exact ⟨s1.heap.objs.size + 1, [s1.heap.objs.size + 1, s1.heap.objs.size], _, _, H1, rfl, I1.kept (t' := s1.toks) hk, turn_enT a (s1.heap.objs.size + 1) s1.heap.objs.size, ⟨⟨.none, he⟩, ⟨_, Heap.get?_push_of_some _ (Heap.get?_push_size _ rfl), rfl, rfl⟩, Nat.succ_ne_self _⟩, fun b hb => I1.fpOk (low b hb) (I1.hok.fresh (low b hb)), q⟩
end
end HR
set_option maxRecDepth 100000
set_option maxHeartbeats 4000000
/-! sorted(a tuple of ints); what is walked, one of two ways -/
namespace HR
open PySem PySem.Spec PyProof.Rows L2 SrtO
section
variable {prog : Program} {w : World} {A : Around} {E : Value → Shared → Prop} {s : Shared}
theorem collect_tup {t : Addr} {vs : List Value} {Q : List Value → Shared → Prop} (ht : IsTup s.heap t vs.toArray) (few : vs.length ≤ sizeLine) (nxt : Q vs { s with heap := (s.heap.push (seqObj "list" #[] 0)).update s.heap.objs.size (Obj.mapSeq (· ++ vs.toArray)) }) :
    wpAny (model prog w) A (collect (.ref t)) Q E s := by
  obtain ⟨o, at_, cls, n, dat⟩ := id ht
  have new : (s.heap.push (seqObj "list" #[] 0)).get? s.heap.objs.size = some (seqObj "list" #[] 0) := Heap.get?_push_size _ rfl
  have at1 : (s.heap.push (seqObj "list" #[] 0)).get? t = some o := Heap.get?_push_of_some _ at_
  have ne : s.heap.objs.size ≠ t := Nat.ne_of_gt (Heap.lt_size at_)
  unfold collect
  refine wpAny_bind (wpAny_runValue (codeAny_builtin F.entry_proto_collect ?_))
  show wpAny _ _ (do again (.builtin "list.__iadd__" ⟨[← newList [], .ref t], []⟩)) _ _ s
  refine wpAny_bind (wpAny_newList (wpAny_pure ⟨Code.quiet_builtin _ (by decide +kernel), codeAny_builtin F.entry_list_iadd ?_⟩))
  show wpAny _ _ (Builtin.List.listExtendWith (.ref s.heap.objs.size) (.ref t) (.ref s.heap.objs.size)) _ _ { s with heap := s.heap.push (seqObj "list" #[] 0) }
  unfold Builtin.List.listExtendWith
  refine wpAny_bind (wpAny_typeOf (T := "tuple") ⟨o, at1, cls⟩ ?_)
  have same : Builtin.List.listSameRef (.ref s.heap.objs.size) (.ref t) = false := by simp [Builtin.List.listSameRef, ne]
  rw [if_pos (by rw [show (Value.type "tuple" == Value.type "tuple") = true from rfl]; simp)]
  refine wpAny_bind (listItems_at at1 dat ?_)
  refine wpAny_bind (listItems_at (xs := #[]) (n := 0) new rfl ?_)
  rw [if_neg (by simp)]
  refine wpAny_bind (listUpdate_at (xs := #[]) (n := 0) new rfl ?_ (Nat.zero_le _) (by show (#[] ++ vs.toArray).size ≤ sizeLine + 1; simp only [Array.size_append, List.size_toArray, List.length_nil]; omega))
  refine wpAny_pure ?_
  show wpAny (model prog w) A (load s.heap.objs.size >>= _) Q E _
  refine wpAny_bind (wpAny_load (get?_update_seq new _) ?_)
  show wpAny _ _ (pure ((#[] : Array Value) ++ vs.toArray).toList) Q E _
  rw [show ((#[] : Array Value) ++ vs.toArray).toList = vs by simp]
  exact wpAny_pure nxt
end
section
variable {X : Cx}
theorem pi_or {tg e : Expr} {t1 t2 : TI} (h1 : PI X tg e t1) (h2 : PI X tg e t2) : PI X tg e (fun σ H R => t1 σ H R ∨ t2 σ H R) :=
  ⟨fun pins s σ H R I h => h.elim (h1.run pins s σ H R I) (h2.run pins s σ H R I)⟩
def rSortedTI (K : PySem.W.Frag) : List V → Hp → VK → Prop := fun vs H Q => ∃ (a : Addr) (ns : List Int), vs = [V.ref a] ∧ SqT K H a (ns.map V.int) ∧ ∀ (ms : List Int) (p : Addr), ms.Perm ns → ms.Pairwise (· ≤ ·) → H p = none → Q (.ref p) (upd H p (.lst (ms.map V.int)))
theorem cr_sortedTI : CallR X (.builtin "sorted") (rSortedTI X.K) := by
  intro pins s σ H vs us Q I r h
  obtain ⟨a, ns, rfl, hs, q⟩ := h
  obtain ⟨its, rv, ht, few⟩ := I.tuple hs
  rw [Vals.ref1 r]
  have hi : IntsAre its ns := intsAre_of rv
  have hz : its.length ≤ sizeLine := by rw [← rv.length]; exact few
  refine Calls.call_function_entry kind_sorted plain_sorted entry_sorted (args_sorted1 _) ?_
  unfold Builtin.«sorted»
  refine wpAny_bind (m := checkCount "sorted" 1 1 _) (wpAny_pure ?_)
  refine wpAny_bind (collect_tup ht hz ?_)
  refine wpAny_bind (wpAny_newList ?_ hz)
  have size2 : ((s.heap.push (seqObj "list" #[] 0)).update s.heap.objs.size (Obj.mapSeq (· ++ its.toArray))).objs.size = s.heap.objs.size + 1 := by rw [Heap.size_update, size_push']
  show wpAny _ _ _ _ _ { s with heap := ((s.heap.push (seqObj "list" #[] 0)).update s.heap.objs.size (Obj.mapSeq (· ++ its.toArray))).push (seqObj "list" its.toArray 0) }
  rw [size2]
  have laid : (((s.heap.push (seqObj "list" #[] 0)).update s.heap.objs.size (Obj.mapSeq (· ++ its.toArray))).push (seqObj "list" its.toArray 0)).get? (s.heap.objs.size + 1) = some (seqObj "list" its.toArray 0) := by
    rw [← size2]
    exact Heap.get?_push_size _ rfl
  refine wpAny_bind (wpAny_holding (wpAny_call_entry slot_list_sort ⟨_, laid, rfl⟩ entry_list_sort (list_sort_ord swo_int laid hz (fun h2 => ints_sortable hi h2) fun out h1 h2 => ⟨_, rfl, ?_⟩) (args_list_sort _)))
  obtain ⟨k1, k2, k3⟩ := ints_out hi h1 h2
  obtain ⟨ep, he'⟩ := PyProof.Rows.sortedAll_at s.heap its out.toArray
  have few2 : ((out.map iv).map V.int).length ≤ sizeLine := by rw [List.length_map, k2.length_eq]; rw [List.length_map] at few; exact few
  exact wpAny_pure ⟨_, rfl, .ref _, upd H (s.heap.objs.size + 1) (.lst ((out.map iv).map V.int)), I.laid (t' := s.toks) (fun _ _ => PyProof.Rows.sortedAll_old) (Nat.le_succ _) ⟨few2, out, ep, vals_of_ints k1, he'⟩, rfl, q _ _ k2 k3 (I.hok.fresh (Nat.le_succ _))⟩
end
end HR
set_option maxRecDepth 100000
set_option maxHeartbeats 4000000
/-! x = {k: v for ..} with keys that are tuples of ints and texts -/
namespace HR
open PySem PySem.Spec PyProof.Rows L2
section
variable {X : Cx} {kx vx tg iter : Expr} {ifs : List Expr} {scope : Scope} {own : List (Str × Nat)} {wi : TI} {g : TG} {tt : TT} {tk tv : TE}
theorem ps_setDcT {pos spos py : Pos} {i : Nat} {y : Str} (calm : X.calm = true) (roomy : X.A.units < cLine) (diff : X.N.Nodup) (hN : X.N[i]? = some y) (hv : X.env.scope.names.lookup y = some NameKind.local) (hs : swapsWith (.DictComp kx vx [⟨tg, iter, ifs, 0⟩] scope pos) (some (.Name y py)) spos.line X.env = pure true) (walk : PI X tg iter wi) (blk : BlkOk X.N X.env.scope scope own)
    (aim : ∀ (sh : Shared) (G : Hp) (C : Addr) (cl : List (Str × Addr)) (feet : List Addr), PG (X.blk sh G scope (compEnvC scope cl C X.env) feet) tg g)
    (tests : ∀ (sh : Shared) (G : Hp) (C : Addr) (cl : List (Str × Addr)) (feet : List Addr), PTs (X.blk sh G scope (compEnvC scope cl C X.env) feet) ifs tt)
    (keys : ∀ (sh : Shared) (G : Hp) (C : Addr) (cl : List (Str × Addr)) (feet : List Addr), PE (X.blk sh G scope (compEnvC scope cl C X.env) feet) kx tk)
    (vals : ∀ (sh : Shared) (G : Hp) (C : Addr) (cl : List (Str × Addr)) (feet : List Addr), PE (X.blk sh G scope (compEnvC scope cl C X.env) feet) vx tv)
    (plain : ∀ x, foldedSetIterable iter X.env x = pure x := by intro _; rfl) : PS X (.Assign [.Name y py] (.DictComp kx vx [⟨tg, iter, ifs, 0⟩] scope pos) spos) (tAsg (tDcT wi g tt tk tv (own.map (·.2))) (gName i)) := by
  refine ⟨fun pp sh0 st G0 D0 I0 ask => ?_⟩
  rw [exec_Assign_Name_used _ _ _ _ hs, arm_evalThenUse_DictComp]
  refine wpAny_bind (wpAny_standAt ?_)
  have frees : ∀ y ∈ scope.names, y.2 = .free → ∃ c, X.env.cells.lookup y.1 = some c := fun y hy e => (blk.free y hy e).elim (fun k => I0.ok.has _ (.inl k)) fun k => I0.ok.has _ (.inr k)
  refine wpAny_bind (wpAny_bind (wpAny_comprehension_free (use := some (assign (.Name y py) X.env)) rfl plain (closure_ok frees) blk.kind (fun y hy e => by rw [blk.uniq y hy, e]) (thn (walk.run pp sh0 st G0 _ I0 ask) fun xv sh1 came => thn came fun itv sh2 more => ?_)))
  obtain ⟨it, feet, ten, J, G2, rfl, I2, T, at0, free2, turn⟩ := more
  refine wpAny_newObj_type (newEnv_comp ?_)
  have new : G2 sh2.heap.objs.size = none := I2.hok.fresh (Nat.le_refl _)
  obtain ⟨W, ⟨m0, w0⟩, step⟩ := turn _ new
  -- the dict is laid
  obtain ⟨G3, eG3⟩ : ∃ G3, G3 = upd G2 sh2.heap.objs.size (.dT []) := ⟨_, rfl⟩
  rw [← eG3] at w0
  obtain ⟨sh3, e3⟩ : ∃ sh3 : Shared, sh3 = { sh2 with heap := sh2.heap.push { cls := .type "dict", data := .dict #[] } } := ⟨_, rfl⟩
  have I3 : Inv X pp st G3 sh3 := by
    rw [e3, eG3]
    exact I2.laid (t' := sh2.toks) (fun b o q => Heap.get?_push_of_some _ q) (Nat.le_refl _) (dt_empty sh2.heap I2.big)
  have heap3 : sh3.heap = sh2.heap.push { cls := .type "dict", data := .dict #[] } := by rw [e3]
  have low : ∀ b ∈ feet, b < sh2.heap.objs.size := fun b hb => Heap.lt_size (T.obj _ _ at0 b hb).choose_spec.1
  have free3 : ∀ b ∈ feet, FpOk X pp G3 b ∧ b < sh3.heap.objs.size := fun b hb => ⟨⟨by rw [eG3, upd_ne (Nat.ne_of_lt (low b hb))]; exact (free2 b hb).1, (free2 b hb).2⟩, by rw [heap3, Heap.size_push]; exact Nat.lt_succ_of_lt (low b hb)⟩
  have at3 : ten 0 sh3.heap := T.keep _ _ _ at0 fun b _ o q => by rw [heap3]; exact Heap.get?_push_of_some _ q
  have I4 := block_start I3 blk diff free3
  obtain ⟨C, eC⟩ : ∃ C, C = sh3.heap.objs.size := ⟨_, rfl⟩
  obtain ⟨cl, ecl⟩ : ∃ cl, cl = cellsFrom (sh3.heap.objs.size + 1) scope.names (cloFrom X.env.cells scope.names []) := ⟨_, rfl⟩
  obtain ⟨sh4, e4⟩ : ∃ sh4 : Shared, sh4 = { sh3 with heap := pushCells (sh3.heap.push { cls := .type "dict", data := .dict #[] }) scope.names } := ⟨_, rfl⟩
  rw [← ecl, ← eC, ← e4] at I4
  have at4 : ten 0 sh4.heap := T.keep _ _ _ at3 fun b _ o q => by rw [e4]; exact pushCells_keeps _ _ _ _ (Heap.get?_push_of_some _ q)
  have none3 : ∀ b ∈ feet, G3 b = none := fun b hb => (free3 b hb).1.1
  obtain ⟨Y, eY⟩ : ∃ Y, Y = X.blk sh3 G3 scope (compEnvC scope cl C X.env) feet := ⟨_, rfl⟩
  rw [← eY] at I4
  have held : ∀ {st' : L2.St} {G' : Hp} {sh' : Shared}, Inv Y [] st' G' sh' → (∀ b ∈ feet, G' b = none) → ∀ b ∈ feet, FpOk Y [] G' b := by
    subst eY
    exact fun {_ _ _} I' no b hb => ⟨no b hb, (I'.ok.exf b hb).1, I'.ok.exfs b hb, .inl hb, fun x c q => (I'.ok.exf b hb).2 x c q, fun p hp => absurd (show p ∈ ([] : List (Addr × Obj)) ++ [] from hp) (by simp)⟩
  have locC : (compEnvC scope cl C X.env).locals = C := rfl
  have loop : codeAny (model X.prog X.w) X.A (.compLoop (.DictComp kx vx [⟨tg, iter, ifs, 0⟩] scope pos) 0 (.ref it) (.ref sh2.heap.objs.size) (compEnvC scope cl C X.env)) (compPost (model X.prog X.w) X.A X.xe (some (assign (.Name y py) X.env)) (fun _ sh => wpAny (model X.prog X.w) X.A (pure ()) (fun _ sh => wpAny (model X.prog X.w) X.A (pure Flow.next) (SP X pp D0) X.xe sh) X.xe sh) (.ref sh2.heap.objs.size) C) sh4 := by
    subst eY
    refine compLoop_anyD (fun left sh => ∃ i G, Inv (X.blk sh3 G3 scope (compEnvC scope cl C X.env) feet) [] (wipe st (own.map (·.2))) G sh ∧ ten i sh.heap ∧ (∀ b ∈ feet, G b = none) ∧ W i left G) ?_ m0 ⟨0, G3, I4, at4, none3, w0⟩
    rintro left sh5 ⟨i, G5, I5, at5, no5, w5⟩
    rcases step i left G5 w5 with ⟨over, good⟩ | ⟨on, Nx, fewer, go⟩
    · -- the walk is over
      refine thnF (T.done (X.blk sh3 G3 scope (compEnvC scope cl C X.env) feet) rfl rfl rfl calm i [] sh5 _ G5 (fun _ _ => False) I5 (held I5 no5) at5 over) fun r sh6 ⟨er, I6⟩ => ?_
      subst er
      have I7 : Inv X pp st G5 sh6 := I3.call' (ch := feet) I6.os I6.base I6.hok I6.bare fun b hb => let f := (free3 b hb).1.2; ⟨f.2.2.1, f.1, f.2.2.2.1, f.2.2.2.2⟩
      have noC : G5 C = none := I6.free
      obtain ⟨m, names, _⟩ := I6.loc
      obtain ⟨oC, esC, epC, hoC, hdC, restC⟩ := id names
      have pinC := I7.pinned (fp := [C]) (fun b hb => by rw [List.mem_singleton.mp hb]; exact I3.fpOk (Nat.le_of_eq eC.symm) noC) (fun b hb => by rw [List.mem_singleton.mp hb]; exact ⟨oC, hoC, fun v q => by rw [hdC] at q; cases q⟩)
      refine thn ((pg_name diff hN (.inl hv) (Or.inr hv)).run _ sh6 st G5 (.ref sh2.heap.objs.size) (.ref sh2.heap.objs.size) _ pinC rfl good) fun _ sh7 ⟨st7, G7, I8, q8⟩ => ?_
      have hp := I8.pin (C, oC) (List.mem_append_right _ (List.mem_append_right _ (mem_pinsAt (List.mem_singleton.mpr rfl) hoC)))
      obtain ⟨f0, f1, f2, f3, f4, f5⟩ := I3.fpOk (Nat.le_of_eq eC.symm) hp.2.1
      exact ⟨m, ⟨oC, esC, epC, hp.1, hdC, restC⟩, fun h'' sb => wpAny_pure (wpAny_pure ⟨st7, G7, I8.unpinned.turned (t' := sh7.toks) (fun b o hb q => (sb.2 b hb).trans q) f0 f1 f3 f4 f5, q8⟩)⟩
    · -- one turn
      refine thnF (T.item (X.blk sh3 G3 scope (compEnvC scope cl C X.env) feet) rfl rfl rfl calm i [] sh5 _ G5 (fun _ _ => False) I5 (held I5 no5) at5 on) fun r sh6 ⟨u, er, rest⟩ => ?_
      subst er
      refine thnF rest fun _ sh7 ⟨x, G7, I7, rx, y7, at7, no7⟩ => ?_
      have P7 := I7.pinned (held I7 no7) (T.obj _ _ at7)
      refine thnF ((aim sh3 G3 C cl feet).run _ sh7 _ G7 x u _ P7 rx (go x G7 y7)) fun _ sh8 ⟨st8, G8, I8, same8, q8⟩ => ?_
      refine thnF ((tests sh3 G3 C cl feet).run _ sh8 st8 G8 _ I8 q8) fun yes sh9 ⟨G9, I9, q9⟩ => ?_
      have back : ∀ {sh' : Shared} {G' : Hp}, Inv (X.blk sh3 G3 scope (compEnvC scope cl C X.env) feet) ([] ++ pinsAt feet sh7.heap) st8 G' sh' → Nx G' →
          ∃ m, m < left ∧ ∃ i G, Inv (X.blk sh3 G3 scope (compEnvC scope cl C X.env) feet) [] (wipe st (own.map (·.2))) G sh' ∧ ten i sh'.heap ∧ (∀ b ∈ feet, G b = none) ∧ W i m G := by
        intro sh' G' I' nx
        obtain ⟨m', less, w'⟩ := fewer G' nx
        have pin : ∀ b ∈ feet, ∀ o, sh7.heap.get? b = some o → sh'.heap.get? b = some o ∧ G' b = none := fun b hb o q => by
          have z := I'.pin (b, o) (List.mem_append_right _ (List.mem_append_right _ (mem_pinsAt hb q)))
          exact ⟨z.1, z.2.1⟩
        have len : (wipe st (own.map (·.2))).length = st8.length := by rw [← same8, wipe_length]
        refine ⟨m', less, i + 1, G', (I'.unpinned (pins := [])).weak len (fun j v q => ?_), T.keep _ _ _ at7 fun b hb o q => (pin b hb o q).1, fun b hb => ?_, w'⟩
        · rw [← same8] at q
          exact (wipe_some q).1
        · obtain ⟨o, q, _⟩ := T.obj _ _ at7 b hb
          exact (pin b hb o q).2
      cases yes with
      | false => exact back I9 q9
      | true =>
        refine thnF ((keys sh3 G3 C cl feet).run _ sh9 st8 G9 _ I9 q9) fun ku sh10 ⟨yk, G10, I10, rk, q10⟩ => ?_
        refine thnF ((vals sh3 G3 C cl feet).run _ sh10 st8 G10 _ I10 q10) fun vu sh11 ⟨yv, G11, I11, rv, kvs, k, b, ek, hb, hD, few, nx⟩ => ?_
        subst ek
        obtain rfl : ku = .ref b := rk
        exact put_tup (X := X.blk sh3 G3 scope (compEnvC scope cl C X.env) feet) roomy I11 hD few hb rv fun sh12 I12 => back I12 nx
  show codeAny _ _ (.compStart (.DictComp kx vx [⟨tg, iter, ifs, 0⟩] scope pos) 0 (.ref it) (.ref sh2.heap.objs.size) (compEnvC scope (cellsFrom (sh2.heap.push { cls := .type "dict", data := .dict #[] }).objs.size.succ scope.names (cloFrom X.env.cells scope.names [])) (sh2.heap.push { cls := .type "dict", data := .dict #[] }).objs.size X.env)) _ _
  rw [heap3] at eC ecl
  subst e3
  subst e4 ecl eC
  exact codeAny_compStart_dict loop (T.self X.A 0 _ _ _ at4 loop)
end
theorem sw_trueD {kx vx : Expr} {gs : List Comprehension} {scope : Scope} {pos py : Pos} {y : Str} {l : Nat} {env : Env} (h1 : env.scope.kind = ScopeKind.function) (h2 : List.lookup y env.scope.names = some NameKind.local) (h3 : (py.line == pos.line) = true)
   (h4 : (scope.names.any fun x => match x with | (n, k) => n == y && (k == NameKind.local || k == NameKind.cell)) = false) : swapsWith (.DictComp kx vx gs scope pos) (some (.Name y py)) l env = pure true := sw_true (elt := kx) (gs := gs) (l := l) h1 h2 h3 h4
end HR
set_option maxRecDepth 100000
set_option maxHeartbeats 4000000
/-! a + b of tuples, a empty or not, b not empty; calls by one of two rules -/
namespace HR
open PySem PySem.Spec PyProof.Rows L2
def rCatTx (K : PySem.W.Frag) : R2 := fun x y H Q => ∃ (a b : Addr) (xs ys : List V), x = .ref a ∧ y = .ref b ∧ SqT K H a xs ∧ SqT K H b ys ∧ ys ≠ [] ∧ xs.length + ys.length ≤ sizeLine ∧ (xs = [] → Q (.ref b) H) ∧ (xs ≠ [] → ∀ p : Addr, H p = none → Q (.ref p) (upd H p (.tup (xs ++ ys))))
theorem op_catTx {X : Cx} {K : PySem.W.Frag} (hK : X.K = K := by rfl) : OpR X (binaryOp .Add) (rCatTx K) := by
  subst hK
  intro pins s σ H x y v u Q I rx ry h
  obtain ⟨a, b, xs, ys, rfl, rfl, ha, hb, ny, few, q0, q1⟩ := h
  cases xs with
  | cons x0 xr => exact op_catT pins s σ H _ _ v u Q I rx ry ⟨a, b, _, ys, rfl, rfl, ha, hb, List.cons_ne_nil _ _, few, fun e => absurd e ny, fun _ => q1 (List.cons_ne_nil _ _)⟩
  | nil =>
    cases rx
    cases ry
    obtain ⟨i1, v1, t1, _⟩ := I.tuple ha
    obtain ⟨i2, v2, t2, _⟩ := I.tuple hb
    have e1 : i1 = [] := List.eq_nil_of_length_eq_zero (by rw [← v1.length]; rfl)
    subst e1
    refine wpAny_binaryOp_concat t1.typeIs t2.typeIs noFill_tuple_add seq_tuple_add ?_
    obtain ⟨⟨c1, dd1, da1, sl1⟩, g1, k1, n1, d1⟩ := id t1
    obtain ⟨⟨c2, dd2, da2, sl2⟩, g2, k2, n2, d2⟩ := id t2
    dsimp only at k1 k2 d1 d2
    subst k1 k2 d1 d2
    exact call_meetsIn F.slot_tuple_add t1.typeIs F.entry_tuple_add (F.args_tuple_add_2 _ _) ((tuple_addW0 a b #[] _ n1 n2 dd1 dd2 sl1 sl2 rfl).inModel _ _) ⟨g1, g2, ⟨.ref b, H, I, rfl, q0 rfl⟩⟩
theorem cr_or {X : Cx} {f : Value} {r1 r2 : List V → Hp → VK → Prop} (h1 : CallR X f r1) (h2 : CallR X f r2) : CallR X f (fun vs H Q => r1 vs H Q ∨ r2 vs H Q) := by
  intro pins s σ H vs us Q I r h
  rcases h with h | h
  · exact h1 pins s σ H vs us Q I r h
  · exact h2 pins s σ H vs us Q I r h
end HR
set_option maxRecDepth 100000
set_option maxHeartbeats 4000000
/-! tuple(a list), the object told too; dict(such a tuple of pairs) -/
namespace HR
open PySem PySem.Spec PyProof.Rows L2
section
variable {X : Cx}
/-- tuple(a list): a tuple that has no attributes of its own -/
def rTupF (K : PySem.W.Frag) : List V → Hp → VK → Prop := fun xs H Q => ∃ (p : Addr) (ys : List V), xs = [.ref p] ∧ SqL K H p ys ∧ ∀ (l : Addr) (o : Obj), o.cls = .type "tuple" → o.dict = none → H l = none → Q (.ref l) (upd H l (.frz o (.tup ys)))
theorem cr_tupF {K : PySem.W.Frag} (hK : X.K = K := by rfl) : CallR X (.type "tuple") (rTupF K) := by
  subst hK
  intro pins s σ H xs us Q I rx h
  obtain ⟨p, ys, rfl, hs, q⟩ := h
  rw [Vals.ref1 rx]
  obtain ⟨its, rv, hl, few⟩ := I.list hs
  have len := rv.length
  refine call_tuple_list hl.isList (fun h' keep => ?_) (by rw [List.size_toArray, ← len]; exact few)
  have I1 : Inv X pins σ H { s with heap := h', toks := s.toks } := I.kept keep
  refine ⟨.ref h'.objs.size, upd H h'.objs.size (.frz { cls := .type "tuple", data := .seq its.toArray } (.tup ys)), I1.laid (t' := s.toks) (fun b o q => Heap.get?_push_of_some _ q) (Nat.le_refl _) ⟨Heap.get?_push_size _ rfl, few, its, rv, ⟨_, Heap.get?_push_size _ rfl, rfl, _, rfl⟩⟩, rfl, q _ _ rfl rfl (I1.hok.fresh (Nat.le_refl _))⟩
/-- dict(a tuple of pairs) -/
def rDictF (K : PySem.W.Frag) : List V → Hp → VK → Prop := fun xs H Q => ∃ (a : Addr) (o : Obj) (ps : List Addr) (kvs : List (L2.Key × V)), xs = [.ref a] ∧ H a = some (.frz o (.tup (ps.map V.ref))) ∧ o.dict = none ∧ Paired (fun p kv => SqT K H p [kV kv.1, kv.2]) ps kvs ∧
  ∀ p, H p = none → Q (.ref p) (upd H p (.dK (mergeK [] kvs)))
theorem key_rel {k : L2.Key} {u : Value} (h : RelV (kV k) u) : keyIs k u = true := by
  cases k with
  | inl i =>
    obtain ⟨t, rfl⟩ := h
    exact decide_eq_true rfl
  | inr x =>
    obtain ⟨t, rfl⟩ := h
    exact decide_eq_true rfl
theorem pairs_told {pins : List (Addr × Obj)} {σ : L2.St} {H : Hp} {s : Shared} (I : Inv X pins σ H s) : ∀ {ps : List Addr} {kvs : List (L2.Key × V)}, Paired (fun p kv => SqT X.K H p [kV kv.1, kv.2]) ps kvs →
    ∃ (us : List Value) (vs : List (L2.Key × Value)), KV kvs vs ∧ us.length = ps.length ∧ vs.length = ps.length ∧ ∀ (j : Nat) (p : Addr) (u : Value) (kv : L2.Key × Value), ps[j]? = some p → us[j]? = some u → vs[j]? = some kv → keyIs kv.1 u = true ∧ IsTup s.heap p #[u, kv.2]
  | _, _, .nil => ⟨[], [], .nil, rfl, rfl, fun j p u kv h => by simp at h⟩
  | _, _, .cons (a := p) (b := kv) (l₁ := ps) (l₂ := kvs) h r => by
    obtain ⟨us, vs, k, l1, l2, w⟩ := pairs_told I r
    obtain ⟨its, rv, t, _⟩ := I.tuple h
    obtain ⟨u, v, rfl, ru, rw'⟩ := vals2 rv
    refine ⟨u :: us, (kv.1, v) :: vs, .cons ⟨rfl, rw'⟩ k, by simp [l1], by simp [l2], fun j q x y h1 h2 h3 => ?_⟩
    cases j with
    | zero =>
      cases h1
      cases h2
      cases h3
      exact ⟨key_rel ru, t⟩
    | succ j => exact w j q x y (by simpa using h1) (by simpa using h2) (by simpa using h3)
theorem cr_dictF {K : PySem.W.Frag} (hc : X.calm = true) (hK : X.K = K := by rfl) : CallR X (.type "dict") (rDictF K) := by
  subst hK
  intro pins s σ H xs us Q I rx h
  obtain ⟨a, o, ps, kvs, rfl, ha, hd, pr, q⟩ := h
  rw [Vals.ref1 rx]
  obtain ⟨g, few, its, rv, t⟩ := I.hok a _ ha
  obtain ⟨us, vs, kv, l1, l2, w⟩ := pairs_told I pr
  have li := rv.length
  rw [List.length_map] at li few
  obtain ⟨o2, g2, c2, n, d2⟩ := t
  rw [g] at g2
  cases g2
  have lz : (List.zip us (vs.map Prod.snd)).length = ps.length := by rw [List.length_zip, List.length_map, l1, l2, Nat.min_self]
  refine call_dict_pairs (knd := mixKind X.prog X.w) (kvs := vs) (PairArg.tuple a its.toArray (fun j => ps.getD j 0) (List.zip us (vs.map Prod.snd))) (I.ok.hd hc) ⟨⟨o, n, g, c2, hd, d2⟩, by rw [List.size_toArray, lz, ← li], fun j k v hj => ?_⟩ ⟨by rw [lz, l2], fun i key v hj => ?_⟩ (by rw [lz]; exact few) fun h' tk dd keep => ?_
  · obtain ⟨h1, h2⟩ := List.getElem?_zip_eq_some.mp hj
    have hjl : j < ps.length := by rw [← l1]; exact (List.getElem?_eq_some_iff.mp h1).1
    rw [List.getElem?_map] at h2
    obtain ⟨y, hy, rfl⟩ := Option.map_eq_some_iff.mp h2
    have hp : ps[j]? = some (ps.getD j 0) := by rw [List.getD_eq_getElem?_getD, List.getElem?_eq_getElem hjl]; rfl
    obtain ⟨u, hu, ru⟩ := rv.get (i := j) (x := V.ref (ps.getD j 0)) (by rw [List.getElem?_map, hp]; rfl)
    have eu : u = .ref (ps.getD j 0) := ru
    subst eu
    refine ⟨by simpa using hu, .inl ?_⟩
    exact (w j _ _ _ hp h1 hy).2
  · obtain ⟨h1, h2⟩ := List.getElem?_zip_eq_some.mp hj
    have hjl : i < ps.length := by rw [← l1]; exact (List.getElem?_eq_some_iff.mp h1).1
    rw [List.getElem?_map] at h2
    obtain ⟨y, hy, rfl⟩ := Option.map_eq_some_iff.mp h2
    exact ⟨y.1, hy, (w i _ _ _ (List.getElem?_eq_getElem hjl) h1 hy).1⟩
  · have hz : (mergeK [] kvs).length ≤ sizeLine := Nat.le_trans (length_mergeK kvs []) (by rw [← Paired.length pr]; simpa using few)
    have hs : (s.heap.objs.size == sysModules) = false := by
      have := I.big
      exact beq_false_of_ne (Nat.ne_of_gt this)
    exact ⟨.ref s.heap.objs.size, upd H s.heap.objs.size (.dK (mergeK [] kvs)), I.laid (t' := tk) (fun b o q => keep b o (by simp) q) (Nat.le_refl _) (dk_new hz hs (KV.merge kv .nil) dd), rfl, q _ (I.hok.fresh (Nat.le_refl _))⟩
/-- repr(True) -/
theorem call_reprBl (gd : X.A.guards = some []) (hu : X.A.units + 70 < cLine) : CallR X (.builtin "repr") (fun xs H Q => ∃ b, xs = [.bl b] ∧ Q (.str (PyData.bool b).shown) H) := by
  intro pins s σ H xs us Q I r h
  obtain ⟨b, rfl, q⟩ := h
  obtain ⟨u, rfl, ru⟩ := vals1 r
  have e : u = .bool b := ru
  subst e
  have e2 : (PyData.bool b).shown = if b = true then Str.ofString "True" else Str.ofString "False" := by
    simp only [PyData.shown]
  rw [e2] at q
  exact PySem.P.repr_of_bool ⟨.str _, H, I.tok _, ⟨_, rfl⟩, q⟩
end
end HR
set_option maxRecDepth 100000
set_option maxHeartbeats 4000000
/-! {text for .. if .. for ..} -/
namespace SC
open PySem PySem.Spec PyProof.Rows L2 TSet
abbrev tests (ifs : List Expr) (env : Env) : Sem Bool := forIn ifs true fun c r => if r = true then (do
  let ok ← PySem.isTrue c env (eval c env)
  pure (ForInStep.yield ok)) else pure (ForInStep.yield r)
section
variable {prog : Program} {w : World} {A : Around} {R : Result → Shared → Prop} {s : Shared} {elt t0 i0 t1 i1 : Expr} {ifs0 ifs1 : List Expr} {scope : Scope} {pos : Pos} {it acc : Value} {env : Env}
theorem turn_out : compTurn (.SetComp elt [⟨t0, i0, ifs0, 0⟩, ⟨t1, i1, ifs1, 0⟩] scope pos) 0 it acc env =
    (standAt i0.pos >>= fun _ => pyNext it >>= fun r => match r with
      | none => pure (Fin.done Flow.next)
      | some v => letOwnedTupleGo t0 it v >>= fun _ => assign t0 env v >>= fun _ => tests ifs0 env >>= fun ok =>
        if ok = true then eval i1 env >>= fun x => standAt i1.pos >>= fun _ => foldedSetIterable i1 env x >>= fun x => holding [x] (pyIter x) >>= fun u => runOwn (.compStart (.SetComp elt [⟨t0, i0, ifs0, 0⟩, ⟨t1, i1, ifs1, 0⟩] scope pos) 1 u acc env) env >>= fun _ => PySem.again (.compLoop (.SetComp elt [⟨t0, i0, ifs0, 0⟩, ⟨t1, i1, ifs1, 0⟩] scope pos) 0 it acc env)
        else PySem.again (.compLoop (.SetComp elt [⟨t0, i0, ifs0, 0⟩, ⟨t1, i1, ifs1, 0⟩] scope pos) 0 it acc env)) := rfl
theorem turn_in : compTurn (.SetComp elt [⟨t0, i0, ifs0, 0⟩, ⟨t1, i1, ifs1, 0⟩] scope pos) 1 it acc env =
    (standAt i1.pos >>= fun _ => pyNext it >>= fun r => match r with
      | none => pure (Fin.done Flow.next)
      | some v => letOwnedTupleGo t1 it v >>= fun _ => assign t1 env v >>= fun _ => tests ifs1 env >>= fun ok =>
        if ok = true then (eval elt env >>= fun v => standAt elt.pos >>= fun _ => call (.builtin "set.add") [acc, v] >>= fun _ => pure ()) >>= fun _ => PySem.again (.compLoop (.SetComp elt [⟨t0, i0, ifs0, 0⟩, ⟨t1, i1, ifs1, 0⟩] scope pos) 1 it acc env)
        else PySem.again (.compLoop (.SetComp elt [⟨t0, i0, ifs0, 0⟩, ⟨t1, i1, ifs1, 0⟩] scope pos) 1 it acc env)) := rfl
theorem loop_in (I : Nat → Shared → Prop) (hyp : ∀ n s, I n s → wpAny (model prog w) A (pyNext it) (fun r s1 => match r with
      | none => R (.ok .next) s1
      | some v => wpAny (model prog w) A (letOwnedTupleGo t1 it v) (fun _ s2 => wpAny (model prog w) A (assign t1 env v) (fun _ s3 => wpAny (model prog w) A (tests ifs1 env) (fun ok s4 =>
          if ok = true then wpAny (model prog w) A (eval elt env) (fun x s5 => wpAny (model prog w) A (call (.builtin "set.add") [acc, x]) (fun _ s6 => ∃ m, m < n ∧ I m s6) (fun _ _ => False) s5) (fun _ _ => False) s4
          else ∃ m, m < n ∧ I m s4) (fun _ _ => False) s3) (fun _ _ => False) s2) (fun _ _ => False) s1) (fun _ _ => False) s) (n : Nat) (hI : I n s) :
    codeAny (model prog w) A (.compLoop (.SetComp elt [⟨t0, i0, ifs0, 0⟩, ⟨t1, i1, ifs1, 0⟩] scope pos) 1 it acc env) R s := by
  refine codeAny_loop rfl I (fun n s hI => ?_) n hI
  show wpAny _ _ ((compTurn (.SetComp elt [⟨t0, i0, ifs0, 0⟩, ⟨t1, i1, ifs1, 0⟩] scope pos) 1 it acc env).onRaise _) _ _ _
  refine wpAny_onRaise ?_
  rw [turn_in]
  refine wpAny_bind (wpAny_standAt ?_)
  refine wpAny_bind (thnF (hyp n s hI) fun r s1 h1 => ?_)
  cases r with
  | none => exact wpAny_pure h1
  | some v =>
    refine wpAny_bind (thnF h1 fun _ s2 h2 => ?_)
    refine wpAny_bind (thnF h2 fun _ s3 h3 => ?_)
    refine wpAny_bind (thnF h3 fun ok s4 h4 => ?_)
    cases ok with
    | false => exact wpAny_pure ⟨rfl, h4⟩
    | true =>
      refine wpAny_bind (wpAny_bind (thnF h4 fun x s5 h5 => ?_))
      refine wpAny_bind (wpAny_standAt ?_)
      refine wpAny_bind (thnF h5 fun _ s6 h6 => ?_)
      exact wpAny_pure (wpAny_pure ⟨rfl, h6⟩)
theorem loop_out (plain : ∀ x, foldedSetIterable i1 env x = pure x) (I : Nat → Shared → Prop) (hyp : ∀ n s, I n s → wpAny (model prog w) A (pyNext it) (fun r s1 => match r with
      | none => R (.ok .next) s1
      | some v => wpAny (model prog w) A (letOwnedTupleGo t0 it v) (fun _ s2 => wpAny (model prog w) A (assign t0 env v) (fun _ s3 => wpAny (model prog w) A (tests ifs0 env) (fun ok s4 =>
          if ok = true then wpAny (model prog w) A (eval i1 env) (fun x s5 => wpAny (model prog w) A (pyIter x) (fun u s6 => codeAny (model prog w) A (.compStart (.SetComp elt [⟨t0, i0, ifs0, 0⟩, ⟨t1, i1, ifs1, 0⟩] scope pos) 1 u acc env) (fun r s7 => match r with | .ok _ => ∃ m, m < n ∧ I m s7 | .error _ => False) s6) (fun _ _ => False) s5) (fun _ _ => False) s4
          else ∃ m, m < n ∧ I m s4) (fun _ _ => False) s3) (fun _ _ => False) s2) (fun _ _ => False) s1) (fun _ _ => False) s) (n : Nat) (hI : I n s) :
    codeAny (model prog w) A (.compLoop (.SetComp elt [⟨t0, i0, ifs0, 0⟩, ⟨t1, i1, ifs1, 0⟩] scope pos) 0 it acc env) R s := by
  refine codeAny_loop rfl I (fun n s hI => ?_) n hI
  show wpAny _ _ ((compTurn (.SetComp elt [⟨t0, i0, ifs0, 0⟩, ⟨t1, i1, ifs1, 0⟩] scope pos) 0 it acc env).onRaise _) _ _ _
  refine wpAny_onRaise ?_
  rw [turn_out]
  refine wpAny_bind (wpAny_standAt ?_)
  refine wpAny_bind (thnF (hyp n s hI) fun r s1 h1 => ?_)
  cases r with
  | none => exact wpAny_pure h1
  | some v =>
    refine wpAny_bind (thnF h1 fun _ s2 h2 => ?_)
    refine wpAny_bind (thnF h2 fun _ s3 h3 => ?_)
    refine wpAny_bind (thnF h3 fun ok s4 h4 => ?_)
    cases ok with
    | false => exact wpAny_pure ⟨rfl, h4⟩
    | true =>
      refine wpAny_bind (thnF h4 fun x s5 h5 => ?_)
      refine wpAny_bind (wpAny_standAt ?_)
      rw [plain]
      refine wpAny_bind (wpAny_pure ?_)
      refine wpAny_bind (wpAny_holding (thnF h5 fun u s6 h6 => ?_))
      refine wpAny_bind (wpAny_runOwn (codeAny_mono h6 fun r s7 h7 => ?_))
      cases r with
      | error e => exact h7.elim
      | ok f => exact wpAny_pure ⟨rfl, h7⟩
theorem start_at {d : Nat} (hd : ((clausesOf (.SetComp elt [⟨t0, i0, ifs0, 0⟩, ⟨t1, i1, ifs1, 0⟩] scope pos))[d]?.elim false fun x => x.is_async != 0) = false)
    (h : codeAny (model prog w) A (.compLoop (.SetComp elt [⟨t0, i0, ifs0, 0⟩, ⟨t1, i1, ifs1, 0⟩] scope pos) d it acc env) R s)
    (h2 : wpAny (model prog w) A (pyIter it) (fun it' s' => codeAny (model prog w) A (.compLoop (.SetComp elt [⟨t0, i0, ifs0, 0⟩, ⟨t1, i1, ifs1, 0⟩] scope pos) d it' acc env) R s') (fun _ _ => False) s) :
    codeAny (model prog w) A (.compStart (.SetComp elt [⟨t0, i0, ifs0, 0⟩, ⟨t1, i1, ifs1, 0⟩] scope pos) d it acc env) R s := by
  refine codeAny_of_tree ?_
  show wpAny _ _ ((compStart (.SetComp elt [⟨t0, i0, ifs0, 0⟩, ⟨t1, i1, ifs1, 0⟩] scope pos) d it acc env).onRaise _) _ _ _
  refine wpAny_onRaise ?_
  unfold compStart
  rw [hd, if_neg Bool.false_ne_true]
  refine wpAny_bind (wpAny_askSetting ?_)
  by_cases g : (model prog w).w.params.followText "comprehension-iter-twice" = true
  · rw [if_pos g]
    exact wpAny_pure ⟨rfl, h⟩
  · rw [if_neg g]
    refine wpAny_bind (wpAny_rule ?_)
    cases hg : (clausesOf (.SetComp elt [⟨t0, i0, ifs0, 0⟩, ⟨t1, i1, ifs1, 0⟩] scope pos))[d]? with
    | none => exact wpAny_bind (thnF h2 fun it' s' h3 => wpAny_pure ⟨rfl, h3⟩)
    | some g => exact wpAny_bind (wpAny_standAt (wpAny_bind (thnF h2 fun it' s' h3 => wpAny_pure ⟨rfl, h3⟩)))
end
end SC
set_option maxRecDepth 100000
set_option maxHeartbeats 4000000
namespace SC
open PySem PySem.Spec PyProof.Rows L2 TSet Froz
section
variable {P : Program} {w : World} {A : Around} {E : Value → Shared → Prop} {s : Shared}
theorem set_add_txt {a : Addr} {D : SD} {l : List Str} {k : Str} {u : Tok} {Q : Value → Shared → Prop} (at_ : s.heap.get? a = some (sObj "set" D)) (Z : Txs P w D l) (few : l.length + 1 < scanBound)
    (h : ∀ h' tk D' l', Heap.SameBut a s.heap h' → h'.get? a = some (sObj "set" D') → Txs P w D' l' → (∀ z, z ∈ l' ↔ z = k ∨ z ∈ l) → l'.length ≤ l.length + 1 → Q .none { s with heap := h', toks := tk }) :
    wpAny (model P w) A (call (.builtin "set.add") [.ref a, .str k u]) Q E s := by
  refine call_meetsIn (S := fun A R s => s.heap.get? a = some (sObj "set" D) ∧ ∀ h' tk D' l', Heap.SameBut a s.heap h' → h'.get? a = some (sObj "set" D') → Txs P w D' l' → (∀ z, z ∈ l' ↔ z = k ∨ z ∈ l) → l'.length ≤ l.length + 1 → R (.ok (.ret .none)) { s with heap := h', toks := tk }) F.slot_set_add ⟨_, at_, rfl⟩ F.entry_set_add (F.args_set_add_2 _ _) (fun A R s ⟨g, q⟩ => ?_) ⟨at_, fun h' tk D' l' a b c d e => h h' tk D' l' a b c d e⟩
  unfold Builtin.«set.add» Builtin.Frozenset.oneOther
  have add_ : ∀ {A' : Around} {E' : Value → Shared → Prop} {Q' : Bool → Shared → Prop}, (∀ b h' tk D' l', Heap.SameBut a s.heap h' → h'.get? a = some (sObj "set" D') → Txs P w D' l' → (∀ z, z ∈ l' ↔ z = k ∨ z ∈ l) → l'.length ≤ l.length + 1 → Q' b { s with heap := h', toks := tk }) → wpAny (model P w) A' (setAdd a (.str k u)) Q' E' s := fun q' => by
    unfold setAdd
    refine wpAny_holding (wpAny_bind ((strKind P w).pyHash (k := k) (is_str k u) ?_))
    exact add_any (s := { s with toks := s.toks + 1 }) g Z few fun b h' D' l' c d e f g => q' b h' _ D' l' c d e f g
  wp_walk using add_
  exact fun b h' tk D' l' c d e f g => wpAny_pure (q h' tk D' l' c d e f g)
theorem new_set {Q : Value → Shared → Prop} (h : Q (.ref s.heap.objs.size) { s with heap := s.heap.push (freshSet w) }) : wpAny (model P w) A (newSet (.type "set")) Q E s := by
  unfold newSet setsByText
  refine wpAny_bind (wpAny_bind (wpAny_askSetting ?_))
  refine wpAny_pure ?_
  exact wpAny_newObj_type h
end
/-- {elt for .. if .. for ..}, texts -/
def tSc2 (P : Program) (w : World) (wi : TI) (g : TG) (tt : TT) (wi1 : TI) (g1 : TG) (tt1 : TT) (te : TE) (vs vs1 : List Nat) : TE := fun σ H Q => wi σ H fun J H1 => ∀ D, H1 D = none → ∃ W : Nat → Nat → Hp → Prop, (∃ m, W 0 m (upd H1 D (SetX P w D []))) ∧ ∀ i m H, W i m H →
  (J.stop i H ∧ Q (.ref D) H) ∨ (J.go i H ∧ ∃ Nx : Hp → Prop, (∀ H', Nx H' → ∃ m', m' < m ∧ W (i + 1) m' H') ∧ ∀ x H', J.yld i H x H' → g x (wipe σ vs) H' fun σ2 H2 => wipe σ2 vs = wipe σ vs ∧ tt σ2 H2 fun b H3 =>
    if b = true then wi1 σ2 H3 fun J1 H4 => ∃ W1 : Nat → Nat → Hp → Prop, (∃ m, W1 0 m H4) ∧ ∀ j k H, W1 j k H →
      (J1.stop j H ∧ Nx H) ∨ (J1.go j H ∧ ∃ Nx1 : Hp → Prop, (∀ H', Nx1 H' → ∃ k', k' < k ∧ W1 (j + 1) k' H') ∧ ∀ x H', J1.yld j H x H' → g1 x (wipe σ2 vs1) H' fun σ3 H5 => wipe σ3 vs1 = wipe σ2 vs1 ∧ tt1 σ3 H5 fun b H6 =>
        if b = true then te σ3 H6 fun y H7 => ∃ l z, y = .str z ∧ H7 D = some (SetX P w D l) ∧ l.length < 64 ∧ ∀ l' : List Str, l'.Nodup → (∀ q, q ∈ l' ↔ q = z ∨ q ∈ l) → l'.length ≤ l.length + 1 → Nx1 (upd H7 D (SetX P w D l'))
        else Nx1 H6)
    else Nx H3)
section
variable {X : Cx} {elt tg iter tg1 iter1 : Expr} {ifs ifs1 : List Expr} {scope : Scope} {own : List (Str × Nat)} {vs1 : List Nat} {wi wi1 : TI} {g g1 : TG} {tt tt1 : TT} {te : TE}
theorem pe_sc2 {pos : Pos} (calm : X.calm = true) (diff : X.N.Nodup) (walk : PI X tg iter wi) (blk : BlkOk X.N X.env.scope scope own) (sub : ∀ i ∈ vs1, i ∈ own.map (·.2))
    (aim : ∀ (sh : Shared) (G : Hp) (C : Addr) (cl : List (Str × Addr)) (feet : List Addr), PG (X.blk sh G scope (compEnvC scope cl C X.env) feet) tg g)
    (tests : ∀ (sh : Shared) (G : Hp) (C : Addr) (cl : List (Str × Addr)) (feet : List Addr), PTs (X.blk sh G scope (compEnvC scope cl C X.env) feet) ifs tt)
    (walk1 : ∀ (sh : Shared) (G : Hp) (C : Addr) (cl : List (Str × Addr)) (feet : List Addr), PI (X.blk sh G scope (compEnvC scope cl C X.env) feet) tg1 iter1 wi1)
    (aim1 : ∀ (sh : Shared) (G : Hp) (C : Addr) (cl : List (Str × Addr)) (feet : List Addr), PG (X.blk sh G scope (compEnvC scope cl C X.env) feet) tg1 g1)
    (tests1 : ∀ (sh : Shared) (G : Hp) (C : Addr) (cl : List (Str × Addr)) (feet : List Addr), PTs (X.blk sh G scope (compEnvC scope cl C X.env) feet) ifs1 tt1)
    (elts : ∀ (sh : Shared) (G : Hp) (C : Addr) (cl : List (Str × Addr)) (feet : List Addr), PE (X.blk sh G scope (compEnvC scope cl C X.env) feet) elt te)
    (plain : ∀ x, foldedSetIterable iter X.env x = pure x := by intro _; rfl) (plain1 : ∀ env x, foldedSetIterable iter1 env x = pure x := by intro _ _; rfl) :
    PE X (.SetComp elt [⟨tg, iter, ifs, 0⟩, ⟨tg1, iter1, ifs1, 0⟩] scope pos) (tSc2 X.prog X.w wi g tt wi1 g1 tt1 te (own.map (·.2)) vs1) := by
  refine ⟨fun pp sh0 st G0 Q I0 ask => ?_⟩
  rw [arm_eval_SetComp]
  have frees : ∀ y ∈ scope.names, y.2 = .free → ∃ c, X.env.cells.lookup y.1 = some c := fun y hy e => (blk.free y hy e).elim (fun k => I0.ok.has _ (.inl k)) fun k => I0.ok.has _ (.inr k)
  refine wpAny_comprehension_free (use := none) rfl plain (closure_ok frees) blk.kind (fun y hy e => by rw [blk.uniq y hy, e]) (thn (walk.run pp sh0 st G0 _ I0 ask) fun xv sh1 came => thn came fun itv sh2 more => ?_)
  obtain ⟨it, feet, ten, J, G2, rfl, I2, T, at0, free2, turn⟩ := more
  refine new_set (newEnv_comp ?_)
  have new : G2 sh2.heap.objs.size = none := I2.hok.fresh (Nat.le_refl _)
  obtain ⟨W, ⟨m0, w0⟩, step⟩ := turn _ new
  obtain ⟨G3, eG3⟩ : ∃ G3, G3 = upd G2 sh2.heap.objs.size (SetX X.prog X.w sh2.heap.objs.size []) := ⟨_, rfl⟩
  rw [← eG3] at w0
  obtain ⟨sh3, e3⟩ : ∃ sh3 : Shared, sh3 = { sh2 with heap := sh2.heap.push (freshSet X.w) } := ⟨_, rfl⟩
  have I3 : Inv X pp st G3 sh3 := by
    rw [e3, eG3]
    exact I2.laid (t' := sh2.toks) (fun b o q => Heap.get?_push_of_some _ q) (Nat.le_refl _) (setX_new ⟨(#[], 0, .fresh 0 0 (!X.w.params.followText "set-order")), Heap.get?_push_size _ rfl, Txs.fresh⟩)
  have heap3 : sh3.heap = sh2.heap.push (freshSet X.w) := by rw [e3]
  have low : ∀ b ∈ feet, b < sh2.heap.objs.size := fun b hb => Heap.lt_size (T.obj _ _ at0 b hb).choose_spec.1
  have free3 : ∀ b ∈ feet, FpOk X pp G3 b ∧ b < sh3.heap.objs.size := fun b hb => ⟨⟨by rw [eG3, upd_ne (Nat.ne_of_lt (low b hb))]; exact (free2 b hb).1, (free2 b hb).2⟩, by rw [heap3, Heap.size_push]; exact Nat.lt_succ_of_lt (low b hb)⟩
  have at3 : ten 0 sh3.heap := T.keep _ _ _ at0 fun b _ o q => by rw [heap3]; exact Heap.get?_push_of_some _ q
  have I4 := block_start I3 blk diff free3
  obtain ⟨C, eC⟩ : ∃ C, C = sh3.heap.objs.size := ⟨_, rfl⟩
  obtain ⟨cl, ecl⟩ : ∃ cl, cl = cellsFrom (sh3.heap.objs.size + 1) scope.names (cloFrom X.env.cells scope.names []) := ⟨_, rfl⟩
  obtain ⟨sh4, e4⟩ : ∃ sh4 : Shared, sh4 = { sh3 with heap := pushCells (sh3.heap.push { cls := .type "dict", data := .dict #[] }) scope.names } := ⟨_, rfl⟩
  rw [← ecl, ← eC, ← e4] at I4
  have at4 : ten 0 sh4.heap := T.keep _ _ _ at3 fun b _ o q => by rw [e4]; exact pushCells_keeps _ _ _ _ (Heap.get?_push_of_some _ q)
  have none3 : ∀ b ∈ feet, G3 b = none := fun b hb => (free3 b hb).1.1
  obtain ⟨Y, eY⟩ : ∃ Y, Y = X.blk sh3 G3 scope (compEnvC scope cl C X.env) feet := ⟨_, rfl⟩
  rw [← eY] at I4
  have held : ∀ {st' : L2.St} {G' : Hp} {sh' : Shared}, Inv Y [] st' G' sh' → (∀ b ∈ feet, G' b = none) → ∀ b ∈ feet, FpOk Y [] G' b := by
    subst eY
    exact fun {_ _ _} I' no b hb => ⟨no b hb, (I'.ok.exf b hb).1, I'.ok.exfs b hb, .inl hb, fun x c q => (I'.ok.exf b hb).2 x c q, fun p hp => absurd (show p ∈ ([] : List (Addr × Obj)) ++ [] from hp) (by simp)⟩
  have locC : (compEnvC scope cl C X.env).locals = C := rfl
  have loop : codeAny (model X.prog X.w) X.A (.compLoop (.SetComp elt [⟨tg, iter, ifs, 0⟩, ⟨tg1, iter1, ifs1, 0⟩] scope pos) 0 (.ref it) (.ref sh2.heap.objs.size) (compEnvC scope cl C X.env)) (compPost (model X.prog X.w) X.A X.xe none (EP X pp st Q) (.ref sh2.heap.objs.size) C) sh4 := by
    subst eY
    refine loop_out (plain1 _) (fun left sh => ∃ i G, Inv (X.blk sh3 G3 scope (compEnvC scope cl C X.env) feet) [] (wipe st (own.map (·.2))) G sh ∧ ten i sh.heap ∧ (∀ b ∈ feet, G b = none) ∧ W i left G) ?_ m0 ⟨0, G3, I4, at4, none3, w0⟩
    rintro left sh5 ⟨i, G5, I5, at5, no5, w5⟩
    rcases step i left G5 w5 with ⟨over, good⟩ | ⟨on, Nx, fewer, go⟩
    · -- the walk is over
      refine thnF (T.done (X.blk sh3 G3 scope (compEnvC scope cl C X.env) feet) rfl rfl rfl calm i [] sh5 _ G5 (fun _ _ => False) I5 (held I5 no5) at5 over) fun r sh6 ⟨er, I6⟩ => ?_
      subst er
      have I7 : Inv X pp st G5 sh6 := I3.call' (ch := feet) I6.os I6.base I6.hok I6.bare fun b hb => let f := (free3 b hb).1.2; ⟨f.2.2.1, f.1, f.2.2.2.1, f.2.2.2.2⟩
      have noC : G5 C = none := I6.free
      obtain ⟨m, names, _⟩ := I6.loc
      obtain ⟨f0, f1, f2, f3, f4, f5⟩ := I3.fpOk (Nat.le_of_eq eC.symm) noC
      exact ⟨m, names, fun h'' sb => ⟨.ref sh2.heap.objs.size, G5, I7.turned (t' := sh6.toks) (fun b o hb q => (sb.2 b hb).trans q) f0 f1 f3 f4 f5, rfl, good⟩⟩
    · -- one turn
      refine thnF (T.item (X.blk sh3 G3 scope (compEnvC scope cl C X.env) feet) rfl rfl rfl calm i [] sh5 _ G5 (fun _ _ => False) I5 (held I5 no5) at5 on) fun r sh6 ⟨u, er, rest⟩ => ?_
      subst er
      refine thnF rest fun _ sh7 ⟨x, G7, I7, rx, y7, at7, no7⟩ => ?_
      have P7 := I7.pinned (held I7 no7) (T.obj _ _ at7)
      refine thnF ((aim sh3 G3 C cl feet).run _ sh7 _ G7 x u _ P7 rx (go x G7 y7)) fun _ sh8 ⟨st8, G8, I8, same8, q8⟩ => ?_
      refine thnF ((tests sh3 G3 C cl feet).run _ sh8 st8 G8 _ I8 q8) fun yes sh9 ⟨G9, I9, q9⟩ => ?_
      have back : ∀ {st' : L2.St} {sh' : Shared} {G' : Hp}, Inv (X.blk sh3 G3 scope (compEnvC scope cl C X.env) feet) ([] ++ pinsAt feet sh7.heap) st' G' sh' → st'.length = st8.length → (∀ (j : Nat) (v : V), (wipe st8 (own.map (·.2)))[j]? = some (some v) → st'[j]? = some (some v)) → Nx G' →
          ∃ m, m < left ∧ ∃ i G, Inv (X.blk sh3 G3 scope (compEnvC scope cl C X.env) feet) [] (wipe st (own.map (·.2))) G sh' ∧ ten i sh'.heap ∧ (∀ b ∈ feet, G b = none) ∧ W i m G := by
        intro st' sh' G' I' hl hw nx
        obtain ⟨m', less, w'⟩ := fewer G' nx
        have pin : ∀ b ∈ feet, ∀ o, sh7.heap.get? b = some o → sh'.heap.get? b = some o ∧ G' b = none := fun b hb o q => by
          have z := I'.pin (b, o) (List.mem_append_right _ (List.mem_append_right _ (mem_pinsAt hb q)))
          exact ⟨z.1, z.2.1⟩
        have len : (wipe st (own.map (·.2))).length = st'.length := by rw [← same8, wipe_length, hl]
        refine ⟨m', less, i + 1, G', (I'.unpinned (pins := [])).weak len (fun j v q => ?_), T.keep _ _ _ at7 fun b hb o q => (pin b hb o q).1, fun b hb => ?_, w'⟩
        · rw [← same8] at q
          exact hw j v q
        · obtain ⟨o, q, _⟩ := T.obj _ _ at7 b hb
          exact (pin b hb o q).2
      cases yes with
      | false => exact back I9 rfl (fun j v q => (wipe_some q).1) q9
      | true =>
        refine thnF ((walk1 sh3 G3 C cl feet).run _ sh9 st8 G9 _ I9 q9) fun xv1 sh10 came1 => thnF came1 fun itv1 sh11 more1 => ?_
        obtain ⟨it1, feet1, ten1, J1, G11, rfl, I11, T1, at1, free1, W1, ⟨k0, w10⟩, step1⟩ := more1
        have I11w := I11.weak (wipe_length st8 vs1) (fun j v q => (wipe_some q).1)
        have held1 : ∀ {G' : Hp}, (∀ b ∈ feet1, G' b = none) → ∀ b ∈ feet1, FpOk (X.blk sh3 G3 scope (compEnvC scope cl C X.env) feet) ([] ++ pinsAt feet sh7.heap) G' b := fun no b hb => ⟨no b hb, (free1 b hb).2⟩
        have loop1 : codeAny (model X.prog X.w) X.A (.compLoop (.SetComp elt [⟨tg, iter, ifs, 0⟩, ⟨tg1, iter1, ifs1, 0⟩] scope pos) 1 (.ref it1) (.ref sh2.heap.objs.size) (compEnvC scope cl C X.env)) (fun r s7 => match r with
            | .ok _ => ∃ m, m < left ∧ ∃ i G, Inv (X.blk sh3 G3 scope (compEnvC scope cl C X.env) feet) [] (wipe st (own.map (·.2))) G s7 ∧ ten i s7.heap ∧ (∀ b ∈ feet, G b = none) ∧ W i m G
            | .error _ => False) sh11 := by
          refine loop_in (fun k sh => ∃ j G, Inv (X.blk sh3 G3 scope (compEnvC scope cl C X.env) feet) ([] ++ pinsAt feet sh7.heap) (wipe st8 vs1) G sh ∧ ten1 j sh.heap ∧ (∀ b ∈ feet1, G b = none) ∧ W1 j k G) ?_ k0 ⟨0, G11, I11w, at1, fun b hb => (free1 b hb).1, w10⟩
          rintro k sh12 ⟨j, G12, I12, at12, no12, w12⟩
          rcases step1 j k G12 w12 with ⟨over, nx⟩ | ⟨on1, Nx1, fewer1, go1⟩
          · refine thnF (T1.done (X.blk sh3 G3 scope (compEnvC scope cl C X.env) feet) rfl rfl rfl calm j _ sh12 _ G12 (fun _ _ => False) I12 (held1 no12) at12 over) fun r sh13 ⟨er, I13⟩ => ?_
            subst er
            exact back I13 (wipe_length st8 vs1) (fun j v q => by
              obtain ⟨q1, q2⟩ := wipe_some q
              rw [wipe_out fun z => q2 (sub j z)]
              exact q1) nx
          · refine thnF (T1.item (X.blk sh3 G3 scope (compEnvC scope cl C X.env) feet) rfl rfl rfl calm j _ sh12 _ G12 (fun _ _ => False) I12 (held1 no12) at12 on1) fun r sh13 ⟨u1, er, rest1⟩ => ?_
            subst er
            refine thnF rest1 fun _ sh14 ⟨x1, G14, I14, rx1, y14, at14, no14⟩ => ?_
            have P14 := I14.pinned (held1 no14) (T1.obj _ _ at14)
            refine thnF ((aim1 sh3 G3 C cl feet).run _ sh14 _ G14 x1 u1 _ P14 rx1 (go1 x1 G14 y14)) fun _ sh15 ⟨st15, G15, I15, same15, q15⟩ => ?_
            refine thnF ((tests1 sh3 G3 C cl feet).run _ sh15 st15 G15 _ I15 q15) fun yes1 sh16 ⟨G16, I16, q16⟩ => ?_
            have back1 : ∀ {sh' : Shared} {G' : Hp}, Inv (X.blk sh3 G3 scope (compEnvC scope cl C X.env) feet) (([] ++ pinsAt feet sh7.heap) ++ pinsAt feet1 sh14.heap) st15 G' sh' → Nx1 G' →
                ∃ k', k' < k ∧ ∃ j G, Inv (X.blk sh3 G3 scope (compEnvC scope cl C X.env) feet) ([] ++ pinsAt feet sh7.heap) (wipe st8 vs1) G sh' ∧ ten1 j sh'.heap ∧ (∀ b ∈ feet1, G b = none) ∧ W1 j k' G := by
              intro sh' G' I' nx
              obtain ⟨k', less, w'⟩ := fewer1 G' nx
              have pin : ∀ b ∈ feet1, ∀ o, sh14.heap.get? b = some o → sh'.heap.get? b = some o ∧ G' b = none := fun b hb o q => by
                have z := I'.pin (b, o) (List.mem_append_right _ (List.mem_append_right _ (mem_pinsAt hb q)))
                exact ⟨z.1, z.2.1⟩
              have len : (wipe st8 vs1).length = st15.length := by rw [← same15, wipe_length]
              refine ⟨k', less, j + 1, G', I'.unpinned.weak len (fun j v q => ?_), T1.keep _ _ _ at14 fun b hb o q => (pin b hb o q).1, fun b hb => ?_, w'⟩
              · rw [← same15] at q
                exact (wipe_some q).1
              · obtain ⟨o, q, _⟩ := T1.obj _ _ at14 b hb
                exact (pin b hb o q).2
            cases yes1 with
            | false => exact back1 I16 q16
            | true =>
              refine thnF ((elts sh3 G3 C cl feet).run _ sh16 st15 G16 _ I16 q16) fun ku sh17 ⟨yk, G17, I17, rk, l, z, ek, hD, few, nx⟩ => ?_
              subst ek
              obtain ⟨tk, rfl⟩ := rk
              obtain ⟨DD, e, F⟩ := (I17.hok _ _ hD).1
              refine set_add_txt e F (by unfold scanBound; omega) fun h' tk' D' l' same a2 f2 m2 n2 => back1 (d_write (t' := tk') I17 (by rw [hD]; exact True.intro) same ⟨_, a2⟩ (setX_new ⟨D', a2, f2⟩)) (nx l' f2.nd m2 n2)
        exact start_at rfl loop1 (T1.self X.A 0 _ _ _ at1 loop1)
  show codeAny _ _ (.compStart (.SetComp elt [⟨tg, iter, ifs, 0⟩, ⟨tg1, iter1, ifs1, 0⟩] scope pos) 0 (.ref it) (.ref sh2.heap.objs.size) (compEnvC scope (cellsFrom (sh2.heap.push (freshSet X.w)).objs.size.succ scope.names (cloFrom X.env.cells scope.names [])) (sh2.heap.push (freshSet X.w)).objs.size X.env)) _ _
  rw [heap3] at eC ecl
  subst e3
  subst e4 ecl eC
  exact start_at rfl loop (T.self X.A 0 _ _ _ at4 loop)
end
end SC
set_option maxRecDepth 100000
set_option maxHeartbeats 4000000
/-! rules with the frag told, for use within a comprehension -/
namespace HR
open PySem PySem.Spec PyProof.Rows L2
theorem ix_listK {X : Cx} {K : PySem.W.Frag} (h : X.K = K := by rfl) : IxR X (rIxL K) := by
  subst h
  exact ix_list
theorem op_notIn_seqK {X : Cx} {K : PySem.W.Frag} (h : X.K = K := by rfl) : OpR X (compareOp .NotIn) (rIn K true) := by
  subst h
  exact op_notIn_seq
theorem op_in_seqK {X : Cx} {K : PySem.W.Frag} (h : X.K = K := by rfl) : OpR X (compareOp .In) (rIn K false) := by
  subst h
  exact op_in_seq
theorem call_tuple_ofK {X : Cx} {K : PySem.W.Frag} (h : X.K = K := by rfl) : CallR X (.type "tuple") fun xs H Q => ∃ p ys, xs = [V.ref p] ∧ ((SqL K H p ys ∧ ∀ l : Addr, H l = none → Q (V.ref l) (upd H l (.tup ys))) ∨ SqT K H p ys ∧ Q (V.ref p) H) := by
  subst h
  exact call_tuple_of
theorem call_list_ofK {X : Cx} {K : PySem.W.Frag} (h : X.K = K := by rfl) : CallR X (.type "list") fun xs H Q => ∃ p ys, xs = [V.ref p] ∧ (SqL K H p ys ∨ SqT K H p ys) ∧ ∀ l : Addr, H l = none → Q (V.ref l) (upd H l (.lst ys)) := by
  subst h
  exact call_list_of
theorem call_len_seqK {X : Cx} {K : PySem.W.Frag} (h : X.K = K := by rfl) : CallR X (.builtin "len") fun xs H Q => ∃ p ys, xs = [V.ref p] ∧ (SqL K H p ys ∨ SqT K H p ys) ∧ Q (V.int (ys.length : Nat)) H := by
  subst h
  exact call_len_seq
theorem pi_tupK {X : Cx} {K : PySem.W.Frag} {tg l : Expr} {tl : TE} (he : PE X l tl) (h : X.K = K := by rfl) : PI X tg l (iTup K tl) := by
  subst h
  exact pi_tup he
theorem pi_listK {X : Cx} {K : PySem.W.Frag} {tg l : Expr} {tl : TE} (he : PE X l tl) (h : X.K = K := by rfl) : PI X tg l (iList K tl) := by
  subst h
  exact pi_list he
theorem pe_backK {X : Cx} {K : PySem.W.Frag} {e st : Expr} {te ts : TE} {p2 pos : Pos} (he : PE X e te) (hs : PE X st ts) (h : X.K = K := by rfl) : PE X (.Subscript e (.Slice none none (some st) p2) pos) (tBack K te ts) := by
  subst h
  exact pe_back he hs
theorem cr_sortedTIK {X : Cx} {K : PySem.W.Frag} (h : X.K = K := by rfl) : CallR X (.builtin "sorted") (rSortedTI K) := by
  subst h
  exact cr_sortedTI
theorem cr_setIK {X : Cx} {K : PySem.W.Frag} {w : World} (hc : X.calm = true := by rfl) (h : X.K = K := by rfl) (hw : X.w = w := by rfl) : CallR X (.type "set") (rSetI K w) := by
  subst h hw
  exact cr_setI hc
theorem cr_sortedSetK {X : Cx} {w : World} (hc : X.calm = true := by rfl) (hw : X.w = w := by rfl) : CallR X (.builtin "sorted") (rSortedSet w) := by
  subst hw
  exact cr_sortedSet hc
theorem cr_anyK {X : Cx} {K : PySem.W.Frag} (hc : X.calm = true := by rfl) (h : X.K = K := by rfl) : CallR X (.builtin "any") (rAny K) := by
  subst h
  exact cr_any hc
theorem cr_sumK {X : Cx} {K : PySem.W.Frag} (hc : X.calm = true := by rfl) (h : X.K = K := by rfl) : CallR X (.builtin "sum") (rSum K) := by
  subst h
  exact cr_sum hc
theorem ix_tupK {X : Cx} {K : PySem.W.Frag} (h : X.K = K := by rfl) : IxR X (rIxT K) := by
  subst h
  exact ix_tup
theorem ix_seqK {X : Cx} {K : PySem.W.Frag} (h : X.K = K := by rfl) : IxR X (rIx K) := by
  subst h
  exact ix_seq
theorem op_catTK {X : Cx} {K : PySem.W.Frag} (h : X.K = K := by rfl) : OpR X (binaryOp .Add) (rCatT K) := by
  subst h
  exact op_catT
end HR
set_option maxRecDepth 100000
set_option maxHeartbeats 8000000
namespace HR
open PySem L2 Evl GP
/-! ### comprehensions -/
section
variable {K : PySem.W.Frag} {σ : L2.St} {H1 : Hp} {J : It} {G : Hp → Prop} {te : TE} {tt : TT}
/-- one name, a condition, the items' values are written -/
theorem lcF {α : Type} {xs : List α} {f : α → V} (w : L2.Walk J (xs.map f).length G (YAt (xs.map f))) (c : α → Bool) (r : α → V) {j : Nat} {vs : List Nat} (hz : xs.length < sizeLine) (hG : ∀ H', Ex H1 H' → G H') (hw : ∀ v, wipe ((wipe σ vs).set j (some v)) vs = wipe σ vs)
    (ht : ∀ v ∈ xs, ∀ H', Ex H1 H' → ∀ Q : Bool → Hp → Prop, (∀ H'', Ex H' H'' → Q (c v) H'') → tt ((wipe σ vs).set j (some (f v))) H' Q)
    (he : ∀ v ∈ xs, c v = true → ∀ H', Ex H1 H' → ∀ Q : VK, (∀ H'', Ex H' H'' → Q (r v) H'') → te ((wipe σ vs).set j (some (f v))) H' Q) {Qd : Hp → Prop} {D : Addr} (hD : H1 D = none) (k : ∀ H', Ex H1 H' → H' D = some (.lst ((xs.filter c).map r)) → Qd H') :
    ∃ W : Nat → Nat → Hp → Prop, (∃ m, W 0 m (upd H1 D (.lst []))) ∧ ∀ i m H, W i m H →
      (J.stop i H ∧ Qd H) ∨ (J.go i H ∧ ∃ Nx : Hp → Prop, (∀ H', Nx H' → ∃ m', m' < m ∧ W (i + 1) m' H') ∧ ∀ x H', J.yld i H x H' → gName j x (wipe σ vs) H' fun σ2 H2 => wipe σ2 vs = wipe σ vs ∧ tt σ2 H2 fun b H3 =>
        if b = true then te σ2 H3 fun y H4 => ∃ acc, H4 D = some (.lst acc) ∧ acc.length < sizeLine ∧ Nx (upd H4 D (.lst (acc ++ [y]))) else Nx H3) := by
  refine lc_it w (fun i H => Ex H1 H ∧ H D = some (.lst (((xs.take i).filter c).map r))) ⟨Ex.new hD, upd_same⟩ (fun i H _ p => hG H p.1) ?_ (fun H p => k H p.1 (by have := p.2; rwa [List.length_map, List.take_length] at this))
  rintro i x H H' hi ⟨e, hl⟩ ⟨rfl, hx⟩
  rw [List.length_map] at hi
  rw [List.getElem?_map, List.getElem?_eq_getElem hi] at hx
  cases hx
  have hm : xs[i] ∈ xs := List.getElem_mem hi
  unfold gName
  dsimp only
  refine ⟨hw _, ht _ hm H' e _ fun H3 e3 => ?_⟩
  have tk : (xs.take (i + 1)).filter c = (xs.take i).filter c ++ (if c xs[i] = true then [xs[i]] else []) := by
    rw [List.take_add_one, List.getElem?_eq_getElem hi, List.filter_append]
    simp only [Option.toList_some]
    by_cases hc : c xs[i] = true
    · rw [if_pos hc]; simp [hc]
    · rw [if_neg hc]; simp [hc]
  cases hc : c xs[i] with
  | true =>
    rw [if_pos rfl]
    refine he _ hm hc H3 (e.trans e3) _ fun H4 e4 => ⟨_, e4 D _ (e3 D _ hl), ?_, Ex.mut ((e.trans e3).trans e4) hD, ?_⟩
    · have := List.length_filter_le c (xs.take i)
      rw [List.length_map]
      rw [List.length_take] at this
      omega
    · rw [upd_same, tk, hc, if_pos rfl, List.map_append]
      rfl
  | false =>
    rw [if_neg Bool.false_ne_true]
    refine ⟨e.trans e3, ?_⟩
    rw [tk, hc, if_neg Bool.false_ne_true, List.append_nil]
    exact e3 D _ hl
end
section
variable {K : PySem.W.Frag} {σ : L2.St} {H1 : Hp} {J : It} {G : Hp → Prop} {te : TE} {tt : TT}
/-- one name, no condition -/
theorem lcM {α : Type} {xs : List α} {f : α → V} (w : L2.Walk J (xs.map f).length G (YAt (xs.map f))) (r : α → V) {j : Nat} {vs : List Nat} (hz : xs.length < sizeLine) (hG : ∀ H', Ex H1 H' → G H') (hw : ∀ v, wipe ((wipe σ vs).set j (some v)) vs = wipe σ vs)
    (he : ∀ v ∈ xs, ∀ H', Ex H1 H' → ∀ Q : VK, (∀ H'', Ex H' H'' → Q (r v) H'') → te ((wipe σ vs).set j (some (f v))) H' Q) {Qd : Hp → Prop} {D : Addr} (hD : H1 D = none) (k : ∀ H', Ex H1 H' → H' D = some (.lst (xs.map r)) → Qd H') :
    ∃ W : Nat → Nat → Hp → Prop, (∃ m, W 0 m (upd H1 D (.lst []))) ∧ ∀ i m H, W i m H →
      (J.stop i H ∧ Qd H) ∨ (J.go i H ∧ ∃ Nx : Hp → Prop, (∀ H', Nx H' → ∃ m', m' < m ∧ W (i + 1) m' H') ∧ ∀ x H', J.yld i H x H' → gName j x (wipe σ vs) H' fun σ2 H2 => wipe σ2 vs = wipe σ vs ∧ tYes σ2 H2 fun b H3 =>
        if b = true then te σ2 H3 fun y H4 => ∃ acc, H4 D = some (.lst acc) ∧ acc.length < sizeLine ∧ Nx (upd H4 D (.lst (acc ++ [y]))) else Nx H3) :=
  lcF w (fun _ => true) r hz hG hw (fun v _ H' _ Q q => q H' (Ex.refl _)) (fun v hv _ => he v hv) hD fun H' e h => k H' e (by rwa [List.filter_eq_self.mpr (fun _ _ => rfl)] at h)
end
end HR
set_option maxRecDepth 100000
set_option maxHeartbeats 4000000
namespace HR
open PySem L2
theorem toList_inj {x y : Str} (h : x.cps.toList = y.cps.toList) : x = y := by
  obtain ⟨a⟩ := x
  obtain ⟨b⟩ := y
  have : a = b := Array.ext' h
  rw [this]
/-! ### ascending texts -/
def Asc (l : List Str) : Prop := l.Pairwise fun a b => a.cps.toList < b.cps.toList
instance (l : List Str) : Decidable (Asc l) := by unfold Asc; infer_instance
theorem lt_irr (a : Str) : ¬ a.cps.toList < a.cps.toList := List.lt_irrefl _
theorem lt_tri {a b : Str} (h1 : ¬ a.cps.toList < b.cps.toList) (h2 : ¬ b.cps.toList < a.cps.toList) : a = b := toList_inj (List.le_antisymm (List.not_lt.mp h2) (List.not_lt.mp h1))
theorem rise_pw : ∀ (l : List Str), PyProof.Rows.sortedS l = true → l.Pairwise fun a b => ¬ b.cps.toList < a.cps.toList
  | [], _ => List.Pairwise.nil
  | x :: l, h => by
    have go : ∀ (l : List Str) (p : Str), PyProof.Rows.risingS p l = true → (p :: l).Pairwise fun a b => ¬ b.cps.toList < a.cps.toList := by
      intro l
      induction l with
      | nil => intro p _; exact List.pairwise_singleton _ _
      | cons y l ih =>
        intro p h
        rw [PyProof.Rows.risingS, Bool.and_eq_true, Bool.not_eq_true', PyProof.Rows.ltCps_eq, decide_eq_false_iff_not] at h
        have hp := ih y h.2
        refine List.pairwise_cons.mpr ⟨fun z hz => ?_, hp⟩
        rcases List.mem_cons.mp hz with e | e
        · rw [e]; exact h.1
        · have hyz := (List.pairwise_cons.mp hp).1 z e
          exact fun q => h.1 (List.lt_of_le_of_lt (List.not_lt.mp hyz) q)
    exact go l x h
theorem asc_of {ys : List Str} (so : PyProof.Rows.sortedS ys = true) (nd : ys.Nodup) : Asc ys := by
  have h := rise_pw ys so
  unfold Asc
  refine List.Pairwise.imp₂ (R := fun a b => ¬ b.cps.toList < a.cps.toList) (S := fun a b => a ≠ b) (fun a b h1 h2 => ?_) h nd
  rcases Classical.em (a.cps.toList < b.cps.toList) with c | c
  · exact c
  · exact absurd (lt_tri c h1) h2
theorem asc_nodup {l : List Str} (h : Asc l) : l.Nodup := List.Pairwise.imp (fun {a b} q e => by rw [e] at q; exact lt_irr _ q) h
theorem asc_same : ∀ {xs ys : List Str}, Asc xs → Asc ys → (∀ z, z ∈ xs ↔ z ∈ ys) → xs = ys
  | [], [], _, _, _ => rfl
  | [], y :: ys, _, _, m => absurd ((m y).mpr List.mem_cons_self) (by simp)
  | x :: xs, [], _, _, m => absurd ((m x).mp List.mem_cons_self) (by simp)
  | x :: xs, y :: ys, hx, hy, m => by
    obtain ⟨x1, x2⟩ := List.pairwise_cons.mp hx
    obtain ⟨y1, y2⟩ := List.pairwise_cons.mp hy
    have e : x = y := by
      rcases List.mem_cons.mp ((m x).mp List.mem_cons_self) with e | e
      · exact e
      · rcases List.mem_cons.mp ((m y).mpr List.mem_cons_self) with e2 | e2
        · exact e2.symm
        · exact absurd (List.lt_trans (x1 y e2) (y1 x e)) (lt_irr _)
    subst e
    rw [asc_same x2 y2 fun z => ?_]
    constructor
    · intro h
      rcases List.mem_cons.mp ((m z).mp (List.mem_cons_of_mem _ h)) with e | e
      · exact absurd (x1 z h) (by rw [e]; exact lt_irr _)
      · exact e
    · intro h
      rcases List.mem_cons.mp ((m z).mpr (List.mem_cons_of_mem _ h)) with e | e
      · exact absurd (y1 z h) (by rw [e]; exact lt_irr _)
      · exact e
end HR
set_option maxRecDepth 100000
set_option maxHeartbeats 4000000
/-! a set whose elements are found by any kind of key that stands on the heap -/
namespace SetH
open PySem PySem.Spec PyProof.Rows L2
variable {P : Program} {w : World} {κ : Type} [DecidableEq κ]
/-- what of a kind is asked for sets -/
structure SK (knd : HeapKind P w κ) : Prop where
  noClass : ∀ {A : Around} {E : Value → Shared → Prop} {s : Shared} {k : κ} {b : Addr} {Q : Bool → Shared → Prop}, knd.is s.heap k b → Q false s → wpAny (model P w) A (ofAClassStatement 8 (.ref b)) Q E s
  valued : ∀ {A : Around} {E : Value → Shared → Prop} {s : Shared} {k : κ} {b : Addr} {Q : Bool → Shared → Prop}, knd.is s.heap k b → (∀ v, Q v s) → wpAny (model P w) A (hashByValue 8 (.ref b)) Q E s
  apart : ∀ {h h' : Heap} {k : κ} {a b : Addr} {o : Obj} {es : Array (Int × Value)} {ep : Nat} {t : SetTable}, knd.is h k b → h.get? a = some o → o.data = .set es ep t → Heap.SameBut a h h' → knd.is h' k b
  keep : ∀ {h h' : Heap} {k : κ} {b : Addr}, knd.is h k b → (∀ o, h.get? b = some o → h'.get? b = some o) → knd.is h' k b
  lies : ∀ {h : Heap} {k : κ} {b : Addr}, knd.is h k b → b < h.objs.size
section
variable {knd : HeapKind P w κ} {A : Around} {E : Value → Shared → Prop} {s : Shared}
/-- while a search goes on among such keys nothing is shown -/
theorem unseen (S : SK knd) {k : κ} {b : Addr} {Q : Bool → Shared → Prop} (hk : knd.is s.heap k b) {ys : List Value} (hy : ∀ y ∈ ys, ∃ k' c, y = Value.ref c ∧ knd.is s.heap k' c) (h : Q false s) :
    wpAny (model P w) A (searchCouldBeSeen (.ref b) ys) Q E s := by
  unfold searchCouldBeSeen
  refine wpAny_bind (wpAny_forIn_list _ (fun todo r s1 => r.1 = none ∧ s1 = s ∧ ∀ y ∈ todo, ∃ k' c, y = Value.ref c ∧ knd.is s.heap k' c) _ ?_ ?_ _ _ ⟨rfl, rfl, hy⟩)
  · rintro v todo ⟨r1, r2⟩ s1 ⟨e1, e2, all⟩
    dsimp only at e1
    subst e1 e2
    obtain ⟨k', c, rfl, hc⟩ := all v List.mem_cons_self
    have more : ∀ y ∈ todo, ∃ k' c, y = Value.ref c ∧ knd.is s1.heap k' c := fun y hm => all y (List.mem_cons_of_mem _ hm)
    dsimp only
    by_cases hv : (b == c || (carriedByValue (.ref b) && carriedByValue (.ref c))) = true
    · exact wp_if_pos hv (wpAny_pure ⟨rfl, rfl, more⟩)
    · refine wp_if_neg hv (wpAny_bind (knd.quiet hk ?_))
      simp only [Bool.not_true, Bool.false_eq_true, if_false]
      refine wpAny_bind (knd.quiet hc ?_)
      simp only [Bool.not_true, Bool.false_eq_true, if_false]
      refine wpAny_bind (S.noClass hk ?_)
      simp only [Bool.false_eq_true, if_false]
      refine wpAny_bind (S.noClass hc ?_)
      simp only [Bool.false_eq_true, if_false]
      exact wpAny_pure ⟨rfl, rfl, more⟩
  · rintro ⟨r1, r2⟩ s1 ⟨e1, e2, _⟩
    dsimp only at e1
    subst e1 e2
    exact wpAny_pure h
/-- the rows of the table, in the order in which they lie -/
def row (knd : HeapKind P w κ) (p : Addr × κ) : Int × Value := (knd.hash p.2, .ref p.1)
structure Held (knd : HeapKind P w κ) (h : Heap) (a : Addr) (L : List (Addr × κ)) (es : Array (Int × Value)) (ep : Nat) (t : SetTable) : Prop where
  at_ : ∃ o, h.get? a = some o ∧ o.ExactSet ∧ o.data = .set es ep t
  rows : es.toList = L.map (row knd)
  tab : TabOk t (L.map fun p => knd.hash p.2)
  nd : (L.map Prod.snd).Nodup
  own : ∀ p ∈ L, knd.is h p.2 p.1
  led : w.params.followText "set-order" = true ∨ t.led = true
  wide : L.length * 5 < t.mask * 3
  few : L.length < 64
variable {a : Addr} {L : List (Addr × κ)} {es : Array (Int × Value)} {ep : Nat} {t : SetTable}
theorem rows_size (hr : es.toList = L.map (row knd)) : es.size = L.length := by
  rw [← Array.length_toList, hr, List.length_map]
theorem rows_at (hr : es.toList = L.map (row knd)) {i : Nat} {p : Addr × κ} (h : L[i]? = some p) : es[i]? = some (knd.hash p.2, .ref p.1) := by
  rw [← Array.getElem?_toList, hr, List.getElem?_map, h]
  rfl
theorem Held.tsize {h : Heap} (R : Held knd h a L es ep t) : t.place.size = L.length := by
  have := R.tab.sz
  rwa [List.length_map] at this
theorem Held.fits {h : Heap} (R : Held knd h a L es ep t) : t.fits es.size = true := by
  have h1 := R.tsize
  have h2 := rows_size R.rows
  have h3 := R.wide
  unfold SetTable.fits SetTable.fill
  rw [R.tab.dm, Bool.and_eq_true, beq_iff_eq, decide_eq_true_eq]
  exact ⟨h1.trans h2.symm, by show t.place.size + 0 ≤ t.mask; omega⟩
/-- the c-th step of the way of hh -/
def stp (t : SetTable) (hh : Int) (c : Nat) : SetTable.Probe := nth t.mask (runAt t.mask (SetTable.bits hh % (t.mask + 1)) (SetTable.bits hh)) c
theorem stp_clear (t : SetTable) (hh : Int) (c : Nat) : (stp t hh c).dummy = none := by
  have all : ∀ (n : Nat) (p : SetTable.Probe), p.dummy = none → (nth t.mask p n).dummy = none := by
    intro n
    induction n with
    | zero => exact fun p h => h
    | succ n ih =>
      intro p h
      have h1 : (adv t.mask p).dummy = none := by unfold adv; split <;> exact h
      exact ih (adv t.mask p) h1
  exact all c _ rfl
theorem stp_on (t : SetTable) (hh : Int) (c q : Nat) : nth t.mask (stp t hh c) q = stp t hh (c + q) := (nth_add t.mask c _ q).symm
theorem even_no {m : Nat} {t : SetTable} (h : t.mask = m) (hm : MaskOk m) : ¬ t.gaveWay = true := by
  unfold SetTable.gaveWay
  rw [h, mask_odd hm]
  decide
/-- from any step of the way on, n steps ahead of the free slot -/
theorem seek (S : SK knd) (R : Held knd s.heap a L es ep t) {x : Addr} {k : κ} (hx : knd.is s.heap k x) (hu : knd.room A) {K : Nat} (hf : K < 10 * SetTable.turns t.mask) (hK : way t.mask (knd.hash k) K ∉ t.place.toList)
    (hb : ∀ c, c < K → way t.mask (knd.hash k) c ∈ t.place.toList) {Q : SetFound → Shared → Prop} (yes : k ∈ L.map Prod.snd → Q (.there none) s) (no : k ∉ L.map Prod.snd → Q (.free (way t.mask (knd.hash k) K) false) s) :
    ∀ (n fuel c : Nat) (st : Option SetTable.Probe), c + n = K → n < fuel → st.getD (t.probeStart (knd.hash k)) = stp t (knd.hash k) c →
      (∀ (i : Nat) p, L[i]? = some p → p.2 = k → ∃ c', c ≤ c' ∧ c' < K ∧ t.place.toList[i]? = some (way t.mask (knd.hash k) c')) →
      wpAny (model P w) A (setSearchFrom a (.ref x) (knd.hash k) true fuel st) Q E s := by
  intro n
  induction n using Nat.strongRecOn with
  | _ n ih =>
    intro fuel c st hc hfu hst ahead
    obtain ⟨fuel, rfl⟩ : ∃ f, fuel = f + 1 := ⟨fuel - 1, by omega⟩
    obtain ⟨o, ho, hex, hd⟩ := R.at_
    rw [setSearchFrom_succ]
    refine wpAny_bind (wpAny_setState_of ho hd R.fits ?_)
    dsimp only
    refine wp_if_neg (even_no rfl R.tab.mok) ?_
    try refine wpAny_bind (wpAny_pure ?_)
    have jw : ∀ q, (nth t.mask (stp t (knd.hash k) c) q).j = way t.mask (knd.hash k) (c + q) := fun q => congrArg SetTable.Probe.j (stp_on t _ c q)
    have hashed : ∀ (i : Nat) p, L[i]? = some p → (es[i]?.map Prod.fst).getD 0 = knd.hash p.2 := fun i p hp => by rw [rows_at R.rows hp]; rfl
    have out := go_spec t R.tab.ris R.tab.dm (fun i => (es[i]?.map (·.1)).getD 0) (knd.hash k) (10 * SetTable.turns t.mask) n (stp t (knd.hash k) c) (stp_clear t _ c) (by omega) (fun q hq => by rw [jw]; exact hb _ (by omega)) (by rw [jw, hc]; exact hK)
    rcases out with ⟨q, i, hq, hi, hh, first, hp⟩ | ⟨none_, hp⟩
    · have hp' : t.probe (fun i => (es[i]?.map (·.1)).getD 0) (knd.hash k) (st.getD (t.probeStart (knd.hash k))) = some (.candidate (way t.mask (knd.hash k) (c + q)) i (stp t (knd.hash k) (c + (q + 1)))) := by
        rw [hst, ← jw, ← stp_on]
        exact hp
      rw [hp']
      dsimp only
      rw [jw] at hi
      have hil : i < L.length := by
        have := (List.getElem?_eq_some_iff.mp hi).1
        rw [Array.length_toList, R.tsize] at this
        exact this
      obtain ⟨p, hpi⟩ : ∃ p, L[i]? = some p := ⟨L[i], List.getElem?_eq_getElem hil⟩
      have hpm := List.mem_of_getElem? hpi
      have hpk := R.own p hpm
      have go : wpAny (model P w) A (searchRest a (.ref x) (knd.hash k) true fuel es t (way t.mask (knd.hash k) (c + q)) i (stp t (knd.hash k) (c + (q + 1)))) Q E s := by
        unfold searchRest
        rw [rows_at R.rows hpi]
        dsimp only
        refine wpAny_bind (wpAny_holding (knd.eqBool hu hpk hx (wpAny_bind (wpAny_setState_of ho hd R.fits ?_))))
        dsimp only
        by_cases same : p.2 = k
        · exact wp_if_pos (by simp [same]) (wpAny_pure (yes (List.mem_map.mpr ⟨p, hpm, same⟩)))
        · refine wp_if_neg (by simp [same]) ?_
          try refine wpAny_bind (wpAny_pure ?_)
          rw [sameMem]
          dsimp only
          have live : t.slot (way t.mask (knd.hash k) (c + q)) = .live i := slot_live R.tab.ris hi
          simp only [if_true, live, rows_at R.rows hpi]
          refine wpAny_bind (wpAny_isSame_ref_self (wpAny_bind (wpAny_pure ?_)))
          simp only [if_true]
          refine wp_if_neg (by simp [same]) ?_
          refine ih (n - (q + 1)) (by omega) fuel (c + (q + 1)) _ (by omega) (by omega) rfl fun i0 p0 h0 k0 => ?_
          obtain ⟨c', l1, l2, l3⟩ := ahead i0 p0 h0 k0
          refine ⟨c', ?_, l2, l3⟩
          by_cases lt : c' < c + q
          · exact absurd ((hashed i0 p0 h0).trans (congrArg knd.hash k0)) (first (c' - c) i0 (by omega) (by rw [jw, show c + (c' - c) = c' by omega]; exact l3))
          · by_cases eq : c' = c + q
            · subst eq
              have l4 := slot_live R.tab.ris l3
              rw [live] at l4
              obtain rfl : i = i0 := by injection l4
              rw [hpi] at h0
              obtain rfl := Option.some.inj h0
              exact absurd k0 same
            · omega
      by_cases hl : t.led = true
      · refine wp_if_neg (by simp [hl]) ?_
        try refine wpAny_bind (wpAny_pure ?_)
        exact go
      · refine wp_if_pos (by simp [hl]) (wpAny_bind (unseen S hx (fun y hy => ?_) ?_))
        · obtain ⟨e, he, rfl⟩ := List.mem_map.mp hy
          have he2 : e ∈ es.toList := by
            have : e ∈ es ∧ e.1 = knd.hash k := by simpa using he
            simpa using this.1
          rw [R.rows] at he2
          obtain ⟨p2, hm2, rfl⟩ := List.mem_map.mp he2
          exact ⟨p2.2, p2.1, rfl, R.own p2 hm2⟩
        · refine wp_if_neg (by decide) ?_
          try refine wpAny_bind (wpAny_pure ?_)
          exact go
    · have hp' : t.probe (fun i => (es[i]?.map (·.1)).getD 0) (knd.hash k) (st.getD (t.probeStart (knd.hash k))) = some (.empty (way t.mask (knd.hash k) K) none) := by
        have e := jw n
        rw [hc] at e
        rw [hst, ← e]
        exact hp
      rw [hp']
      dsimp only
      refine wpAny_pure (no fun hm => ?_)
      obtain ⟨p0, hm0, k0⟩ := List.mem_map.mp hm
      obtain ⟨i0, h0⟩ := List.getElem?_of_mem hm0
      obtain ⟨c', l1, l2, l3⟩ := ahead i0 p0 h0 k0
      exact none_ (c' - c) i0 (by omega) (by rw [jw, show c + (c' - c) = c' by omega]; exact l3) ((hashed i0 p0 h0).trans (congrArg knd.hash k0))
/-- the search of an add -/
theorem sought (S : SK knd) (R : Held knd s.heap a L es ep t) {x : Addr} {k : κ} (hx : knd.is s.heap k x) (hu : knd.room A) {Q : SetFound → Shared → Prop} (yes : k ∈ L.map Prod.snd → Q (.there none) s)
    (no : ∀ K, k ∉ L.map Prod.snd → way t.mask (knd.hash k) K ∉ t.place.toList → (∀ c, c < K → way t.mask (knd.hash k) c ∈ t.place.toList) → Q (.free (way t.mask (knd.hash k) K) false) s) :
    wpAny (model P w) A (setSearch a (.ref x) (knd.hash k) true) Q E s := by
  have wd := R.wide
  obtain ⟨K, hf, hK, hb⟩ := R.tab.first (by rw [List.length_map]; omega) (knd.hash k)
  have turns : 10 * SetTable.turns t.mask ≤ 1420 := by
    unfold SetTable.turns
    rcases R.tab.mok with e | e | e <;> omega
  unfold setSearch
  refine seek S R hx hu hf hK hb yes (fun hn => no K hn hK hb) K 100000 0 none (Nat.zero_add K) (by omega) rfl fun i p hp hk => ?_
  have h1 : (L.map fun p => knd.hash p.2)[i]? = some (knd.hash k) := by rw [List.getElem?_map, hp, ← hk]; rfl
  have h2 : i < t.place.toList.length := by
    rw [Array.length_toList, R.tsize]
    exact (List.getElem?_eq_some_iff.mp hp).1
  obtain ⟨c, hc, e⟩ := R.tab.before hK h1 (List.getElem?_eq_getElem h2)
  exact ⟨c, Nat.zero_le _, hc, by rw [List.getElem?_eq_getElem h2, e]⟩
/-- the elements in a new order -/
theorem range_all {α : Type} : ∀ l : List α, (List.range l.length).filterMap (fun i => l[i]?) = l
  | [] => rfl
  | x :: l => by
    have e : (fun i => (x :: l)[i]?) 0 = some x := rfl
    rw [List.length_cons, List.range_succ_eq_map, List.filterMap_cons_some e, List.filterMap_map]
    exact congrArg (x :: ·) (range_all l)
theorem turned (hr : es.toList = L.map (row knd)) {order : Array Nat} (hp : order.toList.Perm (List.range L.length)) :
    ∃ Lm : List (Addr × κ), (order.filterMap (es[·]?)).toList = Lm.map (row knd) ∧ Lm.Perm L ∧ (Lm.map fun p => knd.hash p.2) = order.toList.map fun i => (es.map (·.1)).getD i 0 := by
  have low : ∀ i ∈ order.toList, i < L.length := fun i hi => List.mem_range.mp (hp.mem_iff.mp hi)
  have each : ∀ l : List Nat, (∀ i ∈ l, i < L.length) → l.filterMap (fun i => es[i]?) = (l.filterMap fun i => L[i]?).map (row knd) ∧ ((l.filterMap fun i => L[i]?).map fun p => knd.hash p.2) = l.map fun i => (es.map (·.1)).getD i 0 := by
    intro l
    induction l with
    | nil => exact fun _ => ⟨rfl, rfl⟩
    | cons i l ih =>
      intro hl
      have hi := hl i List.mem_cons_self
      obtain ⟨e1, e2⟩ := ih fun j hj => hl j (List.mem_cons_of_mem _ hj)
      have hL : L[i]? = some L[i] := List.getElem?_eq_getElem hi
      have hE := rows_at hr hL
      have hG : (es.map (·.1)).getD i 0 = knd.hash L[i].2 := by
        have h0 : (es.map (·.1))[i]? = some (knd.hash L[i].2) := by rw [Array.getElem?_map, hE]; rfl
        rw [Array.getD_eq_getD_getElem?, h0]
        rfl
      rw [List.filterMap_cons_some hE, List.filterMap_cons_some hL, List.map_cons, List.map_cons, List.map_cons, e1, e2, hG]
      exact ⟨rfl, rfl⟩
  obtain ⟨e1, e2⟩ := each order.toList low
  refine ⟨_, by rw [Array.toList_filterMap]; exact e1, ?_, e2⟩
  have h := hp.filterMap fun i => L[i]?
  rwa [range_all] at h
theorem fits_of {h : Heap} (hs : t.place.size = es.size) (dm : t.dummies = #[]) (hl : es.size ≤ t.mask) : t.fits es.size = true := by
  unfold SetTable.fits SetTable.fill
  rw [dm, Bool.and_eq_true, beq_iff_eq, decide_eq_true_eq]
  exact ⟨hs, by show t.place.size + 0 ≤ t.mask; omega⟩
/-- all laid anew in a larger table -/
theorem relay (S : SK knd) {o : Obj} (ho : s.heap.get? a = some o) (hex : o.ExactSet) (hd : o.data = .set es ep t) (hr : es.toList = L.map (row knd)) (hs : t.place.size = L.length) (dm : t.dummies = #[]) (hl : L.length ≤ t.mask) (nd : (L.map Prod.snd).Nodup)
    (own : ∀ p ∈ L, knd.is s.heap p.2 p.1) (ld : w.params.followText "set-order" = true ∨ t.led = true) (few : L.length < 64) {want M : Nat} (hw : SetTable.sizeAbove want - 1 = M) (hM : MaskOk M) (h128 : SetTable.sizeAbove want ≤ 128) (hn : L.length * 5 < M * 3)
    {Q : Unit → Shared → Prop} (hQ : ∀ h' L' es' ep' t', Heap.SameBut a s.heap h' → Held knd h' a L' es' ep' t' → L'.Perm L → Q () { s with heap := h' }) : wpAny (model P w) A (setRelay a want) Q E s := by
  have sz := rows_size hr
  obtain ⟨t', order, er, hp, T, tm, tl, tp, td⟩ := relaid_ok t (hs := es.map (·.1)) (wanted := want) hw hM (by rw [Array.size_map, sz]; omega)
  rw [Array.size_map, sz] at hp
  obtain ⟨Lm, r1, r2, r3⟩ := turned hr hp
  rw [← r3] at T
  have sz2 : (order.filterMap (es[·]?)).size = es.size := by rw [rows_size r1, r2.length_eq, sz]
  rw [setRelay_eq]
  refine wpAny_bind (wpAny_setState_of ho hd (fits_of (h := s.heap) (hs.trans sz.symm) dm (by omega)) ?_)
  dsimp only
  refine wp_if_neg (by rw [sizeLine_eq]; omega) ?_
  try refine wpAny_bind (wpAny_pure ?_)
  rw [er]
  dsimp only
  refine wpAny_bind (wp_if_neg (by rw [sz2]; simp) ?_)
  try refine wpAny_bind (wpAny_pure ?_)
  refine wpAny_pure ?_
  dsimp only
  refine wpAny_storeSet_of ho hd ?_ (by rw [sz2, sz, sizeLine_eq]; omega)
  have sb : Heap.SameBut a s.heap (s.heap.update a (Obj.putSet (order.filterMap (es[·]?)) t')) := Heap.SameBut.update ..
  exact hQ _ Lm _ (ep + 1) t' sb ⟨⟨_, store_at ho hd, ⟨hex.1, hex.2.1, hex.2.2⟩, rfl⟩, r1, T, (r2.map Prod.snd).nodup_iff.mpr nd, fun p hm => S.apart (own p (r2.mem_iff.mp hm)) ho hd sb, by rw [tl]; exact ld, by rw [r2.length_eq, tm]; exact hn, by rw [r2.length_eq]; exact few⟩ r2
/-- an element added -/
theorem added (S : SK knd) (R : Held knd s.heap a L es ep t) {x : Addr} {k : κ} (hx : knd.is s.heap k x) (hu : knd.room A) (few : L.length + 1 < 64) {Q : Bool → Shared → Prop}
    (hQ : ∀ b h' L' es' ep' t', Heap.SameBut a s.heap h' → Held knd h' a L' es' ep' t' → (k ∈ L.map Prod.snd → L' = L) → (k ∉ L.map Prod.snd → L'.Perm ((x, k) :: L)) → Q b { s with heap := h' }) :
    wpAny (model P w) A (setAddHashed a (.ref x) (knd.hash k)) Q E s := by
  obtain ⟨o, ho, hex, hd⟩ := R.at_
  have sz := rows_size R.rows
  have wd := R.wide
  unfold setAddHashed
  rw [show (100000 : Nat) = 99999 + 1 from rfl, setAddHashedIn_succ]
  refine wpAny_holding (wpAny_bind (wpAny_setState_of ho hd R.fits ?_))
  dsimp only
  refine wp_if_neg (by simp [byScan, Value.scannable]) ?_
  try refine wpAny_bind (wpAny_pure ?_)
  refine wpAny_bind (sought S R hx hu (fun hm => wpAny_pure (hQ false s.heap L es ep t (Heap.SameBut.refl a s.heap) R (fun _ => rfl) fun z => absurd hm z)) fun K hm hK hb => ?_)
  dsimp only
  refine wpAny_bind (wpAny_setState_of ho hd R.fits ?_)
  dsimp only
  obtain ⟨q1, q2, q3, q4, q5, _, _, _, q9⟩ := R.tab.put hK hb
  generalize hj : SetTable.below t.place (way t.mask (knd.hash k) K) = j at q1 q2 q3
  generalize hpt : t.put (way t.mask (knd.hash k) K) = pt at q1 q3 q4 q5 q9 ⊢
  obtain ⟨t0, j'⟩ := pt
  dsimp only at q1 q3 q4 q5 q9 ⊢
  subst q1
  suffices tail : ∀ t1 : SetTable, TabOk t1 ((L.map fun p => knd.hash p.2).take j' ++ knd.hash k :: (L.map fun p => knd.hash p.2).drop j') → t1.mask = t.mask → t1.led = t.led → t1.fill = (L.map fun p => knd.hash p.2).length + 1 → wpAny (model P w) A (do
      storeSet a (SetTable.insertAt es j' (knd.hash k, Value.ref x)) t1
      if (!false && t1.tooFull) = true then do
          setRelay a (SetTable.grown (es.size + 1))
          pure true
        else pure true) Q E s by
    have t9 := tail t0 q3 q4 q5 q9
    have t8 := tail { t0 with plain := false } ⟨q3.ris, q3.dm, q3.sz, q3.mok, q3.bd, q3.reach⟩ q4 q5 q9
    by_cases hp : t0.plain = true
    · refine wp_if_pos hp (wpAny_bind (S.valued hx fun v => ?_))
      cases v with
      | true => simpa using t9
      | false => simpa using t8
    · refine wp_if_neg hp ?_
      first
        | exact t9
        | simpa using t9
  intro t1 q3 q4 q5 q9
  have pm : (L.take j' ++ (x, k) :: L.drop j').Perm ((x, k) :: L) := put_perm L j' (x, k)
  have r1 : (SetTable.insertAt es j' (knd.hash k, Value.ref x)).toList = (L.take j' ++ (x, k) :: L.drop j').map (row knd) := by
    rw [SetTable.toList_insertAt, R.rows, List.map_append, List.map_cons, List.map_take, List.map_drop]
    rfl
  have hh : (L.take j' ++ (x, k) :: L.drop j').map (fun p => knd.hash p.2) = (L.map fun p => knd.hash p.2).take j' ++ knd.hash k :: (L.map fun p => knd.hash p.2).drop j' := by
    rw [List.map_append, List.map_cons, List.map_take, List.map_drop]
  rw [← hh] at q3
  generalize L.take j' ++ (x, k) :: L.drop j' = L1 at pm r1 q3
  have sz1 := rows_size r1
  have l1 : L1.length = L.length + 1 := pm.length_eq
  generalize SetTable.insertAt es j' (knd.hash k, Value.ref x) = es1 at r1 sz1 ⊢
  have nd1 : (L1.map Prod.snd).Nodup := (pm.map Prod.snd).nodup_iff.mpr (List.nodup_cons.mpr ⟨hm, R.nd⟩)
  have ts1 : t1.place.size = L1.length := by
    have := q3.sz
    rwa [List.length_map] at this
  refine wpAny_bind (wpAny_storeSet_of ho hd ?_ (by rw [sz1, l1, sizeLine_eq]; omega))
  have sb : Heap.SameBut a s.heap (s.heap.update a (Obj.putSet es1 t1)) := Heap.SameBut.update ..
  have ho1 := store_at (es' := es1) (t' := t1) ho hd
  generalize s.heap.update a (Obj.putSet es1 t1) = h1 at sb ho1 ⊢
  have own1 : ∀ p ∈ L1, knd.is h1 p.2 p.1 := fun p hp => by
    rcases List.mem_cons.mp (pm.mem_iff.mp hp) with rfl | hp
    · exact S.apart hx ho hd sb
    · exact S.apart (R.own p hp) ho hd sb
  have led1 : w.params.followText "set-order" = true ∨ t1.led = true := by rw [q5]; exact R.led
  have full : t1.tooFull = decide ((L.length + 1) * 5 ≥ t.mask * 3) := by
    unfold SetTable.tooFull
    rw [q9, q4, List.length_map]
  by_cases hf : t1.tooFull = true
  · rw [full, decide_eq_true_eq] at hf
    have which : (t.mask = 7 ∧ L.length = 4) ∨ (t.mask = 31 ∧ L.length = 18) := by
      rcases R.tab.mok with e | e | e <;> rw [e] at hf wd
      · exact .inl ⟨e, by omega⟩
      · exact .inr ⟨e, by omega⟩
      · omega
    have onto : ∀ M, SetTable.sizeAbove (SetTable.grown (L.length + 1)) - 1 = M → MaskOk M → SetTable.sizeAbove (SetTable.grown (L.length + 1)) ≤ 128 → (L.length + 1) * 5 < M * 3 →
        wpAny (model P w) A (setRelay a (SetTable.grown (L.length + 1))) (fun _ s1 => wpAny (model P w) A (pure true) Q E s1) E { s with heap := h1 } := fun M w1 w2 w3 w4 =>
      relay S (s := { s with heap := h1 }) ho1 ⟨hex.1, hex.2.1, hex.2.2⟩ rfl r1 ts1 q3.dm (by rw [l1, q4]; rcases which with ⟨e, e2⟩ | ⟨e, e2⟩ <;> omega) nd1 own1 led1 (by rw [l1]; exact few) w1 w2 w3 (by rw [l1]; exact w4)
        fun h2 Lm es2 ep2 t2 sb2 R2 pm2 => wpAny_pure (hQ true h2 Lm es2 ep2 t2 (sb.trans sb2) R2 (fun z => absurd z hm) fun _ => pm2.trans pm)
    have hf1 : (!false && t1.tooFull) = true := by rw [full, decide_eq_true hf]; rfl
    rw [sz]
    first
      | refine wp_if_pos hf1 (wpAny_bind ?_)
      | refine wpAny_bind (wp_if_pos hf1 ?_)
    rcases which with ⟨_, e2⟩ | ⟨_, e2⟩
    · exact onto 31 (by rw [e2, size_20]) (.inr (.inl rfl)) (by rw [e2, size_20]; decide) (by omega)
    · exact onto 127 (by rw [e2, size_76]) (.inr (.inr rfl)) (by rw [e2, size_76]; decide) (by omega)
  · have hf1 : ¬ (!false && t1.tooFull) = true := fun z => hf (by simpa using z)
    refine wp_if_neg hf1 (wpAny_pure (hQ true h1 L1 es1 (ep + 1) t1 sb ⟨⟨_, ho1, ⟨hex.1, hex.2.1, hex.2.2⟩, rfl⟩, r1, q3, nd1, own1, led1, ?_, by rw [l1]; exact few⟩ (fun z => absurd z hm) fun _ => pm))
    rw [full, decide_eq_true_eq] at hf
    rw [l1, q4]
    omega
theorem Held.move (S : SK knd) {h h' : Heap} (R : Held knd h a L es ep t) (k0 : ∀ o, h.get? a = some o → h'.get? a = some o) (k1 : ∀ p ∈ L, ∀ o, h.get? p.1 = some o → h'.get? p.1 = some o) : Held knd h' a L es ep t :=
  { R with at_ := let ⟨o, ho, r⟩ := R.at_; ⟨o, k0 o ho, r⟩, own := fun p hp => S.keep (R.own p hp) (k1 p hp) }
theorem Held.fresh {h : Heap} (ho : h.get? a = some (TSet.freshSet w)) : Held knd h a [] #[] 0 (.fresh 0 0 (!w.params.followText "set-order")) where
  at_ := ⟨_, ho, ⟨rfl, rfl, rfl⟩, rfl⟩
  rows := rfl
  tab := (setTR_fresh (P := P) (w := w) ho).tab
  nd := List.nodup_nil
  own := fun p hp => absurd hp List.not_mem_nil
  led := (setTR_fresh (P := P) (w := w) ho).led
  wide := by show 0 * 5 < 7 * 3; decide
  few := by show 0 < 64; decide
/-- what a set has taken from the first of the keys -/
structure Took (ks : List (Addr × κ)) (L : List (Addr × κ)) : Prop where
  from_ : ∀ p ∈ L, p ∈ ks
  got : ∀ q ∈ ks, q.2 ∈ L.map Prod.snd
  le : L.length ≤ ks.length
theorem Took.next {ks L L' : List (Addr × κ)} {q : Addr × κ} (T : Took ks L) (h1 : q.2 ∈ L.map Prod.snd → L' = L) (h2 : q.2 ∉ L.map Prod.snd → L'.Perm (q :: L)) : Took (ks ++ [q]) L' := by
  by_cases h : q.2 ∈ L.map Prod.snd
  · rw [h1 h]
    refine ⟨fun p hp => List.mem_append_left _ (T.from_ p hp), fun r hr => ?_, Nat.le_trans T.le (by simp)⟩
    rcases List.mem_append.mp hr with hr | hr
    · exact T.got r hr
    · rw [List.mem_singleton.mp hr]; exact h
  · have pm := h2 h
    refine ⟨fun p hp => ?_, fun r hr => ?_, by rw [pm.length_eq, List.length_cons, List.length_append]; exact Nat.succ_le_succ T.le⟩
    · rcases List.mem_cons.mp (pm.mem_iff.mp hp) with rfl | hp
      · exact List.mem_append_right _ (List.mem_singleton.mpr rfl)
      · exact List.mem_append_left _ (T.from_ p hp)
    · rw [(pm.map Prod.snd).mem_iff, List.map_cons]
      rcases List.mem_append.mp hr with hr | hr
      · exact List.mem_cons_of_mem _ (T.got r hr)
      · rw [List.mem_singleton.mp hr]; exact List.mem_cons_self
/-- set(a list) -/
theorem set_list (S : SK knd) {l : Addr} {items : Array Value} (ks : List (Addr × κ)) {Q : Value → Shared → Prop} (hh : A.handled = none) (hl : s.heap.IsList l items) (hi : items.toList = ks.map fun p => Value.ref p.1) (hk : ∀ p ∈ ks, knd.is s.heap p.2 p.1) (few : ks.length < 63)
    (hu : ∀ B : Around, B.units ≤ A.units + 3 → knd.room B)
    (k : ∀ (h' : Heap) (tk : Nat) L es ep t, Held knd h' s.heap.objs.size L es ep t → Took ks L → (∀ b o, s.heap.get? b = some o → h'.get? b = some o) → Q (.ref s.heap.objs.size) { s with heap := h', toks := tk }) :
    wpAny (model P w) A (call (.type "set") [.ref l]) Q E s := by
  have len : items.size = ks.length := by rw [← Array.length_toList, hi, List.length_map]
  have low : ∀ p ∈ ks, p.1 < s.heap.objs.size := fun p hp => S.lies (hk p hp)
  refine TSet.made_any hh hl (fun i h => (∃ L es ep t, Held knd h s.heap.objs.size L es ep t ∧ Took (ks.take i) L) ∧ ∀ p ∈ ks, ∀ o, s.heap.get? p.1 = some o → h.get? p.1 = some o) ?_ ?_ ?_ ?_
  · rintro i h h' ⟨⟨L, es, ep, t, R, T⟩, kp⟩ e
    refine ⟨⟨L, es, ep, t, R.move S (fun o => e _ o (Nat.ne_of_lt (Nat.lt_succ_self _))) (fun p hp o => e _ o ?_), T⟩, fun p hp o g => e _ o ?_ (kp p hp o g)⟩
    · exact Nat.ne_of_lt (Nat.lt_succ_of_lt (low p (List.mem_of_mem_take (T.from_ p hp))))
    · exact Nat.ne_of_lt (Nat.lt_succ_of_lt (low p hp))
  · exact fun h e kp => ⟨⟨[], _, _, _, Held.fresh e, fun _ h => absurd h List.not_mem_nil, fun _ h => absurd h List.not_mem_nil, Nat.le_refl _⟩, fun p _ o g => kp _ o g⟩
  · rintro B i v s1 E1 Q1 hB hv ⟨⟨L, es, ep, t, R, T⟩, kp⟩ q
    have hv2 : items.toList[i]? = some v := by rw [Array.getElem?_toList]; exact hv
    rw [hi, List.getElem?_map] at hv2
    obtain ⟨p, hp, rfl⟩ := Option.map_eq_some_iff.mp hv2
    have hpm := List.mem_of_getElem? hp
    have hx : knd.is s1.heap p.2 p.1 := S.keep (hk p hpm) (kp p hpm)
    have room := hu B hB
    have tk : ks.take (i + 1) = ks.take i ++ [p] := by rw [List.take_add_one, hp]; rfl
    unfold setAdd
    refine wpAny_holding (wpAny_bind (knd.pyHash room hx ?_))
    refine added (s := { s1 with toks := s1.toks + knd.draws p.2 }) S R hx room (by have := T.le; rw [List.length_take] at this; omega) fun b h' L' es' ep' t' sb R' n1 n2 => ?_
    refine q b h' (s1.toks + knd.draws p.2) (Nat.le_add_right _ _) sb ⟨⟨L', es', ep', t', R', by rw [tk]; exact T.next n1 n2⟩, fun r hr o g => ?_⟩
    have ne : r.1 ≠ s.heap.objs.size := Nat.ne_of_lt (low r hr)
    rw [sb.2 r.1 ne]
    exact kp r hr o g
  · rintro h' tk ⟨⟨L, es, ep, t, R, T⟩, _⟩ keep
    rw [len, List.take_length] at T
    exact k h' tk L es ep t R T keep
end
end SetH
set_option maxRecDepth 100000
set_option maxHeartbeats 4000000
/-! set(a tuple) -/
namespace SetH
open PySem PySem.Spec PyProof.Rows L2 TSet
section
variable {P : Program} {w : World} {A : Around} {E : Value → Shared → Prop} {s : Shared}
/-- set(a tuple), for any way of adding -/
theorem made_tup {l : Addr} {items : Array Value} {Q : Value → Shared → Prop} (hh : A.handled = none) (hl : s.heap.IsTuple l items) (T : Nat → Heap → Prop)
    (fr : ∀ i h h', T i h → (∀ b o, b ≠ s.heap.objs.size + 1 → h.get? b = some o → h'.get? b = some o) → T i h')
    (zero : ∀ h, h.get? s.heap.objs.size = some (freshSet w) → (∀ b o, s.heap.get? b = some o → h.get? b = some o) → T 0 h)
    (add : ∀ (B : Around) i v (s1 : Shared) (E : Value → Shared → Prop) (Q : Bool → Shared → Prop), B.units ≤ A.units + 3 → items[i]? = some v → T i s1.heap →
      (∀ b h' tk, s1.toks ≤ tk → Heap.SameBut s.heap.objs.size s1.heap h' → T (i + 1) h' → Q b { s1 with heap := h', toks := tk }) → wpAny (model P w) B (setAdd s.heap.objs.size v) Q E s1)
    (k : ∀ (h' : Heap) (tk : Nat), T items.size h' → (∀ b o, s.heap.get? b = some o → h'.get? b = some o) → Q (.ref s.heap.objs.size) { s with heap := h', toks := tk }) :
    wpAny (model P w) A (call (.type "set") [.ref l]) Q E s := by
  obtain ⟨_, _, hmro⟩ := PySem.F.called_set.mro
  have made_ := PySem.F.called_set.made
  have sub_ := PySem.F.called_set.sub
  refine wpAny_call (codeAny_of_tree ?_)
  show wpAny (model P w) _ (callAny (.type "set") _) _ _ _
  refine wpAny_pure ⟨Code.quiet_builtin _ (by decide +kernel), codeAny_builtin PySem.F.entry_type_call ?_⟩
  rw [Around.under_plain (weight_type_call_type "set" [.ref l] []) rfl]
  have notT := PySem.F.called_set.notType
  have canC := PySem.F.called_set.canCreate
  have typC := PySem.F.typeCall_set_1 (.ref l)
  repeat (any_goals (first | assumption | wp_step))
  let S := s.heap.objs.size
  let hp1 := s.heap.push (freshSet w)
  refine codeAny_mono (code_set_led1 (.ref l) (E := E) (Q₁ := fun obj s1 => obj = .ref S ∧ s1 = { s with heap := hp1 }) ⟨rfl, rfl⟩) fun r s1 hr => ?_
  rcases r with _ | e
  case error => exact hr
  cases e with
  | ret obj =>
    obtain ⟨rfl, rfl⟩ := hr
    have atS : hp1.get? S = some (freshSet w) := Heap.get?_push_size _ rfl
    have tyS : Shared.TypeIs { s with heap := hp1 } (.ref S) "set" := ⟨_, atS, rfl⟩
    have iLook := PySem.F.called_set.init.lookup
    have iBind := PySem.F.called_set.init.bind (.ref S)
    repeat (any_goals (first | assumption | wp_step))
    refine codeAny_mono (codeAny_call_builtin (R := wants (fun r s2 => r = .none ∧ ∃ h' tk, s2 = { s with heap := h', toks := tk } ∧ T items.size h' ∧ (∀ b o, s.heap.get? b = some o → h'.get? b = some o)) E)
      PySem.F.called_set.init.plain PySem.F.entry_set_init (check_set_init_1 tyS ?_)) fun r2 s2 hr2 => ?_
    · obtain ⟨ol, hol, cl, nl, dl⟩ := hl
      obtain ⟨ocl, odi, oda, osl⟩ := ol
      simp only at cl dl
      subst cl
      subst dl
      have ltl : l < S := Heap.lt_size hol
      have atl : hp1.get? l = some { cls := .type "tuple", dict := odi, data := .seq items nl, slots := osl } := Heap.get?_push_of_some _ hol
      have ls1 := PySem.F.sub_tuple_set
      have ls2 := PySem.F.sub_tuple_frozenset
      have nd1 : (Value.type "tuple" == Value.type "dict") = false := by decide
      have isl : hp1.IsTuple l items := ⟨_, atl, rfl, nl, rfl⟩
      have szI : hp1.objs.size = S + 1 := Heap.size_push ..
      unfold Builtin.«set.__init__» noKeywords Builtin.Frozenset.updateFrom
      generalize ePI : pyIter = PI
      wp_walk
      subst ePI
      refine wpAny_pyIter_tuple isl (wpAny_bind (wpAny_runValue ?_))
      have h3 : A.in1.in1.in1.handled = none := by simp [hh]
      have nI : l ≠ hp1.objs.size := by rw [szI]; exact Nat.ne_of_lt (Nat.lt_succ_of_lt ltl)
      have nS : S ∉ [hp1.objs.size, l] := by
        rw [szI]
        intro z
        rcases List.mem_cons.mp z with z | z
        · exact absurd z (Nat.ne_of_lt (Nat.lt_succ_self _))
        · exact absurd (List.mem_singleton.mp z) (Nat.ne_of_gt ltl)
      refine loop_any ((Walks.tuple h3 _ l nI items).toS) nS T (fun i h h' t e => fr i h h' t fun b o nb => e b o (by rw [szI]; simpa using nb)) (fun i v s1 E1 Q1 _ pv t q => add _ i v s1 E1 Q1 (Nat.le_refl _) pv t q)
        (items.size - 0) 0 _ (by omega) (Nat.zero_le _) ⟨⟨_, Heap.get?_push_size _ rfl, rfl, rfl⟩, isl.push _⟩ (zero _ (Heap.get?_push_of_some _ atS) fun b o e => Heap.get?_push_of_some _ (Heap.get?_push_of_some _ e)) ?_
      intro s' m t'
      obtain ⟨h', g', d', tk', os'⟩ := s'
      obtain rfl : g' = s.gens := m.gens
      obtain rfl : d' = s.drawn := m.drawn
      obtain rfl : os' = s.os := m.os
      show wpAny _ _ _ _ _ _
      refine wpAny_pure ?_
      show wpAny _ _ (ret Value.none) _ _ _
      refine wpAny_pure ⟨rfl, h', tk', rfl, t', fun b o e => ?_⟩
      have ltb : b < S := Heap.lt_size e
      refine m.heap b o (fun z => ?_) (Heap.get?_push_of_some _ (Heap.get?_push_of_some _ e))
      rcases List.mem_cons.mp z with z | z
      · exact absurd z (Nat.ne_of_lt ltb)
      · have z2 := List.mem_singleton.mp z
        rw [szI] at z2
        exact absurd z2 (Nat.ne_of_lt (Nat.lt_succ_of_lt ltb))
    · rcases r2 with _ | e2
      case error => exact hr2
      cases e2 with
      | ret r =>
        obtain ⟨rfl, h', tk, rfl, t', keep⟩ := hr2
        repeat (any_goals (first | assumption | wp_step))
        exact k _ _ t' keep
      | _ => exact hr2.elim
  | _ => exact hr.elim
end
variable {P : Program} {w : World} {κ : Type} [DecidableEq κ]
section
variable {knd : HeapKind P w κ} {A : Around} {E : Value → Shared → Prop} {s : Shared}
/-- set(a tuple) -/
theorem set_tup (S : SK knd) {l : Addr} {items : Array Value} (ks : List (Addr × κ)) {Q : Value → Shared → Prop} (hh : A.handled = none) (hl : s.heap.IsTuple l items) (hi : items.toList = ks.map fun p => Value.ref p.1) (hk : ∀ p ∈ ks, knd.is s.heap p.2 p.1) (few : ks.length < 63)
    (hu : ∀ B : Around, B.units ≤ A.units + 3 → knd.room B)
    (k : ∀ (h' : Heap) (tk : Nat) L es ep t, Held knd h' s.heap.objs.size L es ep t → Took ks L → (∀ b o, s.heap.get? b = some o → h'.get? b = some o) → Q (.ref s.heap.objs.size) { s with heap := h', toks := tk }) :
    wpAny (model P w) A (call (.type "set") [.ref l]) Q E s := by
  have len : items.size = ks.length := by rw [← Array.length_toList, hi, List.length_map]
  have low : ∀ p ∈ ks, p.1 < s.heap.objs.size := fun p hp => S.lies (hk p hp)
  refine made_tup hh hl (fun i h => (∃ L es ep t, Held knd h s.heap.objs.size L es ep t ∧ Took (ks.take i) L) ∧ ∀ p ∈ ks, ∀ o, s.heap.get? p.1 = some o → h.get? p.1 = some o) ?_ ?_ ?_ ?_
  · rintro i h h' ⟨⟨L, es, ep, t, R, T⟩, kp⟩ e
    refine ⟨⟨L, es, ep, t, R.move S (fun o => e _ o (Nat.ne_of_lt (Nat.lt_succ_self _))) (fun p hp o => e _ o ?_), T⟩, fun p hp o g => e _ o ?_ (kp p hp o g)⟩
    · exact Nat.ne_of_lt (Nat.lt_succ_of_lt (low p (List.mem_of_mem_take (T.from_ p hp))))
    · exact Nat.ne_of_lt (Nat.lt_succ_of_lt (low p hp))
  · exact fun h e kp => ⟨⟨[], _, _, _, Held.fresh e, fun _ h => absurd h List.not_mem_nil, fun _ h => absurd h List.not_mem_nil, Nat.le_refl _⟩, fun p _ o g => kp _ o g⟩
  · rintro B i v s1 E1 Q1 hB hv ⟨⟨L, es, ep, t, R, T⟩, kp⟩ q
    have hv2 : items.toList[i]? = some v := by rw [Array.getElem?_toList]; exact hv
    rw [hi, List.getElem?_map] at hv2
    obtain ⟨p, hp, rfl⟩ := Option.map_eq_some_iff.mp hv2
    have hpm := List.mem_of_getElem? hp
    have hx : knd.is s1.heap p.2 p.1 := S.keep (hk p hpm) (kp p hpm)
    have room := hu B hB
    have tk : ks.take (i + 1) = ks.take i ++ [p] := by rw [List.take_add_one, hp]; rfl
    unfold setAdd
    refine wpAny_holding (wpAny_bind (knd.pyHash room hx ?_))
    refine added (s := { s1 with toks := s1.toks + knd.draws p.2 }) S R hx room (by have := T.le; rw [List.length_take] at this; omega) fun b h' L' es' ep' t' sb R' n1 n2 => ?_
    refine q b h' (s1.toks + knd.draws p.2) (Nat.le_add_right _ _) sb ⟨⟨L', es', ep', t', R', by rw [tk]; exact T.next n1 n2⟩, fun r hr o g => ?_⟩
    have ne : r.1 ≠ s.heap.objs.size := Nat.ne_of_lt (low r hr)
    rw [sb.2 r.1 ne]
    exact kp r hr o g
  · rintro h' tk ⟨⟨L, es, ep, t, R, T⟩, _⟩ keep
    rw [len, List.take_length] at T
    exact k h' tk L es ep t R T keep
end
end SetH
set_option maxRecDepth 100000
set_option maxHeartbeats 4000000
/-! sorted of a list of data: texts, literals, clauses .. -/
namespace SD
open PySem PySem.Spec PyProof.Rows L2
theorem vals_each : ∀ {bs : List (V × PyData)} {us : List Value}, Vals (bs.map Prod.fst) us → PySem.W.EachIs (fun u b => RelV b.1 u) us bs
  | [], _, r => by
    cases r
    exact .nil
  | b :: bs, _, r => by
    cases r with
    | cons r1 r2 => exact .cons r1 (vals_each r2)
theorem each_vals : ∀ {us : List Value} {bs : List (V × PyData)}, PySem.W.EachIs (fun u b => RelV b.1 u) us bs → Vals (bs.map Prod.fst) us
  | _, _, .nil => .nil
  | _, _, .cons r1 r2 => .cons r1 (each_vals r2)
/-- what the list reads as, sorted -/
def sortedD (bs : List (V × PyData)) : List (V × PyData) := bs.mergeSort (PySem.W.dataLe false Prod.snd)
theorem sorted_perm (bs : List (V × PyData)) : (sortedD bs).Perm bs := List.mergeSort_perm _ _
/-- sorted(xs), xs a list of alike data -/
def rSortedD (K : PySem.W.Frag) : List V → Hp → VK → Prop := fun vs H Q => ∃ (a : Addr) (bs : List (V × PyData)), vs = [.ref a] ∧ SqL K H a (bs.map Prod.fst) ∧ (∀ b ∈ bs, Dp K H b.1 b.2 ∧ b.2.depth ≤ 60) ∧ PySem.W.AllAlike (bs.map Prod.snd) ∧ PySem.W.Sortable (bs.map Prod.snd) ∧
  ∀ p, H p = none → Q (.ref p) (upd H p (.lst ((sortedD bs).map Prod.fst)))
section
variable {X : Cx}
theorem each_reads {pins : List (Addr × Obj)} {σ : L2.St} {H : Hp} {s : Shared} (I : Inv X pins σ H s) : ∀ {us : List Value} {bs : List (V × PyData)}, PySem.W.EachIs (fun u b => RelV b.1 u) us bs → (∀ b ∈ bs, Dp X.K H b.1 b.2) → PySem.W.EachIs (fun u b => ∃ as, Reads s.heap u b.2 as) us bs
  | _, _, .nil, _ => .nil
  | _, b :: bs, .cons r1 r2, h => .cons (Dp.reads I b.2 b.1 _ (h b List.mem_cons_self) r1) (each_reads I r2 fun c hc => h c (List.mem_cons_of_mem _ hc))
theorem cr_sortedD (hu : X.A.units + 64 < cLine) : CallR X (.builtin "sorted") (rSortedD X.K) := by
  intro pins s σ H vs us Q I r h
  obtain ⟨a, bs, rfl, hs, hd, hal, hk, q⟩ := h
  obtain ⟨its, rv, hl, hz⟩ := I.list hs
  obtain ⟨u, rfl, ru⟩ := vals1 r
  obtain rfl : u = Value.ref a := ru
  have hlen : bs.length ≤ sizeLine := by rw [List.length_map] at hz; exact hz
  refine PySem.W.sorted_data (R := fun u b => RelV b.1 u) (enc := fun b : V × PyData => b.2) (bs := bs) hl.isList (vals_each rv) (each_reads I (vals_each rv) fun b hb => (hd b hb).1) hal hk hlen (fun b hb => by have := (hd b hb).2; omega) fun out ho he => ?_
  obtain ⟨c, hc⟩ := sortedAll_at s.heap its out.toArray
  have fr : H (s.heap.objs.size + 1) = none := I.hok.fresh (Nat.le_succ _)
  refine ⟨.ref (s.heap.objs.size + 1), upd H (s.heap.objs.size + 1) (.lst ((sortedD bs).map Prod.fst)), I.laid (t' := s.toks) (fun _ _ => sortedAll_old) (Nat.le_succ _) ⟨?_, out, c, each_vals he, hc⟩, rfl, q _ fr⟩
  rw [List.length_map, (sorted_perm bs).length_eq]
  exact hlen
end
end SD
set_option maxRecDepth 100000
set_option maxHeartbeats 4000000
/-! sets of tuples of texts and ints, and sorted of them -/
namespace SetM
open PySem PySem.Spec PyProof.Rows L2 SetH
section
variable {P : Program} {w : World} {A : Around} {E : Value → Shared → Prop} {s : Shared}
theorem noClass_key {k : L2.Key} {v : Value} (h : keyIs k v = true) (n : Nat) : ofAClassStatement n v = pure false := by
  rcases keyIs_shape h with ⟨i, t, rfl, rfl⟩ | ⟨x, t, rfl, rfl⟩ <;> cases n <;> rfl
theorem valued_key {k : L2.Key} {v : Value} (h : keyIs k v = true) (n : Nat) : ∃ b, hashByValue n v = pure b := by
  rcases keyIs_shape h with ⟨i, t, rfl, rfl⟩ | ⟨x, t, rfl, rfl⟩ <;> cases n <;> exact ⟨_, rfl⟩
theorem items_key {k : List L2.Key} {vs : List Value} (h : ItemsAre (mixKind P w) k vs) : ∀ v ∈ vs, ∃ q, keyIs q v = true := by
  induction h with
  | nil => exact fun v hv => absurd hv List.not_mem_nil
  | cons h1 _ ih =>
    intro v hv
    rcases List.mem_cons.mp hv with rfl | hv
    · exact ⟨_, h1⟩
    · exact ih v hv
theorem kinds : SK (tupleKind (mixKind P w)) where
  noClass := by
    intro A E s k b Q hk h
    have ty := IsTupleKey.typeIs hk
    obtain ⟨o, items, n, ho, _, hd, hi⟩ := hk
    unfold ofAClassStatement
    refine wpAny_bind (wpAny_typeOf ty ?_)
    dsimp only
    simp only [show (("tuple" : String) == "tuple") = true by decide, if_true, Bool.not_true, Bool.false_eq_true, if_false]
    try refine wpAny_bind (wpAny_pure ?_)
    try simp only [Bool.not_true, Bool.false_eq_true, if_false]
    refine wpAny_bind (wpAny_seqItems ho hd ?_)
    dsimp only
    rw [← Array.forIn_toList]
    refine wpAny_bind (wpAny_forIn_list _ (fun todo r s1 => r.1 = none ∧ s1 = s ∧ ∀ v ∈ todo, ∃ q, keyIs q v = true) _ ?_ ?_ _ _ ⟨rfl, rfl, items_key hi⟩)
    · rintro v todo ⟨r1, r2⟩ s1 ⟨e1, e2, all⟩
      dsimp only at e1
      subst e1 e2
      obtain ⟨q, hq⟩ := all v List.mem_cons_self
      rw [noClass_key hq]
      refine wpAny_bind (wpAny_pure ?_)
      simp only [Bool.false_eq_true, if_false]
      exact wpAny_pure ⟨rfl, rfl, fun u hu => all u (List.mem_cons_of_mem _ hu)⟩
    · rintro ⟨r1, r2⟩ s1 ⟨e1, e2, _⟩
      dsimp only at e1
      subst e1 e2
      exact wpAny_pure h
  valued := by
    intro A E s k b Q hk h
    have ty := IsTupleKey.typeIs hk
    obtain ⟨o, items, n, ho, _, hd, hi⟩ := hk
    unfold hashByValue
    refine wpAny_bind (wpAny_specialOf ty F.slot_tuple_hash.lookup ?_)
    refine wpAny_bind (wpAny_seqItems ho hd ?_)
    dsimp only
    rw [← Array.forIn_toList]
    refine wpAny_bind (wpAny_forIn_list _ (fun todo r s1 => r.1 = none ∧ s1 = s ∧ ∀ v ∈ todo, ∃ q, keyIs q v = true) _ ?_ ?_ _ _ ⟨rfl, rfl, items_key hi⟩)
    · rintro v todo ⟨r1, r2⟩ s1 ⟨e1, e2, all⟩
      dsimp only at e1
      subst e1 e2
      obtain ⟨q, hq⟩ := all v List.mem_cons_self
      obtain ⟨c, hc⟩ := valued_key hq 7
      rw [hc]
      refine wpAny_bind (wpAny_pure ?_)
      cases c with
      | true =>
        simp only [Bool.not_true, Bool.false_eq_true, if_false]
        exact wpAny_pure ⟨rfl, rfl, fun u hu => all u (List.mem_cons_of_mem _ hu)⟩
      | false =>
        simp only [Bool.not_false, if_true]
        exact wpAny_pure (wpAny_pure (h _))
    · rintro ⟨r1, r2⟩ s1 ⟨e1, e2, _⟩
      dsimp only at e1
      subst e1 e2
      exact wpAny_pure (h _)
  apart := by
    rintro h h' k a b o es ep t ⟨o', items, n, ho', hc, hd', hi⟩ ho hd sb
    have ne : b ≠ a := fun z => by
      rw [z, ho] at ho'
      obtain rfl := Option.some.inj ho'
      rw [hd] at hd'
      cases hd'
    exact ⟨o', items, n, (sb.2 b ne).trans ho', hc, hd', hi⟩
  keep := fun ⟨o, items, n, ho, r⟩ kp => ⟨o, items, n, kp o ho, r⟩
  lies := fun ⟨o, items, n, ho, r⟩ => Heap.lt_size ho
end
section
variable {P : Program} {w : World} {A : Around} {E : Value → Shared → Prop} {s : Shared}
theorem each_perm {α β : Type} {R : α → β → Prop} {vs out : List α} (pm : out.Perm vs) : ∀ {bs : List β}, PySem.W.EachIs R vs bs → ∃ bs', bs'.Perm bs ∧ PySem.W.EachIs R out bs' := by
  induction pm with
  | nil => intro bs h; cases h; exact ⟨[], .nil, .nil⟩
  | cons x _ ih =>
    intro bs h
    cases h with
    | cons h1 h2 =>
      obtain ⟨bs', p, e⟩ := ih h2
      exact ⟨_ :: bs', p.cons _, .cons h1 e⟩
  | swap x y l =>
    intro bs h
    cases h with
    | cons h1 h2 =>
      cases h2 with
      | cons h2 h3 => exact ⟨_, List.Perm.swap _ _ _, .cons h2 (.cons h1 h3)⟩
  | trans _ _ ih1 ih2 =>
    intro bs h
    obtain ⟨b1, p1, e1⟩ := ih2 h
    obtain ⟨b2, p2, e2⟩ := ih1 e1
    exact ⟨b2, p2.trans p1, e2⟩
theorem alike_perm {β : Type} {enc : β → PyData} {bs bs' : List β} (pm : bs'.Perm bs) (h : PySem.W.AllAlike (bs.map enc)) : PySem.W.AllAlike (bs'.map enc) := fun d hd e he => h d ((pm.map enc).mem_iff.mp hd) e ((pm.map enc).mem_iff.mp he)
theorem sortable_perm {β : Type} {enc : β → PyData} {bs bs' : List β} (pm : bs'.Perm bs) (h : PySem.W.Sortable (bs.map enc)) : PySem.W.Sortable (bs'.map enc) := h.imp (fun h d hd => h d ((pm.map enc).mem_iff.mp hd)) (fun h d hd => h d ((pm.map enc).mem_iff.mp hd))
/-- sorted(a set), the elements read as data -/
theorem sorted_set {β : Type} {R : Value → β → Prop} {enc : β → PyData} {a : Addr} {o : Obj} {es : Array (Int × Value)} {ep : Nat} {t : SetTable} (ho : s.heap.get? a = some o) (hc : o.ExactSet) (hd : o.data = .set es ep t) (hf : t.fits es.size = true) (few : es.size < 64) (ris : Ris t.place.toList)
    (led : w.params.followText "set-order" = true ∨ t.led = true) (hh : A.handled = none) {bs0 : List β} (e0 : PySem.W.EachIs R (es.toList.map (·.2)) bs0) (rd : ∀ v b, b ∈ bs0 → R v b → ∃ as, Reads s.heap v (enc b) as) (hal : PySem.W.AllAlike (bs0.map enc)) (hk : PySem.W.Sortable (bs0.map enc))
    (hu : ∀ b, b ∈ bs0 → A.units + 4 + (enc b).depth < cLine) {Q : Value → Shared → Prop}
    (k : ∀ s' p (out : Array Value) (c : Nat) (bs : List β), (∀ b o, s.heap.get? b = some o → s'.heap.get? b = some o) → s'.gens = s.gens → s'.os = s.os → s.heap.objs.size ≤ p → s'.heap.get? p = some (seqObj "list" out c) → bs.Perm bs0 → PySem.W.EachIs R out.toList (bs.mergeSort (PySem.W.dataLe false enc)) → Q (.ref p) s') :
    wpAny (model P w) A (call (.builtin "sorted") [.ref a]) Q E s := by
  have sc : es.size < scanBound := by unfold scanBound; omega
  refine Calls.call_function_entry kind_sorted plain_sorted entry_sorted (args_sorted1 _) ?_
  unfold Builtin.«sorted»
  refine wpAny_bind (m := checkCount "sorted" 1 1 _) (wpAny_pure (wpAny_bind ?_))
  refine collect_set (A := A.in1) hh ⟨o, ho, hc.1, hd⟩ hf sc ris led fun s1 vs k1 z1 g1 o1 pm => ?_
  obtain ⟨bs, pb, eb⟩ := each_perm pm e0
  have lv : vs.length = es.size := by rw [pm.length_eq, List.length_map, Array.length_toList]
  refine wpAny_bind (wpAny_newList ?_ (by rw [lv, sizeLine_eq]; omega))
  have oL : (s1.heap.push (seqObj "list" vs.toArray 0)).get? s1.heap.objs.size = some (seqObj "list" vs.toArray 0) := Heap.get?_push_size _ rfl
  have old : ∀ b o, s1.heap.get? b = some o → (PySem.W.sortingHeap (s1.heap.push (seqObj "list" vs.toArray 0)) s1.heap.objs.size vs).get? b = some o := fun b o e => PySem.W.sortingHeap_old (Nat.ne_of_lt (Heap.lt_size e)) (Heap.get?_push_of_some _ e)
  have er : PySem.W.EachIs (fun v b => ∃ as, Reads (PySem.W.sortingHeap (s1.heap.push (seqObj "list" vs.toArray 0)) s1.heap.objs.size vs) v (enc b) as) vs bs := by
    exact (PySem.W.each_mem eb).mono fun v b ⟨h, hb⟩ => by
      obtain ⟨as, r⟩ := rd v b (pb.mem_iff.mp hb) h
      exact ⟨as, PyProof.Rows.Reads.keeps (fun b o e => old b o (k1 b o e)) r⟩
  have hal' := alike_perm pb hal
  have hk' := sortable_perm pb hk
  refine wpAny_bind (wpAny_holding (wpAny_call_entry slot_list_sort ⟨_, oL, rfl⟩ entry_list_sort
    (PySem.W.list_sort_vals (κ := PySem.W.dataKind (PySem.W.sortingHeap (s1.heap.push (seqObj "list" vs.toArray 0)) s1.heap.objs.size vs) (bs.map enc)) oL
      (PySem.W.SortsAt.data (PySem.W.each_map (R := fun v d => ∃ as, Reads (PySem.W.sortingHeap (s1.heap.push (seqObj "list" vs.toArray 0)) s1.heap.objs.size vs) v d as) enc er) hal' hk' fun d hd => ?_) (by rw [lv, sizeLine_eq]; omega) ⟨.none, rfl, ?_⟩) (args_list_sort _)))
  · obtain ⟨b, hb, rfl⟩ := List.mem_map.mp hd
    have := hu b (pb.mem_iff.mp hb)
    show A.units + 1 + 1 + _ < _
    omega
  · obtain ⟨c, hc'⟩ := sortedHeap_at (vs := vs) (out := (PySem.W.sortVals (PySem.W.dataKind (PySem.W.sortingHeap (s1.heap.push (seqObj "list" vs.toArray 0)) s1.heap.objs.size vs) (bs.map enc)) false vs vs).toArray) oL
    refine wpAny_pure ⟨_, rfl, k _ s1.heap.objs.size _ c bs (fun b u e => ?_) g1 o1 z1 hc' pb (by simpa using PySem.W.sortVals_data false eb er hal')⟩
    have q := k1 b u e
    have lt := Heap.lt_size q
    refine (sortedHeap_old (Nat.ne_of_lt lt) (by rw [size_push']; exact Nat.lt_succ_of_lt lt)).trans ?_
    exact Heap.get?_push_of_some _ q
end
/-! ### as calls -/
def kD : L2.Key → PyData
  | .inl i => .int i
  | .inr x => .str x
def enK (k : List L2.Key) : PyData := .tuple (k.map kD)
def enP (p : Addr × List L2.Key) : V × PyData := (.ref p.1, enK p.2)
abbrev MK (P : Program) (w : World) : HeapKind P w (List L2.Key) := tupleKind (mixKind P w)
/-- at a a set of the tuples L -/
def SetMO (P : Program) (w : World) (a : Addr) (L : List (Addr × List L2.Key)) : HO := .ext fun h => ∃ es ep t, (∃ o, h.get? a = some o ∧ o.ExactSet ∧ o.data = .set es ep t) ∧ es.toList = L.map (row (MK P w)) ∧ Ris t.place.toList ∧ t.fits es.size = true ∧ (w.params.followText "set-order" = true ∨ t.led = true) ∧ L.length < 64
theorem setMO_new {P : Program} {w : World} {H : Hp} {h : Heap} {a : Addr} {L : List (Addr × List L2.Key)} {es : Array (Int × Value)} {ep : Nat} {t : SetTable} (R : Held (MK P w) h a L es ep t) : ObjOk P w H h a (SetMO P w a L) := by
  have fits := R.fits
  obtain ⟨⟨o, ho, hex, hd⟩, rows, tab, nd, own, led, wide, few⟩ := R
  exact ⟨⟨es, ep, t, ⟨o, ho, hex, hd⟩, rows, tab.ris, fits, led, few⟩, ⟨o, ho⟩, fun h1 h2 ⟨es2, ep2, t2, ⟨o2, ho2, r⟩, r2⟩ keep => ⟨es2, ep2, t2, ⟨o2, keep _ ho2, r⟩, r2⟩⟩
section
variable {X : Cx}
theorem key_vals {P : Program} {w : World} : ∀ {k : List L2.Key} {us : List Value}, Vals (k.map kV) us → ItemsAre (mixKind P w) k us
  | [], _, .nil => .nil
  | _ :: _, _, .cons h r => .cons (HR.key_rel h) (key_vals r)
theorem tup_key {pins : List (Addr × Obj)} {σ : L2.St} {H : Hp} {s : Shared} (I : Inv X pins σ H s) {b : Addr} {k : List L2.Key} (h : SqT X.K H b (k.map kV)) : (MK X.prog X.w).is s.heap k b := by
  obtain ⟨its, rv, ⟨o, ho, hc, n, hd⟩, _⟩ := I.tuple h
  exact ⟨o, its.toArray, n, ho, hc, hd, key_vals rv⟩
theorem refs_are : ∀ {ks : List (Addr × List L2.Key)} {us : List Value}, Vals (ks.map fun p => V.ref p.1) us → us = ks.map fun p => Value.ref p.1
  | [], _, .nil => rfl
  | _ :: _, _, .cons h r => by
    rw [List.map_cons, ← refs_are r]
    exact congrArg (· :: _) h
def rSetM (K : PySem.W.Frag) (P : Program) (w : World) : List V → Hp → VK → Prop := fun xs H Q => ∃ (l : Addr) (ks : List (Addr × List L2.Key)), xs = [V.ref l] ∧ (SqL K H l (ks.map fun p => V.ref p.1) ∨ SqT K H l (ks.map fun p => V.ref p.1)) ∧ (∀ p ∈ ks, SqT K H p.1 (p.2.map kV)) ∧ ks.length < 63 ∧
  ∀ (L : List (Addr × List L2.Key)) (p : Addr), Took ks L → (L.map Prod.snd).Nodup → H p = none → Q (.ref p) (upd H p (SetMO P w p L))
theorem cr_setM {K : PySem.W.Frag} {P : Program} {w : World} (hc : X.calm = true) (hu : X.A.units + 64 < cLine) (hK : X.K = K := by rfl) (hP : X.prog = P := by rfl) (hw : X.w = w := by rfl) : CallR X (.type "set") (rSetM K P w) := by
  subst hK hP hw
  intro pins s σ H xs us Q I r h
  obtain ⟨l, ks, rfl, hs, hk, few, q⟩ := h
  rw [Vals.ref1 r]
  have own : ∀ p ∈ ks, (MK X.prog X.w).is s.heap p.2 p.1 := fun p hp => tup_key I (hk p hp)
  have room : ∀ B : Around, B.units ≤ X.A.units + 3 → (MK X.prog X.w).room B := fun B hB => by show B.units < cLine; omega
  have fin : ∀ (h' : Heap) (tk : Nat) L es ep t, Held (MK X.prog X.w) h' s.heap.objs.size L es ep t → Took ks L → (∀ b o, s.heap.get? b = some o → h'.get? b = some o) → EP X pins σ Q (.ref s.heap.objs.size) { s with heap := h', toks := tk } := fun h' tk L es ep t R T keep =>
    ⟨.ref _, upd H s.heap.objs.size (SetMO X.prog X.w s.heap.objs.size L), I.laid (t' := tk) keep (Nat.le_refl _) (setMO_new R), rfl, q L _ T R.nd (I.hok.fresh (Nat.le_refl _))⟩
  rcases hs with hs | hs
  · obtain ⟨its, rv, hl, _⟩ := I.list hs
    exact set_list kinds ks (I.ok.hd hc) hl.isList (refs_are rv) own few room fin
  · obtain ⟨its, rv, ht, _⟩ := I.tuple hs
    exact set_tup kinds ks (I.ok.hd hc) ht (refs_are rv) own few room fin
def rSortedM (K : PySem.W.Frag) (P : Program) (w : World) : List V → Hp → VK → Prop := fun vs H Q => ∃ (a : Addr) (L : List (Addr × List L2.Key)), vs = [V.ref a] ∧ H a = some (SetMO P w a L) ∧ (∀ p ∈ L, Dp K H (.ref p.1) (enK p.2) ∧ (enK p.2).depth ≤ 50) ∧ PySem.W.AllAlike (L.map fun p => enK p.2) ∧ PySem.W.Sortable (L.map fun p => enK p.2) ∧
  ∀ (bs : List (V × PyData)) (p : Addr), bs.Perm (L.map enP) → H p = none → Q (.ref p) (upd H p (.lst ((SD.sortedD bs).map Prod.fst)))
theorem cr_sortedM {K : PySem.W.Frag} {P : Program} {w : World} (hc : X.calm = true) (hu : X.A.units + 64 < cLine) (hK : X.K = K := by rfl) (hP : X.prog = P := by rfl) (hw : X.w = w := by rfl) : CallR X (.builtin "sorted") (rSortedM K P w) := by
  subst hK hP hw
  intro pins s σ H vs us Q I r h
  obtain ⟨a, L, rfl, at_, hd, hal, hk, q⟩ := h
  obtain ⟨es, ep, t, ⟨o, ho, hex, hdt⟩, rows, ris, fits, led, few⟩ := (I.hok a _ at_).1
  rw [Vals.ref1 r]
  have sz : es.size = L.length := rows_size rows
  have e0 : PySem.W.EachIs (fun (u : Value) (b : V × PyData) => RelV b.1 u) (es.toList.map (·.2)) (L.map enP) := by
    rw [rows]
    have : ∀ L : List (Addr × List L2.Key), PySem.W.EachIs (fun (u : Value) (b : V × PyData) => RelV b.1 u) ((L.map (row (MK X.prog X.w))).map (·.2)) (L.map enP) := fun L => by
      induction L with
      | nil => exact .nil
      | cons p L ih => exact .cons rfl ih
    exact this L
  have eL : (L.map enP).map Prod.snd = L.map fun p => enK p.2 := by rw [List.map_map]; rfl
  refine sorted_set (R := fun (u : Value) (b : V × PyData) => RelV b.1 u) (enc := fun b : V × PyData => b.2) ho hex hdt fits (by omega) ris led (I.ok.hd hc) e0 (fun v b hb hv => ?_) (by show PySem.W.AllAlike ((L.map enP).map Prod.snd); rw [eL]; exact hal) (by show PySem.W.Sortable ((L.map enP).map Prod.snd); rw [eL]; exact hk) (fun b hb => ?_)
    fun s' p out c bs keep g o hp hc' pm he => ?_
  · obtain ⟨p, hp, rfl⟩ := List.mem_map.mp hb
    exact Dp.reads I _ _ _ (hd p hp).1 hv
  · obtain ⟨p, hp, rfl⟩ := List.mem_map.mp hb
    have := (hd p hp).2
    show X.A.units + 4 + (enK p.2).depth < cLine
    omega
  · have hn : H p = none := I.hok.fresh hp
    have len : ((SD.sortedD bs).map Prod.fst).length ≤ sizeLine := by
      rw [List.length_map, (SD.sorted_perm bs).length_eq, pm.length_eq, List.length_map, sizeLine_eq]
      omega
    have J : Inv X pins σ (upd H p (.lst ((SD.sortedD bs).map Prod.fst))) { s with heap := s'.heap, gens := s'.gens, drawn := s'.drawn, toks := s'.toks } :=
      I.call (ch := []) (Un.laid keep hp hn) (I.hok.laid keep hp ⟨len, out.toList, c, SD.each_vals he, hc'⟩) (by rw [g]; exact I.bare) (fun _ z => nomatch z)
    have es' : s' = { s with heap := s'.heap, gens := s'.gens, drawn := s'.drawn, toks := s'.toks } := by
      cases s'
      cases s
      cases o
      rfl
    rw [es']
    exact ⟨.ref p, _, J, rfl, q bs p pm hn⟩
end
end SetM
set_option maxRecDepth 100000
set_option maxHeartbeats 4000000
/-! repr of data with dicts in it (no lists) -/
namespace RQ
open PySem PySem.Spec PyProof.Rows L2 SetM
mutual
inductive Dq (K : PySem.W.Frag) (H : Hp) : V → PyData → Prop
  | non : Dq K H .non .none
  | bl (b : Bool) : Dq K H (.bl b) (.bool b)
  | int (i : Int) : Dq K H (.int i) (.int i)
  | str (x : Str) : Dq K H (.str x) (.str x)
  | tup {p : Addr} {vs : List V} {ds : List PyData} : SqT K H p vs → DqAll K H vs ds → Dq K H (.ref p) (.tuple ds)
  | dK {p : Addr} {kvs : List (L2.Key × V)} {ds : List PyData} : H p = some (.dK kvs) → DqAll K H (kvs.map Prod.snd) ds → Dq K H (.ref p) (.dict ((kvs.map fun kv => kD kv.1).zip ds))
  | dT {p : Addr} {kvs : List (List L2.Key × V)} {ds : List PyData} : H p = some (.dT kvs) → DqAll K H (kvs.map Prod.snd) ds → Dq K H (.ref p) (.dict ((kvs.map fun kv => enK kv.1).zip ds))
inductive DqAll (K : PySem.W.Frag) (H : Hp) : List V → List PyData → Prop
  | nil : DqAll K H [] []
  | cons {v : V} {d : PyData} {vs : List V} {ds : List PyData} : Dq K H v d → DqAll K H vs ds → DqAll K H (v :: vs) (d :: ds)
end
section
variable {X : Cx} {pins : List (Addr × Obj)} {σ : L2.St} {H : Hp} {s : Shared}
theorem DqAll.len {K : PySem.W.Frag} : ∀ {vs : List V} {ds : List PyData}, DqAll K H vs ds → vs.length = ds.length
  | _, _, .nil => rfl
  | _, _, .cons _ r => by rw [List.length_cons, List.length_cons, DqAll.len r]
theorem key_reads {h : Heap} {k : L2.Key} {u : Value} (e : keyIs k u = true) : Reads h u (kD k) [] := by
  rcases keyIs_shape e with ⟨i, t, rfl, rfl⟩ | ⟨x, t, rfl, rfl⟩
  · exact .int i t
  · exact .str x t
theorem keys_read {h : Heap} {P : Program} {w : World} : ∀ {k : List L2.Key} {us : List Value}, ItemsAre (mixKind P w) k us → ReadsAll h us (k.map kD) []
  | _, _, .nil => .nil
  | _, _, .cons e r => .cons (as := []) (bs := []) (key_reads e) (keys_read r)
theorem tup_reads (I : Inv X pins σ H s) {b : Addr} {k : List L2.Key} (h : SqT X.K H b (k.map kV)) : Reads s.heap (.ref b) (enK k) [] := by
  obtain ⟨o, items, n, ho, hc, hd, hi⟩ := tup_key I h
  exact .tuple ho hc hd (keys_read hi)
theorem pairs_read {h : Heap} {P : Program} {w : World} : ∀ {es : List DictEntry} {vs : List (L2.Key × Value)} {kvs : List (L2.Key × V)}, Pairs (mixKind P w) es vs → KV kvs vs → ReadsAll h (es.map (·.key)) (kvs.map fun kv => kD kv.1) [] ∧ Vals (kvs.map Prod.snd) (es.map (·.val))
  | _, _, _, .nil, k => by cases k; exact ⟨.nil, .nil⟩
  | _, _, _, .cons e1 e2 r, k => by
    cases k with
    | cons k1 k2 =>
      obtain ⟨h1, h2⟩ := pairs_read (h := h) r k2
      refine ⟨.cons (as := []) (bs := []) (by show Reads h _ (kD _) []; rw [k1.1]; exact key_reads e1) h1, .cons ?_ h2⟩
      show RelV _ (DictEntry.val _)
      rw [e2]
      exact k1.2
theorem tups_read (I : Inv X pins σ H s) : ∀ {xs : List (List L2.Key × Addr × Value)} {kvs : List (List L2.Key × V)}, Paired (fun (p : List L2.Key × V) (q : List L2.Key × Addr × Value) => p.1 = q.1 ∧ H q.2.1 = some (.tup (p.1.map kV)) ∧ RelV p.2 q.2.2) kvs xs →
    ReadsAll s.heap ((xs.map (entryOfKey (MK X.prog X.w))).map (·.key)) (kvs.map fun kv => enK kv.1) [] ∧ Vals (kvs.map Prod.snd) ((xs.map (entryOfKey (MK X.prog X.w))).map (·.val))
  | _, _, .nil => ⟨.nil, .nil⟩
  | _, _, .cons k1 k2 => by
    obtain ⟨h1, h2⟩ := tups_read I k2
    exact ⟨.cons (as := []) (bs := []) (tup_reads I (SqT.of k1.2.1)) h1, .cons k1.2.2 h2⟩
mutual
theorem Dq.reads (I : Inv X pins σ H s) : ∀ {v : V} {d : PyData}, Dq X.K H v d → ∀ {u : Value}, RelV v u → ∃ as, Reads s.heap u d as ∧ sysModules ∉ as
  | _, _, .non, _, r => by cases r; exact ⟨_, .none, List.not_mem_nil⟩
  | _, _, .bl b, _, r => by cases r; exact ⟨_, .bool b, List.not_mem_nil⟩
  | _, _, .int i, _, r => by obtain ⟨t, rfl⟩ := r; exact ⟨_, .int i t, List.not_mem_nil⟩
  | _, _, .str x, _, r => by obtain ⟨t, rfl⟩ := r; exact ⟨_, .str x t, List.not_mem_nil⟩
  | _, _, .tup h a, _, r => by
    cases r
    obtain ⟨its, rv, ⟨o, ho, hc, n, hd⟩, _⟩ := I.tuple h
    obtain ⟨as, ra, na⟩ := DqAll.reads I a rv
    exact ⟨as, .tuple ho hc hd (by simpa using ra), na⟩
  | _, _, .dK (kvs := kvs) (ds := ds) h a, _, r => by
    cases r
    obtain ⟨_, hs, vs, kv, o, es, ep, ho, hex, hd, _, prs, _⟩ := dk_of I.hok h
    obtain ⟨rk, rv⟩ := pairs_read (h := s.heap) prs kv
    obtain ⟨bs, rb, nb⟩ := DqAll.reads I a rv
    have l1 := a.len
    rw [List.length_map] at l1
    refine ⟨_, .dict ho hex.1 hd (by rw [List.map_fst_zip (by rw [List.length_map]; omega)]; exact rk) (by rw [List.map_snd_zip (by rw [List.length_map]; omega)]; exact rb), fun z => ?_⟩
    rcases List.mem_cons.mp z with e | z
    · rw [← e] at hs
      simp at hs
    · exact nb z
  | _, _, .dT (kvs := kvs) (ds := ds) h a, _, r => by
    cases r
    obtain ⟨_, hs, xs, pr, o, es, ep, ho, hex, hd, he, _⟩ := I.hok _ _ h
    obtain ⟨rk, rv⟩ := tups_read I pr
    rw [← he] at rk rv
    obtain ⟨bs, rb, nb⟩ := DqAll.reads I a rv
    have l1 := a.len
    rw [List.length_map] at l1
    refine ⟨_, .dict ho hex.1 hd (by rw [List.map_fst_zip (by rw [List.length_map]; omega)]; exact rk) (by rw [List.map_snd_zip (by rw [List.length_map]; omega)]; exact rb), fun z => ?_⟩
    rcases List.mem_cons.mp z with e | z
    · rw [← e] at hs
      simp at hs
    · exact nb z
theorem DqAll.reads (I : Inv X pins σ H s) : ∀ {vs : List V} {ds : List PyData}, DqAll X.K H vs ds → ∀ {us : List Value}, Vals vs us → ∃ as, ReadsAll s.heap us ds as ∧ sysModules ∉ as
  | _, _, .nil, _, r => by cases r; exact ⟨_, .nil, List.not_mem_nil⟩
  | _, _, .cons a b, _, r => by
    cases r with
    | cons r1 r2 =>
      obtain ⟨as, h1, n1⟩ := Dq.reads I a r1
      obtain ⟨bs, h2, n2⟩ := DqAll.reads I b r2
      exact ⟨_, .cons h1 h2, fun z => (List.mem_append.mp z).elim n1 n2⟩
end
/-- repr of such data -/
def rReprQ (K : PySem.W.Frag) : List V → Hp → VK → Prop := fun xs H Q => ∃ p d, xs = [.ref p] ∧ Dq K H (.ref p) d ∧ d.showable = true ∧ d.depth ≤ 60 ∧ d.shown.length ≤ sizeLine ∧ Q (.str d.shown) H
theorem cr_reprQ {K : PySem.W.Frag} (gd : X.A.guards = some []) (hu : X.A.units + 70 < cLine) (hK : X.K = K := by rfl) : CallR X (.builtin "repr") (rReprQ K) := by
  subst hK
  intro pins s σ H xs us Q I r h
  obtain ⟨p, d, rfl, hd, sh, dep, sz, q⟩ := h
  rw [Vals.ref1 r]
  obtain ⟨as, ra, na⟩ := Dq.reads I hd rfl
  exact repr_of_reads' ra sh (fun _ => na) gd (by omega) (fun _ _ z => z) (fun h' u tk hk => ⟨.str d.shown, H, I.kept (t' := tk) hk, ⟨u, rfl⟩, q⟩) sz
end
end RQ
set_option maxRecDepth 100000
set_option maxHeartbeats 4000000
namespace F5
open PySem L2 Evl
def top (i : Nat) : Stmt := PySem.Challenge.pw_ringclause_k15_resolve_two_clauses.main.body.getD i (.Pass ⟨0, 0, 0, 0⟩)

/-! ### general -/
section
variable {K : PySem.W.Frag} {σ : L2.St} {H H1 : Hp} {J : It} {G : Hp → Prop} {te : TE}
theorem lcMap {xs : List V} (w : Walk J xs.length G (YAt xs)) (f : V → V) {j : Nat} {vs : List Nat} (hz : xs.length < sizeLine) (hG : ∀ H', Ex H1 H' → G H')
    (hw : ∀ v, wipe ((wipe σ vs).set j (some v)) vs = wipe σ vs) (he : ∀ v ∈ xs, ∀ H', Ex H1 H' → Ev te ((wipe σ vs).set j (some v)) H' (f v)) {Qd : Hp → Prop} {D : Addr} (hD : H1 D = none)
    (k : ∀ H', Ex H1 H' → H' D = some (.lst (xs.map f)) → Qd H') :
    ∃ W : Nat → Nat → Hp → Prop, (∃ m, W 0 m (upd H1 D (.lst []))) ∧ ∀ i m H, W i m H →
      (J.stop i H ∧ Qd H) ∨ (J.go i H ∧ ∃ Nx : Hp → Prop, (∀ H', Nx H' → ∃ m', m' < m ∧ W (i + 1) m' H') ∧ ∀ x H', J.yld i H x H' → gName j x (wipe σ vs) H' fun σ2 H2 => wipe σ2 vs = wipe σ vs ∧ tYes σ2 H2 fun b H3 =>
        if b = true then te σ2 H3 fun y H4 => ∃ acc, H4 D = some (.lst acc) ∧ acc.length < sizeLine ∧ Nx (upd H4 D (.lst (acc ++ [y]))) else Nx H3) := by
  refine lc_it w (fun i H => Ex H1 H ∧ H D = some (.lst ((xs.take i).map f))) ⟨Ex.new hD, upd_same⟩ (fun i H _ p => hG H p.1) ?_ (fun H p => k H p.1 (by have := p.2; rwa [List.take_length] at this))
  rintro i x H H' hi ⟨e, hl⟩ ⟨rfl, hx⟩
  have hm : x ∈ xs := by
    obtain ⟨h, q⟩ := List.getElem?_eq_some_iff.mp hx
    rw [← q]
    exact List.getElem_mem h
  unfold gName tYes
  dsimp only
  refine ⟨hw x, ?_⟩
  rw [if_pos rfl]
  refine he x hm H' e H' (Ex.refl _) _ fun H4 e4 => ⟨_, e4 D _ hl, ?_, Ex.mut (e.trans e4) hD, ?_⟩
  · rw [List.length_map, List.length_take]
    omega
  · rw [upd_same, List.take_add_one, hx]
    simp
theorem walk_signs {z : Str} : Walk (Its z) (z.cps.toList.map fun c => V.str ⟨#[c]⟩).length (fun _ => True) (YAt (z.cps.toList.map fun c => V.str ⟨#[c]⟩)) := by
  have e : (z.cps.toList.map fun c => V.str ⟨#[c]⟩).length = z.cps.size := by simp
  rw [e]
  refine walk_str.mono (fun _ h => h) ?_
  rintro i H x H' hi _ ⟨rfl, c, hc, rfl⟩
  refine ⟨rfl, ?_⟩
  simp [hc]
end

theorem at_lit {α : Type} {l : List α} {n : Nat} {z : Int} {v : α} (e : z = (n : Int)) (h : l[n]? = some v) : atI l z = some v := by
  rw [e]
  exact atI_nat h
/-! ### data by its kind -/
def tyN : PyData → String
  | .none => "NoneType" | .bool _ => "bool" | .int _ => "int" | .str _ => "str" | .list _ => "list" | .tuple _ => "tuple" | .dict _ => "dict"
def isStrD : PyData → Bool | .str _ => true | _ => false
def isIntLikeD : PyData → Bool | .int _ => true | .bool _ => true | _ => false
def isBoolD : PyData → Bool | .bool _ => true | _ => false
def isTupD : PyData → Bool | .tuple _ => true | _ => false
def isListD : PyData → Bool | .list _ => true | _ => false
section
variable {K : PySem.W.Frag} {H H' : Hp} {v : V} {d : PyData}
theorem dp_ty (h : Dp K H v d) : TyX K H v (.type (tyN d)) := by
  cases h with
  | non => exact .base .non
  | bl b => exact .base (.bl b)
  | int i => exact .base (.int i)
  | str x => exact .base (.str x)
  | lst h _ =>
    rcases h with (h | ⟨o, h⟩) | ⟨o, its, n, h1, h2, _⟩
    · exact .base (.lst h)
    · exact .base (.frz h)
    · exact .kList h1 h2
  | tup h _ =>
    rcases h with (h | ⟨o, h⟩) | ⟨o, its, n, h1, h2, _⟩
    · exact .base (.tup h)
    · exact .fTuple h
    · exact .kTuple h1 h2
theorem kit_str (d : PyData) : PySem.W.kitOne K (.type (tyN d)) (.type "str") = some (isStrD d) := by cases d <;> (refine kit_ty ?_; simp only [tyN, isStrD]; decide +kernel)
theorem kit_int (d : PyData) : PySem.W.kitOne K (.type (tyN d)) (.type "int") = some (isIntLikeD d) := by cases d <;> (refine kit_ty ?_; simp only [tyN, isIntLikeD]; decide +kernel)
theorem kit_bool (d : PyData) : PySem.W.kitOne K (.type (tyN d)) (.type "bool") = some (isBoolD d) := by cases d <;> (refine kit_ty ?_; simp only [tyN, isBoolD]; decide +kernel)
theorem kit_tuple (d : PyData) : PySem.W.kitOne K (.type (tyN d)) (.type "tuple") = some (isTupD d) := by cases d <;> (refine kit_ty ?_; simp only [tyN, isTupD]; decide +kernel)
theorem kit_list (d : PyData) : PySem.W.kitOne K (.type (tyN d)) (.type "list") = some (isListD d) := by cases d <;> (refine kit_ty ?_; simp only [tyN, isListD]; decide +kernel)
mutual
theorem Dp.ex (e : Ex H H') {v : V} {d : PyData} : Dp K H v d → Dp K H' v d
  | .non => .non
  | .bl b => .bl b
  | .int i => .int i
  | .str x => .str x
  | .lst h a => .lst (ex_l e h) (DpAll.ex e a)
  | .tup h a => .tup (ex_t e h) (DpAll.ex e a)
theorem DpAll.ex (e : Ex H H') {vs : List V} {ds : List PyData} : DpAll K H vs ds → DpAll K H' vs ds
  | .nil => .nil
  | .cons a b => .cons (Dp.ex e a) (DpAll.ex e b)
end
theorem DpAll.len : ∀ {vs : List V} {ds : List PyData}, DpAll K H vs ds → vs.length = ds.length
  | _, _, .nil => rfl
  | _, _, .cons _ r => by rw [List.length_cons, List.length_cons, DpAll.len r]
theorem DpAll.get : ∀ {vs : List V} {ds : List PyData}, DpAll K H vs ds → ∀ {i : Nat} {v : V}, vs[i]? = some v → ∃ d, ds[i]? = some d ∧ Dp K H v d
  | _, _, .nil, _, _, h => by simp at h
  | _, _, .cons (d := d) a _, 0, v, h => by
    have e : _ = v := Option.some.inj h
    subst e
    exact ⟨d, rfl, a⟩
  | _, _, .cons _ b, i + 1, v, h => DpAll.get b (i := i) (by simpa using h)
end
/-! ### the names and bounds of the program, over data -/
def letters : Str := "abcdefghijklmnopqrstuvwxyz"
def signs : Str := "abcdefghijklmnopqrstuvwxyz0123456789"
def isNameS (z : Str) : Bool := decide (1 ≤ z.length ∧ z.length ≤ 8) && (decide ((z.cps.toList.headD 0) ∈ letters.cps.toList) && z.cps.toList.all fun c => decide (c ∈ signs.cps.toList))
def isNameD : PyData → Bool | .str z => isNameS z | _ => false
def isIntD (d : PyData) : Bool := isIntLikeD d && !isBoolD d
def partsD : PyData → Option (PyData × PyData × PyData × PyData)
  | .tuple [a, b, c, e] => some (a, b, c, e)
  | _ => none
def isMostD : PyData → Bool | .str w => decide (w = ("most" : Str)) | _ => false
def sameD : PyData → PyData → Bool
  | .str x, .str y => decide (x = y)
  | _, _ => false
def isBoundD (d : PyData) : Bool := match partsD d with
  | some (a, b, c, e) => isMostD a && (isNameD b && (isNameD c && (!sameD b c && isIntD e)))
  | none => false
theorem isBound4 {a b c e : PyData} : isBoundD (.tuple [a, b, c, e]) = (isMostD a && (isNameD b && (isNameD c && (!sameD b c && isIntD e)))) := rfl
/-- texts in it, not too long -/
def szS : PyData → Prop | .str z => z.length ≤ sizeLine | _ => True
def szD : PyData → Prop | .tuple ds => ∀ d ∈ ds, szS d | _ => True

/-! ### the text -/
abbrev s_is_name : Stmt := top 10
theorem sc_is_name : FnScope ["value"] ["value"] (defScope s_is_name) := ⟨rfl, rfl, rfl, by decide +kernel, rfl, by decide +kernel, by decide +kernel⟩
abbrev s_is_integer : Stmt := top 11
theorem sc_is_integer : FnScope ["value"] ["value"] (defScope s_is_integer) := ⟨rfl, rfl, rfl, by decide +kernel, rfl, by decide +kernel, by decide +kernel⟩
abbrev s_is_bound : Stmt := top 12
theorem sc_is_bound : FnScope ["value", "word", "first", "second", "limit"] ["value"] (defScope s_is_bound) := ⟨rfl, rfl, rfl, by decide +kernel, rfl, by decide +kernel, by decide +kernel⟩
abbrev s_is_literal : Stmt := top 13
theorem sc_is_literal : FnScope ["value", "word", "name"] ["value"] (defScope s_is_literal) := ⟨rfl, rfl, rfl, by decide +kernel, rfl, by decide +kernel, by decide +kernel⟩
abbrev s_check_literal : Stmt := top 14
theorem sc_check_literal : FnScope ["value"] ["value"] (defScope s_check_literal) := ⟨rfl, rfl, rfl, by decide +kernel, rfl, by decide +kernel, by decide +kernel⟩
abbrev s_complement : Stmt := top 15
theorem sc_complement : FnScope ["literal"] ["literal"] (defScope s_complement) := ⟨rfl, rfl, rfl, by decide +kernel, rfl, by decide +kernel, by decide +kernel⟩
abbrev s_opposite : Stmt := top 16
theorem sc_opposite : FnScope ["literal", "_", "first", "second", "limit", "word", "name"] ["literal"] (defScope s_opposite) := ⟨rfl, rfl, rfl, by decide +kernel, rfl, by decide +kernel, by decide +kernel⟩
abbrev s_moments_of : Stmt := top 17
theorem sc_moments_of : FnScope ["literals", "literal", "name"] ["literals"] (defScope s_moments_of) := ⟨rfl, rfl, rfl, by decide +kernel, rfl, by decide +kernel, by decide +kernel⟩
abbrev s_clause_of : Stmt := top 18
theorem sc_clause_of : FnScope ["literals", "literal"] ["literals"] (defScope s_clause_of) := ⟨rfl, rfl, rfl, by decide +kernel, rfl, by decide +kernel, by decide +kernel⟩
abbrev s_normal_form : Stmt := top 19
theorem sc_normal_form : FnScope ["literals"] ["literals"] (defScope s_normal_form) := ⟨rfl, rfl, rfl, by decide +kernel, rfl, by decide +kernel, by decide +kernel⟩
abbrev s_check_listed : Stmt := top 20
theorem sc_check_listed : FnScope ["moments", "values", "name", "listed", "_"] ["moments", "values"] (defScope s_check_listed) := ⟨rfl, rfl, rfl, by decide +kernel, rfl, by decide +kernel, by decide +kernel⟩
abbrev s_literal_stands : Stmt := top 21
theorem sc_literal_stands : FnScope ["literal", "names", "table", "_", "first", "second", "limit", "word", "name"] ["literal", "names", "table"] (defScope s_literal_stands) := ⟨rfl, rfl, rfl, by decide +kernel, rfl, by decide +kernel, by decide +kernel⟩
abbrev s_clauses_stand : Stmt := top 22
theorem sc_clauses_stand : FnScope ["clauses", "values", "names", "times", "table", "clause", "literal"] ["clauses", "values"] (defScope s_clauses_stand) := ⟨rfl, rfl, rfl, by decide +kernel, rfl, by decide +kernel, by decide +kernel⟩
abbrev s_clause_holds : Stmt := top 23
theorem sc_clause_holds : FnScope ["clause", "values", "literals"] ["clause", "values"] (defScope s_clause_holds) := ⟨rfl, rfl, rfl, by decide +kernel, rfl, by decide +kernel, by decide +kernel⟩
abbrev s_resolve : Stmt := top 25
theorem sc_resolve : FnScope ["clause", "pivot", "other", "first", "second", "result"] ["clause", "pivot", "other"] (defScope s_resolve) := ⟨rfl, rfl, rfl, by decide +kernel, rfl, by decide +kernel, by decide +kernel⟩
abbrev s_resolvent : Stmt := top 26
theorem sc_resolvent : FnScope ["first", "pivot", "second", "other", "left", "right", "literal"] ["first", "pivot", "second"] (defScope s_resolvent) := ⟨rfl, rfl, rfl, by decide +kernel, rfl, by decide +kernel, by decide +kernel⟩
abbrev s_law_box : Stmt := top 28
theorem sc_law_box : FnScope ["script", "total", "cell"] ["script"] (defScope s_law_box) := ⟨rfl, rfl, rfl, by decide +kernel, rfl, by decide +kernel, by decide +kernel⟩
abbrev s_law_take : Stmt := top 29
theorem sc_law_take : FnScope ["box", "size", "cell", "digit", "number"] ["box", "size"] (defScope s_law_take) := ⟨rfl, rfl, rfl, by decide +kernel, rfl, by decide +kernel, by decide +kernel⟩
abbrev s_law_number : Stmt := top 30
theorem sc_law_number : FnScope ["box", "way"] ["box"] (defScope s_law_number) := ⟨rfl, rfl, rfl, by decide +kernel, rfl, by decide +kernel, by decide +kernel⟩
abbrev s_law_name : Stmt := top 31
theorem sc_law_name : FnScope ["box", "taken", "letters", "name", "k", "one"] ["box", "taken"] (defScope s_law_name) := ⟨rfl, rfl, rfl, by decide +kernel, rfl, by decide +kernel, by decide +kernel⟩
abbrev s_law_comp : Stmt := top 32
theorem sc_law_comp : FnScope ["literal"] ["literal"] (defScope s_law_comp) := ⟨rfl, rfl, rfl, by decide +kernel, rfl, by decide +kernel, by decide +kernel⟩
abbrev s_law_normal : Stmt := top 33
theorem sc_law_normal : FnScope ["literals"] ["literals"] (defScope s_law_normal) := ⟨rfl, rfl, rfl, by decide +kernel, rfl, by decide +kernel, by decide +kernel⟩
abbrev s_law_resolved : Stmt := top 34
theorem sc_law_resolved : FnScope ["clause", "pivot", "other", "left", "right", "one"] ["clause", "pivot", "other"] (defScope s_law_resolved) := ⟨rfl, rfl, rfl, by decide +kernel, rfl, by decide +kernel, by decide +kernel⟩
abbrev s_law_ring : Stmt := top 35
theorem sc_law_ring : FnScope ["box", "moments", "steps", "way", "k", "numbers"] ["box", "moments", "steps"] (defScope s_law_ring) := ⟨rfl, rfl, rfl, by decide +kernel, rfl, by decide +kernel, by decide +kernel⟩
abbrev s_law_near : Stmt := top 36
theorem sc_law_near : FnScope ["box", "bound", "moments", "way", "at", "to"] ["box", "bound", "moments"] (defScope s_law_near) := ⟨rfl, rfl, rfl, by decide +kernel, rfl, by decide +kernel, by decide +kernel⟩
abbrev s_law_world : Stmt := top 37
theorem sc_law_world : FnScope ["box", "names", "k", "shape", "truths", "moments", "steps", "ring", "pool", "one"] ["box"] (defScope s_law_world) := ⟨rfl, rfl, rfl, by decide +kernel, rfl, by decide +kernel, by decide +kernel⟩
abbrev s_law_some : Stmt := top 38
theorem sc_law_some : FnScope ["box", "pool", "one"] ["box", "pool"] (defScope s_law_some) := ⟨rfl, rfl, rfl, by decide +kernel, rfl, by decide +kernel, by decide +kernel⟩
abbrev s_law_drawn : Stmt := top 39
theorem sc_law_drawn : FnScope ["box", "pool", "k"] ["box", "pool"] (defScope s_law_drawn) := ⟨rfl, rfl, rfl, by decide +kernel, rfl, by decide +kernel, by decide +kernel⟩
abbrev s_law_holds : Stmt := top 40
theorem sc_law_holds : FnScope ["literal", "values", "times"] ["literal", "values"] (defScope s_law_holds) := ⟨rfl, rfl, rfl, by decide +kernel, rfl, by decide +kernel, by decide +kernel⟩
abbrev s_law_values : Stmt := top 41
theorem sc_law_values : FnScope ["box", "truths", "moments", "names", "one"] ["box", "truths", "moments"] (defScope s_law_values) := ⟨rfl, rfl, rfl, by decide +kernel, rfl, by decide +kernel, by decide +kernel⟩
abbrev s_law_exact : Stmt := top 42
theorem sc_law_exact : FnScope ["told", "due", "k"] ["told", "due"] (defScope s_law_exact) := ⟨rfl, rfl, rfl, by decide +kernel, rfl, by decide +kernel, by decide +kernel⟩
abbrev s_law_put : Stmt := top 43
theorem sc_law_put : FnScope ["box", "row", "one", "at"] ["box", "row", "one"] (defScope s_law_put) := ⟨rfl, rfl, rfl, by decide +kernel, rfl, by decide +kernel, by decide +kernel⟩
abbrev s_law_odd_literal : Stmt := top 44
theorem sc_law_odd_literal : FnScope ["box", "odd"] ["box"] (defScope s_law_odd_literal) := ⟨rfl, rfl, rfl, by decide +kernel, rfl, by decide +kernel, by decide +kernel⟩
abbrev s_law_odd_clause : Stmt := top 45
theorem sc_law_odd_clause : FnScope ["box"] ["box"] (defScope s_law_odd_clause) := ⟨rfl, rfl, rfl, by decide +kernel, rfl, by decide +kernel, by decide +kernel⟩
abbrev s_law_told : Stmt := top 46
theorem sc_law_told : FnScope ["first", "pivot", "second", "e", "based", "mixed"] ["first", "pivot", "second"] (defScope s_law_told) := ⟨rfl, rfl, rfl, by decide +kernel, rfl, by decide +kernel, by decide +kernel⟩
abbrev s_law_pivots : Stmt := top 47
theorem sc_law_pivots : FnScope ["box", "pool", "first", "second", "pivots", "one", "near", "each"] ["box", "pool", "first", "second"] (defScope s_law_pivots) := ⟨rfl, rfl, rfl, by decide +kernel, rfl, by decide +kernel, by decide +kernel⟩
abbrev s_law_meets : Stmt := top 48
theorem sc_law_meets : FnScope ["clause", "values", "one"] ["clause", "values"] (defScope s_law_meets) := ⟨rfl, rfl, rfl, by decide +kernel, rfl, by decide +kernel, by decide +kernel⟩
abbrev s_law_sound : Stmt := top 49
theorem sc_law_sound : FnScope ["first", "second", "told", "values", "due", "actual"] ["first", "second", "told", "values"] (defScope s_law_sound) := ⟨rfl, rfl, rfl, by decide +kernel, rfl, by decide +kernel, by decide +kernel⟩
abbrev s_law_right : Stmt := top 50
theorem sc_law_right : FnScope ["first", "pivot", "second", "rows", "handed", "told", "due", "again", "values"] ["first", "pivot", "second", "rows"] (defScope s_law_right) := ⟨rfl, rfl, rfl, by decide +kernel, rfl, by decide +kernel, by decide +kernel⟩
abbrev s_law_refused : Stmt := top 51
theorem sc_law_refused : FnScope ["box", "first", "pivot", "second", "odd", "other", "none", "left", "right", "cases", "case", "told"] ["box", "first", "pivot", "second"] (defScope s_law_refused) := ⟨rfl, rfl, rfl, by decide +kernel, rfl, by decide +kernel, by decide +kernel⟩
abbrev s_law : Stmt := top 52
theorem sc_law : FnScope ["script", "box", "world", "pool", "first", "second", "one", "rows", "pivots", "pivot", "k"] ["script"] (defScope s_law) := ⟨rfl, rfl, rfl, by decide +kernel, rfl, by decide +kernel, by decide +kernel⟩
/-- where the defs stand -/
structure Ad where
  a_is_name : Addr
  a_is_integer : Addr
  a_is_bound : Addr
  a_is_literal : Addr
  a_check_literal : Addr
  a_complement : Addr
  a_opposite : Addr
  a_moments_of : Addr
  a_clause_of : Addr
  a_normal_form : Addr
  a_check_listed : Addr
  a_literal_stands : Addr
  a_clauses_stand : Addr
  a_clause_holds : Addr
  a_resolve : Addr
  a_resolvent : Addr
  a_law_box : Addr
  a_law_take : Addr
  a_law_number : Addr
  a_law_name : Addr
  a_law_comp : Addr
  a_law_normal : Addr
  a_law_resolved : Addr
  a_law_ring : Addr
  a_law_near : Addr
  a_law_world : Addr
  a_law_some : Addr
  a_law_drawn : Addr
  a_law_holds : Addr
  a_law_values : Addr
  a_law_exact : Addr
  a_law_put : Addr
  a_law_odd_literal : Addr
  a_law_odd_clause : Addr
  a_law_told : Addr
  a_law_pivots : Addr
  a_law_meets : Addr
  a_law_sound : Addr
  a_law_right : Addr
  a_law_refused : Addr
  a_law : Addr
  tL : Tok
  tS : Tok
  tN : Tok
  cR : Addr
  cL : Addr
  cC : Addr
  cU : Addr
  cP : Addr
structure Fd where
  a_is_name : FuncData
  a_is_integer : FuncData
  a_is_bound : FuncData
  a_is_literal : FuncData
  a_check_literal : FuncData
  a_complement : FuncData
  a_opposite : FuncData
  a_moments_of : FuncData
  a_clause_of : FuncData
  a_normal_form : FuncData
  a_check_listed : FuncData
  a_literal_stands : FuncData
  a_clauses_stand : FuncData
  a_clause_holds : FuncData
  a_resolve : FuncData
  a_resolvent : FuncData
  a_law_box : FuncData
  a_law_take : FuncData
  a_law_number : FuncData
  a_law_name : FuncData
  a_law_comp : FuncData
  a_law_normal : FuncData
  a_law_resolved : FuncData
  a_law_ring : FuncData
  a_law_near : FuncData
  a_law_world : FuncData
  a_law_some : FuncData
  a_law_drawn : FuncData
  a_law_holds : FuncData
  a_law_values : FuncData
  a_law_exact : FuncData
  a_law_put : FuncData
  a_law_odd_literal : FuncData
  a_law_odd_clause : FuncData
  a_law_told : FuncData
  a_law_pivots : FuncData
  a_law_meets : FuncData
  a_law_sound : FuncData
  a_law_right : FuncData
  a_law_refused : FuncData
  a_law : FuncData
structure TX (K : PySem.W.Frag) (mg : Str → Option Value) (a : Ad) : Prop where
  b_isinstance : mg "isinstance" = none
  b_str : mg "str" = none
  b_int : mg "int" = none
  b_bool : mg "bool" = none
  b_tuple : mg "tuple" = none
  b_list : mg "list" = none
  b_len : mg "len" = none
  b_range : mg "range" = none
  b_sorted : mg "sorted" = none
  b_abs : mg "abs" = none
  b_any : mg "any" = none
  b_all : mg "all" = none
  b_set : mg "set" = none
  b_dict : mg "dict" = none
  b_sum : mg "sum" = none
  b_repr : mg "repr" = none
  b_ValueError : mg "ValueError" = none
  g_LETTERS : mg "LETTERS" = some (.str letters a.tL)
  g_SIGNS : mg "SIGNS" = some (.str signs a.tS)
  g_LONGEST_NAME : mg "LONGEST_NAME" = some (.int 8 a.tN)
  c_RingclauseError : mg "RingclauseError" = some (.ref a.cR)
  c_InvalidLiteral : mg "InvalidLiteral" = some (.ref a.cL)
  c_InvalidClause : mg "InvalidClause" = some (.ref a.cC)
  c_UnknownMoment : mg "UnknownMoment" = some (.ref a.cU)
  c_InvalidPivot : mg "InvalidPivot" = some (.ref a.cP)
  f_is_name : mg "is_name" = some (.ref a.a_is_name)
  k_is_name : PySem.W.keepIn K (.ref a.a_is_name) = true
  f_is_integer : mg "is_integer" = some (.ref a.a_is_integer)
  k_is_integer : PySem.W.keepIn K (.ref a.a_is_integer) = true
  f_is_bound : mg "is_bound" = some (.ref a.a_is_bound)
  k_is_bound : PySem.W.keepIn K (.ref a.a_is_bound) = true
  f_is_literal : mg "is_literal" = some (.ref a.a_is_literal)
  k_is_literal : PySem.W.keepIn K (.ref a.a_is_literal) = true
  f_check_literal : mg "check_literal" = some (.ref a.a_check_literal)
  k_check_literal : PySem.W.keepIn K (.ref a.a_check_literal) = true
  f_complement : mg "complement" = some (.ref a.a_complement)
  k_complement : PySem.W.keepIn K (.ref a.a_complement) = true
  f_opposite : mg "opposite" = some (.ref a.a_opposite)
  k_opposite : PySem.W.keepIn K (.ref a.a_opposite) = true
  f_moments_of : mg "moments_of" = some (.ref a.a_moments_of)
  k_moments_of : PySem.W.keepIn K (.ref a.a_moments_of) = true
  f_clause_of : mg "clause_of" = some (.ref a.a_clause_of)
  k_clause_of : PySem.W.keepIn K (.ref a.a_clause_of) = true
  f_normal_form : mg "normal_form" = some (.ref a.a_normal_form)
  k_normal_form : PySem.W.keepIn K (.ref a.a_normal_form) = true
  f_check_listed : mg "check_listed" = some (.ref a.a_check_listed)
  k_check_listed : PySem.W.keepIn K (.ref a.a_check_listed) = true
  f_literal_stands : mg "literal_stands" = some (.ref a.a_literal_stands)
  k_literal_stands : PySem.W.keepIn K (.ref a.a_literal_stands) = true
  f_clauses_stand : mg "clauses_stand" = some (.ref a.a_clauses_stand)
  k_clauses_stand : PySem.W.keepIn K (.ref a.a_clauses_stand) = true
  f_clause_holds : mg "clause_holds" = some (.ref a.a_clause_holds)
  k_clause_holds : PySem.W.keepIn K (.ref a.a_clause_holds) = true
  f_resolve : mg "resolve" = some (.ref a.a_resolve)
  k_resolve : PySem.W.keepIn K (.ref a.a_resolve) = true
  f_resolvent : mg "resolvent" = some (.ref a.a_resolvent)
  k_resolvent : PySem.W.keepIn K (.ref a.a_resolvent) = true
  f__law_box : mg "_law_box" = some (.ref a.a_law_box)
  k__law_box : PySem.W.keepIn K (.ref a.a_law_box) = true
  f__law_take : mg "_law_take" = some (.ref a.a_law_take)
  k__law_take : PySem.W.keepIn K (.ref a.a_law_take) = true
  f__law_number : mg "_law_number" = some (.ref a.a_law_number)
  k__law_number : PySem.W.keepIn K (.ref a.a_law_number) = true
  f__law_name : mg "_law_name" = some (.ref a.a_law_name)
  k__law_name : PySem.W.keepIn K (.ref a.a_law_name) = true
  f__law_comp : mg "_law_comp" = some (.ref a.a_law_comp)
  k__law_comp : PySem.W.keepIn K (.ref a.a_law_comp) = true
  f__law_normal : mg "_law_normal" = some (.ref a.a_law_normal)
  k__law_normal : PySem.W.keepIn K (.ref a.a_law_normal) = true
  f__law_resolved : mg "_law_resolved" = some (.ref a.a_law_resolved)
  k__law_resolved : PySem.W.keepIn K (.ref a.a_law_resolved) = true
  f__law_ring : mg "_law_ring" = some (.ref a.a_law_ring)
  k__law_ring : PySem.W.keepIn K (.ref a.a_law_ring) = true
  f__law_near : mg "_law_near" = some (.ref a.a_law_near)
  k__law_near : PySem.W.keepIn K (.ref a.a_law_near) = true
  f__law_world : mg "_law_world" = some (.ref a.a_law_world)
  k__law_world : PySem.W.keepIn K (.ref a.a_law_world) = true
  f__law_some : mg "_law_some" = some (.ref a.a_law_some)
  k__law_some : PySem.W.keepIn K (.ref a.a_law_some) = true
  f__law_drawn : mg "_law_drawn" = some (.ref a.a_law_drawn)
  k__law_drawn : PySem.W.keepIn K (.ref a.a_law_drawn) = true
  f__law_holds : mg "_law_holds" = some (.ref a.a_law_holds)
  k__law_holds : PySem.W.keepIn K (.ref a.a_law_holds) = true
  f__law_values : mg "_law_values" = some (.ref a.a_law_values)
  k__law_values : PySem.W.keepIn K (.ref a.a_law_values) = true
  f__law_exact : mg "_law_exact" = some (.ref a.a_law_exact)
  k__law_exact : PySem.W.keepIn K (.ref a.a_law_exact) = true
  f__law_put : mg "_law_put" = some (.ref a.a_law_put)
  k__law_put : PySem.W.keepIn K (.ref a.a_law_put) = true
  f__law_odd_literal : mg "_law_odd_literal" = some (.ref a.a_law_odd_literal)
  k__law_odd_literal : PySem.W.keepIn K (.ref a.a_law_odd_literal) = true
  f__law_odd_clause : mg "_law_odd_clause" = some (.ref a.a_law_odd_clause)
  k__law_odd_clause : PySem.W.keepIn K (.ref a.a_law_odd_clause) = true
  f__law_told : mg "_law_told" = some (.ref a.a_law_told)
  k__law_told : PySem.W.keepIn K (.ref a.a_law_told) = true
  f__law_pivots : mg "_law_pivots" = some (.ref a.a_law_pivots)
  k__law_pivots : PySem.W.keepIn K (.ref a.a_law_pivots) = true
  f__law_meets : mg "_law_meets" = some (.ref a.a_law_meets)
  k__law_meets : PySem.W.keepIn K (.ref a.a_law_meets) = true
  f__law_sound : mg "_law_sound" = some (.ref a.a_law_sound)
  k__law_sound : PySem.W.keepIn K (.ref a.a_law_sound) = true
  f__law_right : mg "_law_right" = some (.ref a.a_law_right)
  k__law_right : PySem.W.keepIn K (.ref a.a_law_right) = true
  f__law_refused : mg "_law_refused" = some (.ref a.a_law_refused)
  k__law_refused : PySem.W.keepIn K (.ref a.a_law_refused) = true
  f_law : mg "law" = some (.ref a.a_law)
  k_law : PySem.W.keepIn K (.ref a.a_law) = true
structure FDS (K : PySem.W.Frag) (a : Ad) (d : Fd) : Prop where
  F_is_name : Fun K "is_name" "is_name" s_is_name a.a_is_name d.a_is_name
  B_is_name : Binds K d.a_is_name ["value"] []
  F_is_integer : Fun K "is_integer" "is_integer" s_is_integer a.a_is_integer d.a_is_integer
  B_is_integer : Binds K d.a_is_integer ["value"] []
  F_is_bound : Fun K "is_bound" "is_bound" s_is_bound a.a_is_bound d.a_is_bound
  B_is_bound : Binds K d.a_is_bound ["value"] []
  F_is_literal : Fun K "is_literal" "is_literal" s_is_literal a.a_is_literal d.a_is_literal
  B_is_literal : Binds K d.a_is_literal ["value"] []
  F_check_literal : Fun K "check_literal" "check_literal" s_check_literal a.a_check_literal d.a_check_literal
  B_check_literal : Binds K d.a_check_literal ["value"] []
  F_complement : Fun K "complement" "complement" s_complement a.a_complement d.a_complement
  B_complement : Binds K d.a_complement ["literal"] []
  F_opposite : Fun K "opposite" "opposite" s_opposite a.a_opposite d.a_opposite
  B_opposite : Binds K d.a_opposite ["literal"] []
  F_moments_of : Fun K "moments_of" "moments_of" s_moments_of a.a_moments_of d.a_moments_of
  B_moments_of : Binds K d.a_moments_of ["literals"] []
  F_clause_of : Fun K "clause_of" "clause_of" s_clause_of a.a_clause_of d.a_clause_of
  B_clause_of : Binds K d.a_clause_of ["literals"] []
  F_normal_form : Fun K "normal_form" "normal_form" s_normal_form a.a_normal_form d.a_normal_form
  B_normal_form : Binds K d.a_normal_form ["literals"] []
  F_check_listed : Fun K "check_listed" "check_listed" s_check_listed a.a_check_listed d.a_check_listed
  B_check_listed : Binds K d.a_check_listed ["moments", "values"] []
  F_literal_stands : Fun K "literal_stands" "literal_stands" s_literal_stands a.a_literal_stands d.a_literal_stands
  B_literal_stands : Binds K d.a_literal_stands ["literal", "names", "table"] []
  F_clauses_stand : Fun K "clauses_stand" "clauses_stand" s_clauses_stand a.a_clauses_stand d.a_clauses_stand
  B_clauses_stand : Binds K d.a_clauses_stand ["clauses", "values"] []
  F_clause_holds : Fun K "clause_holds" "clause_holds" s_clause_holds a.a_clause_holds d.a_clause_holds
  B_clause_holds : Binds K d.a_clause_holds ["clause", "values"] []
  F_resolve : Fun K "resolve" "resolve" s_resolve a.a_resolve d.a_resolve
  B_resolve : Binds K d.a_resolve ["clause", "pivot", "other"] []
  F_resolvent : Fun K "resolvent" "resolvent" s_resolvent a.a_resolvent d.a_resolvent
  B_resolvent : Binds K d.a_resolvent ["first", "pivot", "second"] []
  F__law_box : Fun K "_law_box" "_law_box" s_law_box a.a_law_box d.a_law_box
  B__law_box : Binds K d.a_law_box ["script"] []
  F__law_take : Fun K "_law_take" "_law_take" s_law_take a.a_law_take d.a_law_take
  B__law_take : Binds K d.a_law_take ["box", "size"] []
  F__law_number : Fun K "_law_number" "_law_number" s_law_number a.a_law_number d.a_law_number
  B__law_number : Binds K d.a_law_number ["box"] []
  F__law_name : Fun K "_law_name" "_law_name" s_law_name a.a_law_name d.a_law_name
  B__law_name : Binds K d.a_law_name ["box", "taken"] []
  F__law_comp : Fun K "_law_comp" "_law_comp" s_law_comp a.a_law_comp d.a_law_comp
  B__law_comp : Binds K d.a_law_comp ["literal"] []
  F__law_normal : Fun K "_law_normal" "_law_normal" s_law_normal a.a_law_normal d.a_law_normal
  B__law_normal : Binds K d.a_law_normal ["literals"] []
  F__law_resolved : Fun K "_law_resolved" "_law_resolved" s_law_resolved a.a_law_resolved d.a_law_resolved
  B__law_resolved : Binds K d.a_law_resolved ["clause", "pivot", "other"] []
  F__law_ring : Fun K "_law_ring" "_law_ring" s_law_ring a.a_law_ring d.a_law_ring
  B__law_ring : Binds K d.a_law_ring ["box", "moments", "steps"] []
  F__law_near : Fun K "_law_near" "_law_near" s_law_near a.a_law_near d.a_law_near
  B__law_near : Binds K d.a_law_near ["box", "bound", "moments"] []
  F__law_world : Fun K "_law_world" "_law_world" s_law_world a.a_law_world d.a_law_world
  B__law_world : Binds K d.a_law_world ["box"] []
  F__law_some : Fun K "_law_some" "_law_some" s_law_some a.a_law_some d.a_law_some
  B__law_some : Binds K d.a_law_some ["box", "pool"] []
  F__law_drawn : Fun K "_law_drawn" "_law_drawn" s_law_drawn a.a_law_drawn d.a_law_drawn
  B__law_drawn : Binds K d.a_law_drawn ["box", "pool"] []
  F__law_holds : Fun K "_law_holds" "_law_holds" s_law_holds a.a_law_holds d.a_law_holds
  B__law_holds : Binds K d.a_law_holds ["literal", "values"] []
  F__law_values : Fun K "_law_values" "_law_values" s_law_values a.a_law_values d.a_law_values
  B__law_values : Binds K d.a_law_values ["box", "truths", "moments"] []
  F__law_exact : Fun K "_law_exact" "_law_exact" s_law_exact a.a_law_exact d.a_law_exact
  B__law_exact : Binds K d.a_law_exact ["told", "due"] []
  F__law_put : Fun K "_law_put" "_law_put" s_law_put a.a_law_put d.a_law_put
  B__law_put : Binds K d.a_law_put ["box", "row", "one"] []
  F__law_odd_literal : Fun K "_law_odd_literal" "_law_odd_literal" s_law_odd_literal a.a_law_odd_literal d.a_law_odd_literal
  B__law_odd_literal : Binds K d.a_law_odd_literal ["box"] []
  F__law_odd_clause : Fun K "_law_odd_clause" "_law_odd_clause" s_law_odd_clause a.a_law_odd_clause d.a_law_odd_clause
  B__law_odd_clause : Binds K d.a_law_odd_clause ["box"] []
  F__law_told : Fun K "_law_told" "_law_told" s_law_told a.a_law_told d.a_law_told
  B__law_told : Binds K d.a_law_told ["first", "pivot", "second"] []
  F__law_pivots : Fun K "_law_pivots" "_law_pivots" s_law_pivots a.a_law_pivots d.a_law_pivots
  B__law_pivots : Binds K d.a_law_pivots ["box", "pool", "first", "second"] []
  F__law_meets : Fun K "_law_meets" "_law_meets" s_law_meets a.a_law_meets d.a_law_meets
  B__law_meets : Binds K d.a_law_meets ["clause", "values"] []
  F__law_sound : Fun K "_law_sound" "_law_sound" s_law_sound a.a_law_sound d.a_law_sound
  B__law_sound : Binds K d.a_law_sound ["first", "second", "told", "values"] []
  F__law_right : Fun K "_law_right" "_law_right" s_law_right a.a_law_right d.a_law_right
  B__law_right : Binds K d.a_law_right ["first", "pivot", "second", "rows"] []
  F__law_refused : Fun K "_law_refused" "_law_refused" s_law_refused a.a_law_refused d.a_law_refused
  B__law_refused : Binds K d.a_law_refused ["box", "first", "pivot", "second"] []
  F_law : Fun K "law" "law" s_law a.a_law d.a_law
  B_law : Binds K d.a_law ["script"] []
/-- the errors that the program raises -/
structure ER (K : PySem.W.Frag) (mg : Str → Option Value) (P : Program) (a : Ad) (fL fC fU fP : Addr) : Prop where
  eL : PySem.Sup.SupTxt K mg P "InvalidLiteral" "value" "not a literal" a.cL fL
  eC : PySem.Sup.SupTxt K mg P "InvalidClause" "value" "not a clause" a.cC fC
  eU : PySem.Sup.SupTxt K mg P "UnknownMoment" "name" "not a listed moment" a.cU fU
  eP : PySem.Sup.SupTxt K mg P "InvalidPivot" "pivot" "not a pivot of these clauses" a.cP fP

def spD (pre : PyData → Prop) (F : PyData → Bool) (K : PySem.W.Frag) : Sp := fun vs H Q _ => ∃ v d, vs = [v] ∧ Dp K H v d ∧ pre d ∧ ∀ H', Ex H H' → Q (.bl (F d)) H'
def spIsName (K : PySem.W.Frag) : Sp := spD szS isNameD K
def spIsInt (K : PySem.W.Frag) : Sp := spD (fun _ => True) isIntD K
def spIsBound (K : PySem.W.Frag) : Sp := spD szD isBoundD K
theorem iteT' {c : Bool} {A B : Prop} (hc : c = true) (h : A) : if c = true then A else B := by
  rw [if_pos hc]
  exact h
theorem ex_q {H H1 : Hp} {Q : VK} {b : Bool} (q : ∀ H', Ex H H' → Q (.bl b) H') {c : Bool} (e : b = c) (x : Ex H H1) : Q (.bl c) H1 := by
  rw [← e]
  exact q H1 x

section
variable {P : Program} {w : World} {K : PySem.W.Frag} {mg : Str → Option Value} {base : Heap} {a : Ad} {d : Fd}
theorem strip_all (z y : Str) : (Txt.stripChars z y = (⟨#[]⟩ : Str)) ↔ ∀ c ∈ z.cps.toList, c ∈ y.cps.toList := by
  have e0 : Txt.stripChars z y = Builtin.Str.strSub z (stripLo y.cps.contains true z) (stripHi y.cps.contains true z (stripLo y.cps.contains true z)) := PyProof.Rows.stripBy_eq _ _ _ _
  obtain ⟨l1, l2, l3⟩ := PyProof.Rows.lo_facts y.cps.contains z
  rw [e0]
  generalize stripLo y.cps.contains true z = lo at l1 l2 l3
  obtain ⟨h1, h2, h3, _⟩ := PyProof.Rows.hi_facts y.cps.contains z lo l1
  generalize stripHi y.cps.contains true z lo = hi at h1 h2 h3
  have hlen : z.cps.toList.length = z.length := by show _ = z.cps.size; simp
  have hin : ∀ c, y.cps.contains c = true ↔ c ∈ y.cps.toList := fun c => by rw [Array.contains_iff_mem]; simp
  have hk : ∀ k, k < z.length → ∃ c, z.cps.toList[k]? = some c ∧ z.cps.getD k 0 = c := fun k h => by
    have h' : k < z.cps.toList.length := by omega
    refine ⟨z.cps.toList[k], by simp, ?_⟩
    rw [← PyProof.Rows.getD_list]
    rw [List.getD, List.getElem?_eq_getElem h']; rfl
  constructor
  · intro h c hc
    have hd : (Builtin.Str.strSub z lo hi).cps.toList = [] := by rw [h]
    have hl : hi ≤ lo := by
      have := congrArg List.length hd
      rw [PySem.StrLaws.strSub_toList, List.length_take, List.length_drop, List.length_nil] at this
      omega
    obtain ⟨k, hk1, hk2⟩ := List.mem_iff_getElem.mp hc
    rw [hlen] at hk1
    obtain ⟨c', e1, e2⟩ := hk k hk1
    have : c' = c := by
      rw [List.getElem?_eq_getElem (by omega)] at e1
      rw [← hk2]
      exact (Option.some.inj e1).symm
    subst this
    rw [← hin, ← e2]
    by_cases hlo : k < lo
    · exact l2 k hlo
    · exact h3 k (by omega) hk1
  · intro h
    have hlo : lo = z.length := by
      rcases l3 with l3 | l3
      · exact l3
      · by_cases hb : lo < z.length
        · obtain ⟨c, e1, e2⟩ := hk lo hb
          rw [e2] at l3
          have := (hin c).mpr (h c (List.mem_of_getElem? e1))
          rw [this] at l3
          cases l3
        · omega
    have : hi = lo := by omega
    subst this
    have hd : (Builtin.Str.strSub z hi hi).cps.toList = [] := by rw [PySem.StrLaws.strSub_toList]; simp
    have : (Builtin.Str.strSub z hi hi).cps = #[] := by
      apply Array.ext'
      rw [hd]
    show (⟨(Builtin.Str.strSub z hi hi).cps⟩ : Str) = _
    rw [this]
theorem ok_is_name (T : TX K mg a) (D : FDS K a d) : FnOk P w K mg base CX0 1 a.a_is_name d.a_is_name ["value"] (spIsName K) := by
  refine D.F_is_name.ok sc_is_name (fun vs H Q E h => ?_) (fun cdv A outer s H vs Q E hr h => ?_)
  · obtain ⟨v, d, rfl, _⟩ := h
    rfl
  · obtain ⟨v, d, rfl, hd, hz, q⟩ := h
    refine ⟨_, (pss_cons (ps_if (PW.pt (pw_or (pt_not (pt_val (pe_callB call_isi (by rfl) T.b_isinstance (by decide +kernel) (pa_cons (pv 0) (pa_cons (pe_bltn (v := .ty "str") (by rfl) T.b_str (by decide +kernel) rfl) pa_nil))))) (pw_or1 (pt_not (pt_chain op_le op_le pe_int (pe_callB call_len_str (by rfl) T.b_len (by decide +kernel) (pa_cons (pv 0) pa_nil)) (pe_glob (v := .int 8) rfl T.g_LONGEST_NAME ⟨_, rfl⟩)))))) (pss_one (ps_ret pe_bl)) pss_nil)
        (pss_one (ps_ret (pe_and (pe_cmpR op_in_sign (pe_ix ix_str (pv 0) pe_int (fun _ _ => rfl)) (pe_glob (v := .str letters) rfl T.g_LETTERS ⟨_, rfl⟩) rfl) (pe_one (pe_cmpR op_eq (pe_m1 PySem.F.slot_str_strip PySem.F.type_str_strip mt_stripChars (pv 0) (pe_glob (v := .str signs) rfl T.g_SIGNS ⟨_, rfl⟩)) pe_str (nomark _))))))), ?_⟩
    refine ⟨_, rfl, v, _, _, _, _, rfl, .ty "str", dp_ty hd, kit_str d, _, rfl, ?_⟩
    cases hd with
    | str z =>
      have hz : z.length ≤ sizeLine := hz
      have hlen : z.cps.toList.length = z.length := by show _ = z.cps.size; simp
      refine ⟨_, rfl, z, rfl, hz, 1, _, rfl, rfl, _, rfl, ?_⟩
      by_cases h1 : (1 : Int) ≤ (z.length : Int)
      · rw [decide_eq_true h1]
        refine ⟨_, 8, rfl, rfl, _, rfl, ?_⟩
        by_cases h2 : (z.length : Int) ≤ 8
        · rw [decide_eq_true h2]
          obtain ⟨c, cs, hc⟩ : ∃ c cs, z.cps.toList = c :: cs := by
            cases e : z.cps.toList with
            | nil =>
              rw [e] at hlen
              simp at hlen
              omega
            | cons c cs => exact ⟨c, cs, rfl⟩
          refine ⟨_, rfl, z, 0, c, rfl, rfl, hz, at_lit (n := 0) rfl (show z.cps.toList[0]? = some c by rw [hc]; rfl), c, letters, rfl, rfl, _, rfl, ?_⟩
          have hv : isNameS z = (decide (c ∈ letters.cps.toList) && z.cps.toList.all fun c => decide (c ∈ signs.cps.toList)) := by
            unfold isNameS
            rw [decide_eq_true (show 1 ≤ z.length ∧ z.length ≤ 8 by omega), hc]
            rfl
          by_cases h3 : c ∈ letters.cps.toList
          · rw [decide_eq_true h3]
            refine iteT ⟨_, rfl, ⟨_, rfl⟩, z, signs, rfl, rfl, hz, rfl, ex_q q ?_ (Ex.refl _)⟩
            show isNameS z = decide (V.str (Txt.stripChars z signs) = V.str (⟨#[]⟩ : Str))
            rw [hv, decide_eq_true h3]
            apply Bool.eq_iff_iff.mpr
            rw [Bool.true_and, decide_eq_true_eq, List.all_eq_true]
            refine ⟨fun g => ?_, fun g => ?_⟩
            · rw [(strip_all z signs).mpr fun c h => of_decide_eq_true (g c h)]
            · intro c h
              exact decide_eq_true ((strip_all z signs).mp (V.str.inj g) c h)
          · rw [decide_eq_false h3]
            exact iteF (ex_q q (show isNameS z = false by rw [hv, decide_eq_false h3]; rfl) (Ex.refl _))
        · rw [decide_eq_false h2]
          refine ex_q q (show isNameS z = false from ?_) (Ex.refl _)
          unfold isNameS
          rw [decide_eq_false (show ¬ (1 ≤ z.length ∧ z.length ≤ 8) by omega)]
          rfl
      · rw [decide_eq_false h1]
        refine ⟨false, rfl, ex_q q (show isNameS z = false from ?_) (Ex.refl _)⟩
        unfold isNameS
        rw [decide_eq_false (show ¬ (1 ≤ z.length ∧ z.length ≤ 8) by omega)]
        rfl
    | _ => exact q H (Ex.refl _)
theorem ok_is_integer (T : TX K mg a) (D : FDS K a d) : FnOk P w K mg base CX0 1 a.a_is_integer d.a_is_integer ["value"] (spIsInt K) := by
  refine D.F_is_integer.ok sc_is_integer (fun vs H Q E h => ?_) (fun cdv A outer s H vs Q E hr h => ?_)
  · obtain ⟨v, d, rfl, _⟩ := h
    rfl
  · obtain ⟨v, d, rfl, hd, _, q⟩ := h
    refine ⟨_, (pss_one (ps_ret (pe_and (pe_callB call_isi (by rfl) T.b_isinstance (by decide +kernel) (pa_cons (pv 0) (pa_cons (pe_bltn (v := .ty "int") (by rfl) T.b_int (by decide +kernel) rfl) pa_nil))) (pe_one (pe_not (pe_callB call_isi (by rfl) T.b_isinstance (by decide +kernel) (pa_cons (pv 0) (pa_cons (pe_bltn (v := .ty "bool") (by rfl) T.b_bool (by decide +kernel) rfl) pa_nil)))))))), ?_⟩
    refine ⟨_, rfl, v, _, _, _, _, rfl, .ty "int", dp_ty hd, kit_int d, _, rfl, ?_⟩
    cases e : isIntLikeD d with
    | false => exact iteF (ex_q q (by show (isIntLikeD d && _) = false; rw [e]; rfl) (Ex.refl _))
    | true =>
      refine iteT ⟨_, rfl, v, _, _, _, _, rfl, .ty "bool", dp_ty hd, kit_bool d, _, rfl, ?_⟩
      exact ex_q q (by show (isIntLikeD d && _) = _; rw [e]; rfl) (Ex.refl _)
theorem ok_is_bound (T : TX K mg a) (D : FDS K a d) : FnOk P w K mg base CX0 2 a.a_is_bound d.a_is_bound ["value"] (spIsBound K) := by
  have G_is_name : FnOk P w K mg base CX0 1 a.a_is_name d.a_is_name ["value"] (spIsName K) := ok_is_name T D
  have G_is_integer : FnOk P w K mg base CX0 1 a.a_is_integer d.a_is_integer ["value"] (spIsInt K) := ok_is_integer T D
  refine D.F_is_bound.ok sc_is_bound (fun vs H Q E h => ?_) (fun cdv A outer s H vs Q E hr h => ?_)
  · obtain ⟨v, d, rfl, _⟩ := h
    rfl
  · obtain ⟨v, d, rfl, hd, hz, q⟩ := h
    refine ⟨_, (pss_cons (ps_if (PW.pt (pw_or (pt_not (pt_val (pe_callB call_isi (by rfl) T.b_isinstance (by decide +kernel) (pa_cons (pv 0) (pa_cons (pe_bltn (v := .ty "tuple") (by rfl) T.b_tuple (by decide +kernel) rfl) pa_nil))))) (pw_or1 (pt_cmpR op_ne (pe_callB call_len_seq (by rfl) T.b_len (by decide +kernel) (pa_cons (pv 0) pa_nil)) pe_int (nomark _))))) (pss_one (ps_ret pe_bl)) pss_nil)
        (pss_cons (ps_asg (pv 0) (pg_tup rfl (pgs_cons (pg_name (i := 1) sc_is_bound.nd rfl (Or.inl rfl)) (pgs_cons (pg_name (i := 2) sc_is_bound.nd rfl (Or.inl rfl)) (pgs_cons (pg_name (i := 3) sc_is_bound.nd rfl (Or.inl rfl)) (pgs_cons (pg_name (i := 4) sc_is_bound.nd rfl (Or.inl rfl)) pgs_nil))))))
        (pss_cons (ps_if (PW.pt (pw_or (pt_not (pt_val (pe_callB call_isi (by rfl) T.b_isinstance (by decide +kernel) (pa_cons (pv 1) (pa_cons (pe_bltn (v := .ty "str") (by rfl) T.b_str (by decide +kernel) rfl) pa_nil))))) (pw_or1 (pt_cmpR op_ne (pv 1) pe_str (nomark _))))) (pss_one (ps_ret pe_bl)) pss_nil)
        (pss_one (ps_ret (pe_and (pe_call G_is_name (hr.mono (by decide)) rfl T.f_is_name T.k_is_name D.B_is_name .nil pass0 (pa_cons (pv 2) pa_nil)) (pe_and (pe_call G_is_name (hr.mono (by decide)) rfl T.f_is_name T.k_is_name D.B_is_name .nil pass0 (pa_cons (pv 3) pa_nil)) (pe_and (pe_cmpR op_ne (pv 2) (pv 3) (nomark _)) (pe_one (pe_call G_is_integer (hr.mono (by decide)) rfl T.f_is_integer T.k_is_integer D.B_is_integer .nil pass0 (pa_cons (pv 4) pa_nil))))))))))), ?_⟩
    refine ⟨_, rfl, v, _, _, _, _, rfl, .ty "tuple", dp_ty hd, kit_tuple d, _, rfl, ?_⟩
    cases hd with
    | @tup a xs ds ha hall =>
      have hl := DpAll.len hall
      refine ⟨_, rfl, a, xs, rfl, .inr ha, rfl, _, rfl, ?_⟩
      by_cases h4 : xs.length = 4
      · refine iteNS (by rw [h4]; rfl) ?_
        obtain ⟨v1, v2, v3, v4, rfl⟩ : ∃ v1 v2 v3 v4, xs = [v1, v2, v3, v4] := by
          match xs, h4 with
          | [v1, v2, v3, v4], _ => exact ⟨v1, v2, v3, v4, rfl⟩
        cases hall with
        | cons g1 r1 =>
        cases r1 with
        | cons g2 r2 =>
        cases r2 with
        | cons g3 r3 =>
        cases r3 with
        | cons g4 r4 =>
        cases r4
        rename_i d1 d2 d3 d4
        have z2 : szS d2 := hz d2 (by simp)
        have z3 : szS d3 := hz d3 (by simp)
        refine ⟨_, rfl, a, _, rfl, ha, rfl, _, _, rfl, _, _, rfl, _, _, rfl, _, _, rfl, rfl, ?_⟩
        refine ⟨_, rfl, v1, _, _, _, _, rfl, .ty "str", dp_ty g1, kit_str d1, _, rfl, ?_⟩
        cases g1 with
        | str wd =>
          refine ⟨_, rfl, rfl, _, rfl, ?_⟩
          by_cases hw : wd = ("most" : Str)
          · refine iteNS (by rw [hw]) ?_
            subst hw
            -- is_name(first) and is_name(second) and first != second and is_integer(limit)
            refine ⟨_, rfl, v2, d2, rfl, g2, z2, fun H1 e1 => ⟨_, rfl, ?_⟩⟩
            cases e2 : isNameD d2 with
            | false => exact iteF (ex_q q (by rw [isBound4, e2]; simp) e1)
            | true =>
              refine iteT ⟨_, rfl, v3, d3, rfl, Dp.ex e1 g3, z3, fun H2 e3 => ⟨_, rfl, ?_⟩⟩
              cases g2 with
              | str x =>
                have e2' : isNameS x = true := e2
                cases e4 : isNameD d3 with
                | false => exact iteF (ex_q q (by rw [isBound4, e4]; simp) (e1.trans e3))
                | true =>
                  cases g3 with
                  | str y =>
                    have e4' : isNameS y = true := e4
                    refine iteT ⟨_, rfl, _, rfl, rfl, _, rfl, ?_⟩
                    by_cases hxy : x = y
                    · subst hxy
                      have e5 : decide (V.str x = V.str x) = true := decide_eq_true rfl
                      rw [e5]
                      exact iteF (ex_q q (by rw [isBound4, show sameD (.str x) (.str x) = true from decide_eq_true rfl]; simp) (e1.trans e3))
                    · have e5 : decide (V.str x = V.str y) = false := decide_eq_false fun z => hxy (V.str.inj z)
                      rw [e5]
                      refine iteT ⟨_, rfl, v4, d4, rfl, Dp.ex (e1.trans e3) g4, trivial, fun H3 e6 => ?_⟩
                      refine ex_q q ?_ ((e1.trans e3).trans e6)
                      rw [isBound4, e2, e4, show sameD (.str x) (.str y) = false from decide_eq_false hxy, (by simp [isMostD] : isMostD (.str ("most" : Str)) = true)]
                      rfl
                  | _ => cases e4
              | _ => cases e2
          · refine iteT' ?_ (ex_q q ?_ (Ex.refl _))
            · have e5 : decide (V.str wd = V.str ("most" : Str)) = false := decide_eq_false fun z => hw (V.str.inj z)
              rw [e5]
              rfl
            · rw [isBound4, show isMostD (.str wd) = false from decide_eq_false hw]
              rfl
        | _ => exact ex_q q rfl (Ex.refl _)
      · refine iteT' ?_ (ex_q q ?_ (Ex.refl _))
        · have e5 : decide (V.int (xs.length : Nat) = V.int 4) = false := decide_eq_false fun z => h4 (by have := V.int.inj z; omega)
          rw [e5]
          rfl
        · have l4 : ds.length ≠ 4 := by omega
          show isBoundD (.tuple ds) = false
          match ds, l4 with
          | [], _ => rfl
          | [_], _ => rfl
          | [_, _], _ => rfl
          | [_, _, _], _ => rfl
          | [_, _, _, _], h => exact absurd rfl h
          | _ :: _ :: _ :: _ :: _ :: _, _ => rfl
    | _ => exact ex_q q rfl (Ex.refl _)
end
end F5
set_option maxRecDepth 100000
set_option maxHeartbeats 4000000
namespace F5
open PySem L2 Evl GP HR SC
inductive Lit where
  | yn (b : Bool) (x : Str)
  | most (x y : Str) (k : Int)
deriving DecidableEq
def ynS (b : Bool) : Str := if b = true then "yes" else "no"
def litD : Lit → PyData
  | .yn b x => .tuple [.str (ynS b), .str x]
  | .most x y k => .tuple [.str "most", .str x, .str y, .int k]
def litV : Lit → List V
  | .yn b x => [.str (ynS b), .str x]
  | .most x y k => [.str "most", .str x, .str y, .int k]
/-- no drawn integer is greater -/
def B0 : Nat := 2 ^ 1000
def LitOk : Lit → Prop
  | .yn _ x => isNameS x = true
  | .most x y k => isNameS x = true ∧ isNameS y = true ∧ x ≠ y ∧ k.natAbs ≤ B0 + 100
def oppL : Lit → Lit
  | .yn b x => .yn (!b) x
  | .most x y k => .most y x (-k - 1)
def ltS (x y : Str) : Bool := decide (x.cps.toList < y.cps.toList)
def atomL : Lit → Lit
  | .yn _ x => .yn true x
  | .most x y k => if ltS x y = true then .most x y k else .most y x (-k - 1)
theorem lit_dp {K : PySem.W.Frag} {H : Hp} {p : Addr} {l : Lit} (h : SqT K H p (litV l)) : Dp K H (.ref p) (litD l) := by
  cases l with
  | yn b x => exact .tup h (.cons (.str _) (.cons (.str _) .nil))
  | most x y k => exact .tup h (.cons (.str _) (.cons (.str _) (.cons (.str _) (.cons (.int _) .nil))))
theorem name_len {x : Str} (h : isNameS x = true) : x.length ≤ 8 := by
  unfold isNameS at h
  have := of_decide_eq_true (Bool.and_eq_true_iff.mp h).1
  exact this.2
theorem lit_sz {l : Lit} (h : LitOk l) : szD (litD l) := by
  cases l with
  | yn b x =>
    have := name_len h
    intro d hd
    simp only [List.mem_cons, List.not_mem_nil, or_false] at hd
    rcases hd with rfl | rfl
    · show (ynS b).length ≤ sizeLine
      cases b <;> decide +kernel
    · exact Nat.le_trans this (by decide)
  | most x y k =>
    obtain ⟨h1, h2, _⟩ := h
    intro d hd
    simp only [List.mem_cons, List.not_mem_nil, or_false] at hd
    rcases hd with rfl | rfl | rfl | rfl
    · show ("most" : Str).length ≤ sizeLine
      decide +kernel
    · exact Nat.le_trans (name_len h1) (by decide)
    · exact Nat.le_trans (name_len h2) (by decide)
    · exact True.intro
theorem bound_lit {l : Lit} (h : LitOk l) : isBoundD (litD l) = match l with | .yn _ _ => false | .most _ _ _ => true := by
  cases l with
  | yn b x => rfl
  | most x y k =>
    obtain ⟨h1, h2, h3, _⟩ := h
    show isBoundD (.tuple [.str "most", .str x, .str y, .int k]) = true
    rw [isBound4, show isNameD (.str x) = true from h1, show isNameD (.str y) = true from h2, show sameD (.str x) (.str y) = false from decide_eq_false h3, (by simp [isMostD] : isMostD (.str ("most" : Str)) = true)]
    rfl
theorem iteF' {c : Bool} {A B : Prop} (hc : c = false) (h : B) : if c = true then A else B := by
  rw [hc, if_neg Bool.false_ne_true]
  exact h
/-- the values are literals, each its own tuple -/
structure Lits (H : Hp) (vs : List V) (ls : List Lit) : Prop where
  len : vs.length = ls.length
  at_ : ∀ (i : Nat) (l : Lit), ls[i]? = some l → ∃ t, vs[i]? = some (.ref t) ∧ H t = some (.tup (litV l))
theorem Lits.nil {H : Hp} : Lits H [] [] := ⟨rfl, fun i q h => by simp at h⟩
theorem Lits.ex {H H' : Hp} {vs : List V} {ls : List Lit} (A : Lits H vs ls) (e : Ex H H') : Lits H' vs ls := ⟨A.len, fun i q h => by
  obtain ⟨t, h1, h2⟩ := A.at_ i q h
  exact ⟨t, h1, e _ _ h2⟩⟩
theorem Lits.dp {K : PySem.W.Frag} {H : Hp} : ∀ {vs : List V} {ls : List Lit}, Lits H vs ls → DpAll K H vs (ls.map litD)
  | [], [], _ => .nil
  | [], _ :: _, A => by have := A.len; simp at this
  | _ :: _, [], A => by have := A.len; simp at this
  | v :: vs, l :: ls, A => by
    obtain ⟨t, h1, h2⟩ := A.at_ 0 l rfl
    obtain rfl : v = .ref t := Option.some.inj h1
    exact .cons (lit_dp (SqT.of h2)) (Lits.dp ⟨by have := A.len; simpa using this, fun i r g => A.at_ (i + 1) r g⟩)
theorem name_low {x : Str} (h : isNameS x = true) : ∀ c ∈ x.cps.toList, c < 16 ^ 8 := by
  unfold isNameS at h
  have h2 := (Bool.and_eq_true_iff.mp (Bool.and_eq_true_iff.mp h).2).2
  have h3 : ∀ c ∈ signs.cps.toList, c < 16 ^ 8 := by decide +kernel
  exact fun c hc => h3 c (of_decide_eq_true (List.all_eq_true.mp h2 c hc))
theorem rp_name {x : Str} (h : isNameS x = true) : Rp 0 2000 (.str x) := (Rp.str (name_low h)).mono (Nat.le_refl _) (by have := name_len h; omega)
theorem rp_lit {l : Lit} (h : LitOk l) : Rp 1 8010 (litD l) := by
  cases l with
  | yn b x =>
    refine (Rp.tuple (n := 0) (c := 2000) fun d hd => ?_).mono (Nat.le_refl _) (by show 2 * 2002 + 2 ≤ _; decide)
    simp only [List.mem_cons, List.not_mem_nil, or_false] at hd
    rcases hd with rfl | rfl
    · refine (Rp.str ?_).mono (Nat.le_refl _) ?_ <;> cases b <;> decide +kernel
    · exact rp_name h
  | most x y k =>
    obtain ⟨h1, h2, _, h4⟩ := h
    refine (Rp.tuple (n := 0) (c := 2000) fun d hd => ?_).mono (Nat.le_refl _) (by show 4 * 2002 + 2 ≤ _; decide)
    simp only [List.mem_cons, List.not_mem_nil, or_false] at hd
    rcases hd with rfl | rfl | rfl | rfl
    · refine (Rp.str ?_).mono (Nat.le_refl _) ?_ <;> decide +kernel
    · exact rp_name h1
    · exact rp_name h2
    · have lg : k.natAbs.log2 < 1001 := PySem.Flt.log2_lt_of (by decide) (Nat.lt_of_le_of_lt h4 (by unfold B0; decide +kernel))
      exact (Rp.int (Nat.lt_trans lg (by decide))).mono (Nat.le_refl _) (by decide)
theorem rp_lits {ls : List Lit} (h : ∀ l ∈ ls, LitOk l) (few : ls.length ≤ 1000) : Rp 2 8012002 (.tuple (ls.map litD)) ∧ Rp 2 8012002 (.list (ls.map litD)) := by
  have g : ∀ d ∈ ls.map litD, Rp 1 8010 d := fun d hd => by
    obtain ⟨l, hl, rfl⟩ := List.mem_map.mp hd
    exact rp_lit (h l hl)
  exact ⟨(Rp.tuple g).mono (Nat.le_refl _) (by rw [List.length_map]; omega), (Rp.list g).mono (Nat.le_refl _) (by rw [List.length_map]; omega)⟩
theorem Lits.get {H : Hp} {vs : List V} {ls : List Lit} (A : Lits H vs ls) {i : Nat} {v : V} (h : vs[i]? = some v) : ∃ t l, v = .ref t ∧ ls[i]? = some l ∧ H t = some (.tup (litV l)) := by
  have hi : i < ls.length := by rw [← A.len]; exact (List.getElem?_eq_some_iff.mp h).1
  obtain ⟨t, h1, h2⟩ := A.at_ i ls[i] (List.getElem?_eq_getElem hi)
  exact ⟨t, ls[i], Option.some.inj (h.symm.trans h1), List.getElem?_eq_getElem hi, h2⟩

theorem sl_tupK {X : Cx} {K : PySem.W.Frag} (h : X.K = K := by rfl) : SlR X (rSlA K) := by
  subst h
  exact sl_tupA
theorem pi_tupK {X : Cx} {K : PySem.W.Frag} {tg l : Expr} {tl : TE} (he : PE X l tl) (h : X.K = K := by rfl) : PI X tg l (iTup K tl) := by
  subst h
  exact pi_tup he
def namesOf : Lit → List Str
  | .yn _ _ => []
  | .most x y _ => [x, y]
theorem sub_len : ∀ {l m : List Str}, l.Nodup → (∀ z ∈ l, z ∈ m) → l.length ≤ m.length := by
  intro l
  induction l with
  | nil => exact fun _ _ => Nat.zero_le _
  | cons x l ih =>
    intro m nd h
    obtain ⟨nx, nd'⟩ := List.nodup_cons.mp nd
    have hx := h x List.mem_cons_self
    have := ih (m := m.erase x) nd' fun z hz => (List.mem_erase_of_ne fun e => nx (by rw [← e]; exact hz)).mpr (h z (List.mem_cons_of_mem _ hz))
    rw [List.length_erase_of_mem hx] at this
    have := List.length_pos_of_mem hx
    rw [List.length_cons]
    omega
def spMoments (K : PySem.W.Frag) : Sp := fun vs H Q _ => ∃ (a : Addr) (us : List V) (ls : List Lit) (pool : List Str), vs = [.ref a] ∧ SqT K H a us ∧ Lits H us ls ∧ (∀ l ∈ ls, LitOk l) ∧ pool.length ≤ 50 ∧ (∀ l ∈ ls, ∀ z ∈ namesOf l, z ∈ pool) ∧
  ∀ u ys H', Ex H H' → H' u = some (.tup (ys.map V.str)) → ys.Nodup → PyProof.Rows.sortedS ys = true → (∀ z, z ∈ ys ↔ ∃ l ∈ ls, z ∈ namesOf l) → Q (.ref u) H'
section
variable {P : Program} {w : World} {K : PySem.W.Frag} {mg : Str → Option Value} {base : Heap} {a : Ad} {d : Fd}
theorem ok_moments_of (T : TX K mg a) (D : FDS K a d) : FnOk P w K mg base CX0 3 a.a_moments_of d.a_moments_of ["literals"] (spMoments K) := by
  have G_is_bound : FnOk P w K mg base CX0 2 a.a_is_bound d.a_is_bound ["value"] (spIsBound K) := ok_is_bound T D
  refine D.F_moments_of.ok sc_moments_of (fun vs H Q E h => ?_) (fun cdv A outer s H vs Q E hr h => ?_)
  · obtain ⟨a, us, ls, pool, rfl, _⟩ := h
    rfl
  · obtain ⟨a, us, ls, pool, rfl, ha, L, ok, p50, sub, fin⟩ := h
    refine ⟨_, (pss_one (ps_ret (pe_callTy call_tuple_of (by rfl) T.b_tuple (by decide +kernel) (pa_cons (pe_callB (TSet.cr_sortedX rfl) (by rfl) T.b_sorted (by decide +kernel) (pa_cons (SC.pe_sc2 (own := [("literal", 1), ("name", 2)]) (vs1 := [2]) (g := gName 1) (g1 := gName 2) (tt1 := tYes) rfl sc_moments_of.nd (pi_tup (pv 0)) (blkOk_by (N := ["literals", "literal", "name"]) (sc := defScope s_moments_of) (by decide +kernel)) (by decide) (fun _ _ _ _ _ => (pg_name (i := 1) sc_moments_of.nd rfl (Or.inl rfl))) (fun _ _ _ _ _ => (pts_one (pt_val (pe_call G_is_bound (hr.mono (by decide)) rfl T.f_is_bound T.k_is_bound D.B_is_bound .nil pass0 (pa_cons (pv 1) pa_nil))))) (fun _ _ _ _ _ => (pi_tupK (K := K) (pe_slice (sl_tupK (K := K)) (pv 1) (po_some pe_int) (po_some pe_int)))) (fun _ _ _ _ _ => (pg_name (i := 2) sc_moments_of.nd rfl (Or.inl rfl))) (fun _ _ _ _ _ => pts_nil) (fun _ _ _ _ _ => (pv 2))) pa_nil)) pa_nil)))), ?_⟩
    have lu := L.len
    refine ⟨_, rfl, a, rfl, ⟨_, ha⟩, fun D1 hD1 => ⟨fun i m H' => m = us.length - i ∧ i ≤ us.length ∧ Ex H H' ∧ ∃ l : List Str, H' D1 = some (TSet.SetX P w D1 l) ∧ l.Nodup ∧ ∀ z, z ∈ l ↔ ∃ q ∈ ls.take i, z ∈ namesOf q, ⟨_, rfl, Nat.zero_le _, Ex.new hD1, [], upd_same, List.nodup_nil, fun z => by simp⟩, ?_⟩⟩
    rintro i m H2 ⟨rfl, hi, e2, l, hl, nd, ml⟩
    have small : ∀ (l : List Str) (i : Nat), l.Nodup → (∀ z ∈ l, ∃ q ∈ ls, z ∈ namesOf q) → l.length ≤ 50 := fun l i nd h => Nat.le_trans (sub_len nd fun z hz => by
      obtain ⟨q, hq, hz⟩ := h z hz
      exact sub q hq z hz) p50
    rcases Nat.lt_or_eq_of_le hi with lt | rfl
    · refine .inr ⟨walk_tup.goes i H2 lt (ex_t e2 ha), fun H' => Ex H H' ∧ ∃ l : List Str, H' D1 = some (TSet.SetX P w D1 l) ∧ l.Nodup ∧ ∀ z, z ∈ l ↔ ∃ q ∈ ls.take (i + 1), z ∈ namesOf q, fun H' h => ⟨_, by omega, rfl, lt, h⟩, fun v H3 hy => ?_⟩
      obtain ⟨rfl, hv⟩ := walk_tup.yields i H2 v H3 lt (ex_t e2 ha) hy
      obtain ⟨t, q, rfl, hq, ht⟩ := L.get hv
      have okq := ok q (List.mem_of_getElem? hq)
      have tk : ls.take (i + 1) = ls.take i ++ [q] := by rw [List.take_add_one, hq]; rfl
      have mq : ∀ z, (∃ r ∈ ls.take (i + 1), z ∈ namesOf r) ↔ (∃ r ∈ ls.take i, z ∈ namesOf r) ∨ z ∈ namesOf q := fun z => by
        rw [tk]
        constructor
        · rintro ⟨r, hr, h⟩
          rcases List.mem_append.mp hr with hr | hr
          · exact .inl ⟨r, hr, h⟩
          · rw [List.mem_singleton.mp hr] at h
            exact .inr h
        · rintro (⟨r, hr, h⟩ | h)
          · exact ⟨r, List.mem_append_left _ hr, h⟩
          · exact ⟨q, List.mem_append_right _ (List.mem_singleton.mpr rfl), h⟩
      unfold gName
      dsimp only
      refine ⟨rfl, _, rfl, .ref t, litD q, rfl, lit_dp (SqT.of (e2 _ _ ht)), lit_sz okq, fun H4 e4 => ⟨_, rfl, ?_⟩⟩
      rw [bound_lit okq]
      cases q with
      | yn b x => exact iteF' rfl ⟨e2.trans e4, l, e4 _ _ hl, nd, fun z => by rw [mq z, ml z]; simp [namesOf]⟩
      | most x y k =>
        refine iteT' rfl ⟨_, rfl, 1, rfl, 3, rfl, t, _, rfl, SqT.of (e4 _ _ (e2 _ _ ht)), fun z => absurd z.1 (by decide : ¬ (HT.sIx 4 0 (some 1) = 0)), fun _ p2 hp2 => ?_⟩
        have x2 := Ex.new (o := .tup [.str x, .str y]) hp2
        have h2 : upd H4 p2 (.tup (cutV (litV (.most x y k)) (some 1) (some 3))) p2 = some (.tup [.str x, .str y]) := upd_same
        have xx : Ex H (upd H4 p2 (.tup (cutV (litV (.most x y k)) (some 1) (some 3)))) := (e2.trans e4).trans x2
        have hl4 : upd H4 p2 (.tup (cutV (litV (.most x y k)) (some 1) (some 3))) D1 = some (TSet.SetX P w D1 l) := x2 _ _ (e4 _ _ hl)
        generalize upd H4 p2 (.tup (cutV (litV (.most x y k)) (some 1) (some 3))) = H5 at *
        refine ⟨p2, rfl, ⟨_, SqT.of h2⟩, fun j m H' => m = 2 - j ∧ j ≤ 2 ∧ Ex H H' ∧ H' p2 = some (.tup [.str x, .str y]) ∧ ∃ l : List Str, H' D1 = some (TSet.SetX P w D1 l) ∧ l.Nodup ∧ ∀ z, z ∈ l ↔ (∃ q ∈ ls.take i, z ∈ namesOf q) ∨ z ∈ [x, y].take j, ⟨_, rfl, Nat.zero_le _, xx, h2, l, hl4, nd, fun z => by rw [ml z]; simp⟩, ?_⟩
        rintro j m H6 ⟨rfl, hj, e6, g6, l6, hl6, nd6, ml6⟩
        rcases Nat.lt_or_eq_of_le hj with ltj | rfl
        · refine .inr ⟨(walk_tup (xs := [V.str x, V.str y])).goes j H6 ltj (SqT.of g6), fun H' => Ex H H' ∧ H' p2 = some (.tup [.str x, .str y]) ∧ ∃ l : List Str, H' D1 = some (TSet.SetX P w D1 l) ∧ l.Nodup ∧ ∀ z, z ∈ l ↔ (∃ q ∈ ls.take i, z ∈ namesOf q) ∨ z ∈ [x, y].take (j + 1), fun H' h => ⟨_, by omega, rfl, ltj, h⟩, fun v H7 hy => ?_⟩
          obtain ⟨rfl, hv⟩ := (walk_tup (xs := [V.str x, V.str y])).yields j H6 v H7 ltj (SqT.of g6) hy
          obtain ⟨z0, hz0, rfl⟩ : ∃ z0 : Str, [x, y][j]? = some z0 ∧ v = .str z0 := by
            have : j = 0 ∨ j = 1 := by omega
            rcases this with rfl | rfl
            · exact ⟨x, rfl, (Option.some.inj hv).symm⟩
            · exact ⟨y, rfl, (Option.some.inj hv).symm⟩
          unfold tYes
          dsimp only
          refine ⟨rfl, iteT' rfl ⟨_, rfl, l6, z0, rfl, hl6, ?_, fun l' nd' ml' _ => ?_⟩⟩
          · have h50 : l6.length ≤ 50 := Nat.le_trans (sub_len nd6 fun z hz => by
              rcases (ml6 z).mp hz with ⟨r, hr, h⟩ | h
              · exact sub r (List.mem_of_mem_take hr) z h
              · exact sub _ (List.mem_of_getElem? hq) z (List.mem_of_mem_take h)) p50
            omega
          · have nD : p2 ≠ D1 := fun e => by rw [e, hl6] at g6; cases g6
            refine ⟨e6.mut hD1, by rw [upd_ne nD]; exact g6, l', upd_same, nd', fun z => ?_⟩
            rw [ml' z, ml6 z, List.take_add_one, hz0]
            simp only [Option.toList_some, List.mem_append, List.mem_singleton]
            constructor
            · rintro (h | h | h)
              · exact .inr (.inr h)
              · exact .inl h
              · exact .inr (.inl h)
            · rintro (h | h | h)
              · exact .inr (.inl h)
              · exact .inr (.inr h)
              · exact .inl h
        · exact .inl ⟨(walk_tup (xs := [V.str x, V.str y])).stops H6 (SqT.of g6), e6, l6, hl6, nd6, fun z => by rw [ml6 z, mq z]; rfl⟩
    · refine .inl ⟨walk_tup.stops H2 (ex_t e2 ha), D1, l, rfl, hl, ?_, fun ys p pm so hp => ⟨p, _, rfl, .inl ⟨SqL.of upd_same, fun u hu => ?_⟩⟩⟩
      · rw [lu, List.take_length] at ml
        have := small l 0 nd fun z hz => (ml z).mp hz
        omega
      · rw [lu, List.take_length] at ml
        exact fin u ys _ (e2.trans ((Ex.new hp).trans (Ex.new hu))) upd_same (pm.nodup_iff.mpr nd) so fun z => by rw [pm.mem_iff, ml z]
end
end F5
set_option maxRecDepth 100000
set_option maxHeartbeats 4000000
namespace F5
open PySem L2 Evl GP HR SC
def holdsL (ns : List Str) (tv : Str → Int) : Lit → Bool
  | .yn b x => decide (decide (x ∈ ns) = b)
  | .most x y k => decide (tv x - tv y ≤ k)
def spStands (K : PySem.W.Frag) : Sp := fun vs H Q _ => ∃ (p n t : Addr) (l : Lit) (ns : List Str) (kvs : List (L2.Key × V)) (tv : Str → Int), vs = [.ref p, .ref n, .ref t] ∧ H p = some (.tup (litV l)) ∧ LitOk l ∧ SqT K H n (ns.map V.str) ∧ H t = some (.dK kvs) ∧ (∀ z ∈ namesOf l, valV kvs (.inr z : L2.Key) = some (.int (tv z))) ∧ ∀ H', Ex H H' → Q (.bl (holdsL ns tv l)) H'
theorem inV_strs {x : Str} {ns : List Str} : inV (.str x) (ns.map V.str) = decide (x ∈ ns) := by
  rw [Bool.eq_iff_iff, decide_eq_true_iff]
  unfold inV
  rw [List.any_map, List.any_eq_true]
  constructor
  · rintro ⟨q, hq, e⟩
    have : (q == x) = true := e
    rw [← eq_of_beq this]
    exact hq
  · exact fun h => ⟨x, h, (beq_self_eq_true x : (x == x) = true)⟩
theorem flat_strs {ns : List Str} : (ns.map V.str).all flatV = true := by
  rw [List.all_map, List.all_eq_true]
  exact fun _ _ => rfl
section
variable {P : Program} {w : World} {K : PySem.W.Frag} {mg : Str → Option Value} {base : Heap} {a : Ad} {d : Fd}
theorem ok_literal_stands (T : TX K mg a) (D : FDS K a d) : FnOk P w K mg base CX0 3 a.a_literal_stands d.a_literal_stands ["literal", "names", "table"] (spStands K) := by
  have G_is_bound : FnOk P w K mg base CX0 2 a.a_is_bound d.a_is_bound ["value"] (spIsBound K) := ok_is_bound T D
  refine D.F_literal_stands.ok sc_literal_stands (fun vs H Q E h => ?_) (fun cdv A outer s H vs Q E hr h => ?_)
  · obtain ⟨p, n, t, l, ns, kvs, tv, rfl, _⟩ := h
    rfl
  · obtain ⟨p, n, t, l, ns, kvs, tv, rfl, hp, okl, hn, ht, hv, fin⟩ := h
    refine ⟨_, (pss_cons (ps_if (pt_val (pe_call G_is_bound (hr.mono (by decide)) rfl T.f_is_bound T.k_is_bound D.B_is_bound .nil pass0 (pa_cons (pv 0) pa_nil))) (pss_cons (ps_asg (pv 0) (pg_tup rfl (pgs_cons (pg_name (i := 3) sc_literal_stands.nd rfl (Or.inl rfl)) (pgs_cons (pg_name (i := 4) sc_literal_stands.nd rfl (Or.inl rfl)) (pgs_cons (pg_name (i := 5) sc_literal_stands.nd rfl (Or.inl rfl)) (pgs_cons (pg_name (i := 6) sc_literal_stands.nd rfl (Or.inl rfl)) pgs_nil))))))
        (pss_one (ps_ret (pe_cmpR op_le (pe_op op_sub (pe_dget (hu_of hr) (pv 2) (pv 4) (fun _ _ => rfl)) (pe_dget (hu_of hr) (pv 2) (pv 5) (fun _ _ => rfl))) (pv 6) (nomark _))))) pss_nil)
        (pss_cons (ps_asg (pv 0) (pg_tup rfl (pgs_cons (pg_name (i := 7) sc_literal_stands.nd rfl (Or.inl rfl)) (pgs_cons (pg_name (i := 8) sc_literal_stands.nd rfl (Or.inl rfl)) pgs_nil))))
        (pss_one (ps_ret (pe_cmpR op_eq (pe_cmpR op_in_seq (pv 8) (pv 1) rfl) (pe_cmpR op_eq (pv 7) pe_str (nomark _)) (nomark _)))))), ?_⟩
    refine ⟨_, rfl, .ref p, litD l, rfl, lit_dp (SqT.of hp), lit_sz okl, fun H1 e1 => ⟨_, rfl, ?_⟩⟩
    rw [bound_lit okl]
    have hp1 := e1 _ _ hp
    have ht1 := e1 _ _ ht
    cases l with
    | yn b x =>
      refine iteF' rfl ⟨_, rfl, p, _, rfl, SqT.of hp1, rfl, _, _, rfl, _, _, rfl, rfl, ?_⟩
      refine ⟨_, rfl, _, rfl, n, _, rfl, .inr (ex_t e1 hn), rfl, flat_strs, _, rfl, rfl, rfl, ?_⟩
      rw [if_neg Bool.false_ne_true, inV_strs]
      have e2 : decide (V.str (ynS b) = V.str (Str.ofString "yes")) = b := by cases b <;> decide +kernel
      rw [e2]
      have e3 : decide (V.bl (decide (x ∈ ns)) = V.bl b) = holdsL ns tv (.yn b x) := by
        show _ = decide (decide (x ∈ ns) = b)
        rw [Bool.eq_iff_iff, decide_eq_true_iff, decide_eq_true_iff]
        exact ⟨fun h => V.bl.inj h, fun h => congrArg V.bl h⟩
      rw [e3]
      exact fin H1 e1
    | most x y k =>
      refine iteT' rfl ⟨_, rfl, p, _, rfl, SqT.of hp1, rfl, _, _, rfl, _, _, rfl, _, _, rfl, _, _, rfl, rfl, ?_⟩
      have hx := hv x (by simp [namesOf])
      have hy := hv y (by simp [namesOf])
      exact ⟨_, rfl, _, rfl, t, _, rfl, .inl ⟨kvs, .inr x, .inl ht1, rfl, hx.symm⟩, _, rfl, _, rfl, t, _, rfl, .inl ⟨kvs, .inr y, .inl ht1, rfl, hy.symm⟩, _, _, rfl, rfl, _, rfl, _, _, rfl, rfl, fin H1 e1⟩
end
end F5
set_option maxRecDepth 100000
set_option maxHeartbeats 4000000
namespace F5
open PySem L2 Evl GP HR SC
theorem fresh_back {H H' : Hp} {p : Addr} (e : Ex H H') (h : H' p = none) : H p = none := by
  cases g : H p with
  | none => rfl
  | some o =>
    have := e p o g
    rw [h] at this
    cases this
/-- pairs of a text and a number, each its own tuple -/
def Prs (K : PySem.W.Frag) (H : Hp) (vs : List V) (ps : List (Str × Int)) : Prop := vs.length = ps.length ∧ ∀ (i : Nat) (q : Str × Int), ps[i]? = some q → ∃ t, vs[i]? = some (.ref t) ∧ SqT K H t [.str q.1, .int q.2]
theorem Prs.ex {K : PySem.W.Frag} {H H' : Hp} {vs : List V} {ps : List (Str × Int)} (A : Prs K H vs ps) (e : Ex H H') : Prs K H' vs ps := ⟨A.1, fun i q h => let ⟨t, h1, h2⟩ := A.2 i q h; ⟨t, h1, ex_t e h2⟩⟩
def missOf (ys zs : List Str) : Option Str := ys.find? fun y => !decide (y ∈ zs)
def spListed (K : PySem.W.Frag) (cM : Addr) : Sp := fun vs H Q E => ∃ (m v tm : Addr) (nv : V) (ys : List Str) (us : List V) (ps : List (Str × Int)), vs = [.ref m, .ref v] ∧ SqT K H m (ys.map V.str) ∧ SqT K H v [nv, .ref tm] ∧ SqT K H tm us ∧ Prs K H us ps ∧ ps.length ≤ 60 ∧
  (missOf ys (ps.map Prod.fst) = none → ∀ H', Ex H H' → Q .non H') ∧ ∀ y, missOf ys (ps.map Prod.fst) = some y → ∀ dd H', Ex H H' → H dd = none → H' dd = some (.xd [("name", .str y)]) → E (.ref cM) (some dd) H'
section
variable {P : Program} {w : World} {K : PySem.W.Frag} {mg : Str → Option Value} {base : Heap} {a : Ad} {d : Fd}
theorem ok_check_listed {fL fC fU fP : Addr} (T : TX K mg a) (D : FDS K a d) (R : ER K mg P a fL fC fU fP) : FnOk P w K mg base (L2N.CX P w) 1 a.a_check_listed d.a_check_listed ["moments", "values"] (spListed K a.cU) := by
  refine NX.okX D.F_check_listed sc_check_listed (fun vs H Q E h => ?_) (fun cdv A outer s H vs Q E hr h => ?_)
  · obtain ⟨m, v, tm, nv, ys, us, ps, rfl, _⟩ := h
    rfl
  · obtain ⟨m, v, tm, nv, ys, us, ps, rfl, hm, hv, ht, PR, p60, q1, q2⟩ := h
    refine ⟨_, (pss_cons (ps_setLc (i := 3) (own := [("name", 2), ("_", 4)]) (g := (gTup K 2 (gCons (gName 2) (gCons (gName 4) gNil)))) (tt := tYes) rfl sc_check_listed.nd rfl rfl (sw_true rfl rfl rfl (by decide +kernel)) (pi_tup (pe_ix ix_tup (pv 1) pe_int (fun _ _ => rfl))) (blkOk_by (N := ["moments", "values", "name", "listed", "_"]) (sc := defScope s_check_listed) (by decide +kernel)) (fun _ _ _ _ _ => (pg_tup rfl (pgs_cons (pg_name (i := 2) sc_check_listed.nd rfl (Or.inl rfl)) (pgs_cons (pg_name (i := 4) sc_check_listed.nd rfl (Or.inl rfl)) pgs_nil)))) (fun _ _ _ _ _ => pts_nil) (fun _ _ _ _ _ => (pv 2)))
        (pss_one (ps_for PassesOwn.leaving rfl (pi_tup (pv 0)) (pg_name (i := 2) sc_check_listed.nd rfl (Or.inl rfl)) (pss_one (ps_if (pt_cmpR op_notIn_seq (pv 2) (pv 3) rfl) (pss_one (NX.ps_raiseSup rfl R.eU hr (L2N.takes_of rfl rfl rfl rfl) (by exact (pa_cons (pv 2) pa_nil)))) pss_nil))))), ?_⟩
    have big : 1000 ≤ sizeLine := by decide
    refine ⟨_, rfl, v, _, 1, .ref tm, rfl, rfl, hv, rfl, tm, rfl, ⟨_, ht⟩, fun D1 hD1 => lc_it (H1 := H) (walk_tup (xs := us)) (fun i H' => Ex H H' ∧ H' D1 = some (.lst (((ps.take i).map Prod.fst).map V.str))) ⟨Ex.new hD1, upd_same⟩ (fun i H' _ h => ex_t h.1 ht) ?_ ?_⟩
    · rintro i x H2 H2' hi ⟨e2, hl⟩ ⟨rfl, hx⟩
      have hi2 : i < ps.length := by rw [← PR.1]; exact hi
      obtain ⟨t, h1, h2⟩ := PR.2 i ps[i] (List.getElem?_eq_getElem hi2)
      rw [hx] at h1
      cases h1
      refine ⟨t, _, rfl, ex_t e2 h2, rfl, _, _, rfl, _, _, rfl, rfl, rfl, ?_⟩
      unfold tYes
      dsimp only
      refine iteT' rfl ⟨_, rfl, _, hl, by rw [List.length_map, List.length_map, List.length_take]; omega, Ex.mut e2 hD1, ?_⟩
      rw [upd_same, List.take_add_one, List.getElem?_eq_getElem hi2, List.map_append, List.map_append]
      rfl
    · rintro H2 ⟨e2, hl⟩
      rw [PR.1, List.take_length] at hl
      generalize ps.map Prod.fst = zs at *
      refine ⟨_, rfl, m, rfl, ⟨_, ex_t e2 hm⟩, for_it (walk_tup (xs := ys.map V.str)) (fun i σ H' => ∃ o2, σ = [some (.ref m), some (.ref v), o2, some (.ref D1), none] ∧ H' = H2 ∧ missOf (ys.take i) zs = none) ⟨none, rfl, rfl, rfl⟩ (fun i σ H' _ ⟨_, _, e, _⟩ => by rw [e]; exact ex_t e2 hm) ?_ ?_⟩
      · rintro i x σ H3 H3' hi ⟨o2, rfl, rfl, hn⟩ ⟨rfl, hx⟩
        rw [List.length_map] at hi
        rw [List.getElem?_map, List.getElem?_eq_getElem hi] at hx
        cases hx
        have tk : ys.take (i + 1) = ys.take i ++ [ys[i]] := by rw [List.take_add_one, List.getElem?_eq_getElem hi]; rfl
        have sp : ys = ys.take i ++ (ys[i] :: ys.drop (i + 1)) := by rw [← List.drop_eq_getElem_cons hi, List.take_append_drop]
        generalize ys[i] = y at *
        refine ⟨_, rfl, _, rfl, D1, _, rfl, .inl (SqL.of hl), rfl, flat_strs, _, rfl, ?_⟩
        rw [if_pos rfl, inV_strs]
        unfold missOf at hn
        by_cases g : y ∈ zs
        · refine iteF' (by simp [g]) ⟨_, rfl, rfl, ?_⟩
          rw [tk]
          unfold missOf
          rw [List.find?_append, hn, Option.none_or, List.find?_cons_of_neg (by simp [g])]
          rfl
        · have fm : missOf ys zs = some y := by
            unfold missOf
            rw [sp, List.find?_append, hn, Option.none_or, List.find?_cons_of_pos (by simp [g])]
          exact iteT' (by simp [g]) ⟨_, rfl, _, rfl, fun dd hdd => q2 y fm dd _ (e2.trans (Ex.new hdd)) (fresh_back e2 hdd) upd_same⟩
      · rintro σ H3 ⟨o2, rfl, rfl, hn⟩
        rw [List.length_map, List.take_length] at hn
        exact q1 hn _ e2
end
end F5
set_option maxRecDepth 100000
set_option maxHeartbeats 8000000
namespace F5
open PySem L2 Evl GP HR SC
theorem fnOr {P : Program} {w : World} {K : PySem.W.Frag} {mg : Str → Option Value} {base : Heap} {CX : CXT} {k : Nat} {f : Addr} {fd : FuncData} {ps : List Str} {s1 s2 : Sp} (F1 : FnOk P w K mg base CX k f fd ps s1) (F2 : FnOk P w K mg base CX k f fd ps s2) : FnOk P w K mg base CX k f fd ps (fun vs H Q E => s1 vs H Q E ∨ s2 vs H Q E) :=
  ⟨fun vs H Q E h => h.elim (F1.len vs H Q E) (F2.len vs H Q E), fun A outer s H args us vs Q E hr e0 b r h => h.elim (F1.run A outer s H args us vs Q E hr e0 b r) (F2.run A outer s H args us vs Q E hr e0 b r)⟩
/-- a dict, or a tuple of a dict and something -/
def OddV (H : Hp) (v : V) : Prop := (∃ p kvs, v = .ref p ∧ H p = some (.dK kvs)) ∨ ∃ t p kvs x, v = .ref t ∧ H t = some (.tup [.ref p, x]) ∧ H p = some (.dK kvs)
theorem OddV.ex {H H' : Hp} {v : V} (h : OddV H v) (e : Ex H H') : OddV H' v := h.imp (fun ⟨p, kvs, h1, h2⟩ => ⟨p, kvs, h1, e _ _ h2⟩) (fun ⟨t, p, kvs, x, h1, h2, h3⟩ => ⟨t, p, kvs, x, h1, e _ _ h2, e _ _ h3⟩)
def spOdd (b : V) : Sp := fun vs H Q _ => ∃ v, vs = [v] ∧ OddV H v ∧ ∀ H', Ex H H' → Q b H'
def isYN : PyData → Bool | .str w => decide (w = ("yes" : Str)) || decide (w = ("no" : Str)) | _ => false
def isPairL : PyData → Bool
  | .tuple [w, n] => isYN w && isNameD n
  | _ => false
def isLitD (d : PyData) : Bool := isBoundD d || isPairL d
theorem yn_in (x : Str) : inV (.str x) [.str "yes", .str "no"] = isYN (.str x) := by
  show (("yes" == x) || (("no" == x) || false)) = (decide (x = ("yes" : Str)) || decide (x = ("no" : Str)))
  have h : ∀ a b : Str, (a == b) = decide (b = a) := fun a b => by
    rw [Bool.eq_iff_iff, decide_eq_true_iff, beq_iff_eq]
    exact eq_comm
  rw [h, h, Bool.or_false]
def spIsLitD (K : PySem.W.Frag) : Sp := spD szD isLitD K
def AnyV (K : PySem.W.Frag) (H : Hp) (v : V) (b : Bool) : Prop := (∃ d, Dp K H v d ∧ szD d ∧ isLitD d = b) ∨ (b = false ∧ OddV H v)
theorem AnyV.ex {K : PySem.W.Frag} {H H' : Hp} {v : V} {b : Bool} (h : AnyV K H v b) (e : Ex H H') : AnyV K H' v b := h.imp (fun ⟨d, h1, h2⟩ => ⟨d, Dp.ex e h1, h2⟩) (fun ⟨h1, h2⟩ => ⟨h1, h2.ex e⟩)
theorem lit_is {l : Lit} (h : LitOk l) : isLitD (litD l) = true := by
  unfold isLitD
  rw [bound_lit h]
  cases l with
  | most x y k => rfl
  | yn b x =>
    show (false || (isYN (.str (ynS b)) && isNameD (.str x))) = true
    rw [show isNameD (.str x) = true from h]
    cases b <;> decide +kernel
theorem kitDT {K : PySem.W.Frag} : PySem.W.kitOne K (.type "dict") (.type "tuple") = some false := kit_ty (by decide +kernel)
theorem kitDL {K : PySem.W.Frag} : PySem.W.kitOne K (.type "dict") (.type "list") = some false := kit_ty (by decide +kernel)
theorem kitDS {K : PySem.W.Frag} : PySem.W.kitOne K (.type "dict") (.type "str") = some false := kit_ty (by decide +kernel)
theorem kitTT {K : PySem.W.Frag} : PySem.W.kitOne K (.type "tuple") (.type "tuple") = some true := kit_ty (by decide +kernel)
section
variable {P : Program} {w : World} {K : PySem.W.Frag} {mg : Str → Option Value} {base : Heap} {a : Ad} {d : Fd}
theorem ok_is_bound2 (T : TX K mg a) (D : FDS K a d) : FnOk P w K mg base CX0 2 a.a_is_bound d.a_is_bound ["value"] (spOdd (.bl false)) := by
  have G_is_name : FnOk P w K mg base CX0 1 a.a_is_name d.a_is_name ["value"] (spIsName K) := ok_is_name T D
  have G_is_integer : FnOk P w K mg base CX0 1 a.a_is_integer d.a_is_integer ["value"] (spIsInt K) := ok_is_integer T D
  refine D.F_is_bound.ok sc_is_bound (fun vs H Q E h => ?_) (fun cdv A outer s H vs Q E hr h => ?_)
  · obtain ⟨v, rfl, _⟩ := h
    rfl
  · obtain ⟨v, rfl, ho, q⟩ := h
    refine ⟨_, (pss_cons (ps_if (PW.pt (pw_or (pt_not (pt_val (pe_callB call_isi (by rfl) T.b_isinstance (by decide +kernel) (pa_cons (pv 0) (pa_cons (pe_bltn (v := .ty "tuple") (by rfl) T.b_tuple (by decide +kernel) rfl) pa_nil))))) (pw_or1 (pt_cmpR op_ne (pe_callB call_len_seq (by rfl) T.b_len (by decide +kernel) (pa_cons (pv 0) pa_nil)) pe_int (nomark _))))) (pss_one (ps_ret pe_bl)) pss_nil)
        (pss_cons (ps_asg (pv 0) (pg_tup rfl (pgs_cons (pg_name (i := 1) sc_is_bound.nd rfl (Or.inl rfl)) (pgs_cons (pg_name (i := 2) sc_is_bound.nd rfl (Or.inl rfl)) (pgs_cons (pg_name (i := 3) sc_is_bound.nd rfl (Or.inl rfl)) (pgs_cons (pg_name (i := 4) sc_is_bound.nd rfl (Or.inl rfl)) pgs_nil))))))
        (pss_cons (ps_if (PW.pt (pw_or (pt_not (pt_val (pe_callB call_isi (by rfl) T.b_isinstance (by decide +kernel) (pa_cons (pv 1) (pa_cons (pe_bltn (v := .ty "str") (by rfl) T.b_str (by decide +kernel) rfl) pa_nil))))) (pw_or1 (pt_cmpR op_ne (pv 1) pe_str (nomark _))))) (pss_one (ps_ret pe_bl)) pss_nil)
        (pss_one (ps_ret (pe_and (pe_call G_is_name (hr.mono (by decide)) rfl T.f_is_name T.k_is_name D.B_is_name .nil pass0 (pa_cons (pv 2) pa_nil)) (pe_and (pe_call G_is_name (hr.mono (by decide)) rfl T.f_is_name T.k_is_name D.B_is_name .nil pass0 (pa_cons (pv 3) pa_nil)) (pe_and (pe_cmpR op_ne (pv 2) (pv 3) (nomark _)) (pe_one (pe_call G_is_integer (hr.mono (by decide)) rfl T.f_is_integer T.k_is_integer D.B_is_integer .nil pass0 (pa_cons (pv 4) pa_nil))))))))))), ?_⟩
    rcases ho with ⟨p, kvs, rfl, hp⟩ | ⟨t, p, kvs, x, rfl, ht, hp⟩
    · exact ⟨_, rfl, .ref p, _, _, _, _, rfl, .ty "tuple", .base (.dK hp), kitDT, _, rfl, q H (Ex.refl _)⟩
    · exact ⟨_, rfl, .ref t, _, _, _, _, rfl, .ty "tuple", .base (.tup ht), kitTT, _, rfl, _, rfl, t, _, rfl, .inr (SqT.of ht), rfl, _, rfl, iteT' rfl (q H (Ex.refl _))⟩
theorem ok_is_literal (T : TX K mg a) (D : FDS K a d) : FnOk P w K mg base CX0 3 a.a_is_literal d.a_is_literal ["value"] (fun vs H Q E => spIsLitD K vs H Q E ∨ spOdd (.bl false) vs H Q E) := by
  have G_is_name : FnOk P w K mg base CX0 1 a.a_is_name d.a_is_name ["value"] (spIsName K) := ok_is_name T D
  have G_is_bound : FnOk P w K mg base CX0 2 a.a_is_bound d.a_is_bound ["value"] (fun vs H Q E => spIsBound K vs H Q E ∨ spOdd (.bl false) vs H Q E) := fnOr (ok_is_bound T D) (ok_is_bound2 T D)
  refine D.F_is_literal.ok sc_is_literal (fun vs H Q E h => ?_) (fun cdv A outer s H vs Q E hr h => ?_)
  · rcases h with ⟨v, d, rfl, _⟩ | ⟨v, rfl, _⟩ <;> rfl
  · refine ⟨_, (pss_cons (ps_if (pt_val (pe_call G_is_bound (hr.mono (by decide)) rfl T.f_is_bound T.k_is_bound D.B_is_bound .nil pass0 (pa_cons (pv 0) pa_nil))) (pss_one (ps_ret pe_bl)) pss_nil)
        (pss_cons (ps_if (PW.pt (pw_or (pt_not (pt_val (pe_callB call_isi (by rfl) T.b_isinstance (by decide +kernel) (pa_cons (pv 0) (pa_cons (pe_bltn (v := .ty "tuple") (by rfl) T.b_tuple (by decide +kernel) rfl) pa_nil))))) (pw_or1 (pt_cmpR op_ne (pe_callB call_len_seq (by rfl) T.b_len (by decide +kernel) (pa_cons (pv 0) pa_nil)) pe_int (nomark _))))) (pss_one (ps_ret pe_bl)) pss_nil)
        (pss_cons (ps_asg (pv 0) (pg_tup rfl (pgs_cons (pg_name (i := 1) sc_is_literal.nd rfl (Or.inl rfl)) (pgs_cons (pg_name (i := 2) sc_is_literal.nd rfl (Or.inl rfl)) pgs_nil))))
        (pss_one (ps_ret (pe_and (pe_callB call_isi (by rfl) T.b_isinstance (by decide +kernel) (pa_cons (pv 1) (pa_cons (pe_bltn (v := .ty "str") (by rfl) T.b_str (by decide +kernel) rfl) pa_nil))) (pe_and (pe_cmpR op_in_seq (pv 1) (pe_tup (pa_cons pe_str (pa_cons pe_str pa_nil))) rfl) (pe_one (pe_call G_is_name (hr.mono (by decide)) rfl T.f_is_name T.k_is_name D.B_is_name .nil pass0 (pa_cons (pv 2) pa_nil)))))))))), ?_⟩
    rcases h with ⟨v, d, rfl, hd, sz, q⟩ | ⟨v, rfl, ho, q⟩
    · refine ⟨_, rfl, .inl ⟨v, d, rfl, hd, sz, fun H1 e1 => ⟨_, rfl, ?_⟩⟩⟩
      cases hb : isBoundD d with
      | true => exact iteT' rfl (ex_q q (by unfold isLitD; rw [hb]; rfl) e1)
      | false =>
        have hl : isLitD d = isPairL d := by unfold isLitD; rw [hb, Bool.false_or]
        refine iteF' rfl ⟨_, rfl, v, _, _, _, _, rfl, .ty "tuple", dp_ty (Dp.ex e1 hd), kit_tuple d, _, rfl, ?_⟩
        cases hd with
        | @tup t xs ds ht hall =>
          have len := DpAll.len hall
          have ht1 := ex_t e1 ht
          refine ⟨_, rfl, t, xs, rfl, .inr ht1, rfl, _, rfl, ?_⟩
          by_cases h2 : xs.length = 2
          · refine iteNS (by rw [h2]; rfl) ?_
            obtain ⟨v1, v2, rfl⟩ : ∃ v1 v2, xs = [v1, v2] := by
              match xs, h2 with
              | [v1, v2], _ => exact ⟨v1, v2, rfl⟩
            cases hall with
            | cons g1 r1 =>
            cases r1 with
            | cons g2 r2 =>
            cases r2
            rename_i d1 d2
            have z2 : szS d2 := sz d2 (by simp)
            refine ⟨_, rfl, t, _, rfl, ht1, rfl, _, _, rfl, _, _, rfl, rfl, ?_⟩
            refine ⟨_, rfl, v1, _, _, _, _, rfl, .ty "str", dp_ty (Dp.ex e1 g1), kit_str d1, _, rfl, ?_⟩
            cases g1 with
            | str wd =>
              refine iteT' rfl ⟨_, rfl, (by show 2 ≤ sizeLine; decide), fun t2 ht2 => ?_⟩
              have x2 := Ex.new (o := .tup [.str "yes", .str "no"]) ht2
              refine ⟨t2, _, rfl, .inr (SqT.of upd_same), rfl, rfl, _, rfl, ?_⟩
              rw [if_neg Bool.false_ne_true, yn_in]
              have hp : isPairL (.tuple [.str wd, d2]) = (isYN (.str wd) && isNameD d2) := rfl
              cases hy : isYN (.str wd) with
              | false => exact iteF' rfl (ex_q q (by rw [hl, hp, hy]; rfl) (e1.trans x2))
              | true =>
                refine iteT' rfl ⟨_, rfl, v2, d2, rfl, Dp.ex (e1.trans x2) g2, z2, fun H2 e2 => ?_⟩
                exact ex_q q (by rw [hl, hp, hy]; rfl) ((e1.trans x2).trans e2)
            | _ => exact iteF' rfl (ex_q q (by rw [hl]; rfl) e1)
          · refine iteT' ?_ (ex_q q ?_ e1)
            · have e5 : decide (V.int (xs.length : Nat) = V.int 2) = false := decide_eq_false fun z => h2 (by have := V.int.inj z; omega)
              rw [e5]
              rfl
            · rw [hl]
              have l2 : ds.length ≠ 2 := by omega
              match ds, l2 with
              | [], _ => rfl
              | [_], _ => rfl
              | [_, _], h => exact absurd rfl h
              | _ :: _ :: _ :: _, _ => rfl
        | _ => exact ex_q q (by rw [hl]; rfl) e1
    · refine ⟨_, rfl, .inr ⟨v, rfl, ho, fun H1 e1 => ⟨_, rfl, iteF' rfl ?_⟩⟩⟩
      rcases ho.ex e1 with ⟨p, kvs, rfl, hp⟩ | ⟨t, p, kvs, x, rfl, ht, hp⟩
      · exact ⟨_, rfl, .ref p, _, _, _, _, rfl, .ty "tuple", .base (.dK hp), kitDT, _, rfl, q H1 e1⟩
      · refine ⟨_, rfl, .ref t, _, _, _, _, rfl, .ty "tuple", .base (.tup ht), kitTT, _, rfl, _, rfl, t, _, rfl, .inr (SqT.of ht), rfl, _, rfl, iteNS rfl ?_⟩
        exact ⟨_, rfl, t, _, rfl, SqT.of ht, rfl, _, _, rfl, _, _, rfl, rfl, _, rfl, .ref p, _, _, _, _, rfl, .ty "str", .base (.dK hp), kitDS, _, rfl, iteF' rfl (q H1 e1)⟩
end
end F5
set_option maxRecDepth 100000
set_option maxHeartbeats 8000000
namespace F5
open PySem L2 Evl GP HR SC SetM SetH
theorem lit_alike (l m : Lit) : PySem.W.alike (litD l) (litD m) = true := by
  cases l <;> cases m <;> simp [litD, PySem.W.alike, PySem.W.alikeAll]
/-- a literal as a key -/
def litK : Lit → List L2.Key
  | .yn b x => [.inr (ynS b), .inr x]
  | .most x y k => [.inr "most", .inr x, .inr y, .inl k]
theorem litK_V (l : Lit) : (litK l).map kV = litV l := by cases l <;> rfl
theorem litK_D (l : Lit) : enK (litK l) = litD l := by cases l <;> rfl
def litOfD : PyData → Lit
  | .tuple [.str w, .str x] => .yn (decide (w = ("yes" : Str))) x
  | .tuple [_, .str x, .str y, .int k] => .most x y k
  | _ => .yn true ""
theorem litOf (l : Lit) : litOfD (litD l) = l := by
  cases l with
  | most x y k => rfl
  | yn b x =>
    show Lit.yn (decide (ynS b = ("yes" : Str))) x = .yn b x
    have : decide (ynS b = ("yes" : Str)) = b := by cases b <;> decide +kernel
    rw [this]
theorem litK_inj {l m : Lit} (h : litK l = litK m) : l = m := by
  have := congrArg (fun k => litOfD (enK k)) h
  rwa [litK_D, litK_D, litOf, litOf] at this
theorem lit_depth (l : Lit) : (litD l).depth ≤ 50 := by cases l <;> simp [litD, PyData.depth, PyData.depthAll]
theorem Lits.keys {H : Hp} : ∀ {vs : List V} {ls : List Lit}, Lits H vs ls → ∃ ks : List (Addr × List L2.Key), vs = ks.map (fun p => V.ref p.1) ∧ ks.map Prod.snd = ls.map litK ∧ ∀ p ∈ ks, ∃ l ∈ ls, p.2 = litK l ∧ H p.1 = some (.tup (litV l))
  | [], [], _ => ⟨[], rfl, rfl, fun _ h => absurd h List.not_mem_nil⟩
  | [], _ :: _, A => by have := A.len; simp at this
  | _ :: _, [], A => by have := A.len; simp at this
  | v :: vs, l :: ls, A => by
    obtain ⟨t, h1, h2⟩ := A.at_ 0 l rfl
    obtain rfl : v = .ref t := Option.some.inj h1
    obtain ⟨ks, e1, e2, hk⟩ := Lits.keys (vs := vs) (ls := ls) ⟨by have := A.len; simpa using this, fun i r h => A.at_ (i + 1) r h⟩
    refine ⟨(t, litK l) :: ks, by rw [e1]; rfl, by rw [List.map_cons, e2]; rfl, fun p hp => ?_⟩
    rcases List.mem_cons.mp hp with rfl | hp
    · exact ⟨l, List.mem_cons_self, rfl, h2⟩
    · obtain ⟨m, hm, r⟩ := hk p hp
      exact ⟨m, List.mem_cons_of_mem _ hm, r⟩
theorem Lits.of_each {H : Hp} {bs : List (V × PyData)} (h : ∀ b ∈ bs, ∃ t l, b.1 = .ref t ∧ b.2 = litD l ∧ H t = some (.tup (litV l))) : Lits H (bs.map Prod.fst) (bs.map fun b => litOfD b.2) := ⟨by rw [List.length_map, List.length_map], fun i l hl => by
  rw [List.getElem?_map] at hl
  obtain ⟨b, hb, rfl⟩ := Option.map_eq_some_iff.mp hl
  obtain ⟨t, l, e1, e2, ht⟩ := h b (List.mem_of_getElem? hb)
  exact ⟨t, by rw [List.getElem?_map, hb, ← e1]; rfl, by rw [e2, litOf]; exact ht⟩⟩
theorem dlt_trans {a b c : PyData} (h1 : PySem.W.dataLt a b = true) (h2 : PySem.W.dataLt b c = true) : PySem.W.dataLt a c = true := PyProof.Rows.lex_trans _ _ _ h1 h2
theorem dlt_asym {a b : PyData} (h : PySem.W.dataLt a b = true) : PySem.W.dataLt b a = false := by
  cases g : PySem.W.dataLt b a with
  | false => rfl
  | true =>
    have := dlt_trans h g
    rw [show PySem.W.dataLt a a = false from PyProof.Rows.lex_irrefl _] at this
    cases this
theorem sortedD_pw (bs : List (V × PyData)) : (SD.sortedD bs).Pairwise fun a b => PySem.W.dataLt b.2 a.2 = false := by
  have h := List.pairwise_mergeSort (le := PySem.W.dataLe false (Prod.snd : V × PyData → PyData)) (fun a b c h1 h2 => by
    simp only [PySem.W.dataLe_eq, cond_false, Bool.not_eq_true'] at h1 h2 ⊢
    cases g : PySem.W.dataLt c.2 a.2 with
    | false => rfl
    | true =>
      rcases PyProof.Rows.lex_negTrans _ (PySem.W.keyToks b.2) _ g with k | k
      · exact absurd (h2.symm.trans k) Bool.false_ne_true
      · exact absurd (h1.symm.trans k) Bool.false_ne_true) (fun a b => by
    simp only [PySem.W.dataLe_eq, cond_false]
    cases g : PySem.W.dataLt b.2 a.2 with
    | false => rfl
    | true => rw [dlt_asym g]; rfl) bs
  exact h.imp fun {a b} q => by simpa [PySem.W.dataLe_eq] using q
theorem yn_inj {b c : Bool} (h : (ynS b).cps.toList = (ynS c).cps.toList) : b = c := by
  cases b <;> cases c <;> first | rfl | exact absurd h (by decide +kernel)
theorem toks_inj {l m : Lit} (h : PySem.W.keyToks (litD l) = PySem.W.keyToks (litD m)) : l = m := by
  cases l with
  | yn b x =>
    cases m with
    | yn c y =>
      simp only [litD, PySem.W.keyToks, PySem.W.keyToksAll, List.cons_append, List.nil_append, List.cons.injEq, Sum.inr.injEq, true_and, and_true] at h
      rw [yn_inj h.1, toList_inj h.2]
    | most y z k => simp [litD, PySem.W.keyToks, PySem.W.keyToksAll] at h
  | most x y k =>
    cases m with
    | yn c z => simp [litD, PySem.W.keyToks, PySem.W.keyToksAll] at h
    | most u z j =>
      simp only [litD, PySem.W.keyToks, PySem.W.keyToksAll, List.cons_append, List.nil_append, List.cons.injEq, Sum.inr.injEq, Sum.inl.injEq, true_and, and_true] at h
      rw [toList_inj h.1, toList_inj h.2.1, h.2.2]
def AscL (ls : List Lit) : Prop := ls.Pairwise fun a b => PySem.W.dataLt (litD a) (litD b) = true
theorem asc_lits {ls : List Lit} (so : ls.Pairwise fun a b => PySem.W.dataLt (litD b) (litD a) = false) (nd : ls.Nodup) : AscL ls :=
  (so.and nd).imp fun {a b} q => by
    cases g : PySem.W.dataLt (litD a) (litD b) with
    | true => rfl
    | false => exact absurd (toks_inj (PyProof.Rows.lex_total _ _ g q.1)) q.2
theorem ascL_same : ∀ {xs ys : List Lit}, AscL xs → AscL ys → (∀ z, z ∈ xs ↔ z ∈ ys) → xs = ys
  | [], [], _, _, _ => rfl
  | [], y :: ys, _, _, h => absurd ((h y).mpr List.mem_cons_self) List.not_mem_nil
  | x :: xs, [], _, _, h => absurd ((h x).mp List.mem_cons_self) List.not_mem_nil
  | x :: xs, y :: ys, a, b, h => by
    obtain ⟨a1, a2⟩ := List.pairwise_cons.mp a
    obtain ⟨b1, b2⟩ := List.pairwise_cons.mp b
    have irr : ∀ z, ¬ PySem.W.dataLt (litD z) (litD z) = true := fun z q => by
      rw [show PySem.W.dataLt (litD z) (litD z) = false from PyProof.Rows.lex_irrefl _] at q
      cases q
    have e : x = y := by
      rcases List.mem_cons.mp ((h x).mp List.mem_cons_self) with e | e
      · exact e
      · rcases List.mem_cons.mp ((h y).mpr List.mem_cons_self) with g | g
        · exact g.symm
        · have q := dlt_asym (b1 x e)
          rw [a1 y g] at q
          cases q
    subst e
    refine congrArg (x :: ·) (ascL_same a2 b2 fun z => ⟨fun hz => ?_, fun hz => ?_⟩)
    · rcases List.mem_cons.mp ((h z).mp (List.mem_cons_of_mem _ hz)) with e | e
      · exact absurd (a1 z hz) (by rw [e]; exact irr x)
      · exact e
    · rcases List.mem_cons.mp ((h z).mpr (List.mem_cons_of_mem _ hz)) with e | e
      · exact absurd (b1 z hz) (by rw [e]; exact irr x)
      · exact e
theorem sub_lenA {α : Type} : ∀ {l m : List α}, l.Nodup → (∀ z ∈ l, z ∈ m) → l.length ≤ m.length
  | [], _, _, _ => Nat.zero_le _
  | x :: l, m, nd, h => by
    obtain ⟨s, t, rfl⟩ := List.append_of_mem (h x List.mem_cons_self)
    obtain ⟨n1, n2⟩ := List.nodup_cons.mp nd
    have := sub_lenA (m := s ++ t) n2 fun z hz => by
      rcases List.mem_append.mp (h z (List.mem_cons_of_mem _ hz)) with g | g
      · exact List.mem_append_left _ g
      · rcases List.mem_cons.mp g with rfl | g
        · exact absurd hz n1
        · exact List.mem_append_right _ g
    simp only [List.length_cons, List.length_append] at this ⊢
    omega
theorem asc_nodup {ls : List Lit} (h : AscL ls) : ls.Nodup := h.imp fun {a b} q e => by
  subst e
  rw [show PySem.W.dataLt (litD a) (litD a) = false from PyProof.Rows.lex_irrefl _] at q
  cases q
theorem asc_len {xs ys : List Lit} (h : AscL xs) (m : ∀ l, l ∈ xs ↔ l ∈ ys) : xs.length ≤ ys.length := sub_lenA (asc_nodup h) fun z hz => (m z).mp hz
def spNormal (K : PySem.W.Frag) : Sp := fun vs H Q _ => ∃ (p : Addr) (us : List V) (ls : List Lit), vs = [.ref p] ∧ (SqL K H p us ∨ SqT K H p us) ∧ Lits H us ls ∧ ls.length < 63 ∧
  ∀ (u : Addr) (us' : List V) (ls' : List Lit) H', Ex H H' → H' u = some (.tup us') → Lits H' us' ls' → (∀ l, l ∈ ls' ↔ l ∈ ls) → AscL ls' → Q (.ref u) H'
section
variable {P : Program} {w : World} {K : PySem.W.Frag} {mg : Str → Option Value} {base : Heap} {a : Ad} {d : Fd}
theorem ok_normal_form (T : TX K mg a) (D : FDS K a d) : FnOk P w K mg base CX0 1 a.a_normal_form d.a_normal_form ["literals"] (spNormal K) := by
  refine D.F_normal_form.ok sc_normal_form (fun vs H Q E h => ?_) (fun cdv A outer s H vs Q E hr h => ?_)
  · obtain ⟨p, us, ls, rfl, _⟩ := h
    rfl
  · obtain ⟨p, us, ls, rfl, hp, L, few, fin⟩ := h
    refine ⟨_, (pss_one (ps_ret (pe_callTy call_tuple_of (by rfl) T.b_tuple (by decide +kernel) (pa_cons (pe_callB (SetM.cr_sortedM (K := K) (P := P) (w := w) rfl hr.units) (by rfl) T.b_sorted (by decide +kernel) (pa_cons (pe_callTy (SetM.cr_setM (K := K) (P := P) (w := w) rfl hr.units) (by rfl) T.b_set (by decide +kernel) (pa_cons (pv 0) pa_nil)) pa_nil)) pa_nil)))), ?_⟩
    obtain ⟨ks, eu, ek, hk⟩ := L.keys
    subst eu
    have lk : ks.length = ls.length := by
      have := congrArg List.length ek
      rwa [List.length_map, List.length_map] at this
    refine ⟨_, rfl, p, ks, rfl, hp, fun q hq => ?_, by omega, fun L' S took nd hS => ?_⟩
    · obtain ⟨l, _, e, ht⟩ := hk q hq
      rw [e, litK_V]
      exact SqT.of ht
    · have x1 := Ex.new (o := SetMO P w S L') hS
      have each : ∀ q ∈ L', ∃ l ∈ ls, q.2 = litK l ∧ upd H S (SetMO P w S L') q.1 = some (.tup (litV l)) := fun q hq => by
        obtain ⟨l, hl, e, ht⟩ := hk q (took.from_ q hq)
        exact ⟨l, hl, e, x1 _ _ ht⟩
      have at1 : upd H S (SetMO P w S L') S = some (SetMO P w S L') := upd_same
      generalize upd H S (SetMO P w S L') = H1 at *
      refine ⟨S, L', rfl, at1, fun q hq => ?_, ?_, ?_, fun bs R pm hR => ⟨R, _, rfl, .inl ⟨SqL.of upd_same, fun u hu => ?_⟩⟩⟩
      · obtain ⟨l, _, e, ht⟩ := each q hq
        rw [e, litK_D]
        exact ⟨lit_dp (SqT.of ht), lit_depth l⟩
      · intro x hx y hy
        obtain ⟨q, hq, rfl⟩ := List.mem_map.mp hx
        obtain ⟨r, hr, rfl⟩ := List.mem_map.mp hy
        obtain ⟨l, _, e, _⟩ := each q hq
        obtain ⟨m, _, e2, _⟩ := each r hr
        rw [e, e2, litK_D, litK_D]
        exact lit_alike l m
      · refine .inl fun x hx => ?_
        obtain ⟨q, hq, rfl⟩ := List.mem_map.mp hx
        obtain ⟨l, _, e, _⟩ := each q hq
        rw [e, litK_D]
        cases l <;> exact ⟨_, _, rfl⟩
      · have x2 := Ex.new (o := .lst ((SD.sortedD bs).map Prod.fst)) hR
        have x3 := Ex.new (o := .tup ((SD.sortedD bs).map Prod.fst)) hu
        have pm2 := (SD.sorted_perm bs).trans pm
        have so0 := sortedD_pw bs
        generalize SD.sortedD bs = cs at *
        have each2 : ∀ b ∈ cs, ∃ t l, b.1 = .ref t ∧ b.2 = litD l ∧ H1 t = some (.tup (litV l)) ∧ l ∈ ls := fun b hb => by
          obtain ⟨q, hq, rfl⟩ := List.mem_map.mp (pm2.mem_iff.mp hb)
          obtain ⟨l, hl, e, ht⟩ := each q hq
          exact ⟨q.1, l, rfl, by show enK q.2 = _; rw [e, litK_D], ht, hl⟩
        have LL : Lits H1 (cs.map Prod.fst) (cs.map fun b => litOfD b.2) := Lits.of_each fun b hb => by
          obtain ⟨t, l, e1, e2, h, _⟩ := each2 b hb
          exact ⟨t, l, e1, e2, h⟩
        refine fin u _ _ _ (x1.trans (x2.trans x3)) upd_same (LL.ex (x2.trans x3)) (fun l => ⟨fun h => ?_, fun h => ?_⟩) (asc_lits ?_ ?_)
        · obtain ⟨b, hb, rfl⟩ := List.mem_map.mp h
          obtain ⟨t, l, e1, e2, _, hl⟩ := each2 b hb
          rw [e2, litOf]
          exact hl
        · have : litK l ∈ ks.map Prod.snd := by rw [ek]; exact List.mem_map_of_mem h
          obtain ⟨q, hq, e⟩ := List.mem_map.mp this
          have := took.got q hq
          obtain ⟨r, hr, e2⟩ := List.mem_map.mp this
          refine List.mem_map.mpr ⟨enP r, pm2.mem_iff.mpr (List.mem_map_of_mem hr), ?_⟩
          show litOfD (enK r.2) = l
          rw [e2, e, litK_D, litOf]
        · refine List.pairwise_map.mpr (so0.imp_of_mem fun {p q} hp hq z => ?_)
          obtain ⟨_, l, _, e1, _⟩ := each2 p hp
          obtain ⟨_, m, _, e2, _⟩ := each2 q hq
          rw [e1, e2, litOf, litOf, ← e1, ← e2]
          exact z
        · have e : (cs.map fun b => litOfD b.2).Perm (L'.map fun q => litOfD (enK q.2)) := by
            have := pm2.map fun b : V × PyData => litOfD b.2
            rwa [List.map_map] at this
          rw [e.nodup_iff]
          have nd2 : L'.Pairwise fun q r => q.2 ≠ r.2 := List.pairwise_map.mp nd
          refine List.pairwise_map.mpr (List.Pairwise.imp_of_mem (fun {q r} hq hr n z => n ?_) nd2)
          obtain ⟨l, _, e1, _⟩ := each q hq
          obtain ⟨m, _, e2, _⟩ := each r hr
          rw [e1, e2, litK_D, litK_D, litOf, litOf] at z
          rw [e1, e2, z]
end
end F5
set_option maxRecDepth 100000
set_option maxHeartbeats 8000000
namespace F5
open PySem L2 Evl GP HR SC SetM SetH
/-- what is raised where v is no literal -/
def Raised (c : Addr) (f : Str) (v : V) (H : Hp) (E : XK) : Prop := ∀ dd H', Ex H H' → H dd = none → H' dd = some (.xd [(f, v)]) → E (.ref c) (some dd) H'
theorem Raised.ex {c : Addr} {f : Str} {v : V} {H H1 : Hp} {E : XK} (r : Raised c f v H E) (e : Ex H H1) : Raised c f v H1 E := fun dd H' e' n h => r dd H' (e.trans e') (fresh_back e n) h
def spChk (K : PySem.W.Frag) (cL : Addr) : Sp := fun vs H Q E => ∃ v b, vs = [v] ∧ AnyV K H v b ∧ (b = true → ∀ H', Ex H H' → Q .non H') ∧ (b = false → Raised cL "value" v H E)
def Seq (K : PySem.W.Frag) (H : Hp) (p : Addr) (us : List V) : Prop := SqL K H p us ∨ SqT K H p us
theorem Seq.ex {K : PySem.W.Frag} {H H' : Hp} {p : Addr} {us : List V} (h : Seq K H p us) (e : Ex H H') : Seq K H' p us := h.imp (ex_l e) (ex_t e)
/-- neither a list nor a tuple -/
def NoSeq (K : PySem.W.Frag) (H : Hp) (v : V) : Prop := (∃ d, Dp K H v d ∧ isListD d = false ∧ isTupD d = false) ∨ ∃ p, v = .ref p ∧ ((∃ kvs, H p = some (.dK kvs)) ∨ ∃ kvs, H p = some (.dT kvs))
theorem NoSeq.ex {K : PySem.W.Frag} {H H' : Hp} {v : V} (h : NoSeq K H v) (e : Ex H H') : NoSeq K H' v := h.imp (fun ⟨d, h1, h2⟩ => ⟨d, Dp.ex e h1, h2⟩) (fun ⟨p, h1, h2⟩ => ⟨p, h1, h2.imp (fun ⟨k, g⟩ => ⟨k, e _ _ g⟩) (fun ⟨k, g⟩ => ⟨k, e _ _ g⟩)⟩)
theorem kit_seq {K : PySem.W.Frag} (d : PyData) : PySem.W.kitAny K (.type (tyN d)) [.type "list", .type "tuple"] = some (isListD d || isTupD d) := by
  refine kitAny_cons (kit_list d) (fun h => ?_) (fun h => by rw [h]; rfl)
  refine kitAny_cons (kit_tuple d) (fun h2 => ?_) (fun h2 => by rw [h, h2]; rfl)
  rw [h, h2]
  rfl
theorem NoSeq.ty {K : PySem.W.Frag} {H : Hp} {v : V} (h : NoSeq K H v) : ∃ t, TyX K H v t ∧ PySem.W.kitAny K t [.type "list", .type "tuple"] = some false := by
  rcases h with ⟨d, hd, h1, h2⟩ | ⟨p, rfl, h⟩
  · exact ⟨_, dp_ty hd, by rw [kit_seq, h1, h2]; rfl⟩
  · have k : PySem.W.kitAny K (.type "dict") [.type "list", .type "tuple"] = some false := kitAny_cons kitDL (fun _ => kitAny_cons kitDT (fun _ => rfl) (fun z => nomatch z)) (fun z => nomatch z)
    rcases h with ⟨kvs, h⟩ | ⟨kvs, h⟩
    · exact ⟨_, .base (.dK h), k⟩
    · exact ⟨_, .base (.dT h), k⟩
theorem Seq.ty {K : PySem.W.Frag} {H : Hp} {p : Addr} {us : List V} (h : Seq K H p us) : ∃ t, TyX K H (.ref p) t ∧ PySem.W.kitAny K t [.type "list", .type "tuple"] = some true := by
  have kl : PySem.W.kitAny K (.type "list") [.type "list", .type "tuple"] = some true := kit_seq (K := K) (.list [])
  have kt : PySem.W.kitAny K (.type "tuple") [.type "list", .type "tuple"] = some true := kit_seq (K := K) (.tuple [])
  rcases h with h | h
  · rcases h with (h | ⟨o, h⟩) | ⟨o, its, n, h1, h2, _⟩
    · exact ⟨_, .base (.lst h), kl⟩
    · exact ⟨_, .base (.frz h), kl⟩
    · exact ⟨_, .kList h1 h2, kl⟩
  · rcases h with (h | ⟨o, h⟩) | ⟨o, its, n, h1, h2, _⟩
    · exact ⟨_, .base (.tup h), kt⟩
    · exact ⟨_, .fTuple h, kt⟩
    · exact ⟨_, .kTuple h1 h2, kt⟩
theorem seq_go {K : PySem.W.Frag} {t : TE} {a : Addr} {xs : List V} {σ : L2.St} {H : Hp} {R : It → Hp → Prop} (ht : ∀ Q : VK, Q (.ref a) H → t σ H Q) (h : Seq K H a xs)
    (hR : ∀ (J : It) (G : Hp → Prop), L2.Walk J xs.length G (YAt xs) → (∀ H', Ex H H' → G H') → R J H) : iList K t σ H R ∨ iTup K t σ H R := by
  rcases h with h | h
  · exact .inl (ht _ ⟨a, rfl, ⟨_, h⟩, hR _ _ walk_list fun _ e => ex_l e h⟩)
  · exact .inr (ht _ ⟨a, rfl, ⟨_, h⟩, hR _ _ walk_tup fun _ e => ex_t e h⟩)
def Good (H : Hp) (ls : List Lit) (Q : VK) : Prop := ∀ (u : Addr) (us' : List V) (ls' : List Lit) H', Ex H H' → H' u = some (.tup us') → Lits H' us' ls' → (∀ l, l ∈ ls' ↔ l ∈ ls) → AscL ls' → Q (.ref u) H'
def spClause (K : PySem.W.Frag) (cL cC : Addr) : Sp := fun vs H Q E => ∃ v, vs = [v] ∧
  ((∃ p us ls, v = .ref p ∧ Seq K H p us ∧ Lits H us ls ∧ (∀ l ∈ ls, LitOk l) ∧ ls.length < 63 ∧ Good H ls Q) ∨
   (∃ p us ls i bad, v = .ref p ∧ Seq K H p us ∧ us[i]? = some bad ∧ AnyV K H bad false ∧ Lits H (us.take i) ls ∧ (∀ l ∈ ls, LitOk l) ∧ Raised cL "value" bad H E) ∨
   (NoSeq K H v ∧ Raised cC "value" v H E))
section
variable {P : Program} {w : World} {K : PySem.W.Frag} {mg : Str → Option Value} {base : Heap} {a : Ad} {d : Fd} {fL fC fU fP : Addr}
theorem ok_check_literal (T : TX K mg a) (D : FDS K a d) (R : ER K mg P a fL fC fU fP) : FnOk P w K mg base (L2N.CX P w) 4 a.a_check_literal d.a_check_literal ["value"] (spChk K a.cL) := by
  have G_is_literal : FnOk P w K mg base CX0 3 a.a_is_literal d.a_is_literal ["value"] (fun vs H Q E => spIsLitD K vs H Q E ∨ spOdd (.bl false) vs H Q E) := ok_is_literal T D
  refine NX.okX D.F_check_literal sc_check_literal (fun vs H Q E h => ?_) (fun cdv A outer s H vs Q E hr h => ?_)
  · obtain ⟨v, b, rfl, _⟩ := h
    rfl
  · obtain ⟨v, b, rfl, hv, q1, q2⟩ := h
    refine ⟨_, (pss_one (ps_if (pt_not (pt_val (pe_call G_is_literal (hr.mono (by decide)) rfl T.f_is_literal T.k_is_literal D.B_is_literal .nil pass0 (pa_cons (pv 0) pa_nil)))) (pss_one (NX.ps_raiseSup rfl R.eL hr (L2N.takes_of rfl rfl rfl rfl) (by exact (pa_cons (pv 0) pa_nil)))) pss_nil)), ?_⟩
    rcases hv with ⟨d, hd, sz, rfl⟩ | ⟨rfl, ho⟩
    · refine ⟨_, rfl, .inl ⟨v, d, rfl, hd, sz, fun H1 e1 => ⟨_, rfl, ?_⟩⟩⟩
      cases hb : isLitD d with
      | true => exact iteF' rfl (q1 hb H1 e1)
      | false => exact iteT' rfl ⟨_, rfl, _, rfl, fun dd hdd => q2 hb dd _ (e1.trans (Ex.new hdd)) (fresh_back e1 hdd) upd_same⟩
    · exact ⟨_, rfl, .inr ⟨v, rfl, ho, fun H1 e1 => ⟨_, rfl, iteT' rfl ⟨_, rfl, _, rfl, fun dd hdd => q2 rfl dd _ (e1.trans (Ex.new hdd)) (fresh_back e1 hdd) upd_same⟩⟩⟩⟩
theorem ok_clause_of (T : TX K mg a) (D : FDS K a d) (R : ER K mg P a fL fC fU fP) : FnOk P w K mg base (L2N.CX P w) 5 a.a_clause_of d.a_clause_of ["literals"] (spClause K a.cL a.cC) := by
  have G_check_literal : FnOk P w K mg base (L2N.CX P w) 4 a.a_check_literal d.a_check_literal ["value"] (spChk K a.cL) := ok_check_literal T D R
  have G_normal_form : FnOk P w K mg base CX0 1 a.a_normal_form d.a_normal_form ["literals"] (spNormal K) := ok_normal_form T D
  refine NX.okX D.F_clause_of sc_clause_of (fun vs H Q E h => ?_) (fun cdv A outer s H vs Q E hr h => ?_)
  · obtain ⟨v, rfl, _⟩ := h
    rfl
  · obtain ⟨v, rfl, h⟩ := h
    refine ⟨_, (pss_cons (ps_if (pt_not (pt_val (pe_callB call_isiT (by rfl) T.b_isinstance (by decide +kernel) (pa_cons (pv 0) (pa_cons (pe_tup (pa_cons (pe_bltn (v := .ty "list") (by rfl) T.b_list (by decide +kernel) rfl) (pa_cons (pe_bltn (v := .ty "tuple") (by rfl) T.b_tuple (by decide +kernel) rfl) pa_nil))) pa_nil))))) (pss_one (NX.ps_raiseSup rfl R.eC hr (L2N.takes_of rfl rfl rfl rfl) (by exact (pa_cons (pv 0) pa_nil)))) pss_nil)
        (pss_cons (ps_for PassesOwn.leaving rfl (pi_or (pi_list (pv 0)) (pi_tup (pv 0))) (pg_name (i := 1) sc_clause_of.nd rfl (Or.inl rfl)) (pss_one (ps_expr (pe_call G_check_literal (hr.mono (by decide)) rfl T.f_check_literal T.k_check_literal D.B_check_literal .nil (L2N.passes_call (L2N.takes_of rfl rfl rfl rfl) (fun _ _ _ _ h => h)) (pa_cons (pv 1) pa_nil)))))
        (pss_one (ps_ret (pe_call G_normal_form (hr.mono (by decide)) rfl T.f_normal_form T.k_normal_form D.B_normal_form .nil pass0 (pa_cons (pv 0) pa_nil)))))), ?_⟩
    have big : 1000 ≤ sizeLine := by decide
    refine ⟨_, rfl, (by show 2 ≤ sizeLine; decide), fun tp htp => ?_⟩
    have xt := Ex.new (o := .tup [.ty "list", .ty "tuple"]) htp
    have pc : Paired ClsV [V.ty "list", .ty "tuple"] [.type "list", .type "tuple"] := .cons (.ty _) (.cons (.ty _) .nil)
    rcases h with ⟨p, us, ls, rfl, hs, L, ok, few, fin⟩ | ⟨p, us, ls, i, bad, rfl, hs, hb, hv, L, ok, fin⟩ | ⟨hn, fin⟩
    · have hs1 := hs.ex xt
      obtain ⟨t, ty, kit⟩ := hs1.ty
      refine ⟨_, tp, _, t, _, true, rfl, upd_same, pc, ty, kit, _, rfl, iteF' rfl ?_⟩
      have L1 := L.ex xt
      generalize upd H tp (.tup [.ty "list", .ty "tuple"]) = H1 at *
      refine seq_go (fun Q q => ⟨_, rfl, q⟩) hs1 fun J G wk hG => for_it wk (fun i σ H' => ∃ o, σ = [some (.ref p), o] ∧ Ex H1 H') ⟨none, rfl, Ex.refl _⟩ (fun i σ H' _ ⟨_, _, e⟩ => hG H' e) ?_ ?_
      · rintro i x σ H2 H2' hi ⟨o, rfl, e2⟩ ⟨rfl, hx⟩
        obtain ⟨t, l, rfl, hl, ht⟩ := L1.get hx
        have okl := ok l (List.mem_of_getElem? hl)
        exact ⟨_, rfl, _, true, rfl, .inl ⟨litD l, lit_dp (SqT.of (e2 _ _ ht)), lit_sz okl, lit_is okl⟩, fun _ H3 e3 => ⟨_, rfl, e2.trans e3⟩, fun z => nomatch z⟩
      · rintro σ H2 ⟨o, rfl, e2⟩
        exact ⟨_, rfl, p, us, ls, rfl, hs1.ex e2, L1.ex e2, few, fun u us' ls' H' e hu LL m nd => fin u us' ls' H' (xt.trans (e2.trans e)) hu LL m nd⟩
    · have hs1 := hs.ex xt
      obtain ⟨t, ty, kit⟩ := hs1.ty
      refine ⟨_, tp, _, t, _, true, rfl, upd_same, pc, ty, kit, _, rfl, iteF' rfl ?_⟩
      have L1 := L.ex xt
      have hv1 := hv.ex xt
      have fin1 := fin.ex xt
      have hil := (List.getElem?_eq_some_iff.mp hb).1
      generalize upd H tp (.tup [.ty "list", .ty "tuple"]) = H1 at *
      refine seq_go (fun Q q => ⟨_, rfl, q⟩) hs1 fun J G wk hG => for_it wk (fun j σ H' => ∃ o, σ = [some (.ref p), o] ∧ Ex H1 H' ∧ j ≤ i) ⟨none, rfl, Ex.refl _, Nat.zero_le _⟩ (fun i σ H' _ ⟨_, _, e, _⟩ => hG H' e) ?_ ?_
      · rintro j x σ H2 H2' hj ⟨o, rfl, e2, lj⟩ ⟨rfl, hx⟩
        rcases Nat.lt_or_eq_of_le lj with lt | rfl
        · obtain ⟨t, l, rfl, hl, ht⟩ := L1.get (i := j) (v := x) (by rw [List.getElem?_take, if_pos lt]; exact hx)
          have okl := ok l (List.mem_of_getElem? hl)
          exact ⟨_, rfl, _, true, rfl, .inl ⟨litD l, lit_dp (SqT.of (e2 _ _ ht)), lit_sz okl, lit_is okl⟩, fun _ H3 e3 => ⟨_, rfl, e2.trans e3, lt⟩, fun z => nomatch z⟩
        · rw [hb] at hx
          obtain rfl := Option.some.inj hx
          exact ⟨_, rfl, _, false, rfl, hv1.ex e2, fun (z : false = true) => absurd z Bool.false_ne_true, fun _ => fin1.ex e2⟩
      · rintro σ H2 ⟨o, rfl, e2, lj⟩
        omega
    · have hn1 := hn.ex xt
      obtain ⟨t, ty, kit⟩ := hn1.ty
      refine ⟨v, tp, _, t, _, false, rfl, upd_same, pc, ty, kit, _, rfl, iteT' rfl ⟨_, rfl, _, rfl, fun dd hdd => fin dd _ (xt.trans (Ex.new hdd)) (fresh_back xt hdd) upd_same⟩⟩
end
end F5
set_option maxRecDepth 100000
set_option maxHeartbeats 8000000
namespace F5
open PySem L2 Evl GP HR SC SetM SetH
def prK (q : Str × Int) : L2.Key × V := (.inr q.1, .int q.2)
def tvOf (ps : List (Str × Int)) (z : Str) : Int := ((ps.find? fun q => decide (q.1 = z)).map Prod.snd).getD 0
/-- truths and times as they stand -/
structure Val (H : Hp) (v n tm : Addr) (o : Obj) (pa : List Addr) (ns : List Str) (ps : List (Str × Int)) : Prop where
  hv : H v = some (.tup [.ref n, .ref tm])
  hn : H n = some (.tup (ns.map V.str))
  ht : H tm = some (.frz o (.tup (pa.map V.ref)))
  od : o.dict = none
  len : pa.length = ps.length
  at_ : ∀ (i : Nat) (q : Str × Int), ps[i]? = some q → ∃ t, pa[i]? = some t ∧ H t = some (.tup [.str q.1, .int q.2])
  nd : (ps.map Prod.fst).Nodup
  few : ps.length ≤ 60
theorem Val.ex {H H' : Hp} {v n tm : Addr} {o : Obj} {pa : List Addr} {ns : List Str} {ps : List (Str × Int)} (A : Val H v n tm o pa ns ps) (e : Ex H H') : Val H' v n tm o pa ns ps :=
  { A with hv := e _ _ A.hv, hn := e _ _ A.hn, ht := e _ _ A.ht, at_ := fun i q h => let ⟨t, h1, h2⟩ := A.at_ i q h; ⟨t, h1, e _ _ h2⟩ }
theorem Val.prs {K : PySem.W.Frag} {H : Hp} {v n tm : Addr} {o : Obj} {pa : List Addr} {ns : List Str} {ps : List (Str × Int)} (A : Val H v n tm o pa ns ps) : Prs K H (pa.map V.ref) ps := ⟨by rw [List.length_map, A.len], fun i q h => by
  obtain ⟨t, h1, h2⟩ := A.at_ i q h
  exact ⟨t, by rw [List.getElem?_map, h1]; rfl, SqT.of h2⟩⟩
theorem pair_at {K : PySem.W.Frag} {H : Hp} : ∀ {pa : List Addr} {ps : List (Str × Int)}, pa.length = ps.length → (∀ (i : Nat) (q : Str × Int), ps[i]? = some q → ∃ t, pa[i]? = some t ∧ H t = some (.tup [.str q.1, .int q.2])) → Paired (fun p kv => SqT K H p [kV kv.1, kv.2]) pa (ps.map prK)
  | [], [], _, _ => .nil
  | [], _ :: _, l, _ => by simp at l
  | _ :: _, [], l, _ => by simp at l
  | a :: pa, q :: ps, l, h => by
    obtain ⟨t, h1, h2⟩ := h 0 q rfl
    obtain rfl : a = t := Option.some.inj h1
    exact .cons (SqT.of h2) (pair_at (by simpa using l) fun i r g => h (i + 1) r g)
theorem merge_new : ∀ (more acc : List (L2.Key × V)), ((acc ++ more).map Prod.fst).Nodup → mergeK acc more = acc ++ more := by
  intro more
  induction more with
  | nil => intro acc _; rw [List.append_nil]; rfl
  | cons x r ih =>
    intro acc nd
    have nx : ¬ (acc.any fun kv => decide (kv.1 = x.1)) = true := fun h => by
      obtain ⟨kv, hk, e⟩ := List.any_eq_true.mp h
      have e := of_decide_eq_true e
      rw [List.map_append, List.map_cons] at nd
      exact (List.nodup_append.mp nd).2.2 kv.1 (List.mem_map_of_mem hk) x.1 List.mem_cons_self e
    have e : putK acc x.1 x.2 = acc ++ [x] := by
      unfold putK
      rw [if_neg nx]
    show mergeK (putK acc x.1 x.2) r = _
    rw [e, ih (acc ++ [x]) (by rwa [List.append_assoc]), List.append_assoc]
    rfl
theorem val_at : ∀ {ps : List (Str × Int)} {z : Str}, z ∈ ps.map Prod.fst → valV (ps.map prK) (.inr z : L2.Key) = some (.int (tvOf ps z))
  | [], z, h => absurd h List.not_mem_nil
  | q :: ps, z, h => by
    by_cases g : q.1 = z
    · unfold tvOf valV
      rw [List.map_cons, List.find?_cons_of_pos (by simp [prK, g]), List.find?_cons_of_pos (by simp [g])]
      rfl
    · have := val_at (ps := ps) (z := z) (by
        rcases List.mem_cons.mp h with e | h
        · exact absurd e.symm g
        · exact h)
      unfold tvOf valV at this ⊢
      rw [List.map_cons, List.find?_cons_of_neg (by simp [prK, g]), List.find?_cons_of_neg (by simp [g])]
      exact this
theorem val_of {ps : List (Str × Int)} (nd : (ps.map Prod.fst).Nodup) {z : Str} (hz : z ∈ ps.map Prod.fst) : valV (mergeK [] (ps.map prK)) (.inr z : L2.Key) = some (.int (tvOf ps z)) := by
  rw [merge_new (ps.map prK) [] ?_, List.nil_append]
  · exact val_at hz
  · rw [List.nil_append, List.map_map]
    have : (Prod.fst ∘ prK) = (fun z => (Sum.inr z : L2.Key)) ∘ (Prod.fst : Str × Int → Str) := rfl
    rw [this, ← List.map_map]
    exact List.Pairwise.map _ (fun x y n e => n (Sum.inr.inj e)) nd
theorem Lits.zip {H : Hp} : ∀ {vs : List V} {ls : List Lit}, Lits H vs ls → ∃ zs : List (Addr × Lit), vs = zs.map (fun z => V.ref z.1) ∧ ls = zs.map Prod.snd ∧ ∀ z ∈ zs, H z.1 = some (.tup (litV z.2))
  | [], [], _ => ⟨[], rfl, rfl, fun _ h => absurd h List.not_mem_nil⟩
  | [], _ :: _, A => by have := A.len; simp at this
  | _ :: _, [], A => by have := A.len; simp at this
  | v :: vs, l :: ls, A => by
    obtain ⟨t, h1, h2⟩ := A.at_ 0 l rfl
    obtain rfl : v = .ref t := Option.some.inj h1
    obtain ⟨zs, e1, e2, hz⟩ := Lits.zip (vs := vs) (ls := ls) ⟨by have := A.len; simpa using this, fun i r h => A.at_ (i + 1) r h⟩
    refine ⟨(t, l) :: zs, by rw [e1]; rfl, by rw [e2]; rfl, fun z hz' => ?_⟩
    rcases List.mem_cons.mp hz' with rfl | h
    · exact h2
    · exact hz z h
def spStandC : Sp := fun vs H Q _ => ∃ (c u v n tm : Addr) (o : Obj) (pa : List Addr) (us : List V) (ls : List Lit) (ns : List Str) (ps : List (Str × Int)), vs = [.ref c, .ref v] ∧ H c = some (.tup [.ref u]) ∧ H u = some (.tup us) ∧ Lits H us ls ∧ (∀ l ∈ ls, LitOk l) ∧ ls.length < 1000 ∧ Val H v n tm o pa ns ps ∧
  (∀ l ∈ ls, ∀ z ∈ namesOf l, z ∈ ps.map Prod.fst) ∧ ∀ H', Ex H H' → Q (.bl (ls.any (holdsL ns (tvOf ps)))) H'
def LMem (ls : List Lit) (ms : List Str) : Prop := ∀ z, z ∈ ms ↔ ∃ l ∈ ls, z ∈ namesOf l
def HoldQ (cU : Addr) (H : Hp) (ls : List Lit) (ns : List Str) (ps : List (Str × Int)) (Q : VK) (E : XK) : Prop := ∀ ms, Asc ms → LMem ls ms → (missOf ms (ps.map Prod.fst) = none → ∀ H', Ex H H' → Q (.bl (ls.any (holdsL ns (tvOf ps)))) H') ∧ ∀ y, missOf ms (ps.map Prod.fst) = some y → Raised cU "name" (.str y) H E
def spHoldC (K : PySem.W.Frag) (cL cC cU : Addr) : Sp := fun vs H Q E => ∃ x y, vs = [x, y] ∧
  ((∃ (p v n tm : Addr) (o : Obj) (pa : List Addr) (us : List V) (ls : List Lit) (ns : List Str) (ps : List (Str × Int)), x = .ref p ∧ y = .ref v ∧ Seq K H p us ∧ Lits H us ls ∧ (∀ l ∈ ls, LitOk l) ∧ ls.length ≤ 25 ∧ Val H v n tm o pa ns ps ∧ HoldQ cU H ls ns ps Q E) ∨
   (∃ p us ls i bad, x = .ref p ∧ Seq K H p us ∧ us[i]? = some bad ∧ AnyV K H bad false ∧ Lits H (us.take i) ls ∧ (∀ l ∈ ls, LitOk l) ∧ Raised cL "value" bad H E) ∨
   (NoSeq K H x ∧ Raised cC "value" x H E))
section
variable {P : Program} {w : World} {K : PySem.W.Frag} {mg : Str → Option Value} {base : Heap} {a : Ad} {d : Fd} {fL fC fU fP : Addr}
theorem ok_clauses_stand (T : TX K mg a) (D : FDS K a d) : FnOk P w K mg base CX0 4 a.a_clauses_stand d.a_clauses_stand ["clauses", "values"] spStandC := by
  have G_literal_stands : FnOk P w K mg base CX0 3 a.a_literal_stands d.a_literal_stands ["literal", "names", "table"] (spStands K) := ok_literal_stands T D
  refine D.F_clauses_stand.ok sc_clauses_stand (fun vs H Q E h => ?_) (fun cdv A outer s H vs Q E hr h => ?_)
  · obtain ⟨c, u, v, n, tm, o, pa, us, ls, ns, ps, rfl, _⟩ := h
    rfl
  · obtain ⟨c, u, v, n, tm, o, pa, us, ls, ns, ps, rfl, hc, hu, L, ok, few, VL, sub, fin⟩ := h
    refine ⟨_, (pss_cons (ps_asg (pv 1) (pg_tup rfl (pgs_cons (pg_name (i := 2) sc_clauses_stand.nd rfl (Or.inr rfl)) (pgs_cons (pg_name (i := 3) sc_clauses_stand.nd rfl (Or.inl rfl)) pgs_nil))))
        (pss_cons (ps_set (i := 4) sc_clauses_stand.nd rfl (Or.inr rfl) (pe_callTy (cr_dictF rfl) (by rfl) T.b_dict (by decide +kernel) (pa_cons (pv 3) pa_nil)))
        (pss_cons (ps_for PassesOwn.never rfl (pi_tup (pv 0)) (pg_name (i := 5) sc_clauses_stand.nd rfl (Or.inl rfl)) (pss_one (ps_if (pt_not (pt_val (pe_callB (cr_any rfl) (by rfl) T.b_any (by decide +kernel) (pa_cons (pe_lc (own := [("literal", 6)]) (g := gName 6) (tt := tYes) rfl sc_clauses_stand.nd (pi_tup (pv 5)) (blkOk_by (N := ["clauses", "values", "names", "times", "table", "clause", "literal"]) (sc := defScope s_clauses_stand) (by decide +kernel)) (fun _ _ _ _ _ => (pg_name (i := 6) sc_clauses_stand.nd rfl (Or.inl rfl))) (fun _ _ _ _ _ => pts_nil) (fun _ _ _ _ _ => (pe_call G_literal_stands (hr.mono (by decide)) rfl T.f_literal_stands T.k_literal_stands D.B_literal_stands .nil pass0 (pa_cons (pv 6) (pa_cons (pv 2) (pa_cons (pv 4) pa_nil)))))) pa_nil)))) (pss_one (ps_ret pe_bl)) pss_nil)))
        (pss_one (ps_ret pe_bl))))), ?_⟩
    refine ⟨_, rfl, v, _, rfl, SqT.of VL.hv, rfl, _, _, rfl, _, _, rfl, rfl, ?_⟩
    refine ⟨_, rfl, tm, o, pa, ps.map prK, rfl, VL.ht, VL.od, pair_at VL.len VL.at_, fun td htd => ?_⟩
    have x1 := Ex.new (o := .dK (mergeK [] (ps.map prK))) htd
    have hd1 : upd H td (.dK (mergeK [] (ps.map prK))) td = some (.dK (mergeK [] (ps.map prK))) := upd_same
    generalize upd H td (.dK (mergeK [] (ps.map prK))) = H1 at *
    have big : 1000 ≤ sizeLine := by decide
    obtain ⟨zs, eu, el, hz⟩ := L.zip
    subst eu el
    have zl : zs.length < 1000 := by rw [List.length_map] at few; exact few
    refine ⟨_, rfl, c, rfl, ⟨_, SqT.of (x1 _ _ hc)⟩, for_it (walk_tup (xs := [.ref u])) (fun i σ H' => ∃ o5, σ = [some (.ref c), some (.ref v), some (.ref n), some (.ref tm), some (.ref td), o5, none] ∧ Ex H1 H' ∧ (i = 1 → (zs.map Prod.snd).any (holdsL ns (tvOf ps)) = true)) ⟨none, rfl, Ex.refl _, fun z => nomatch z⟩ (fun i σ H' _ ⟨_, _, e, _⟩ => SqT.of (e _ _ (x1 _ _ hc))) ?_ ?_⟩
    · rintro i x σ H2 H2' hi ⟨o5, rfl, e2, _⟩ ⟨rfl, hx⟩
      have i0 : i = 0 := by have : i < 1 := hi; omega
      subst i0
      obtain rfl : V.ref u = x := Option.some.inj hx
      have hu2 := e2 _ _ (x1 _ _ hu)
      refine ⟨_, rfl, u, rfl, ⟨_, SqT.of hu2⟩, fun D3 hD3 => lcM (walk_tup (xs := zs.map fun z => V.ref z.1)) (fun z => V.bl (holdsL ns (tvOf ps) z.2)) (by omega) (fun H' e => SqT.of (e _ _ hu2)) (fun _ => rfl) (fun z hzm H' e Q q => ?_) hD3 fun H3 e3 h3 => ?_⟩
      · have e' := x1.trans (e2.trans e)
        exact ⟨_, rfl, _, rfl, _, rfl, z.1, n, td, z.2, ns, _, tvOf ps, rfl, e' _ _ (hz z hzm), ok z.2 (List.mem_map_of_mem hzm), SqT.of (e' _ _ VL.hn), (e2.trans e) _ _ hd1, fun y hy => val_of VL.nd (sub z.2 (List.mem_map_of_mem hzm) y hy), fun H'' e'' => q H'' e''⟩
      · refine ⟨D3, zs.map fun z => holdsL ns (tvOf ps) z.2, rfl, SqL.of (by rw [h3, List.map_map]; rfl), ?_⟩
        have ea : (zs.map fun z => holdsL ns (tvOf ps) z.2).any id = (zs.map Prod.snd).any (holdsL ns (tvOf ps)) := by rw [List.any_map, List.any_map]; rfl
        rw [ea]
        cases hb : (zs.map Prod.snd).any (holdsL ns (tvOf ps)) with
        | true => exact ⟨_, rfl, iteF' rfl ⟨_, rfl, e2.trans e3, fun _ => rfl⟩⟩
        | false => exact ⟨_, rfl, iteT' rfl (ex_q fin hb (x1.trans (e2.trans e3)))⟩
    · rintro σ H2 ⟨o5, rfl, e2, h⟩
      exact ex_q fin (h rfl) (x1.trans e2)
theorem ok_clause_holds (T : TX K mg a) (D : FDS K a d) (R : ER K mg P a fL fC fU fP) : FnOk P w K mg base (L2N.CX P w) 6 a.a_clause_holds d.a_clause_holds ["clause", "values"] (spHoldC K a.cL a.cC a.cU) := by
  have G_clause_of : FnOk P w K mg base (L2N.CX P w) 5 a.a_clause_of d.a_clause_of ["literals"] (spClause K a.cL a.cC) := ok_clause_of T D R
  have G_moments_of : FnOk P w K mg base CX0 3 a.a_moments_of d.a_moments_of ["literals"] (spMoments K) := ok_moments_of T D
  have G_check_listed : FnOk P w K mg base (L2N.CX P w) 1 a.a_check_listed d.a_check_listed ["moments", "values"] (spListed K a.cU) := ok_check_listed T D R
  have G_clauses_stand : FnOk P w K mg base CX0 4 a.a_clauses_stand d.a_clauses_stand ["clauses", "values"] spStandC := ok_clauses_stand T D
  refine NX.okX D.F_clause_holds sc_clause_holds (fun vs H Q E h => ?_) (fun cdv A outer s H vs Q E hr h => ?_)
  · obtain ⟨x, y, rfl, _⟩ := h
    rfl
  · obtain ⟨x, y, rfl, h⟩ := h
    refine ⟨_, (pss_cons (ps_set (i := 2) sc_clause_holds.nd rfl (Or.inl rfl) (pe_call G_clause_of (hr.mono (by decide)) rfl T.f_clause_of T.k_clause_of D.B_clause_of .nil (L2N.passes_call (L2N.takes_of rfl rfl rfl rfl) (fun _ _ _ _ h => h)) (pa_cons (pv 0) pa_nil)))
        (pss_cons (ps_expr (pe_call G_check_listed (hr.mono (by decide)) rfl T.f_check_listed T.k_check_listed D.B_check_listed .nil (L2N.passes_call (L2N.takes_of rfl rfl rfl rfl) (fun _ _ _ _ h => h)) (pa_cons (pe_call G_moments_of (hr.mono (by decide)) rfl T.f_moments_of T.k_moments_of D.B_moments_of .nil pass0 (pa_cons (pv 2) pa_nil)) (pa_cons (pv 1) pa_nil))))
        (pss_one (ps_ret (pe_call G_clauses_stand (hr.mono (by decide)) rfl T.f_clauses_stand T.k_clauses_stand D.B_clauses_stand .nil pass0 (pa_cons (pe_tup (pa_cons (pv 2) pa_nil)) (pa_cons (pv 1) pa_nil))))))), ?_⟩
    rcases h with ⟨p, v, n, tm, o, pa, us, ls, ns, ps, rfl, rfl, hs, L, ok, few, VL, fin⟩ | ⟨p, us, ls, i, bad, rfl, hs, hb, hv, L, ok, fin⟩ | ⟨hn, fin⟩
    · refine ⟨_, rfl, .ref p, rfl, .inl ⟨p, us, ls, rfl, hs, L, ok, by omega, fun u us' ls' H1 e1 hu L1 mem asc0 => ?_⟩⟩
      have nd := asc_nodup asc0
      have l25 : ls'.length ≤ 25 := Nat.le_trans (by
        have gen : ∀ {l m : List Lit}, l.Nodup → (∀ z ∈ l, z ∈ m) → l.length ≤ m.length := by
          intro l
          induction l with
          | nil => exact fun _ _ => Nat.zero_le _
          | cons x l ih =>
            intro m nd h
            obtain ⟨nx, nd'⟩ := List.nodup_cons.mp nd
            have hx := h x List.mem_cons_self
            have := ih (m := m.erase x) nd' fun z hz => (List.mem_erase_of_ne fun e => nx (by rw [← e]; exact hz)).mpr (h z (List.mem_cons_of_mem _ hz))
            rw [List.length_erase_of_mem hx] at this
            have := List.length_pos_of_mem hx
            rw [List.length_cons]
            omega
        exact gen nd fun l hl => (mem l).mp hl) few
      have ok' : ∀ l ∈ ls', LitOk l := fun l hl => ok l ((mem l).mp hl)
      have pool : (ls'.flatMap namesOf).length ≤ 50 := by
        have : ∀ ks : List Lit, (ks.flatMap namesOf).length ≤ 2 * ks.length := by
          intro ks
          induction ks with
          | nil => exact Nat.le_refl _
          | cons l ks ih =>
            rw [List.flatMap_cons, List.length_append, List.length_cons]
            have : (namesOf l).length ≤ 2 := by cases l <;> simp [namesOf]
            omega
        have := this ls'
        omega
      refine ⟨_, rfl, u, us', ls', ls'.flatMap namesOf, rfl, SqT.of hu, L1, ok', pool, fun l hl z hz => List.mem_flatMap.mpr ⟨l, hl, hz⟩, fun m ms H2 e2 hm ndm so memm => ?_⟩
      have asc := asc_of so ndm
      have MM : LMem ls ms := fun z => by
        rw [memm z]
        exact ⟨fun ⟨l, hl, h⟩ => ⟨l, (mem l).mp hl, h⟩, fun ⟨l, hl, h⟩ => ⟨l, (mem l).mpr hl, h⟩⟩
      obtain ⟨fin1, fin2⟩ := fin ms asc MM
      have e02 := e1.trans e2
      have VL2 := VL.ex e02
      refine ⟨_, rfl, m, v, tm, .ref n, ms, _, ps, rfl, SqT.of hm, SqT.of VL2.hv, .inl (.inr ⟨o, VL2.ht⟩), VL2.prs, VL2.few, fun hmo H3 e3 => ?_, fun y hmo => fun dd H3 e3 hd hdd => fin2 y hmo dd H3 (e02.trans e3) (fresh_back e02 hd) hdd⟩
      have all : ∀ z ∈ ms, z ∈ ps.map Prod.fst := fun z hz => by
        have := List.find?_eq_none.mp hmo z hz
        simpa using this
      refine ⟨_, rfl, (by show 1 ≤ sizeLine; decide), fun c hc => ⟨_, rfl, ?_⟩⟩
      have xc := Ex.new (o := .tup [.ref u]) hc
      have e23 := (e2.trans e3).trans xc
      refine ⟨c, u, v, n, tm, o, pa, us', ls', ns, ps, rfl, upd_same, e23 _ _ hu, L1.ex e23, ok', by omega, VL2.ex (e3.trans xc), fun l hl z hz => all z ((MM z).mpr ⟨l, (mem l).mp hl, hz⟩), fun H4 e4 => ?_⟩
      have ea : ls'.any (holdsL ns (tvOf ps)) = ls.any (holdsL ns (tvOf ps)) := by
        rw [Bool.eq_iff_iff, List.any_eq_true, List.any_eq_true]
        exact ⟨fun ⟨l, hl, h⟩ => ⟨l, (mem l).mp hl, h⟩, fun ⟨l, hl, h⟩ => ⟨l, (mem l).mpr hl, h⟩⟩
      rw [ea]
      exact fin1 hmo H4 (e1.trans (e23.trans e4))
    · exact ⟨_, rfl, .ref p, rfl, .inr (.inl ⟨p, us, ls, i, bad, rfl, hs, hb, hv, L, ok, fin⟩)⟩
    · exact ⟨_, rfl, x, rfl, .inr (.inr ⟨hn, fin⟩)⟩
def spHoldL (K : PySem.W.Frag) (cL cU : Addr) : Sp := fun vs H Q E => ∃ x y, vs = [x, y] ∧
  ((∃ (p v n tm : Addr) (o : Obj) (pa : List Addr) (l : Lit) (ns : List Str) (ps : List (Str × Int)), x = .ref p ∧ y = .ref v ∧ H p = some (.tup (litV l)) ∧ LitOk l ∧ Val H v n tm o pa ns ps ∧ HoldQ cU H [l] ns ps Q E) ∨
   (AnyV K H x false ∧ Raised cL "value" x H E))
end
end F5
set_option maxRecDepth 100000
set_option maxHeartbeats 8000000
namespace F5
open PySem L2 Evl GP HR SC SetM SetH

def spOpp : Sp := fun vs H Q _ => ∃ (p : Addr) (l : Lit), vs = [.ref p] ∧ H p = some (.tup (litV l)) ∧ LitOk l ∧ ∀ (q : Addr) H', Ex H H' → H q = none → H' q = some (.tup (litV (oppL l))) → Q (.ref q) H'
section
variable {P : Program} {w : World} {K : PySem.W.Frag} {mg : Str → Option Value} {base : Heap} {a : Ad} {d : Fd} {fL fC fU fP : Addr}
theorem ok_opposite (T : TX K mg a) (D : FDS K a d) : FnOk P w K mg base CX0 1 a.a_opposite d.a_opposite ["literal"] spOpp := by
  refine D.F_opposite.ok sc_opposite (fun vs H Q E h => ?_) (fun cdv A outer s H vs Q E hr h => ?_)
  · obtain ⟨p, l, rfl, _⟩ := h
    rfl
  · obtain ⟨p, l, rfl, hp, ok, fin⟩ := h
    refine ⟨_, (pss_cons (ps_if (pt_cmpR op_eq (pe_ix ix_tup (pv 0) pe_int (fun _ _ => rfl)) pe_str (nomark _)) (pss_cons (ps_asg (pv 0) (pg_tup rfl (pgs_cons (pg_name (i := 1) sc_opposite.nd rfl (Or.inl rfl)) (pgs_cons (pg_name (i := 2) sc_opposite.nd rfl (Or.inl rfl)) (pgs_cons (pg_name (i := 3) sc_opposite.nd rfl (Or.inl rfl)) (pgs_cons (pg_name (i := 4) sc_opposite.nd rfl (Or.inl rfl)) pgs_nil))))))
        (pss_one (ps_ret (pe_tup (pa_cons pe_str (pa_cons (pv 3) (pa_cons (pv 2) (pa_cons (pe_op op_sub (pe_un un_neg (pv 4)) pe_int) pa_nil)))))))) pss_nil)
        (pss_cons (ps_asg (pv 0) (pg_tup rfl (pgs_cons (pg_name (i := 5) sc_opposite.nd rfl (Or.inl rfl)) (pgs_cons (pg_name (i := 6) sc_opposite.nd rfl (Or.inl rfl)) pgs_nil))))
        (pss_one (ps_ret (pe_ifExp (pt_cmpR op_eq (pv 5) pe_str (nomark _)) (pe_tup (pa_cons pe_str (pa_cons (pv 6) pa_nil))) (pe_tup (pa_cons pe_str (pa_cons (pv 6) pa_nil)))))))), ?_⟩
    cases l with
    | most x y k =>
      refine ⟨_, rfl, p, _, 0, _, rfl, rfl, SqT.of hp, rfl, rfl, _, rfl, iteT' (by decide +kernel) ?_⟩
      refine ⟨_, rfl, p, _, rfl, SqT.of hp, rfl, _, _, rfl, _, _, rfl, _, _, rfl, _, _, rfl, rfl, ?_⟩
      exact ⟨_, rfl, _, rfl, _, rfl, k, rfl, -k, 1, rfl, rfl, (by show 4 ≤ sizeLine; decide), fun t ht => fin t _ (Ex.new ht) ht upd_same⟩
    | yn b x =>
      refine ⟨_, rfl, p, _, 0, _, rfl, rfl, SqT.of hp, rfl, rfl, _, rfl, iteF' (by cases b <;> decide +kernel) ?_⟩
      refine ⟨_, rfl, p, _, rfl, SqT.of hp, rfl, _, _, rfl, _, _, rfl, rfl, ?_⟩
      cases b with
      | true =>
        refine ⟨_, rfl, rfl, ?_⟩
        dsimp only
        rw [show decide (V.str (ynS true) = V.str "yes") = true by decide +kernel]
        refine ⟨_, rfl, ?_⟩
        rw [if_pos rfl]
        exact ⟨_, rfl, (by show 2 ≤ sizeLine; decide), fun t ht => fin t _ (Ex.new ht) ht upd_same⟩
      | false =>
        refine ⟨_, rfl, rfl, ?_⟩
        dsimp only
        rw [show decide (V.str (ynS false) = V.str "yes") = false by decide +kernel]
        refine ⟨_, rfl, ?_⟩
        rw [if_neg (by decide)]
        exact ⟨_, rfl, (by show 2 ≤ sizeLine; decide), fun t ht => fin t _ (Ex.new ht) ht upd_same⟩
end
end F5
set_option maxRecDepth 100000
set_option maxHeartbeats 8000000
namespace F5
open PySem L2 Evl GP HR SC SetM SetH RQ
theorem passN {X : Cx} : Passes (L2N.CX X.prog X.w) X (fun _ _ _ => False) := L2N.passes_call (W := fun _ _ _ _ => False) NX.takes0 fun _ _ _ _ h => h
def spCompl (K : PySem.W.Frag) (cL : Addr) : Sp := fun vs H Q E => ∃ x, vs = [x] ∧
  ((∃ p l, x = .ref p ∧ H p = some (.tup (litV l)) ∧ LitOk l ∧ ∀ (q : Addr) H', Ex H H' → H q = none → H' q = some (.tup (litV (oppL l))) → Q (.ref q) H') ∨ (AnyV K H x false ∧ Raised cL "value" x H E))
section
variable {P : Program} {w : World} {K : PySem.W.Frag} {mg : Str → Option Value} {base : Heap} {a : Ad} {d : Fd} {fL fC fU fP : Addr}
theorem ok_complement (T : TX K mg a) (D : FDS K a d) (R : ER K mg P a fL fC fU fP) : FnOk P w K mg base (L2N.CX P w) 5 a.a_complement d.a_complement ["literal"] (spCompl K a.cL) := by
  have G_check_literal : FnOk P w K mg base (L2N.CX P w) 4 a.a_check_literal d.a_check_literal ["value"] (spChk K a.cL) := ok_check_literal T D R
  have G_opposite : FnOk P w K mg base CX0 1 a.a_opposite d.a_opposite ["literal"] spOpp := ok_opposite T D
  refine NX.okX D.F_complement sc_complement (fun vs H Q E h => ?_) (fun cdv A outer s H vs Q E hr h => ?_)
  · obtain ⟨x, rfl, _⟩ := h
    rfl
  · obtain ⟨x, rfl, h⟩ := h
    refine ⟨_, (pss_cons (ps_expr (pe_call G_check_literal (hr.mono (by decide)) rfl T.f_check_literal T.k_check_literal D.B_check_literal .nil (L2N.passes_call (L2N.takes_of rfl rfl rfl rfl) (fun _ _ _ _ h => h)) (pa_cons (pv 0) pa_nil)))
        (pss_one (ps_ret (pe_call G_opposite (hr.mono (by decide)) rfl T.f_opposite T.k_opposite D.B_opposite .nil pass0 (pa_cons (pv 0) pa_nil))))), ?_⟩
    rcases h with ⟨p, l, rfl, hp, ok, fin⟩ | ⟨hv, fin⟩
    · refine ⟨_, rfl, _, true, rfl, .inl ⟨litD l, lit_dp (SqT.of hp), lit_sz ok, lit_is ok⟩, fun _ H1 e1 => ?_, (fun z => nomatch z)⟩
      exact ⟨_, rfl, p, l, rfl, e1 _ _ hp, ok, fun q H2 e2 h0 hq => fin q H2 (e1.trans e2) (fresh_back e1 h0) hq⟩
    · exact ⟨_, rfl, _, false, rfl, hv, (fun z => nomatch z), fun _ => fin⟩
end
end F5
namespace HR
open PySem L2 PySem.SeqAt PyProof.Rows
/-! x in t, t a tuple of data -/
def rInDT (K : PySem.W.Frag) : R2 := fun x y H Q => ∃ e es, Dp K H x e ∧ Dp K H y (.tuple es) ∧ SeqAt.shaped e = true ∧ SeqAt.shaped (.tuple es) = true ∧ Q (.bl (es.any fun z => PyData.eqv z e)) H
def rNotInDT (K : PySem.W.Frag) : R2 := fun x y H Q => ∃ e es, Dp K H x e ∧ Dp K H y (.tuple es) ∧ SeqAt.shaped e = true ∧ SeqAt.shaped (.tuple es) = true ∧ Q (.bl (!es.any fun z => PyData.eqv z e)) H
theorem canLayT {ds : List PyData} (h : SeqAt.shaped (.tuple ds) = true) : PyData.canLayAll0 ds = true := by
  have := (Bool.and_eq_true_iff.mp h).1
  rwa [PyData.canLay0] at this
section
variable {X : Cx}
theorem op_inDT (hu : X.A.units + 65 < cLine) : OpR X (compareOp .In) (rInDT X.K) := by
  rintro pins s σ H x y v u Q I rx ry ⟨e, es, he, ht, se, st, fin⟩
  obtain ⟨as1, one⟩ := Dp.reads I e x v he rx
  obtain ⟨as2, all⟩ := Dp.reads I (.tuple es) y u ht ry
  exact SeqAt.in_tuple_reads all one (canLayT st) (SeqAt.canLay_of_shaped se) (room_in_shaped se hu) ⟨.bl _, H, I, rfl, fin⟩
theorem op_notInDT (hu : X.A.units + 65 < cLine) : OpR X (compareOp .NotIn) (rNotInDT X.K) := by
  rintro pins s σ H x y v u Q I rx ry ⟨e, es, he, ht, se, st, fin⟩
  obtain ⟨as1, one⟩ := Dp.reads I e x v he rx
  obtain ⟨as2, all⟩ := Dp.reads I (.tuple es) y u ht ry
  exact SeqAt.notIn_tuple_reads all one (canLayT st) (SeqAt.canLay_of_shaped se) (room_in_shaped se hu) ⟨.bl _, H, I, rfl, fin⟩
end
end HR
set_option maxRecDepth 100000
set_option maxHeartbeats 8000000
namespace F5
open PySem L2 Evl GP HR SC SetM SetH RQ
theorem hu65 {k : Nat} {A : Around} (r : Room k A) : A.units + 65 < cLine := by have := r.un; omega
theorem op_eqDK {X : Cx} {K : PySem.W.Frag} (hK : X.K = K) (hu : X.A.units + 64 < cLine) : OpR X (compareOp .Eq) (rEqD K) := hK ▸ op_eqD hu
theorem op_neDK {X : Cx} {K : PySem.W.Frag} (hK : X.K = K) (hu : X.A.units + 64 < cLine) : OpR X (compareOp .NotEq) (rNeD K) := hK ▸ op_neD hu
def Sh (n : Nat) (d : PyData) : Prop := d.canLay0 = true ∧ d.depth ≤ n
theorem Sh.all {n : Nat} : ∀ {ds : List PyData}, (∀ d ∈ ds, Sh n d) → PyData.canLayAll0 ds = true ∧ PyData.depthAll ds ≤ n
  | [], _ => ⟨by simp [PyData.canLayAll0], by simp [PyData.depthAll]⟩
  | d :: ds, h => by
    have a := h d List.mem_cons_self
    have b := Sh.all (ds := ds) fun x hx => h x (List.mem_cons_of_mem _ hx)
    refine ⟨?_, ?_⟩
    · rw [PyData.canLayAll0, a.1, b.1]
      rfl
    · rw [PyData.depthAll]
      exact Nat.max_le.mpr ⟨a.2, b.2⟩
theorem Sh.list {n : Nat} {ds : List PyData} (h : ∀ d ∈ ds, Sh n d) : Sh (n + 1) (.list ds) := ⟨by rw [PyData.canLay0]; exact (Sh.all h).1, by rw [PyData.depth]; exact Nat.succ_le_succ (Sh.all h).2⟩
theorem Sh.tuple {n : Nat} {ds : List PyData} (h : ∀ d ∈ ds, Sh n d) : Sh (n + 1) (.tuple ds) := ⟨by rw [PyData.canLay0]; exact (Sh.all h).1, by rw [PyData.depth]; exact Nat.succ_le_succ (Sh.all h).2⟩
theorem Sh.mono {n m : Nat} {d : PyData} (h : Sh n d) (l : n ≤ m) : Sh m d := ⟨h.1, Nat.le_trans h.2 l⟩
theorem Sh.sh {n : Nat} {d : PyData} (h : Sh n d) (l : n ≤ 64) : PySem.SeqAt.shaped d = true := Bool.and_eq_true_iff.mpr ⟨h.1, decide_eq_true (Nat.le_trans h.2 l)⟩
theorem sh_str {n : Nat} {s : Str} (h : PyData.strOk s = true) : Sh n (.str s) := by simp [Sh, PyData.canLay0, PyData.depth, h]
theorem sh_int {n : Nat} {i : Int} : Sh n (.int i) := by simp [Sh, PyData.canLay0, PyData.depth]
theorem sh_none {n : Nat} : Sh n .none := by simp [Sh, PyData.canLay0, PyData.depth]
theorem sh_pair {n : Nat} {a b : PyData} (h1 : Sh n a) (h2 : Sh n b) : Sh (n + 1) (.tuple [a, b]) := Sh.tuple fun x hx => by
  simp only [List.mem_cons, List.not_mem_nil, or_false] at hx
  rcases hx with rfl | rfl <;> assumption
theorem signs_lowX : ∀ c ∈ signs.cps.toList, c < 128 := by decide +kernel
theorem name_ok {z : Str} (h : isNameS z = true) : PyData.strOk z = true := by
  unfold isNameS at h
  simp only [Bool.and_eq_true, List.all_eq_true, decide_eq_true_eq] at h
  unfold PyData.strOk
  rw [← Array.all_toList, List.all_eq_true]
  intro c hc
  have := signs_lowX c (h.2.2 c hc)
  exact decide_eq_true (by omega)
theorem yn_injB : ∀ b c : Bool, decide (ynS b = ynS c) = decide (b = c) := by decide +kernel
theorem yn_most : ∀ b : Bool, decide (ynS b = "most") = false ∧ decide (("most" : Str) = ynS b) = false := by decide +kernel
theorem eqv_lit (a b : Lit) : PyData.eqv (litD a) (litD b) = decide (a = b) := by
  cases a with
  | yn f x =>
    cases b with
    | yn g y =>
      show PyData.eqv (.tuple [.str (ynS f), .str x]) (.tuple [.str (ynS g), .str y]) = _
      simp only [PyData.eqv, PyData.eqvAll, Bool.and_true]
      have := yn_injB f g
      by_cases h1 : f = g <;> by_cases h2 : x = y <;> simp [h1, h2] at this ⊢
      exact this
    | most y z k =>
      show PyData.eqv (.tuple [.str (ynS f), .str x]) (.tuple [.str "most", .str y, .str z, .int k]) = _
      simp [PyData.eqv, PyData.eqvAll]
  | most x y k =>
    cases b with
    | yn g z =>
      show PyData.eqv (.tuple [.str "most", .str x, .str y, .int k]) (.tuple [.str (ynS g), .str z]) = _
      simp [PyData.eqv, PyData.eqvAll]
    | most z w m =>
      show PyData.eqv (.tuple [.str "most", .str x, .str y, .int k]) (.tuple [.str "most", .str z, .str w, .int m]) = _
      simp only [PyData.eqv, PyData.eqvAll, Bool.and_true]
      by_cases h1 : x = z <;> by_cases h2 : y = w <;> by_cases h3 : k = m <;> simp [h1, h2, h3]
theorem lit_any (l : Lit) : ∀ ls : List Lit, (ls.map litD).any (fun z => PyData.eqv z (litD l)) = decide (l ∈ ls)
  | [] => rfl
  | m :: ls => by
    rw [List.map_cons, List.any_cons, eqv_lit, lit_any l ls]
    by_cases h : m = l
    · subst h
      simp
    · have h2 : l ≠ m := fun e => h e.symm
      simp [h, h2]
theorem zip_fst : ∀ {us : List V} {ds : List PyData}, us.length = ds.length → (us.zip ds).map Prod.fst = us
  | [], [], _ => rfl
  | [], _ :: _, h => by simp at h
  | _ :: _, [], h => by simp at h
  | u :: us, d :: ds, h => by
    show u :: (us.zip ds).map Prod.fst = _
    rw [zip_fst (by simpa using h)]
theorem zip_snd : ∀ {us : List V} {ds : List PyData}, us.length = ds.length → (us.zip ds).map Prod.snd = ds
  | [], [], _ => rfl
  | [], _ :: _, h => by simp at h
  | _ :: _, [], h => by simp at h
  | u :: us, d :: ds, h => by
    show d :: (us.zip ds).map Prod.snd = _
    rw [zip_snd (by simpa using h)]
theorem sh_lit {l : Lit} (h : LitOk l) : Sh 1 (litD l) := by
  cases l with
  | yn b x =>
    refine Sh.tuple (n := 0) fun d hd => ?_
    simp only [List.mem_cons, List.not_mem_nil, or_false] at hd
    rcases hd with rfl | rfl
    · exact sh_str (by cases b <;> decide +kernel)
    · exact sh_str (name_ok h)
  | most x y k =>
    obtain ⟨h1, h2, _⟩ := h
    refine Sh.tuple (n := 0) fun d hd => ?_
    simp only [List.mem_cons, List.not_mem_nil, or_false] at hd
    rcases hd with rfl | rfl | rfl | rfl
    · exact sh_str (by decide +kernel)
    · exact sh_str (name_ok h1)
    · exact sh_str (name_ok h2)
    · exact sh_int
theorem sh_lits {ls : List Lit} (h : ∀ l ∈ ls, LitOk l) : ∀ d ∈ ls.map litD, Sh 1 d := fun d hd => by
  obtain ⟨l, hl, rfl⟩ := List.mem_map.mp hd
  exact sh_lit (h l hl)
section
variable {K : PySem.W.Frag} {H : Hp} {x y : Addr} {l m : Lit} {Q : VK}
theorem rd_ne (hx : H x = some (.tup (litV l))) (hy : H y = some (.tup (litV m))) (ol : LitOk l) (om : LitOk m) (q : Q (.bl (decide (l ≠ m))) H) : rNeD K (.ref x) (.ref y) H Q :=
  ⟨_, _, lit_dp (SqT.of hx), lit_dp (SqT.of hy), (sh_lit ol).sh (by decide), (sh_lit om).sh (by decide), by rw [eqv_lit, ← decide_not]; exact q⟩
theorem rd_notIn {us : List V} {ls : List Lit} (hx : H x = some (.tup (litV l))) (ol : LitOk l) (hp : H y = some (.tup us)) (L : Lits H us ls) (ok : ∀ l ∈ ls, LitOk l) (q : Q (.bl (decide (l ∉ ls))) H) : rNotInDT K (.ref x) (.ref y) H Q :=
  ⟨_, _, lit_dp (SqT.of hx), .tup (SqT.of hp) L.dp, (sh_lit ol).sh (by decide), (Sh.tuple (sh_lits ok)).sh (by decide), by rw [lit_any, ← decide_not]; exact q⟩
end
theorem Lits.of_zip {H : Hp} {zs : List (Addr × Lit)} (h : ∀ z ∈ zs, H z.1 = some (.tup (litV z.2))) : Lits H (zs.map fun z => V.ref z.1) (zs.map Prod.snd) := ⟨by rw [List.length_map, List.length_map], fun i l hl => by
  rw [List.getElem?_map] at hl
  obtain ⟨z, hz, rfl⟩ := Option.map_eq_some_iff.mp hl
  exact ⟨z.1, by rw [List.getElem?_map, hz]; rfl, h z (List.mem_of_getElem? hz)⟩⟩
theorem filt_snd (l : Lit) (zs : List (Addr × Lit)) : (zs.filter fun z => decide (z.2 ≠ l)).map Prod.snd = (zs.map Prod.snd).filter fun z => decide (z ≠ l) := by
  rw [List.filter_map]
  rfl
def resL (l : Lit) (a b : List Lit) : List Lit := (a.filter fun z => decide (z ≠ l)) ++ b.filter fun z => decide (z ≠ oppL l)
theorem opp_ok {l : Lit} (h : LitOk l) (k : ∀ x y k, l = .most x y k → k.natAbs ≤ B0 + 99) : LitOk (oppL l) := by
  cases l with
  | yn b x => exact h
  | most x y k' =>
    obtain ⟨h1, h2, h3, _⟩ := h
    have := k x y k' rfl
    exact ⟨h2, h1, fun e => h3 e.symm, by omega⟩
/-- a clause as it stands -/
structure Cl (H : Hp) (p : Addr) (us : List V) (ls : List Lit) : Prop where
  at_ : H p = some (.tup us)
  L : Lits H us ls
  ok : ∀ l ∈ ls, LitOk l
  few : ls.length ≤ 30
def spResolvent : Sp := fun vs H Q _ => ∃ (p x q : Addr) (us us' : List V) (ls ls' : List Lit) (l : Lit), vs = [.ref p, .ref x, .ref q] ∧ Cl H p us ls ∧ H x = some (.tup (litV l)) ∧ LitOk l ∧ LitOk (oppL l) ∧ Cl H q us' ls' ∧
  (l ∉ ls ∨ oppL l ∉ ls' → ∀ H', Ex H H' → Q .non H') ∧ (l ∈ ls → oppL l ∈ ls' → Good H (resL l ls ls') Q)
section
variable {P : Program} {w : World} {K : PySem.W.Frag} {mg : Str → Option Value} {base : Heap} {a : Ad} {d : Fd} {fL fC fU fP : Addr}
theorem ok_resolvent (T : TX K mg a) (D : FDS K a d) (R : ER K mg P a fL fC fU fP) : FnOk P w K mg base CX0 6 a.a_resolvent d.a_resolvent ["first", "pivot", "second"] spResolvent := by
  have G_is_literal : FnOk P w K mg base CX0 3 a.a_is_literal d.a_is_literal ["value"] (fun vs H Q E => spIsLitD K vs H Q E ∨ spOdd (.bl false) vs H Q E) := ok_is_literal T D
  have G_complement : FnOk P w K mg base (L2N.CX P w) 5 a.a_complement d.a_complement ["literal"] (spCompl K a.cL) := ok_complement T D R
  have G_normal_form : FnOk P w K mg base CX0 1 a.a_normal_form d.a_normal_form ["literals"] (spNormal K) := ok_normal_form T D
  refine D.F_resolvent.ok sc_resolvent (fun vs H Q E h => ?_) (fun cdv A outer s H vs Q E hr h => ?_)
  · obtain ⟨p, x, q, us, us', ls, ls', l, rfl, _⟩ := h
    rfl
  · obtain ⟨p, x, q, us, us', ls, ls', l, rfl, C1, hx, ol, oo, C2, no, yes⟩ := h
    refine ⟨_, (pss_cons (ps_if (PW.pt (pw_or (pt_not (pt_val (pe_call G_is_literal (hr.mono (by decide)) rfl T.f_is_literal T.k_is_literal D.B_is_literal .nil pass0 (pa_cons (pv 1) pa_nil)))) (pw_or (pt_cmpR (HR.op_notInDT (hu65 hr)) (pv 1) (pv 0) rfl) (pw_or1 (pt_cmpR (HR.op_notInDT (hu65 hr)) (pe_call G_complement (hr.mono (by decide)) rfl T.f_complement T.k_complement D.B_complement .nil passN (pa_cons (pv 1) pa_nil)) (pv 2) rfl))))) (pss_one (ps_ret pe_non)) pss_nil)
        (pss_cons (ps_set (i := 3) sc_resolvent.nd rfl (Or.inr rfl) (pe_call G_complement (hr.mono (by decide)) rfl T.f_complement T.k_complement D.B_complement .nil passN (pa_cons (pv 1) pa_nil)))
        (pss_cons (ps_setLc (i := 4) (own := [("literal", 6)]) (g := gName 6) rfl sc_resolvent.nd rfl rfl (sw_true rfl rfl rfl (by decide +kernel)) (pi_tup (pv 0)) (blkOk_by (N := ["first", "pivot", "second", "other", "left", "right", "literal"]) (sc := defScope s_resolvent) (by decide +kernel)) (fun _ _ _ _ _ => (pg_name (i := 6) sc_resolvent.nd rfl (Or.inl rfl))) (fun _ _ _ _ _ => (pts_one (pt_cmpR (op_neDK (K := K) rfl hr.units) (pv 6) (pv 1) rfl))) (fun _ _ _ _ _ => (pv 6)))
        (pss_cons (ps_setLc (i := 5) (own := [("literal", 6)]) (g := gName 6) rfl sc_resolvent.nd rfl rfl (sw_true rfl rfl rfl (by decide +kernel)) (pi_tup (pv 2)) (blkOk_by (N := ["first", "pivot", "second", "other", "left", "right", "literal"]) (sc := defScope s_resolvent) (by decide +kernel)) (fun _ _ _ _ _ => (pg_name (i := 6) sc_resolvent.nd rfl (Or.inl rfl))) (fun _ _ _ _ _ => (pts_one (pt_cmpR (op_neDK (K := K) rfl hr.units) (pv 6) (pv 3) rfl))) (fun _ _ _ _ _ => (pv 6)))
        (pss_one (ps_ret (pe_call G_normal_form (hr.mono (by decide)) rfl T.f_normal_form T.k_normal_form D.B_normal_form .nil pass0 (pa_cons (pe_op op_cat (pv 4) (pv 5)) pa_nil)))))))), ?_⟩
    refine ⟨_, rfl, .inl ⟨.ref x, litD l, rfl, lit_dp (SqT.of hx), lit_sz ol, fun H1 e1 => ⟨_, rfl, ?_⟩⟩⟩
    rw [lit_is ol]
    refine iteF' rfl ⟨_, rfl, _, rfl, rd_notIn (e1 _ _ hx) ol (e1 _ _ C1.at_) (C1.L.ex e1) C1.ok ⟨_, rfl, ite2 (fun g => ?_) (fun g => ?_)⟩⟩
    · exact iteT' rfl (no (.inl (of_decide_eq_true g)) H1 e1)
    have g1 : l ∈ ls := by simpa using g
    refine ⟨_, rfl, .ref x, rfl, .inl ⟨x, l, rfl, e1 _ _ hx, ol, fun y H2 e2 hy0 hy => ?_⟩⟩
    have e12 := e1.trans e2
    refine ⟨_, rfl, rd_notIn hy oo (e12 _ _ C2.at_) (C2.L.ex e12) C2.ok ⟨_, rfl, ite2 (fun g => ?_) (fun g => ?_)⟩⟩
    · exact no (.inr (of_decide_eq_true g)) H2 e12
    have g2 : oppL l ∈ ls' := by simpa using g
    refine ⟨_, rfl, .ref x, rfl, .inl ⟨x, l, rfl, e12 _ _ hx, ol, fun o H3 e3 ho0 ho => ⟨_, rfl, ?_⟩⟩⟩
    have e13 := e12.trans e3
    have A1 := C1.at_
    have A2 := C2.at_
    obtain ⟨zs, rfl, rfl, hz⟩ := C1.L.zip
    obtain ⟨ys, rfl, rfl, hy'⟩ := C2.L.zip
    have few1 := C1.few
    have few2 := C2.few
    rw [List.length_map] at few1 few2
    have big : 1000 ≤ sizeLine := by decide
    refine ⟨p, rfl, ⟨_, SqT.of (e13 _ _ A1)⟩, fun F1 hF1 => lcF (walk_tup (xs := zs.map fun z => V.ref z.1)) (fun z => decide (z.2 ≠ l)) (fun z => V.ref z.1) (by omega) (fun H' e => SqT.of (e _ _ (e13 _ _ A1))) (fun _ => rfl) (fun z hzm H' e Q q => ?_) (fun z hzm _ H' e Q q => ?_) hF1 fun H4 e4 h4 => ?_⟩
    · exact ⟨_, rfl, _, rfl, rd_ne (e _ _ (e13 _ _ (hz z hzm))) (e _ _ (e13 _ _ hx)) (C1.ok _ (List.mem_map_of_mem hzm)) ol ⟨_, rfl, q H' (Ex.refl _)⟩⟩
    · exact ⟨_, rfl, q H' (Ex.refl _)⟩
    have e14 := e13.trans e4
    refine ⟨_, rfl, q, rfl, ⟨_, SqT.of (e14 _ _ A2)⟩, fun F2 hF2 => lcF (walk_tup (xs := ys.map fun z => V.ref z.1)) (fun z => decide (z.2 ≠ oppL l)) (fun z => V.ref z.1) (by omega) (fun H' e => SqT.of (e _ _ (e14 _ _ A2))) (fun _ => rfl) (fun z hzm H' e Q q => ?_) (fun z hzm _ H' e Q q => ?_) hF2 fun H5 e5 h5 => ?_⟩
    · exact ⟨_, rfl, _, rfl, rd_ne (e _ _ (e14 _ _ (hy' z hzm))) (e _ _ (e4 _ _ ho)) (C2.ok _ (List.mem_map_of_mem hzm)) oo ⟨_, rfl, q H' (Ex.refl _)⟩⟩
    · exact ⟨_, rfl, q H' (Ex.refl _)⟩
    have l1 := List.length_filter_le (fun z : Addr × Lit => decide (z.2 ≠ l)) zs
    have l2 := List.length_filter_le (fun z : Addr × Lit => decide (z.2 ≠ oppL l)) ys
    have e15 := e14.trans e5
    refine ⟨_, rfl, _, rfl, F1, F2, _, _, rfl, rfl, e5 _ _ h4, h5, ?_, fun t ht => ?_⟩
    · rw [List.length_map, List.length_map]
      omega
    have x6 := Ex.new (o := .lst (((zs.filter fun z => decide (z.2 ≠ l)).map fun z => V.ref z.1) ++ (ys.filter fun z => decide (z.2 ≠ oppL l)).map fun z => V.ref z.1)) ht
    have e16 := e15.trans x6
    have LL : Lits (upd H5 t (.lst (((zs.filter fun z => decide (z.2 ≠ l)).map fun z => V.ref z.1) ++ (ys.filter fun z => decide (z.2 ≠ oppL l)).map fun z => V.ref z.1))) (((zs.filter fun z => decide (z.2 ≠ l)).map fun z => V.ref z.1) ++ (ys.filter fun z => decide (z.2 ≠ oppL l)).map fun z => V.ref z.1) (resL l (zs.map Prod.snd) (ys.map Prod.snd)) := by
      have := Lits.of_zip (H := upd H5 t (.lst (((zs.filter fun z => decide (z.2 ≠ l)).map fun z => V.ref z.1) ++ (ys.filter fun z => decide (z.2 ≠ oppL l)).map fun z => V.ref z.1))) (zs := (zs.filter fun z => decide (z.2 ≠ l)) ++ ys.filter fun z => decide (z.2 ≠ oppL l)) fun z hz0 => by
        rcases List.mem_append.mp hz0 with h | h
        · exact e16 _ _ (hz z (List.mem_filter.mp h).1)
        · exact e16 _ _ (hy' z (List.mem_filter.mp h).1)
      rw [List.map_append, List.map_append, filt_snd, filt_snd] at this
      exact this
    refine ⟨t, _, _, rfl, .inl (SqL.of upd_same), LL, ?_, fun u us' ls' H7 e7 hu L7 mem asc => yes g1 g2 u us' ls' H7 (e16.trans e7) hu L7 mem asc⟩
    have := LL.len
    rw [List.length_append, List.length_map, List.length_map] at this
    omega
/-- a clause that is handed in: good, with a bad item, or no clause -/
def ArgC (K : PySem.W.Frag) (cL cC : Addr) (H : Hp) (v : V) (E : XK) (go : List Lit → Prop) : Prop :=
  (∃ p us ls, v = .ref p ∧ Seq K H p us ∧ Lits H us ls ∧ (∀ l ∈ ls, LitOk l) ∧ ls.length ≤ 30 ∧ go ls) ∨
  (∃ p us ls i bad, v = .ref p ∧ Seq K H p us ∧ us[i]? = some bad ∧ AnyV K H bad false ∧ Lits H (us.take i) ls ∧ (∀ l ∈ ls, LitOk l) ∧ Raised cL "value" bad H E) ∨
  (NoSeq K H v ∧ Raised cC "value" v H E)
theorem ArgC.ex {K : PySem.W.Frag} {cL cC : Addr} {H H' : Hp} {v : V} {E : XK} {go : List Lit → Prop} (h : ArgC K cL cC H v E go) (e : Ex H H') : ArgC K cL cC H' v E go := by
  rcases h with ⟨p, us, ls, h1, h2, h3, h⟩ | ⟨p, us, ls, i, bad, h1, h2, h3, h4, h5, h6, h7⟩ | ⟨h1, h2⟩
  · exact .inl ⟨p, us, ls, h1, h2.ex e, h3.ex e, h⟩
  · exact .inr (.inl ⟨p, us, ls, i, bad, h1, h2.ex e, h3, h4.ex e, h5.ex e, h6, h7.ex e⟩)
  · exact .inr (.inr ⟨h1.ex e, h2.ex e⟩)
theorem ArgC.sp {K : PySem.W.Frag} {cL cC : Addr} {H : Hp} {v : V} {Q : VK} {E : XK} {go : List Lit → Prop} (h : ArgC K cL cC H v E go) (fin : ∀ ls u us' ls' H', go ls → (∀ l ∈ ls, LitOk l) → ls.length ≤ 30 → Ex H H' → H' u = some (.tup us') → Lits H' us' ls' → (∀ l, l ∈ ls' ↔ l ∈ ls) → AscL ls' → Q (.ref u) H') : spClause K cL cC [v] H Q E := by
  rcases h with ⟨p, us, ls, h1, h2, h3, h4, h5, h⟩ | h | h
  · exact ⟨v, rfl, .inl ⟨p, us, ls, h1, h2, h3, h4, by omega, fun u us' ls' H' e hu L m a => fin ls u us' ls' H' h h4 h5 e hu L m a⟩⟩
  · exact ⟨v, rfl, .inr (.inl h)⟩
  · exact ⟨v, rfl, .inr (.inr h)⟩
def PivQ (cP : Addr) (H : Hp) (x : Addr) (l : Lit) (ls ls' : List Lit) (Q : VK) (E : XK) : Prop := (l ∉ ls ∨ oppL l ∉ ls' → Raised cP "pivot" (.ref x) H E) ∧ (l ∈ ls → oppL l ∈ ls' → Good H (resL l ls ls') Q)
def spResolve (K : PySem.W.Frag) (cL cC cP : Addr) : Sp := fun vs H Q E => ∃ (v v' : V) (x : Addr) (l : Lit), vs = [v, .ref x, v'] ∧ H x = some (.tup (litV l)) ∧ LitOk l ∧ LitOk (oppL l) ∧ ArgC K cL cC H v E fun ls => ArgC K cL cC H v' E fun ls' => PivQ cP H x l ls ls' Q E
theorem mem_resL {l z : Lit} {a b : List Lit} : z ∈ resL l a b ↔ (z ∈ a ∧ z ≠ l) ∨ (z ∈ b ∧ z ≠ oppL l) := by
  unfold resL
  rw [List.mem_append, List.mem_filter, List.mem_filter]
  simp only [decide_eq_true_eq]
theorem ok_resolve (T : TX K mg a) (D : FDS K a d) (R : ER K mg P a fL fC fU fP) : FnOk P w K mg base (L2N.CX P w) 7 a.a_resolve d.a_resolve ["clause", "pivot", "other"] (spResolve K a.cL a.cC a.cP) := by
  have G_clause_of : FnOk P w K mg base (L2N.CX P w) 5 a.a_clause_of d.a_clause_of ["literals"] (spClause K a.cL a.cC) := ok_clause_of T D R
  have G_resolvent : FnOk P w K mg base CX0 6 a.a_resolvent d.a_resolvent ["first", "pivot", "second"] spResolvent := ok_resolvent T D R
  refine NX.okX D.F_resolve sc_resolve (fun vs H Q E h => ?_) (fun cdv A outer s H vs Q E hr h => ?_)
  · obtain ⟨v, v', x, l, rfl, _⟩ := h
    rfl
  · obtain ⟨v, v', x, l, rfl, hx, ol, oo, h⟩ := h
    refine ⟨_, (pss_cons (ps_set (i := 3) sc_resolve.nd rfl (Or.inl rfl) (pe_call G_clause_of (hr.mono (by decide)) rfl T.f_clause_of T.k_clause_of D.B_clause_of .nil (L2N.passes_call (L2N.takes_of rfl rfl rfl rfl) (fun _ _ _ _ h => h)) (pa_cons (pv 0) pa_nil)))
        (pss_cons (ps_set (i := 4) sc_resolve.nd rfl (Or.inl rfl) (pe_call G_clause_of (hr.mono (by decide)) rfl T.f_clause_of T.k_clause_of D.B_clause_of .nil (L2N.passes_call (L2N.takes_of rfl rfl rfl rfl) (fun _ _ _ _ h => h)) (pa_cons (pv 2) pa_nil)))
        (pss_cons (ps_set (i := 5) sc_resolve.nd rfl (Or.inl rfl) (pe_call G_resolvent (hr.mono (by decide)) rfl T.f_resolvent T.k_resolvent D.B_resolvent .nil pass0 (pa_cons (pv 3) (pa_cons (pv 1) (pa_cons (pv 4) pa_nil)))))
        (pss_cons (ps_if (pt_cmpR op_isN (pv 5) pe_non (nomark _)) (pss_one (NX.ps_raiseSup rfl R.eP hr (L2N.takes_of rfl rfl rfl rfl) (by exact (pa_cons (pv 1) pa_nil)))) pss_nil)
        (pss_one (ps_ret (pv 5))))))), ?_⟩
    refine ⟨_, rfl, h.sp fun ls u us un H1 h2 ok1 few1 e1 hu L1 mem1 asc1 => ⟨_, rfl, (h2.ex e1).sp fun ls' u' us' un' H2 piv ok2 few2 e2 hu' L2 mem2 asc2 => ?_⟩⟩
    have e12 := e1.trans e2
    have C1 : Cl H2 u us un := ⟨e2 _ _ hu, L1.ex e2, fun l hl => ok1 l ((mem1 l).mp hl), Nat.le_trans (asc_len asc1 mem1) few1⟩
    have C2 : Cl H2 u' us' un' := ⟨hu', L2, fun l hl => ok2 l ((mem2 l).mp hl), Nat.le_trans (asc_len asc2 mem2) few2⟩
    refine ⟨_, rfl, _, rfl, _, rfl, u, x, u', us, us', un, un', l, rfl, C1, e12 _ _ hx, ol, oo, C2, fun no H3 e3 => ?_, fun g1 g2 t ts tl H3 e3 ht TL memt asct => ?_⟩
    · refine ⟨_, rfl, rfl, _, rfl, iteT' rfl ⟨_, rfl, _, rfl, fun dd hdd => ?_⟩⟩
      have e13 := e12.trans e3
      refine piv.1 ?_ dd _ (e13.trans (Ex.new hdd)) (fresh_back e13 hdd) upd_same
      rwa [mem1, mem2] at no
    · have e13 := e12.trans e3
      refine ⟨_, rfl, rfl, _, rfl, iteF' rfl ⟨_, rfl, piv.2 ((mem1 l).mp g1) ((mem2 _).mp g2) t ts tl H3 e13 ht TL (fun z => ?_) asct⟩⟩
      rw [memt, mem_resL, mem_resL, mem1, mem2]
end
end F5
set_option maxRecDepth 100000
set_option maxHeartbeats 8000000
namespace F5
open PySem L2 Evl GP HR SC SetM SetH RQ
/-- all but b is as it was -/
structure Kp (b : Addr) (H H' : Hp) : Prop where
  k : ∀ a o, a ≠ b → H a = some o → H' a = some o
theorem Kp.refl (b : Addr) (H : Hp) : Kp b H H := ⟨fun _ _ _ h => h⟩
theorem Kp.trans {b : Addr} {H H1 H2 : Hp} (x : Kp b H H1) (y : Kp b H1 H2) : Kp b H H2 := ⟨fun a o n h => y.k a o n (x.k a o n h)⟩
theorem Kp.ex {b : Addr} {H H1 : Hp} (x : Ex H H1) : Kp b H H1 := ⟨fun a o _ h => x a o h⟩
theorem Kp.mut {b l : Addr} {H H' : Hp} {o : HO} (x : Kp b H H') (hl : H l = none) : Kp b H (upd H' l o) := ⟨fun a u n h => by
  rw [upd_ne (ne_of_none h hl)]
  exact x.k a u n h⟩
theorem Kp.box {b : Addr} {H : Hp} {o : HO} : Kp b H (upd H b o) := ⟨fun a u n h => by rw [upd_ne n]; exact h⟩
/-- at b the box: how often it was asked, a number, a mix, and the cells that are left -/
def Bx (b : Addr) (H : Hp) : Prop := ∃ (n c t : Int) (ns : List Int), H b = some (.lst (.int n :: .int c :: .int t :: ns.map V.int)) ∧ 0 ≤ c
theorem Bx.ex {b : Addr} {H H1 : Hp} (x : Bx b H) (e : Ex H H1) : Bx b H1 := by
  obtain ⟨n, c, t, ns, h, r0⟩ := x
  exact ⟨n, c, t, ns, e _ _ h, r0⟩
theorem Bx.ne {b l : Addr} {H : Hp} (x : Bx b H) (hl : H l = none) : l ≠ b := by
  obtain ⟨n, c, t, ns, h, r0⟩ := x
  exact (ne_of_none h hl).symm
theorem Bx.upd {b l : Addr} {H : Hp} {o : HO} (x : Bx b H) (n : l ≠ b) : Bx b (upd H l o) := by
  obtain ⟨n', c, t, ns, h, r0⟩ := x
  exact ⟨n', c, t, ns, by rw [upd_ne n.symm]; exact h, r0⟩
theorem Kp.at {b : Addr} {H0 H H' : Hp} (y : Kp b H H') {a : Addr} {o : HO} (X : Bx b H0) (n : H0 a = none) (h : H a = some o) : H' a = some o := y.k a o (X.ne n) h
theorem Kp.back {b : Addr} {H H1 : Hp} {l : Addr} (k : Kp b H H1) (X : Bx b H1) (h : H1 l = none) : H l = none := by
  cases e : H l with
  | none => rfl
  | some o =>
    have := k.k l o (X.ne h) e
    rw [h] at this
    cases this
/-- all but lists stays -/
def Tp (H H' : Hp) : Prop := ∀ (t : Addr) (o : HO), (∀ xs, o ≠ .lst xs) → H t = some o → H' t = some o
theorem Tp.refl (H : Hp) : Tp H H := fun _ _ _ h => h
theorem Tp.trans {H H1 H2 : Hp} (x : Tp H H1) (y : Tp H1 H2) : Tp H H2 := fun t o n h => y t o n (x t o n h)
theorem Tp.ex {H H1 : Hp} (x : Ex H H1) : Tp H H1 := fun t o _ h => x t o h
theorem Tp.tup {H H1 : Hp} (x : Tp H H1) {t : Addr} {vs : List V} (h : H t = some (.tup vs)) : H1 t = some (.tup vs) := x t _ (fun _ e => nomatch e) h
theorem Kp.tp {b : Addr} {H H' : Hp} (k : Kp b H H') (X : Bx b H) : Tp H H' := fun t o n h => k.k t o (fun e => by
  obtain ⟨r, m, q, ns, hb, _⟩ := X
  rw [e, hb] at h
  exact n _ (Option.some.inj h).symm) h
theorem Tp.lst {H : Hp} {D : Addr} {xs ys : List V} (h : H D = some (.lst xs)) : Tp H (upd H D (.lst ys)) := fun t o n ht => by
  rw [upd_ne (fun e => by rw [e, h] at ht; exact n _ (Option.some.inj ht).symm)]
  exact ht
theorem Lits.tp {H H' : Hp} {vs : List V} {ls : List Lit} (A : Lits H vs ls) (e : Tp H H') : Lits H' vs ls := ⟨A.len, fun i q h => by
  obtain ⟨t, h1, h2⟩ := A.at_ i q h
  exact ⟨t, h1, e.tup h2⟩⟩
section
variable {K : PySem.W.Frag} {σ : L2.St} {H1 : Hp} {J : It} {G : Hp → Prop} {te : TE} {n : Nat} {Y : Nat → Hp → V → Hp → Prop} {b : Addr}
/-- each item is drawn -/
theorem lcK (w : Walk J n G Y) (hY : ∀ i H x H', Y i H x H' → H' = H) {R : Nat → Hp → V → Prop} (st : ∀ i v H H', Tp H H' → R i H v → R i H' v) (X : Bx b H1) {j : Nat} {vs : List Nat} (hz : n < sizeLine) (hG : ∀ H', Kp b H1 H' → G H') (hw : ∀ v, wipe ((wipe σ vs).set j (some v)) vs = wipe σ vs)
    (he : ∀ (i : Nat) (x : V) (H' : Hp), i < n → Y i H' x H' → Kp b H1 H' → Bx b H' → ∀ Q : VK, (∀ v H'', Kp b H' H'' → Bx b H'' → R i H'' v → Q v H'') → te ((wipe σ vs).set j (some x)) H' Q) {Qd : Hp → Prop} {D : Addr} (hD : H1 D = none) (k : ∀ H' acc, Kp b H1 H' → Bx b H' → H' D = some (.lst acc) → acc.length = n → (∀ (i : Nat) (v : V), acc[i]? = some v → R i H' v) → Qd H') :
    ∃ W : Nat → Nat → Hp → Prop, (∃ m, W 0 m (upd H1 D (.lst []))) ∧ ∀ i m H, W i m H →
      (J.stop i H ∧ Qd H) ∨ (J.go i H ∧ ∃ Nx : Hp → Prop, (∀ H', Nx H' → ∃ m', m' < m ∧ W (i + 1) m' H') ∧ ∀ x H', J.yld i H x H' → gName j x (wipe σ vs) H' fun σ2 H2 => wipe σ2 vs = wipe σ vs ∧ tYes σ2 H2 fun b H3 =>
        if b = true then te σ2 H3 fun y H4 => ∃ acc, H4 D = some (.lst acc) ∧ acc.length < sizeLine ∧ Nx (upd H4 D (.lst (acc ++ [y]))) else Nx H3) := by
  have nD : D ≠ b := X.ne hD
  refine lc_it w (fun i H => Kp b H1 H ∧ Bx b H ∧ ∃ acc : List V, H D = some (.lst acc) ∧ acc.length = i ∧ ∀ (j : Nat) (v : V), acc[j]? = some v → R j H v) ⟨Kp.ex (Ex.new hD), X.ex (Ex.new hD), [], upd_same, rfl, fun j v h => by simp at h⟩ (fun i H _ p => hG H p.1) ?_ (fun H p => ?_)
  · rintro i x H H' hi ⟨k1, X1, acc, ha, hlen, A⟩ y
    obtain rfl := hY i H x H' y
    unfold gName tYes
    dsimp only
    refine ⟨hw _, ?_⟩
    rw [if_pos rfl]
    refine he i x _ hi y k1 X1 _ fun v H4 k4 X4 r => ⟨acc, k4.k _ _ nD ha, by omega, (k1.trans k4).mut hD, X4.upd nD, _, upd_same, by rw [List.length_append, hlen]; rfl, ?_⟩
    have hD4 := k4.k _ _ nD ha
    intro j v' hj
    by_cases hji : j < i
    · rw [List.getElem?_append_left (by omega)] at hj
      exact st _ _ _ _ (Tp.lst hD4) (st _ _ _ _ (k4.tp X1) (A j v' hj))
    · have : j = i := by
        have := (List.getElem?_eq_some_iff.mp hj).1
        rw [List.length_append, List.length_singleton] at this
        omega
      subst this
      rw [List.getElem?_append_right (by omega), hlen, Nat.sub_self] at hj
      cases hj
      exact st _ _ _ _ (Tp.lst hD4) r
  · obtain ⟨k1, X1, acc, ha, hlen, A⟩ := p
    exact k H acc k1 X1 ha hlen A
end
theorem cutV_take {xs : List V} {k : Nat} : L2.cutV xs none (some (k : Int)) = xs.take k := by
  unfold L2.cutV
  rw [HT.sIx_none, HT.sIx_nat]
  simp
theorem ixk {xs : List V} (k : Nat) (h : k < xs.length) : ixN xs.length (k : Int) = some k := by
  unfold ixN
  rw [if_pos (by omega), if_pos (by omega)]
  rfl
def bxl (n c t : Int) (ns : List Int) : List V := .int n :: .int c :: .int t :: ns.map V.int
theorem bx0 (n c t : Int) (ns : List Int) : ixN (bxl n c t ns).length 0 = some 0 := ixk 0 (by simp [bxl])
theorem bx1 (n c t : Int) (ns : List Int) : ixN (bxl n c t ns).length 1 = some 1 := ixk 1 (by simp [bxl])
theorem bx2 (n c t : Int) (ns : List Int) : ixN (bxl n c t ns).length 2 = some 2 := ixk 2 (by simp [bxl])
def spBox (K : PySem.W.Frag) : Sp := fun vs H Q _ => ∃ (a : Addr) (ns : List Int), vs = [.ref a] ∧ SqL K H a (ns.map V.int) ∧ ∀ b H', Ex H H' → H b = none → Bx b H' → Q (.ref b) H'
def spTake : Sp := fun vs H Q _ => ∃ (b : Addr) (size : Int), vs = [.ref b, .int size] ∧ Bx b H ∧ 0 < size ∧ size.natAbs.log2 < 9000 ∧ ∀ (d : Int) H', Kp b H H' → Bx b H' → 0 ≤ d → d < size → Q (.int d) H'
section
variable {P : Program} {w : World} {K : PySem.W.Frag} {mg : Str → Option Value} {base : Heap} {a : Ad} {d : Fd}
theorem ok_law_take (T : TX K mg a) (D : FDS K a d) : FnOk P w K mg base CX0 1 a.a_law_take d.a_law_take ["box", "size"] spTake := by
  refine D.F__law_take.ok sc_law_take (fun vs H Q E h => ?_) (fun cdv A outer s H vs Q E hr h => ?_)
  · obtain ⟨b, size, rfl, _⟩ := h
    rfl
  · obtain ⟨b, size, rfl, ⟨n, c, t, ns, h1, c0⟩, s0, s9, q⟩ := h
    refine ⟨_, (pss_cons (ps_asg (pe_op op_add (pe_ix (ix_listK (K := K)) (pv 0) pe_int (fun _ _ => rfl)) pe_int) (pg_sub (pv 0) pe_int set_list))
        (Evl.pss_cut (ps_if (PW.pt (pw_and (pt_cmpR op_eq (pe_ix (ix_listK (K := K)) (pv 0) pe_int (fun _ _ => rfl)) pe_int (nomark _)) (pw_and1 (pt_cmpR op_gt (pe_callB call_len_seq (by rfl) T.b_len (by decide +kernel) (pa_cons (pv 0) pa_nil)) pe_int (nomark _))))) (pss_cons (ps_set (i := 2) sc_law_take.nd rfl (Or.inl rfl) (pe_bm PySem.F.plainAttrs_list PySem.F.slot_list_pop PySem.F.type_list_pop mt_popAt (pv 0) (pa_cons pe_int pa_nil)))
        (pss_one (ps_if (pt_cmpR op_ge (pe_callB call_abs (by rfl) T.b_abs (by decide +kernel) (pa_cons (pv 2) pa_nil)) (pe_op op_pow pe_int pe_int) (nomark _)) (pss_one (ps_asg (pe_callB call_abs (by rfl) T.b_abs (by decide +kernel) (pa_cons (pv 2) pa_nil)) (pg_sub (pv 0) pe_int set_list))) (pss_one (ps_asg (pe_op op_modN (pe_callTy call_int1 (by rfl) T.b_int (by decide +kernel) (pa_cons (pe_op op_add (pe_op op_add (pe_op op_mul (pe_ix (ix_listK (K := K)) (pv 0) pe_int (fun _ _ => rfl)) pe_int) (pe_op op_mul (pv 2) pe_int)) (pe_ix (ix_listK (K := K)) (pv 0) pe_int (fun _ _ => rfl))) pa_nil)) pe_int) (pg_sub (pv 0) pe_int set_list)))))) pss_nil)
        (pss_cons (ps_if (pt_cmpR op_gt (pe_ix (ix_listK (K := K)) (pv 0) pe_int (fun _ _ => rfl)) pe_int (nomark _)) (pss_cons (ps_set (i := 3) sc_law_take.nd rfl (Or.inl rfl) (pe_op op_modN (pe_callTy call_int1 (by rfl) T.b_int (by decide +kernel) (pa_cons (pe_ix (ix_listK (K := K)) (pv 0) pe_int (fun _ _ => rfl)) pa_nil)) (pv 1)))
        (pss_cons (ps_asg (pe_op op_fdivW (pe_ix (ix_listK (K := K)) (pv 0) pe_int (fun _ _ => rfl)) (pv 1)) (pg_sub (pv 0) pe_int set_list))
        (pss_one (ps_ret (pv 3))))) pss_nil)
        (pss_cons (ps_set (i := 4) sc_law_take.nd rfl (Or.inl rfl) (pe_op op_modN (pe_callTy call_int1 (by rfl) T.b_int (by decide +kernel) (pa_cons (pe_op op_add (pe_op op_add (pe_op op_mul (pe_ix (ix_listK (K := K)) (pv 0) pe_int (fun _ _ => rfl)) pe_int) (pe_op op_mul (pe_ix (ix_listK (K := K)) (pv 0) pe_int (fun _ _ => rfl)) pe_int)) pe_int) pa_nil)) pe_int))
        (pss_cons (ps_set (i := 4) sc_law_take.nd rfl (Or.inl rfl) (pe_op op_modN (pe_callTy call_int1 (by rfl) T.b_int (by decide +kernel) (pa_cons (pe_op op_add (pe_op op_add (pe_op op_mul (pv 4) (pv 4)) (pe_op op_fdivN (pv 4) pe_int)) (pe_op op_mul (pe_ix (ix_listK (K := K)) (pv 0) pe_int (fun _ _ => rfl)) pe_int)) pa_nil)) pe_int))
        (pss_one (ps_ret (pe_op op_modN (pe_op op_fdivN (pv 4) pe_int) (pv 1))))))))), ?_⟩
    have rng : ∀ z : Int, 0 ≤ Int.fmod z size ∧ Int.fmod z size < size := fun z => by
      rw [Int.fmod_eq_emod_of_nonneg _ (by omega)]
      exact ⟨Int.emod_nonneg _ (by omega), Int.emod_lt_of_pos _ s0⟩
    have fd : ∀ z : Int, 0 ≤ z → 0 ≤ Int.fdiv z size := fun z h => by
      rw [Int.fdiv_eq_ediv_of_nonneg _ (by omega)]
      exact Int.ediv_nonneg h (by omega)
    have ab : ∀ i : Int, 0 ≤ (if i < 0 then -i else i) := fun i => by split <;> omega
    refine ⟨_, rfl, b, _, 0, _, rfl, rfl, SqL.of h1, at_lit (n := 0) rfl rfl, _, _, rfl, rfl, _, rfl, b, _, 0, 0, rfl, rfl, h1, bx0 n c t ns, ?_⟩
    generalize hH2 : upd H b _ = H2
    have h2 : H2 b = some (.lst (.int (n + 1) :: .int c :: .int t :: ns.map V.int)) := by rw [← hH2]; exact upd_same
    have k2 : Kp b H H2 := by rw [← hH2]; exact Kp.box
    generalize n + 1 = n at *
    refine ⟨fun σ' H' => (∃ u, σ' = [some (.ref b), some (.int size), u, none, none]) ∧ Kp b H H' ∧ Bx b H', ?_, ?_⟩
    · have fin : (∃ u, [some (V.ref b), some (V.int size), none, none, none] = [some (V.ref b), some (.int size), u, none, none]) ∧ Kp b H H2 ∧ Bx b H2 := ⟨⟨none, rfl⟩, k2, n, c, t, ns, h2, c0⟩
      refine ⟨_, rfl, b, _, 1, _, rfl, rfl, SqL.of h2, at_lit (n := 1) rfl rfl, rfl, _, rfl, ite2 (fun g1 => ?_) (fun g1 => iteF fin)⟩
      refine ⟨_, rfl, b, _, rfl, .inl (SqL.of h2), _, _, rfl, rfl, _, rfl, ite2 (fun g2 => ?_) (fun g2 => fin)⟩
      have g3 : (3 : Int) < ((bxl n c t ns).length : Nat) := of_decide_eq_true g2
      have g4 : 0 < ns.length := by
        unfold bxl at g3
        simp only [List.length_cons, List.length_map] at g3
        omega
      cases ns with
      | nil => exact absurd g4 (by decide)
      | cons m ns =>
      refine ⟨_, rfl, .inl ⟨rfl, _, SqL.of h2⟩, b, _, 3, 3, .int m, rfl, rfl, h2, by decide, by decide, (ixN_seq (ixk (xs := bxl n c t (m :: ns)) 3 (by simp [bxl]))).1, rfl, ?_⟩
      dsimp only
      generalize hH3 : upd H2 b _ = H3
      have h3 : H3 b = some (.lst (bxl n c t ns)) := by rw [← hH3]; exact upd_same
      have k3 : Kp b H H3 := k2.trans (by rw [← hH3]; exact Kp.box)
      refine ⟨_, rfl, _, rfl, _, _, rfl, rfl, ⟨by decide, by decide, by decide⟩, _, _, rfl, rfl, _, rfl, ite2 (fun g5 => ?_) (fun g5 => ?_)⟩
      · exact ⟨_, rfl, _, rfl, _, rfl, b, _, 1, 1, rfl, rfl, h3, bx1 n c t ns, ⟨_, rfl⟩, k3.trans Kp.box, n, _, t, ns, upd_same, ab _⟩
      · refine ⟨_, rfl, b, _, 2, _, rfl, rfl, SqL.of h3, at_lit (n := 2) rfl rfl, _, _, rfl, rfl, .inr (by decide), _, rfl, _, _, rfl, rfl, .inr (by decide), _, _, rfl, rfl, _, rfl, b, _, 0, _, rfl, rfl, SqL.of h3, at_lit (n := 0) rfl rfl, _, _, rfl, rfl, .inl ⟨_, rfl, _, _, rfl, rfl, (by show (2147483647 : Int) ≠ 0; decide), _, rfl, b, _, 2, 2, rfl, rfl, h3, bx2 n c t ns, ⟨_, rfl⟩, k3.trans Kp.box, n, c, _, ns, upd_same, c0⟩⟩
    · rintro σ' H3 ⟨⟨u, rfl⟩, k3, n, c, t, ns, h3, c0⟩
      refine ⟨_, rfl, b, _, 1, _, rfl, rfl, SqL.of h3, at_lit (n := 1) rfl rfl, _, _, rfl, rfl, _, rfl, ite2 (fun g1 => ?_) (fun g1 => ?_)⟩
      · refine ⟨_, rfl, b, _, 1, _, rfl, rfl, SqL.of h3, at_lit (n := 1) rfl rfl, .inl ⟨_, rfl, _, rfl, _, _, rfl, rfl, by omega, ?_⟩⟩
        exact ⟨_, rfl, b, _, 1, _, rfl, rfl, SqL.of h3, at_lit (n := 1) rfl rfl, _, rfl, _, _, rfl, rfl, ⟨s0, s9⟩, _, rfl, b, _, 1, 1, rfl, rfl, h3, bx1 n c t ns, _, rfl, q _ _ (k3.trans Kp.box) ⟨n, _, t, ns, upd_same, Int.ediv_nonneg c0 (by omega)⟩ (rng _).1 (rng _).2⟩
      · refine ⟨_, rfl, b, _, 2, _, rfl, rfl, SqL.of h3, at_lit (n := 2) rfl rfl, _, _, rfl, rfl, .inr (by decide), _, rfl, b, _, 0, _, rfl, rfl, SqL.of h3, at_lit (n := 0) rfl rfl, _, _, rfl, rfl, .inr (by decide), _, _, rfl, rfl, _, _, rfl, rfl, .inl ⟨_, rfl, _, _, rfl, rfl, (by show (2147483647 : Int) ≠ 0; decide), ?_⟩⟩
        dsimp only
        generalize hz : Int.fmod _ 2147483647 = z
        have z0 : 0 ≤ z ∧ z < 2147483647 := by
          rw [← hz, Int.fmod_eq_emod_of_nonneg _ (by decide)]
          exact ⟨Int.emod_nonneg _ (by decide), Int.emod_lt_of_pos _ (by decide)⟩
        refine ⟨_, rfl, _, rfl, _, _, rfl, rfl, .inl (by constructor <;> omega), _, rfl, _, _, rfl, rfl, ⟨by decide, by decide⟩, _, _, rfl, rfl, _, rfl, b, _, 0, _, rfl, rfl, SqL.of h3, at_lit (n := 0) rfl rfl, _, _, rfl, rfl, .inr (by decide), _, _, rfl, rfl, .inl ⟨_, rfl, _, _, rfl, rfl, (by show (2147483629 : Int) ≠ 0; decide), ?_⟩⟩
        dsimp only
        generalize Int.fmod _ 2147483629 = y
        exact ⟨_, rfl, _, _, rfl, rfl, ⟨by decide, by decide⟩, _, rfl, _, _, rfl, rfl, by omega, q _ _ k3 ⟨n, c, t, ns, h3, c0⟩ (rng _).1 (rng _).2⟩
theorem ok_law_box (T : TX K mg a) (D : FDS K a d) : FnOk P w K mg base CX0 1 a.a_law_box d.a_law_box ["script"] (spBox K) := by
  refine D.F__law_box.ok sc_law_box (fun vs H Q E h => ?_) (fun cdv A outer s H vs Q E hr h => ?_)
  · obtain ⟨a, ns, rfl, _⟩ := h
    rfl
  · obtain ⟨a, ns, rfl, ha, fin⟩ := h
    refine ⟨_, (pss_cons (ps_set (i := 1) sc_law_box.nd rfl (Or.inl rfl) pe_int)
        (pss_cons (ps_for PassesOwn.never rfl (pi_list (pe_slice sl_list (pv 0) po_none (po_some pe_int))) (pg_name (i := 2) sc_law_box.nd rfl (Or.inl rfl)) (pss_one (ps_set (i := 1) sc_law_box.nd rfl (Or.inl rfl) (pe_op op_modN (pe_callTy call_int1 (by rfl) T.b_int (by decide +kernel) (pa_cons (pe_op op_add (pe_op op_mul (pv 1) pe_int) (pv 2)) pa_nil)) pe_int))))
        (pss_one (ps_ret (pe_op op_cat (pe_lst (pa_cons pe_int (pa_cons pe_int (pa_cons (pv 1) pa_nil)))) (pe_lc (own := [("cell", 2)]) (g := gName 2) (tt := tYes) rfl sc_law_box.nd (pi_list (pe_slice sl_list (pv 0) po_none (po_some pe_int))) (blkOk_by (N := ["script", "total", "cell"]) (sc := defScope s_law_box) (by decide +kernel)) (fun _ _ _ _ _ => (pg_name (i := 2) sc_law_box.nd rfl (Or.inl rfl))) (fun _ _ _ _ _ => pts_nil) (fun _ _ _ _ _ => (pe_callTy call_int1 (by rfl) T.b_int (by decide +kernel) (pa_cons (pv 2) pa_nil))))))))), ?_⟩
    have big : 1000 ≤ sizeLine := by decide
    refine ⟨_, rfl, 63, rfl, a, _, rfl, ha, fun p hp => ?_⟩
    have x1 := Ex.new (o := .lst (L2.cutV (ns.map V.int) none (some 63))) hp
    have hp1 : upd H p (.lst (L2.cutV (ns.map V.int) none (some 63))) p = some (.lst ((ns.take 63).map V.int)) := by
      rw [upd_same, List.map_take]
      exact congrArg (fun z => some (HO.lst z)) (cutV_take (k := 63))
    have ha1 := ex_l x1 ha
    generalize upd H p (.lst (L2.cutV (ns.map V.int) none (some 63))) = H1 at *
    refine ⟨p, rfl, ⟨_, SqL.of hp1⟩, for_it (walk_list (xs := (ns.take 63).map V.int)) (fun i σ H' => ∃ (t : Int) (o : Option V), σ = [some (.ref a), some (.int t), o] ∧ Ex H1 H') ⟨0, none, rfl, Ex.refl _⟩ (fun i σ H' _ ⟨_, _, _, e⟩ => SqL.of (e _ _ hp1)) ?_ ?_⟩
    · rintro i x σ H2 H2' hi ⟨t, o, rfl, e2⟩ ⟨rfl, hx⟩
      rw [List.getElem?_map] at hx
      obtain ⟨n, _, rfl⟩ := Option.map_eq_some_iff.mp hx
      exact ⟨_, rfl, _, _, rfl, rfl, .inr (by decide), _, rfl, _, _, rfl, rfl, .inl ⟨_, rfl, _, _, rfl, rfl, (by show (1000003 : Int) ≠ 0; decide), _, _, rfl, e2⟩⟩
    · rintro σ H2 ⟨t, o, rfl, e2⟩
      refine ⟨_, rfl, (by show 3 ≤ sizeLine; decide), fun f hf => ?_⟩
      have x3 := Ex.new (o := .lst [.int 0, .int 0, .int t]) hf
      have hf3 : upd H2 f (.lst [.int 0, .int 0, .int t]) f = some (.lst [.int 0, .int 0, .int t]) := upd_same
      have ha3 := ex_l (e2.trans x3) ha1
      have x13 := x1.trans (e2.trans x3)
      generalize upd H2 f (.lst [.int 0, .int 0, .int t]) = H3 at *
      refine ⟨_, rfl, 63, rfl, a, _, rfl, ha3, fun p hp => ?_⟩
      have x4 := Ex.new (o := .lst (L2.cutV (ns.map V.int) none (some 63))) hp
      have hp4 : upd H3 p (.lst (L2.cutV (ns.map V.int) none (some 63))) p = some (.lst ((ns.take 63).map V.int)) := by
        rw [upd_same, List.map_take]
        exact congrArg (fun z => some (HO.lst z)) (cutV_take (k := 63))
      have hf4 := x4 _ _ hf3
      generalize upd H3 p (.lst (L2.cutV (ns.map V.int) none (some 63))) = H4 at *
      have few : (ns.take 63).length ≤ 63 := by rw [List.length_take]; omega
      refine ⟨p, rfl, ⟨_, SqL.of hp4⟩, fun F1 hF1 => lcM (walk_list (xs := (ns.take 63).map V.int)) (fun z => V.int z) (by omega) (fun H' e => SqL.of (e _ _ hp4)) (fun _ => rfl) (fun z _ H' e Q q => ?_) hF1 fun H5 e5 h5 => ?_⟩
      · exact ⟨_, rfl, .inl ⟨_, rfl, q H' (Ex.refl _)⟩⟩
      · refine ⟨f, F1, _, _, rfl, rfl, e5 _ _ hf4, h5, ?_, fun b hb => ?_⟩
        · rw [List.length_map]
          show 3 + _ ≤ sizeLine
          omega
        have x15 := x13.trans (x4.trans e5)
        exact fin b _ (x15.trans (Ex.new hb)) (fresh_back x15 hb) ⟨0, 0, t, ns.take 63, upd_same, by decide⟩
end
end F5
set_option maxRecDepth 100000
set_option maxHeartbeats 8000000
namespace F5
open PySem L2 Evl GP HR SC SetM SetH RQ
def spNumber : Sp := fun vs H Q _ => ∃ b : Addr, vs = [.ref b] ∧ Bx b H ∧ ∀ (k : Int) H', Kp b H H' → Bx b H' → k.natAbs ≤ 10 ^ 60 → Q (.int k) H'
section
variable {P : Program} {w : World} {K : PySem.W.Frag} {mg : Str → Option Value} {base : Heap} {a : Ad} {d : Fd} {fL fC fU fP : Addr}
theorem ok_law_number (T : TX K mg a) (D : FDS K a d) : FnOk P w K mg base CX0 2 a.a_law_number d.a_law_number ["box"] spNumber := by
  have G__law_take : FnOk P w K mg base CX0 1 a.a_law_take d.a_law_take ["box", "size"] spTake := ok_law_take T D
  refine D.F__law_number.ok sc_law_number (fun vs H Q E h => ?_) (fun cdv A outer s H vs Q E hr h => ?_)
  · obtain ⟨b, rfl, _⟩ := h
    rfl
  · obtain ⟨b, rfl, X, fin⟩ := h
    refine ⟨_, (pss_cons (ps_set (i := 1) sc_law_number.nd rfl (Or.inl rfl) (pe_call G__law_take (hr.mono (by decide)) rfl T.f__law_take T.k__law_take D.B__law_take .nil pass0 (pa_cons (pv 0) (pa_cons pe_int pa_nil))))
        (pss_cons (ps_if (pt_cmpR op_eq (pv 1) pe_int (nomark _)) (pss_one (ps_ret (pe_op op_sub (pe_call G__law_take (hr.mono (by decide)) rfl T.f__law_take T.k__law_take D.B__law_take .nil pass0 (pa_cons (pv 0) (pa_cons (pe_op op_add (pe_op op_mul pe_int (pe_op op_pow pe_int pe_int)) pe_int) pa_nil))) (pe_op op_pow pe_int pe_int)))) pss_nil)
        (pss_cons (ps_if (pt_cmpR op_gt (pv 1) pe_int (nomark _)) (pss_one (ps_ret (pe_op op_sub (pe_call G__law_take (hr.mono (by decide)) rfl T.f__law_take T.k__law_take D.B__law_take .nil pass0 (pa_cons (pv 0) (pa_cons pe_int pa_nil))) pe_int))) pss_nil)
        (pss_one (ps_ret (pe_op op_sub (pe_call G__law_take (hr.mono (by decide)) rfl T.f__law_take T.k__law_take D.B__law_take .nil pass0 (pa_cons (pv 0) (pa_cons pe_int pa_nil))) pe_int)))))), ?_⟩
    have c60 : ((10 : Int) ^ (60 : Int).toNat) = 10 ^ 60 := rfl
    refine ⟨_, rfl, b, 16, rfl, X, by decide, by decide +kernel, fun w1 H1 k1 X1 w0 w8 => ⟨_, rfl, rfl, _, rfl, ite2 (fun g => ?_) (fun g => ⟨_, rfl, _, _, rfl, rfl, _, rfl, ite2 (fun g2 => ?_) (fun g2 => ?_)⟩)⟩⟩
    · refine ⟨_, rfl, _, _, rfl, rfl, ⟨by decide, by decide, by decide⟩, _, _, rfl, rfl, .inl (by decide), _, _, rfl, rfl, b, _, rfl, X1, by decide +kernel, by decide +kernel, fun d1 H2 k2 X2 p0 p1 => ⟨_, _, rfl, rfl, ⟨by decide, by decide, by decide⟩, _, _, rfl, rfl, fin _ H2 (k1.trans k2) X2 ?_⟩⟩
      have p1 : d1 < 2 * (10 : Int) ^ 60 + 1 := p1
      show (d1 - (10 : Int) ^ 60).natAbs ≤ 10 ^ 60
      have : ((10 ^ 60 : Nat) : Int) = (10 : Int) ^ 60 := by decide +kernel
      generalize (10 : Int) ^ 60 = z at *
      generalize (10 : Nat) ^ 60 = y at *
      omega
    · refine ⟨_, rfl, b, 2001, rfl, X1, by decide, by decide +kernel, fun d1 H2 k2 X2 p0 p1 => ⟨_, _, rfl, rfl, fin _ H2 (k1.trans k2) X2 ?_⟩⟩
      have : (2001 : Nat) ≤ 10 ^ 60 := by decide +kernel
      omega
    · refine ⟨_, rfl, b, 9, rfl, X1, by decide, by decide +kernel, fun d1 H2 k2 X2 p0 p1 => ⟨_, _, rfl, rfl, fin _ H2 (k1.trans k2) X2 ?_⟩⟩
      have : (2001 : Nat) ≤ 10 ^ 60 := by decide +kernel
      omega
theorem ok_law_comp (T : TX K mg a) (D : FDS K a d) : FnOk P w K mg base CX0 1 a.a_law_comp d.a_law_comp ["literal"] spOpp := by
  refine D.F__law_comp.ok sc_law_comp (fun vs H Q E h => ?_) (fun cdv A outer s H vs Q E hr h => ?_)
  · obtain ⟨p, l, rfl, _⟩ := h
    rfl
  · obtain ⟨p, l, rfl, hp, ok, fin⟩ := h
    refine ⟨_, (pss_cons (ps_if (pt_cmpR op_eq (pe_ix ix_tup (pv 0) pe_int (fun _ _ => rfl)) pe_str (nomark _)) (pss_one (ps_ret (pe_tup (pa_cons pe_str (pa_cons (pe_ix ix_tup (pv 0) pe_int (fun _ _ => rfl)) (pa_cons (pe_ix ix_tup (pv 0) pe_int (fun _ _ => rfl)) (pa_cons (pe_op op_sub (pe_un un_neg (pe_ix ix_tup (pv 0) pe_int (fun _ _ => rfl))) pe_int) pa_nil))))))) pss_nil)
        (pss_cons (ps_if (pt_cmpR op_eq (pe_ix ix_tup (pv 0) pe_int (fun _ _ => rfl)) pe_str (nomark _)) (pss_one (ps_ret (pe_tup (pa_cons pe_str (pa_cons (pe_ix ix_tup (pv 0) pe_int (fun _ _ => rfl)) pa_nil))))) pss_nil)
        (pss_one (ps_ret (pe_tup (pa_cons pe_str (pa_cons (pe_ix ix_tup (pv 0) pe_int (fun _ _ => rfl)) pa_nil))))))), ?_⟩
    cases l with
    | most x y k =>
      refine ⟨_, rfl, p, _, 0, _, rfl, rfl, SqT.of hp, rfl, rfl, _, rfl, iteT' (by decide +kernel) ?_⟩
      exact ⟨_, rfl, p, _, 2, _, rfl, rfl, SqT.of hp, rfl, _, rfl, p, _, 1, _, rfl, rfl, SqT.of hp, rfl, _, rfl, p, _, 3, _, rfl, rfl, SqT.of hp, rfl, k, rfl, -k, 1, rfl, rfl, (by show 4 ≤ sizeLine; decide), fun t ht => fin t _ (Ex.new ht) ht upd_same⟩
    | yn b x =>
      refine ⟨_, rfl, p, _, 0, _, rfl, rfl, SqT.of hp, rfl, rfl, _, rfl, iteF' (by cases b <;> decide +kernel) ?_⟩
      refine ⟨_, rfl, p, _, 0, _, rfl, rfl, SqT.of hp, rfl, rfl, _, rfl, ?_⟩
      cases b with
      | true => exact iteT' (by decide +kernel) ⟨_, rfl, p, _, 1, _, rfl, rfl, SqT.of hp, rfl, (by show 2 ≤ sizeLine; decide), fun t ht => fin t _ (Ex.new ht) ht upd_same⟩
      | false => exact iteF' (by decide +kernel) ⟨_, rfl, p, _, 1, _, rfl, rfl, SqT.of hp, rfl, (by show 2 ≤ sizeLine; decide), fun t ht => fin t _ (Ex.new ht) ht upd_same⟩
theorem ok_law_normal (T : TX K mg a) (D : FDS K a d) : FnOk P w K mg base CX0 1 a.a_law_normal d.a_law_normal ["literals"] (spNormal K) := by
  refine D.F__law_normal.ok sc_law_normal (fun vs H Q E h => ?_) (fun cdv A outer s H vs Q E hr h => ?_)
  · obtain ⟨p, us, ls, rfl, _⟩ := h
    rfl
  · obtain ⟨p, us, ls, rfl, hp, L, few, fin⟩ := h
    refine ⟨_, (pss_one (ps_ret (pe_callTy call_tuple_of (by rfl) T.b_tuple (by decide +kernel) (pa_cons (pe_callB (SetM.cr_sortedM (K := K) (P := P) (w := w) rfl hr.units) (by rfl) T.b_sorted (by decide +kernel) (pa_cons (pe_callTy (SetM.cr_setM (K := K) (P := P) (w := w) rfl hr.units) (by rfl) T.b_set (by decide +kernel) (pa_cons (pv 0) pa_nil)) pa_nil)) pa_nil)))), ?_⟩
    obtain ⟨ks, eu, ek, hk⟩ := L.keys
    subst eu
    have lk : ks.length = ls.length := by
      have := congrArg List.length ek
      rwa [List.length_map, List.length_map] at this
    refine ⟨_, rfl, p, ks, rfl, hp, fun q hq => ?_, by omega, fun L' S took nd hS => ?_⟩
    · obtain ⟨l, _, e, ht⟩ := hk q hq
      rw [e, litK_V]
      exact SqT.of ht
    · have x1 := Ex.new (o := SetMO P w S L') hS
      have each : ∀ q ∈ L', ∃ l ∈ ls, q.2 = litK l ∧ upd H S (SetMO P w S L') q.1 = some (.tup (litV l)) := fun q hq => by
        obtain ⟨l, hl, e, ht⟩ := hk q (took.from_ q hq)
        exact ⟨l, hl, e, x1 _ _ ht⟩
      have at1 : upd H S (SetMO P w S L') S = some (SetMO P w S L') := upd_same
      generalize upd H S (SetMO P w S L') = H1 at *
      refine ⟨S, L', rfl, at1, fun q hq => ?_, ?_, ?_, fun bs R pm hR => ⟨R, _, rfl, .inl ⟨SqL.of upd_same, fun u hu => ?_⟩⟩⟩
      · obtain ⟨l, _, e, ht⟩ := each q hq
        rw [e, litK_D]
        exact ⟨lit_dp (SqT.of ht), lit_depth l⟩
      · intro x hx y hy
        obtain ⟨q, hq, rfl⟩ := List.mem_map.mp hx
        obtain ⟨r, hr, rfl⟩ := List.mem_map.mp hy
        obtain ⟨l, _, e, _⟩ := each q hq
        obtain ⟨m, _, e2, _⟩ := each r hr
        rw [e, e2, litK_D, litK_D]
        exact lit_alike l m
      · refine .inl fun x hx => ?_
        obtain ⟨q, hq, rfl⟩ := List.mem_map.mp hx
        obtain ⟨l, _, e, _⟩ := each q hq
        rw [e, litK_D]
        cases l <;> exact ⟨_, _, rfl⟩
      · have x2 := Ex.new (o := .lst ((SD.sortedD bs).map Prod.fst)) hR
        have x3 := Ex.new (o := .tup ((SD.sortedD bs).map Prod.fst)) hu
        have pm2 := (SD.sorted_perm bs).trans pm
        have so0 := sortedD_pw bs
        generalize SD.sortedD bs = cs at *
        have each2 : ∀ b ∈ cs, ∃ t l, b.1 = .ref t ∧ b.2 = litD l ∧ H1 t = some (.tup (litV l)) ∧ l ∈ ls := fun b hb => by
          obtain ⟨q, hq, rfl⟩ := List.mem_map.mp (pm2.mem_iff.mp hb)
          obtain ⟨l, hl, e, ht⟩ := each q hq
          exact ⟨q.1, l, rfl, by show enK q.2 = _; rw [e, litK_D], ht, hl⟩
        have LL : Lits H1 (cs.map Prod.fst) (cs.map fun b => litOfD b.2) := Lits.of_each fun b hb => by
          obtain ⟨t, l, e1, e2, h, _⟩ := each2 b hb
          exact ⟨t, l, e1, e2, h⟩
        refine fin u _ _ _ (x1.trans (x2.trans x3)) upd_same (LL.ex (x2.trans x3)) (fun l => ⟨fun h => ?_, fun h => ?_⟩) (asc_lits ?_ ?_)
        · obtain ⟨b, hb, rfl⟩ := List.mem_map.mp h
          obtain ⟨t, l, e1, e2, _, hl⟩ := each2 b hb
          rw [e2, litOf]
          exact hl
        · have : litK l ∈ ks.map Prod.snd := by rw [ek]; exact List.mem_map_of_mem h
          obtain ⟨q, hq, e⟩ := List.mem_map.mp this
          have := took.got q hq
          obtain ⟨r, hr, e2⟩ := List.mem_map.mp this
          refine List.mem_map.mpr ⟨enP r, pm2.mem_iff.mpr (List.mem_map_of_mem hr), ?_⟩
          show litOfD (enK r.2) = l
          rw [e2, e, litK_D, litOf]
        · refine List.pairwise_map.mpr (so0.imp_of_mem fun {p q} hp hq z => ?_)
          obtain ⟨_, l, _, e1, _⟩ := each2 p hp
          obtain ⟨_, m, _, e2, _⟩ := each2 q hq
          rw [e1, e2, litOf, litOf, ← e1, ← e2]
          exact z
        · have e : (cs.map fun b => litOfD b.2).Perm (L'.map fun q => litOfD (enK q.2)) := by
            have := pm2.map fun b : V × PyData => litOfD b.2
            rwa [List.map_map] at this
          rw [e.nodup_iff]
          have nd2 : L'.Pairwise fun q r => q.2 ≠ r.2 := List.pairwise_map.mp nd
          refine List.pairwise_map.mpr (List.Pairwise.imp_of_mem (fun {q r} hq hr n z => n ?_) nd2)
          obtain ⟨l, _, e1, _⟩ := each q hq
          obtain ⟨m, _, e2, _⟩ := each r hr
          rw [e1, e2, litK_D, litK_D, litOf, litOf] at z
          rw [e1, e2, z]
end
end F5
set_option maxRecDepth 100000
set_option maxHeartbeats 8000000
namespace F5
open PySem L2 Evl GP HR SC SetM SetH RQ
/-- a drawn clause, a list -/
structure CL (H : Hp) (p : Addr) (us : List V) (ls : List Lit) : Prop where
  at_ : H p = some (.lst us)
  L : Lits H us ls
  ok : ∀ l ∈ ls, LitOk l
  few : ls.length ≤ 30
theorem CL.ex {H H' : Hp} {p : Addr} {us : List V} {ls : List Lit} (C : CL H p us ls) (e : Ex H H') : CL H' p us ls := ⟨e _ _ C.at_, C.L.ex e, C.ok, C.few⟩
def spResolved : Sp := fun vs H Q _ => ∃ (p x q : Addr) (us us' : List V) (ls ls' : List Lit) (l : Lit), vs = [.ref p, .ref x, .ref q] ∧ CL H p us ls ∧ H x = some (.tup (litV l)) ∧ LitOk l ∧ LitOk (oppL l) ∧ CL H q us' ls' ∧ Good H (resL l ls ls') Q
section
variable {P : Program} {w : World} {K : PySem.W.Frag} {mg : Str → Option Value} {base : Heap} {a : Ad} {d : Fd} {fL fC fU fP : Addr}
theorem ok_law_resolved (T : TX K mg a) (D : FDS K a d) : FnOk P w K mg base CX0 2 a.a_law_resolved d.a_law_resolved ["clause", "pivot", "other"] spResolved := by
  have G__law_comp : FnOk P w K mg base CX0 1 a.a_law_comp d.a_law_comp ["literal"] spOpp := ok_law_comp T D
  have G__law_normal : FnOk P w K mg base CX0 1 a.a_law_normal d.a_law_normal ["literals"] (spNormal K) := ok_law_normal T D
  refine D.F__law_resolved.ok sc_law_resolved (fun vs H Q E h => ?_) (fun cdv A outer s H vs Q E hr h => ?_)
  · obtain ⟨p, x, q, us, us', ls, ls', l, rfl, _⟩ := h
    rfl
  · obtain ⟨p, x, q, us, us', ls, ls', l, rfl, C1, hx, ol, oo, C2, fin⟩ := h
    refine ⟨_, (pss_cons (ps_setLc (i := 3) (own := [("one", 5)]) (g := gName 5) rfl sc_law_resolved.nd rfl rfl (sw_true rfl rfl rfl (by decide +kernel)) (pi_list (pv 0)) (blkOk_by (N := ["clause", "pivot", "other", "left", "right", "one"]) (sc := defScope s_law_resolved) (by decide +kernel)) (fun _ _ _ _ _ => (pg_name (i := 5) sc_law_resolved.nd rfl (Or.inl rfl))) (fun _ _ _ _ _ => (pts_one (pt_cmpR (op_neDK (K := K) rfl hr.units) (pv 5) (pv 1) rfl))) (fun _ _ _ _ _ => (pv 5)))
        (pss_cons (ps_setLc (i := 4) (own := [("one", 5)]) (g := gName 5) rfl sc_law_resolved.nd rfl rfl (sw_true rfl rfl rfl (by decide +kernel)) (pi_list (pv 2)) (blkOk_by (N := ["clause", "pivot", "other", "left", "right", "one"]) (sc := defScope s_law_resolved) (by decide +kernel)) (fun _ _ _ _ _ => (pg_name (i := 5) sc_law_resolved.nd rfl (Or.inl rfl))) (fun _ _ _ _ _ => (pts_one (pt_cmpR (op_neDK (K := K) rfl hr.units) (pv 5) (pe_call G__law_comp (hr.mono (by decide)) rfl T.f__law_comp T.k__law_comp D.B__law_comp .nil pass0 (pa_cons (pv 1) pa_nil)) rfl))) (fun _ _ _ _ _ => (pv 5)))
        (pss_one (ps_ret (pe_call G__law_normal (hr.mono (by decide)) rfl T.f__law_normal T.k__law_normal D.B__law_normal .nil pass0 (pa_cons (pe_op op_cat (pv 3) (pv 4)) pa_nil)))))), ?_⟩
    have A1 := C1.at_
    have A2 := C2.at_
    obtain ⟨zs, rfl, rfl, hz⟩ := C1.L.zip
    obtain ⟨ys, rfl, rfl, hy'⟩ := C2.L.zip
    have few1 := C1.few
    have few2 := C2.few
    rw [List.length_map] at few1 few2
    have big : 1000 ≤ sizeLine := by decide
    refine ⟨_, rfl, p, rfl, ⟨_, SqL.of A1⟩, fun F1 hF1 => lcF (walk_list (xs := zs.map fun z => V.ref z.1)) (fun z => decide (z.2 ≠ l)) (fun z => V.ref z.1) (by omega) (fun H' e => SqL.of (e _ _ A1)) (fun _ => rfl) (fun z hzm H' e Q q => ?_) (fun z hzm _ H' e Q q => ?_) hF1 fun H4 e4 h4 => ?_⟩
    · exact ⟨_, rfl, _, rfl, rd_ne (e _ _ (hz z hzm)) (e _ _ hx) (C1.ok _ (List.mem_map_of_mem hzm)) ol ⟨_, rfl, q H' (Ex.refl _)⟩⟩
    · exact ⟨_, rfl, q H' (Ex.refl _)⟩
    have e14 := e4
    refine ⟨_, rfl, q, rfl, ⟨_, SqL.of (e14 _ _ A2)⟩, fun F2 hF2 => lcF (walk_list (xs := ys.map fun z => V.ref z.1)) (fun z => decide (z.2 ≠ oppL l)) (fun z => V.ref z.1) (by omega) (fun H' e => SqL.of (e _ _ (e14 _ _ A2))) (fun _ => rfl) (fun z hzm H' e Q q => ?_) (fun z hzm _ H' e Q q => ?_) hF2 fun H5 e5 h5 => ?_⟩
    · exact ⟨_, rfl, _, rfl, x, l, rfl, e _ _ (e14 _ _ hx), ol, fun o H6 e6 ho0 ho => rd_ne (e6 _ _ (e _ _ (e14 _ _ (hy' z hzm)))) ho (C2.ok _ (List.mem_map_of_mem hzm)) oo ⟨_, rfl, q H6 e6⟩⟩
    · exact ⟨_, rfl, q H' (Ex.refl _)⟩
    have l1 := List.length_filter_le (fun z : Addr × Lit => decide (z.2 ≠ l)) zs
    have l2 := List.length_filter_le (fun z : Addr × Lit => decide (z.2 ≠ oppL l)) ys
    have e15 := e14.trans e5
    refine ⟨_, rfl, _, rfl, F1, F2, _, _, rfl, rfl, e5 _ _ h4, h5, ?_, fun t ht => ?_⟩
    · rw [List.length_map, List.length_map]
      omega
    have x6 := Ex.new (o := .lst (((zs.filter fun z => decide (z.2 ≠ l)).map fun z => V.ref z.1) ++ (ys.filter fun z => decide (z.2 ≠ oppL l)).map fun z => V.ref z.1)) ht
    have e16 := e15.trans x6
    have LL : Lits (upd H5 t (.lst (((zs.filter fun z => decide (z.2 ≠ l)).map fun z => V.ref z.1) ++ (ys.filter fun z => decide (z.2 ≠ oppL l)).map fun z => V.ref z.1))) (((zs.filter fun z => decide (z.2 ≠ l)).map fun z => V.ref z.1) ++ (ys.filter fun z => decide (z.2 ≠ oppL l)).map fun z => V.ref z.1) (resL l (zs.map Prod.snd) (ys.map Prod.snd)) := by
      have := Lits.of_zip (H := upd H5 t (.lst (((zs.filter fun z => decide (z.2 ≠ l)).map fun z => V.ref z.1) ++ (ys.filter fun z => decide (z.2 ≠ oppL l)).map fun z => V.ref z.1))) (zs := (zs.filter fun z => decide (z.2 ≠ l)) ++ ys.filter fun z => decide (z.2 ≠ oppL l)) fun z hz0 => by
        rcases List.mem_append.mp hz0 with h | h
        · exact e16 _ _ (hz z (List.mem_filter.mp h).1)
        · exact e16 _ _ (hy' z (List.mem_filter.mp h).1)
      rw [List.map_append, List.map_append, filt_snd, filt_snd] at this
      exact this
    refine ⟨t, _, _, rfl, .inl (SqL.of upd_same), LL, ?_, fun u us' ls' H7 e7 hu L7 mem asc => fin u us' ls' H7 (e16.trans e7) hu L7 mem asc⟩
    have := LL.len
    rw [List.length_append, List.length_map, List.length_map] at this
    omega
end
end F5
set_option maxRecDepth 100000
set_option maxHeartbeats 8000000
namespace F5
open PySem L2 Evl GP HR SC SetM SetH RQ
theorem str_len (z : Str) : z.cps.toList.length = z.length := by show _ = z.cps.size; simp
theorem app_len (x y : Str) : (x ++ y).length = x.length + y.length := by
  show (x.cps ++ y.cps).size = _
  simp
  rfl
theorem lett_dig : letters ++ ("0123456789" : Str) = signs := toList_inj (by decide +kernel)
theorem nameS_iff (z : Str) : isNameS z = true ↔ (1 ≤ z.length ∧ z.length ≤ 8) ∧ z.cps.toList.headD 0 ∈ letters.cps.toList ∧ ∀ c ∈ z.cps.toList, c ∈ signs.cps.toList := by
  unfold isNameS
  simp only [Bool.and_eq_true, decide_eq_true_eq, List.all_eq_true]
theorem name_len2 {z : Str} (h : isNameS z = true) : 1 ≤ z.length ∧ z.length ≤ 8 := ((nameS_iff z).mp h).1
theorem str_app (x y : Str) : (x ++ y).cps.toList = x.cps.toList ++ y.cps.toList := by
  show (x.cps ++ y.cps).toList = _
  simp
theorem lett_sign : ∀ c ∈ letters.cps.toList, c ∈ signs.cps.toList := by decide +kernel
theorem name_of {z : Str} {l : List Nat} (h : z.cps.toList = l) (h1 : 1 ≤ l.length ∧ l.length ≤ 8) (h2 : l.headD 0 ∈ letters.cps.toList) (h3 : ∀ c ∈ l, c ∈ signs.cps.toList) : isNameS z = true := by
  rw [nameS_iff, h]
  have := str_len z
  rw [h] at this
  exact ⟨by omega, h2, h3⟩
theorem name_parts {z : Str} (h : isNameS z = true) : ∃ c r, z.cps.toList = c :: r ∧ c ∈ letters.cps.toList ∧ (∀ x ∈ c :: r, x ∈ signs.cps.toList) ∧ r.length ≤ 7 ∧ z.length = r.length + 1 := by
  obtain ⟨h1, h2, h3⟩ := (nameS_iff z).mp h
  have := str_len z
  cases e : z.cps.toList with
  | nil => rw [e] at this; simp at this; omega
  | cons c r =>
    rw [e] at h2 h3 this
    rw [List.length_cons] at this
    exact ⟨c, r, rfl, h2, h3, by omega, by omega⟩
theorem name_one {c : Nat} (hc : c ∈ letters.cps.toList) : isNameS ⟨#[c]⟩ = true := name_of (l := [c]) rfl ⟨Nat.le_refl 1, by show 1 ≤ 8; decide⟩ hc fun d hd => by rw [List.mem_singleton.mp hd]; exact lett_sign c hc
theorem name_more {z : Str} {c : Nat} (hz : isNameS z = true) (hl : z.length < 8) (hc : c ∈ signs.cps.toList) : isNameS (z ++ ⟨#[c]⟩) = true := by
  obtain ⟨d, r, e, h2, h3, h4, h5⟩ := name_parts hz
  refine name_of (l := (d :: r) ++ [c]) (by rw [str_app, e]) ⟨by simp, by simp; omega⟩ h2 fun x hx => ?_
  rcases List.mem_append.mp hx with hx | hx
  · exact h3 x hx
  · rw [List.mem_singleton.mp hx]; exact hc
theorem lett_at {k : Nat} (h : k < 26) : ∃ c, letters.cps.toList[k]? = some c ∧ c ∈ letters.cps.toList := by
  have l : letters.cps.toList.length = 26 := by decide +kernel
  exact ⟨letters.cps.toList[k]'(by omega), by simp, List.getElem_mem _⟩
theorem sign_at {k : Nat} (h : k < 36) : ∃ c, signs.cps.toList[k]? = some c ∧ c ∈ signs.cps.toList := by
  have l : signs.cps.toList.length = 36 := by decide +kernel
  exact ⟨signs.cps.toList[k]'(by omega), by simp, List.getElem_mem _⟩
theorem small_size {k : Nat} (h : k ≤ 100) : (k : Int).natAbs.log2 < 9000 := Nat.lt_of_le_of_lt (Nat.log2_le_self _) (by omega)
theorem small_size' {z : Int} (h : 0 ≤ z ∧ z ≤ 100) : z.natAbs.log2 < 9000 := Nat.lt_of_le_of_lt (Nat.log2_le_self _) (by omega)
def cand : List Str := ["a", "b7", "x", "yy", "z0"]
theorem cand_nd : cand.Nodup := by decide +kernel
theorem cand_name : ∀ z ∈ cand, isNameS z = true := by decide +kernel
theorem cand_spare {xs : List Str} (h : xs.length < 5) : ∃ z r, cand.filter (fun y => !decide (y ∈ xs)) = z :: r := by
  cases e : cand.filter (fun y => !decide (y ∈ xs)) with
  | cons z r => exact ⟨z, r, rfl⟩
  | nil =>
    have sub : cand ⊆ xs := fun y hy => by
      have g := List.filter_eq_nil_iff.mp e y hy
      simpa using g
    have := List.Nodup.length_le_of_subset cand_nd sub
    have t : cand.length = 5 := by decide +kernel
    omega
def spName : Sp := fun vs H Q _ => ∃ (b t : Addr) (ns : List Str), vs = [.ref b, .ref t] ∧ Bx b H ∧ t ≠ b ∧ H t = some (.lst (ns.map V.str)) ∧ ns.length ≤ 4 ∧ ∀ (z : Str) H', Kp b H H' → Bx b H' → isNameS z = true → z ∉ ns → Q (.str z) H'
theorem lens_at {d : Int} (h0 : 0 ≤ d) (h1 : d < 8) : ∃ n : Nat, atI ([.int 0, .int 0, .int 0, .int 1, .int 1, .int 2, .int 4, .int 7] : List V) d = some (.int (n : Int)) ∧ n ≤ 7 := by
  rcases (by omega : d = 0 ∨ d = 1 ∨ d = 2 ∨ d = 3 ∨ d = 4 ∨ d = 5 ∨ d = 6 ∨ d = 7) with rfl | rfl | rfl | rfl | rfl | rfl | rfl | rfl
  · exact ⟨0, rfl, by decide⟩
  · exact ⟨0, rfl, by decide⟩
  · exact ⟨0, rfl, by decide⟩
  · exact ⟨1, rfl, by decide⟩
  · exact ⟨1, rfl, by decide⟩
  · exact ⟨2, rfl, by decide⟩
  · exact ⟨4, rfl, by decide⟩
  · exact ⟨7, rfl, by decide⟩
section
variable {P : Program} {w : World} {K : PySem.W.Frag} {mg : Str → Option Value} {base : Heap} {a : Ad} {d : Fd} {fL fC fU fP : Addr}
theorem ok_law_name (T : TX K mg a) (D : FDS K a d) : FnOk P w K mg base CX0 2 a.a_law_name d.a_law_name ["box", "taken"] spName := by
  have G__law_take : FnOk P w K mg base CX0 1 a.a_law_take d.a_law_take ["box", "size"] spTake := ok_law_take T D
  refine D.F__law_name.ok sc_law_name (fun vs H Q E h => ?_) (fun cdv A outer s H vs Q E hr h => ?_)
  · obtain ⟨b, t, ns, rfl, _⟩ := h
    rfl
  · obtain ⟨b, t, ns, rfl, X, ntb, ht, few, fin⟩ := h
    refine ⟨_, (pss_cons (ps_set (i := 2) sc_law_name.nd rfl (Or.inl rfl) pe_str)
        (pss_cons (ps_set (i := 3) sc_law_name.nd rfl (Or.inl rfl) (pe_ix ix_str (pv 2) (pe_call G__law_take (hr.mono (by decide)) rfl T.f__law_take T.k__law_take D.B__law_take .nil pass0 (pa_cons (pv 0) (pa_cons pe_int pa_nil))) (fun _ _ => rfl)))
        (Evl.pss_cut (ps_for PassesOwn.never rfl (pi_range1 rfl T.b_range (pa_cons (pe_ix (ix_listK (K := K)) (pe_lst (pa_cons pe_int (pa_cons pe_int (pa_cons pe_int (pa_cons pe_int (pa_cons pe_int (pa_cons pe_int (pa_cons pe_int (pa_cons pe_int pa_nil))))))))) (pe_call G__law_take (hr.mono (by decide)) rfl T.f__law_take T.k__law_take D.B__law_take .nil pass0 (pa_cons (pv 0) (pa_cons pe_int pa_nil))) (fun _ _ => rfl)) pa_nil)) (pg_name (i := 4) sc_law_name.nd rfl (Or.inl rfl)) (pss_one (ps_set (i := 3) sc_law_name.nd rfl (Or.inl rfl) (pe_op op_add_str (pv 3) (pe_ix ix_str (pe_op op_add_str (pv 2) pe_str) (pe_call G__law_take (hr.mono (by decide)) rfl T.f__law_take T.k__law_take D.B__law_take .nil pass0 (pa_cons (pv 0) (pa_cons pe_int pa_nil))) (fun _ _ => rfl))))))
        (pss_cons (ps_if (pt_cmpR op_in_seq (pv 3) (pv 1) rfl) (pss_one (ps_ret (pe_ix (ix_listK (K := K)) (pe_lc (own := [("one", 5)]) (g := gName 5) (tt := tTest (tOp (rIn K true) (tVar 5) (tVar 1))) rfl sc_law_name.nd (pi_list (pe_lst (pa_cons pe_str (pa_cons pe_str (pa_cons pe_str (pa_cons pe_str (pa_cons pe_str pa_nil))))))) (blkOk_by (N := ["box", "taken", "letters", "name", "k", "one"]) (sc := defScope s_law_name) (by decide +kernel)) (fun _ _ _ _ _ => (pg_name (i := 5) sc_law_name.nd rfl (Or.inl rfl))) (fun _ _ _ _ _ => (pts_one (pt_cmpR (op_notIn_seqK (K := K)) (pv 5) (pv 1) rfl))) (fun _ _ _ _ _ => (pv 5))) pe_int (fun _ _ => rfl)))) pss_nil)
        (pss_one (ps_ret (pv 3))))))), ?_⟩
    have lsz : letters.length ≤ sizeLine := by decide +kernel
    have ssz : signs.length ≤ sizeLine := by decide +kernel
    have big : 1000 ≤ sizeLine := by decide
    refine ⟨_, rfl, _, rfl, b, 26, rfl, X, by decide, by decide +kernel, fun d1 H1 k1 X1 p0 p1 => ?_⟩
    obtain ⟨c, hc, hcl⟩ := lett_at (k := d1.toNat) (by omega)
    refine ⟨letters, _, c, rfl, rfl, lsz, at_lit (n := d1.toNat) (by omega) hc, ?_⟩
    refine ⟨fun σ' H' => ∃ (z : Str) (o : Option V), σ' = [some (.ref b), some (.ref t), some (.str letters), some (.str z), o, none] ∧ isNameS z = true ∧ Kp b H H' ∧ Bx b H', ?_, ?_⟩
    · refine ⟨(by show 8 ≤ sizeLine; decide), fun f hf => ?_⟩
      have xf := Ex.new (o := .lst [.int 0, .int 0, .int 0, .int 1, .int 1, .int 2, .int 4, .int 7]) hf
      have hf1 : upd H1 f (.lst [.int 0, .int 0, .int 0, .int 1, .int 1, .int 2, .int 4, .int 7]) f = some (.lst [.int 0, .int 0, .int 0, .int 1, .int 1, .int 2, .int 4, .int 7]) := upd_same
      have nfb := X1.ne hf
      have X2 := X1.ex xf
      have k2 := k1.trans (Kp.ex (b := b) xf)
      generalize upd H1 f (.lst [.int 0, .int 0, .int 0, .int 1, .int 1, .int 2, .int 4, .int 7]) = H2 at *
      refine ⟨_, rfl, b, 8, rfl, X2, by decide, by decide +kernel, fun d3 H3 k3 X3 q0 q1 => ?_⟩
      obtain ⟨n, hn, n7⟩ := lens_at q0 q1
      refine ⟨f, _, d3, .int n, rfl, rfl, SqL.of (k3.k _ _ nfb hf1), hn, n, rfl, by omega, by omega, for_it (walk_range (lo := 0) (n := n)) (fun i σ H' => ∃ (z : Str) (o : Option V), σ = [some (.ref b), some (.ref t), some (.str letters), some (.str z), o, none] ∧ (isNameS z = true ∧ z.length = i + 1) ∧ Kp b H H' ∧ Bx b H')
        ⟨_, none, rfl, ⟨name_one hcl, rfl⟩, k2.trans k3, X3⟩ (fun _ _ _ _ _ => trivial) ?_ ?_⟩
      · rintro i v σ H4 H4' hi ⟨z, o, rfl, ⟨nz, lz⟩, k4, X4⟩ ⟨rfl, hv⟩
        refine ⟨_, rfl, _, rfl, _, _, rfl, rfl, (by show letters.length + ("0123456789" : Str).length ≤ sizeLine; decide +kernel), ?_⟩
        rw [lett_dig]
        refine ⟨_, rfl, b, 36, rfl, X4, by decide, by decide +kernel, fun c9 H5 k5 X5 c0 c1 => ?_⟩
        obtain ⟨c2, hc2, hcl2⟩ := sign_at (k := c9.toNat) (by omega)
        refine ⟨signs, _, c2, rfl, rfl, ssz, at_lit (n := c9.toNat) (by omega) hc2, _, _, rfl, rfl, ?_, _, _, rfl, ⟨name_more nz (by omega) hcl2, ?_⟩, k4.trans k5, X5⟩
        · exact Nat.le_trans (by show _ + 1 ≤ 9; omega) (by decide : 9 ≤ sizeLine)
        · rw [app_len, lz]
          rfl
      · rintro σ H4 ⟨z, o, rfl, ⟨nz, lz⟩, k4, X4⟩
        exact ⟨z, _, rfl, nz, k4, X4⟩
    · rintro σ' H2 ⟨z, o, rfl, nz, k2, X2⟩
      have ht2 := k2.k _ _ ntb ht
      refine ⟨_, rfl, _, rfl, t, _, rfl, .inl (SqL.of ht2), rfl, flat_strs, _, rfl, ?_⟩
      rw [show (if false = true then !inV (.str z) (ns.map V.str) else inV (.str z) (ns.map V.str)) = decide (z ∈ ns) from inV_strs]
      refine ite2 (fun g => ?_) (fun g => ⟨_, rfl, fin z H2 k2 X2 nz (by simpa using g)⟩)
      refine ⟨(by show 5 ≤ sizeLine; decide), fun f hf => ?_⟩
      have xf := Ex.new (o := .lst [V.str "a", V.str "b7", V.str "x", V.str "yy", V.str "z0"]) hf
      have hf1 : upd H2 f (.lst [V.str "a", V.str "b7", V.str "x", V.str "yy", V.str "z0"]) f = some (.lst (cand.map V.str)) := upd_same
      have ht3 := xf _ _ ht2
      have X3 := X2.ex xf
      have k3 := k2.trans (Kp.ex (b := b) xf)
      obtain ⟨u, r, hu⟩ := cand_spare (xs := ns) (by omega)
      have uf := List.mem_filter.mp (show u ∈ cand.filter (fun y => !decide (y ∈ ns)) by rw [hu]; exact List.mem_cons_self)
      have un : u ∉ ns := by simpa using uf.2
      have nu : isNameS u = true := cand_name u uf.1
      generalize upd H2 f (.lst [V.str "a", V.str "b7", V.str "x", V.str "yy", V.str "z0"]) = H3 at *
      refine ⟨f, rfl, ⟨_, SqL.of hf1⟩, fun F1 hF1 => lcF (walk_list (xs := cand.map V.str)) (fun z => !decide (z ∈ ns)) V.str (by show 5 < sizeLine; decide) (fun H' e => SqL.of (e _ _ hf1)) (fun _ => rfl) (fun z hz H' e Q' q' => ?_) (fun z hz _ H' e Q' q' => ⟨_, rfl, q' H' (Ex.refl _)⟩) hF1 fun H4 e4 h4 => ?_⟩
      · refine ⟨_, rfl, _, rfl, t, _, rfl, .inl (SqL.of (e _ _ ht3)), rfl, flat_strs, _, rfl, ?_⟩
        rw [show (if true = true then !inV (.str z) (ns.map V.str) else inV (.str z) (ns.map V.str)) = !decide (z ∈ ns) from congrArg (!·) inV_strs]
        exact q' H' (Ex.refl _)
      · rw [hu] at h4
        exact ⟨F1, _, 0, .str u, rfl, rfl, SqL.of h4, at_lit (n := 0) rfl rfl, fin u H4 (k3.trans (Kp.ex e4)) (X3.ex e4) nu un⟩
end
end F5
set_option maxRecDepth 100000
set_option maxHeartbeats 8000000
namespace F5
open PySem L2 Evl GP HR SC SetM SetH RQ
/-- a bound between two of the moments, its integer not great -/
def MB (ns : List Str) (n : Nat) (l : Lit) : Prop := ∃ x y k, l = .most x y k ∧ x ∈ ns ∧ y ∈ ns ∧ x ≠ y ∧ k.natAbs ≤ 2 ^ 300 + n
theorem MB.ok {ns : List Str} {n : Nat} {l : Lit} (h : MB ns n l) (nm : ∀ z ∈ ns, isNameS z = true) (hn : n ≤ 100) : LitOk l := by
  obtain ⟨x, y, k, rfl, hx, hy, ne, hk⟩ := h
  refine ⟨nm x hx, nm y hy, ne, Nat.le_trans hk ?_⟩
  have : 2 ^ 300 ≤ B0 := by unfold B0; exact Nat.pow_le_pow_right (by decide) (by decide)
  omega
theorem fmod_rng {n : Int} (h : 0 < n) (z : Int) : 0 ≤ Int.fmod z n ∧ Int.fmod z n < n := by
  rw [Int.fmod_eq_emod_of_nonneg _ (by omega)]
  exact ⟨Int.emod_nonneg _ (by omega), Int.emod_lt_of_pos _ h⟩
theorem step_ne {n w t : Int} (w0 : 0 ≤ w) (w1 : w < n) (t0 : 0 ≤ t) (t1 : t < n - 1) : Int.fmod (w + 1 + t) n ≠ w := by
  rw [Int.fmod_eq_emod_of_nonneg _ (by omega)]
  intro h
  by_cases g : w + 1 + t < n
  · rw [Int.emod_eq_of_lt (by omega) g] at h
    omega
  · have e : (w + 1 + t) % n = (w + 1 + t - n) % n := (Int.sub_emod_right _ _).symm
    rw [e, Int.emod_eq_of_lt (by omega) (by omega)] at h
    omega
theorem at_last {α : Type} {l : List α} {v : α} (h : l.getLast? = some v) : atI l (-1) = some v := by
  rw [List.getLast?_eq_getElem?] at h
  have hl := (List.getElem?_eq_some_iff.mp h).1
  unfold atI ixN
  rw [if_neg (by decide), if_pos (by omega)]
  show l[(-1 + (l.length : Int)).toNat]? = some v
  rw [show (-1 + (l.length : Int)).toNat = l.length - 1 by omega]
  exact h
def natV (k : Nat) : V := .int (k : Int)
/-- a walk through n places -/
def Wy (n : Nat) (ws : List Nat) : Prop := (∀ k ∈ ws, k < n) ∧ ∀ (i x y : Nat), ws[i]? = some x → ws[i + 1]? = some y → x ≠ y
theorem Wy.more {n k : Nat} {ws : List Nat} (h : Wy n ws) (hk : k < n) (ne : ∀ z, ws.getLast? = some z → z ≠ k) : Wy n (ws ++ [k]) := by
  refine ⟨fun z hz => ?_, fun i x y hx hy => ?_⟩
  · rcases List.mem_append.mp hz with h' | h'
    · exact h.1 z h'
    · rw [List.mem_singleton.mp h']; exact hk
  · by_cases g : i + 1 < ws.length
    · rw [List.getElem?_append_left (by omega)] at hx
      rw [List.getElem?_append_left g] at hy
      exact h.2 i x y hx hy
    · have : i + 1 = ws.length := by
        have := (List.getElem?_eq_some_iff.mp hy).1
        rw [List.length_append, List.length_singleton] at this
        omega
      rw [List.getElem?_append_left (by omega)] at hx
      rw [this, List.getElem?_append_right (Nat.le_refl _), Nat.sub_self] at hy
      cases hy
      refine ne x ?_
      rw [List.getLast?_eq_getElem?, ← this]
      exact hx
theorem lits_of {H : Hp} {P : Lit → Prop} : ∀ {acc : List V}, (∀ (i : Nat) (v : V), acc[i]? = some v → ∃ t l, v = .ref t ∧ H t = some (.tup (litV l)) ∧ P l) → ∃ ls, Lits H acc ls ∧ ∀ l ∈ ls, P l
  | [], _ => ⟨[], Lits.nil, fun _ h => absurd h List.not_mem_nil⟩
  | v :: acc, A => by
    obtain ⟨t, l, e, ht, p⟩ := A 0 v rfl
    obtain ⟨ls, L, ps⟩ := lits_of (acc := acc) fun i v h => A (i + 1) v h
    refine ⟨l :: ls, ⟨by rw [List.length_cons, List.length_cons, L.len], fun i m h => ?_⟩, fun z hz => ?_⟩
    · cases i with
      | zero => cases h; exact ⟨t, by rw [e]; rfl, ht⟩
      | succ i => exact L.at_ i m h
    · rcases List.mem_cons.mp hz with rfl | hz
      · exact p
      · exact ps z hz
theorem nd_inj {α : Type} {l : List α} (nd : l.Nodup) {i j : Nat} (hi : i < l.length) (hj : j < l.length) (e : l[i] = l[j]) : i = j := by
  rcases Nat.lt_trichotomy i j with h | h | h
  · exact absurd e (List.pairwise_iff_getElem.mp nd i j hi hj h)
  · exact h
  · exact absurd e.symm (List.pairwise_iff_getElem.mp nd j i hj hi h)
theorem sum_abs {B : Nat} : ∀ {js : List Int}, (∀ j ∈ js, j.natAbs ≤ B) → js.sum.natAbs ≤ js.length * B
  | [], _ => by simp
  | j :: js, h => by
    have h1 := h j List.mem_cons_self
    have h2 := sum_abs (js := js) fun z hz => h z (List.mem_cons_of_mem _ hz)
    rw [List.sum_cons, List.length_cons, Nat.add_mul]
    have := Int.natAbs_add_le j js.sum
    omega
def spRing : Sp := fun vs H Q _ => ∃ (b t : Addr) (ns : List Str) (steps : Nat), vs = [.ref b, .ref t, .int (steps : Int)] ∧ Bx b H ∧ t ≠ b ∧ H t = some (.lst (ns.map V.str)) ∧ ns.Nodup ∧ 2 ≤ ns.length ∧ ns.length ≤ 4 ∧ 1 ≤ steps ∧ steps ≤ 4 ∧
  ∀ (u : Addr) (us : List V) (ls : List Lit) H', Kp b H H' → Bx b H' → H' u = some (.tup us) → Lits H' us ls → (∀ l ∈ ls, MB ns 0 l) → 1 ≤ ls.length → ls.length ≤ 5 → Q (.ref u) H'
section
variable {P : Program} {w : World} {K : PySem.W.Frag} {mg : Str → Option Value} {base : Heap} {a : Ad} {d : Fd} {fL fC fU fP : Addr}
theorem ok_law_ring (T : TX K mg a) (D : FDS K a d) : FnOk P w K mg base CX0 3 a.a_law_ring d.a_law_ring ["box", "moments", "steps"] spRing := by
  have G__law_take : FnOk P w K mg base CX0 1 a.a_law_take d.a_law_take ["box", "size"] spTake := ok_law_take T D
  have G__law_number : FnOk P w K mg base CX0 2 a.a_law_number d.a_law_number ["box"] spNumber := ok_law_number T D
  refine D.F__law_ring.ok sc_law_ring (fun vs H Q E h => ?_) (fun cdv A outer s H vs Q E hr h => ?_)
  · obtain ⟨b, t, ns, steps, rfl, _⟩ := h
    rfl
  · obtain ⟨b, t, ns, steps, rfl, X, ntb, ht, nd, n2, n4, s1, s4, fin⟩ := h
    refine ⟨_, (pss_cons (ps_set (i := 3) sc_law_ring.nd rfl (Or.inr rfl) (pe_lst (pa_cons (pe_call G__law_take (hr.mono (by decide)) rfl T.f__law_take T.k__law_take D.B__law_take .nil pass0 (pa_cons (pv 0) (pa_cons (pe_callB call_len_seq (by rfl) T.b_len (by decide +kernel) (pa_cons (pv 1) pa_nil)) pa_nil))) pa_nil)))
        (pss_cons (ps_for PassesOwn.never rfl (pi_range1 rfl T.b_range (pa_cons (pv 2) pa_nil)) (pg_name (i := 4) sc_law_ring.nd rfl (Or.inl rfl)) (pss_one (ps_expr (pe_bm PySem.F.plainAttrs_list PySem.F.slot_list_append PySem.F.type_list_append mt_append (pv 3) (pa_cons (pe_op op_modN (pe_callTy call_int1 (by rfl) T.b_int (by decide +kernel) (pa_cons (pe_op op_add (pe_op op_add (pe_ix (ix_listK (K := K)) (pv 3) (pe_un un_neg pe_int) (fun _ _ => rfl)) pe_int) (pe_call G__law_take (hr.mono (by decide)) rfl T.f__law_take T.k__law_take D.B__law_take .nil pass0 (pa_cons (pv 0) (pa_cons (pe_op op_sub (pe_callB call_len_seq (by rfl) T.b_len (by decide +kernel) (pa_cons (pv 1) pa_nil)) pe_int) pa_nil)))) pa_nil)) (pe_callB call_len_seq (by rfl) T.b_len (by decide +kernel) (pa_cons (pv 1) pa_nil))) pa_nil)))))
        (Evl.pss_cut (ps_if (pt_cmpR op_ne (pe_ix (ix_listK (K := K)) (pv 3) (pe_un un_neg pe_int) (fun _ _ => rfl)) (pe_ix (ix_listK (K := K)) (pv 3) pe_int (fun _ _ => rfl)) (nomark _)) (pss_one (ps_expr (pe_bm PySem.F.plainAttrs_list PySem.F.slot_list_append PySem.F.type_list_append mt_append (pv 3) (pa_cons (pe_ix (ix_listK (K := K)) (pv 3) pe_int (fun _ _ => rfl)) pa_nil)))) pss_nil)
        (pss_cons (ps_set (i := 5) sc_law_ring.nd rfl (Or.inr rfl) (pe_lc (own := [("k", 4)]) (g := gName 4) (tt := tYes) rfl sc_law_ring.nd (pi_range1 rfl T.b_range (pa_cons (pe_op op_sub (pe_callB call_len_seq (by rfl) T.b_len (by decide +kernel) (pa_cons (pv 3) pa_nil)) pe_int) pa_nil)) (blkOk_by (N := ["box", "moments", "steps", "way", "k", "numbers"]) (sc := defScope s_law_ring) (by decide +kernel)) (fun _ _ _ _ _ => (pg_name (i := 4) sc_law_ring.nd rfl (Or.inl rfl))) (fun _ _ _ _ _ => pts_nil) (fun _ _ _ _ _ => (pe_call G__law_number (hr.mono (by decide)) rfl T.f__law_number T.k__law_number D.B__law_number .nil pass0 (pa_cons (pv 0) pa_nil)))))
        (pss_cons (ps_expr (pe_bm PySem.F.plainAttrs_list PySem.F.slot_list_append PySem.F.type_list_append mt_append (pv 5) (pa_cons (pe_op op_sub (pe_op op_sub (pe_un un_neg pe_int) (pe_op op_mul (pe_call G__law_take (hr.mono (by decide)) rfl T.f__law_take T.k__law_take D.B__law_take .nil pass0 (pa_cons (pv 0) (pa_cons pe_int pa_nil))) (pe_call G__law_take (hr.mono (by decide)) rfl T.f__law_take T.k__law_take D.B__law_take .nil pass0 (pa_cons (pv 0) (pa_cons pe_int pa_nil))))) (pe_callB (cr_sum rfl) (by rfl) T.b_sum (by decide +kernel) (pa_cons (pv 5) pa_nil))) pa_nil)))
        (pss_one (ps_ret (pe_callTy call_tuple_of (by rfl) T.b_tuple (by decide +kernel) (pa_cons (pe_lc (own := [("k", 4)]) (g := gName 4) (tt := tYes) rfl sc_law_ring.nd (pi_range1 rfl T.b_range (pa_cons (pe_op op_sub (pe_callB call_len_seq (by rfl) T.b_len (by decide +kernel) (pa_cons (pv 3) pa_nil)) pe_int) pa_nil)) (blkOk_by (N := ["box", "moments", "steps", "way", "k", "numbers"]) (sc := defScope s_law_ring) (by decide +kernel)) (fun _ _ _ _ _ => (pg_name (i := 4) sc_law_ring.nd rfl (Or.inl rfl))) (fun _ _ _ _ _ => pts_nil) (fun _ _ _ _ _ => (pe_tup (pa_cons pe_str (pa_cons (pe_ix (ix_listK (K := K)) (pv 1) (pe_ix (ix_listK (K := K)) (pv 3) (pv 4) (fun _ _ => rfl)) (fun _ _ => rfl)) (pa_cons (pe_ix (ix_listK (K := K)) (pv 1) (pe_ix (ix_listK (K := K)) (pv 3) (pe_op op_add (pv 4) pe_int) (fun _ _ => rfl)) (fun _ _ => rfl)) (pa_cons (pe_ix (ix_listK (K := K)) (pv 5) (pv 4) (fun _ _ => rfl)) pa_nil))))))) pa_nil))))))))), ?_⟩
    have big : 1000 ≤ sizeLine := by decide
    have nl : (ns.map V.str).length = ns.length := List.length_map _
    refine ⟨_, rfl, _, rfl, t, _, rfl, .inl (SqL.of ht), b, _, rfl, X, by rw [nl]; omega, small_size' (by rw [nl]; omega), fun d1 H1 k1 X1 p0 p1 => ⟨(by show 1 ≤ sizeLine; decide), fun wy hwy => ?_⟩⟩
    have x2 := Ex.new (o := .lst [.int d1]) hwy
    have k2 := k1.trans (Kp.ex (b := b) x2)
    have X2 := X1.ex x2
    have hwb := X1.ne hwy
    have hw0 := k1.back X1 hwy
    obtain ⟨m1, rfl⟩ : ∃ m : Nat, d1 = m := ⟨d1.toNat, by omega⟩
    have hw2 : upd H1 wy (.lst [.int (m1 : Int)]) wy = some (.lst ([m1].map natV)) := upd_same
    generalize upd H1 wy (.lst [.int (m1 : Int)]) = H2 at *
    rw [nl] at p1
    refine ⟨_, rfl, steps, rfl, by omega, by omega, for_it (walk_range (lo := 0) (n := steps)) (fun i σ H' => ∃ (r : List Nat) (m : Nat) (o : Option V), σ = [some (.ref b), some (.ref t), some (.int (steps : Int)), some (.ref wy), o, none] ∧ Kp b H H' ∧ Bx b H' ∧ H' wy = some (.lst ((r ++ [m]).map natV)) ∧ Wy ns.length (r ++ [m]) ∧ r.length = i)
      ⟨[], m1, none, rfl, k2, X2, hw2, ⟨fun z hz => by rw [List.mem_singleton.mp hz]; omega, fun i x y _ h => by simp at h⟩, rfl⟩ (fun _ _ _ _ _ => trivial) ?_ ?_⟩
    · rintro i v σ H3 H3' hi ⟨r, m, o, rfl, k3, X3, hw3, W3, lr⟩ ⟨rfl, hv⟩
      have hm : m < ns.length := W3.1 m (List.mem_append_right _ List.mem_cons_self)
      have la : ((r ++ [m]).map natV).getLast? = some (natV m) := by simp
      refine ⟨_, rfl, .inl ⟨rfl, _, SqL.of hw3⟩, _, rfl, 1, rfl, wy, _, -1, natV m, rfl, rfl, SqL.of hw3, at_last la, _, _, rfl, rfl, _, rfl, _, rfl, t, _, rfl, .inl (SqL.of (k3.k _ _ ntb ht)), _, _, rfl, rfl, b, _, rfl, X3, by rw [nl]; omega, small_size' (by rw [nl]; omega), fun d4 H4 k4 X4 q0 q1 => ?_⟩
      have hw4 := k4.k _ _ hwb hw3
      rw [nl] at q1
      have rg := fmod_rng (n := (ns.length : Int)) (by omega) ((m : Int) + 1 + d4)
      have ne := step_ne (n := (ns.length : Int)) (w := (m : Int)) (t := d4) (by omega) (by omega) q0 q1
      refine ⟨_, _, rfl, rfl, .inl ⟨_, rfl, _, rfl, t, _, rfl, .inl (SqL.of (k4.k _ _ ntb (k3.k _ _ ntb ht))), _, _, rfl, rfl, by rw [nl]; omega, wy, _, _, rfl, rfl, hw4, by rw [List.length_map, List.length_append, List.length_singleton]; omega, ?_⟩⟩
      dsimp only
      rw [nl]
      generalize Int.fmod ((m : Int) + 1 + d4) (ns.length : Int) = z at *
      obtain ⟨m', rfl⟩ : ∃ m' : Nat, z = m' := ⟨z.toNat, by omega⟩
      refine ⟨r ++ [m], m', _, rfl, (k3.trans k4).mut hw0, X4.upd hwb, by rw [upd_same, List.map_append (l₁ := r ++ [m])]; rfl, W3.more (by omega) fun y hy => ?_, by rw [List.length_append, lr]; rfl⟩
      rw [List.getLast?_append] at hy
      have : y = m := by simpa using hy.symm
      rw [this]
      intro e
      exact ne (by rw [e])
    · rintro σ H3 ⟨r, m, o, rfl, k3, X3, hw3, W3, lr⟩
      have hm : m < ns.length := W3.1 m (List.mem_append_right _ List.mem_cons_self)
      have la : ((r ++ [m]).map natV).getLast? = some (natV m) := by simp
      obtain ⟨m0, r', hr'⟩ : ∃ m0 r', r ++ [m] = m0 :: r' := by
        cases r with
        | nil => exact ⟨m, [], rfl⟩
        | cons x y => exact ⟨x, y ++ [m], rfl⟩
      have h0 : atI ((r ++ [m]).map natV) 0 = some (natV m0) := by rw [hr']; exact at_lit (n := 0) rfl rfl
      refine ⟨fun σ' H' => ∃ (ws : List Nat) (o : Option V), σ' = [some (.ref b), some (.ref t), some (.int (steps : Int)), some (.ref wy), o, none] ∧ Kp b H H' ∧ Bx b H' ∧ H' wy = some (.lst (ws.map natV)) ∧ Wy ns.length ws ∧ 2 ≤ ws.length ∧ ws.length ≤ 6, ?_, ?_⟩
      · refine ⟨_, rfl, 1, rfl, wy, _, -1, natV m, rfl, rfl, SqL.of hw3, at_last la, _, rfl, wy, _, 0, _, rfl, rfl, SqL.of hw3, h0, rfl, _, rfl, ite2 (fun g => ?_) (fun g => ⟨r ++ [m], o, rfl, k3, X3, hw3, W3, by rw [List.length_append, List.length_singleton]; omega, by rw [List.length_append, List.length_singleton]; omega⟩)⟩
        refine ⟨_, rfl, .inl ⟨rfl, _, SqL.of hw3⟩, _, rfl, wy, _, 0, _, rfl, rfl, SqL.of hw3, h0, wy, _, _, rfl, rfl, hw3, by rw [List.length_map, List.length_append, List.length_singleton]; omega, (r ++ [m]) ++ [m0], o, rfl, k3.mut hw0, X3.upd hwb, by rw [upd_same, List.map_append (l₁ := r ++ [m])]; rfl, W3.more ?_ fun y hy => ?_, by rw [List.length_append, List.length_append, List.length_singleton, List.length_singleton]; omega, by rw [List.length_append, List.length_append, List.length_singleton, List.length_singleton]; omega⟩
        · exact W3.1 m0 (by rw [hr']; exact List.mem_cons_self)
        · rw [List.getLast?_append] at hy
          have : y = m := by simpa using hy.symm
          rw [this]
          intro e
          rw [e] at g
          exact absurd g (by simp [natV])
      · clear hw3 la h0 hr' hm W3 lr
        rintro σ' H4 ⟨ws, o, rfl, k4, X4, hw4, W4, l2, l6⟩
        have len4 : ((ws.map natV).length : Nat) = ws.length := List.length_map _
        have ci : ∀ m : Nat, m ≤ ws.length → V.int (((ws.map natV).length : Int) - (m : Int)) = V.int ((ws.length - m : Nat) : Int) := fun m hm => congrArg V.int (by rw [len4]; omega)
        refine ⟨_, rfl, wy, _, rfl, .inl (SqL.of hw4), _, _, rfl, rfl, ((ws.length - 2 : Nat) : Int), congrArg (fun z => [z]) (ci 2 l2), by omega, by omega, fun nu hnu => lcK (R := fun _ _ v => ∃ k : Int, v = .int k ∧ k.natAbs ≤ 10 ^ 60) (walk_range (lo := 0) (n := ws.length - 2)) (fun _ _ _ _ h => h.1) (fun _ _ _ _ _ h => h) X4 (by omega) (fun _ _ => trivial) (fun _ => rfl) (fun i x H' hi _ k5 X5 Q' q' => ⟨_, rfl, b, rfl, X5, fun k H6 k6 X6 hk => q' _ H6 k6 X6 ⟨k, rfl, hk⟩⟩) hnu fun H5 acc k5 X5 hn5 la A5 => ?_⟩
        have hnb := X4.ne hnu
        have hn0 := k4.back X4 hnu
        have nw : nu ≠ wy := fun e => by rw [e, hw4] at hnu; cases hnu
        have hw5 := k5.k _ _ hwb hw4
        obtain ⟨js, rfl, hj⟩ : ∃ js : List Int, acc = js.map V.int ∧ ∀ j ∈ js, j.natAbs ≤ 10 ^ 60 := by
          clear hn5 la
          induction acc with
          | nil => exact ⟨[], rfl, fun _ h => absurd h List.not_mem_nil⟩
          | cons x r ih =>
            obtain ⟨k, rfl, hk⟩ := A5 0 x rfl
            obtain ⟨js, rfl, hj⟩ := ih fun i v h => A5 (i + 1) v h
            exact ⟨k :: js, rfl, fun z hz => by
              rcases List.mem_cons.mp hz with rfl | hz
              · exact hk
              · exact hj z hz⟩
        rw [List.length_map] at la
        clear A5
        refine ⟨_, rfl, .inl ⟨rfl, _, SqL.of hn5⟩, 1, rfl, _, rfl, b, 2, rfl, X5, by decide, by decide +kernel, fun d6 H6 k6 X6 u0 u1 => ⟨_, rfl, b, 4, rfl, X6, by decide, by decide +kernel, fun d7 H7 k7 X7 v0 v1 => ?_⟩⟩
        have hn7 := k7.k _ _ hnb (k6.k _ _ hnb hn5)
        have hw7 := k7.k _ _ hwb (k6.k _ _ hwb hw5)
        have k47 := k4.trans (k5.trans (k6.trans k7))
        refine ⟨_, _, rfl, rfl, .inl (by constructor <;> omega), ?_⟩
        refine ⟨_, _, rfl, rfl, _, rfl, nu, js, rfl, SqL.of hn7, _, _, rfl, rfl, nu, _, _, rfl, rfl, hn7, by rw [List.length_map]; omega, ?_⟩
        have small : ∀ j ∈ js ++ [-1 - d6 * d7 - js.sum], j.natAbs ≤ 2 ^ 300 := fun j hj' => by
          have big10 : 5 * 10 ^ 60 ≤ 2 ^ 300 := by decide +kernel
          have hs := sum_abs hj
          have hl : js.length ≤ 4 := by omega
          have hs2 : js.length * 10 ^ 60 ≤ 4 * 10 ^ 60 := Nat.mul_le_mul_right _ hl
          have one : (10 : Nat) ≤ 10 ^ 60 := by decide +kernel
          rcases List.mem_append.mp hj' with h | h
          · exact Nat.le_trans (hj j h) (by omega)
          · rw [List.mem_singleton.mp h]
            have dd : 0 ≤ d6 * d7 ∧ d6 * d7 ≤ 3 := by
              rcases (by omega : d6 = 0 ∨ d6 = 1) with rfl | rfl <;> omega
            generalize (10 : Nat) ^ 60 = y at *
            generalize (2 : Nat) ^ 300 = u at *
            omega
        have hn8 : upd H7 nu (.lst (js.map V.int ++ [.int (-1 - d6 * d7 - js.sum)])) nu = some (.lst ((js ++ [-1 - d6 * d7 - js.sum]).map V.int)) := by rw [upd_same, List.map_append]; rfl
        have k8 : Kp b H (upd H7 nu (.lst (js.map V.int ++ [.int (-1 - d6 * d7 - js.sum)]))) := k47.mut hn0
        have X8 : Bx b (upd H7 nu (.lst (js.map V.int ++ [.int (-1 - d6 * d7 - js.sum)]))) := X7.upd hnb
        have hw8 : upd H7 nu (.lst (js.map V.int ++ [.int (-1 - d6 * d7 - js.sum)])) wy = some (.lst (ws.map natV)) := by rw [upd_ne nw.symm]; exact hw7
        dsimp only
        generalize upd H7 nu (.lst (js.map V.int ++ [.int (-1 - d6 * d7 - js.sum)])) = H8 at *
        have lj : (js ++ [-1 - d6 * d7 - js.sum]).length = ws.length - 1 := by rw [List.length_append, List.length_singleton]; omega
        generalize js ++ [-1 - d6 * d7 - js.sum] = ks at *
        refine ⟨_, rfl, wy, _, rfl, .inl (SqL.of hw8), _, _, rfl, rfl, ((ws.length - 1 : Nat) : Int), congrArg (fun z => [z]) (ci 1 (by omega)), by omega, by omega, fun F1 hF1 => lcK (R := fun _ H v => ∃ t l, v = .ref t ∧ H t = some (.tup (litV l)) ∧ MB ns 0 l) (walk_range (lo := 0) (n := ws.length - 1)) (fun _ _ _ _ h => h.1) (fun _ _ _ _ tp ⟨t, l, h1, h2, h3⟩ => ⟨t, l, h1, tp.tup h2, h3⟩) X8 (by omega) (fun _ _ => trivial) (fun _ => rfl) (fun i x H' hi hx k9 X9 Q' q' => ?_) hF1 fun H9 acc k9 X9 hF9 la9 A9 => ?_⟩
        · obtain ⟨_, rfl⟩ := hx
          have hi1 : i < ws.length := by omega
          have hi2 : i + 1 < ws.length := by omega
          have hi3 : i < ks.length := by omega
          have W1 := W4.1 ws[i] (List.getElem_mem _)
          have W2 := W4.1 ws[i + 1] (List.getElem_mem _)
          have W3 := W4.2 i ws[i] ws[i + 1] (List.getElem?_eq_getElem hi1) (List.getElem?_eq_getElem hi2)
          have e1 : (ws.map natV)[i]? = some (natV ws[i]) := by rw [List.getElem?_map, List.getElem?_eq_getElem hi1]; rfl
          have e2 : (ws.map natV)[i + 1]? = some (natV ws[i + 1]) := by rw [List.getElem?_map, List.getElem?_eq_getElem hi2]; rfl
          have e3 : (ks.map V.int)[i]? = some (.int ks[i]) := by rw [List.getElem?_map, List.getElem?_eq_getElem hi3]; rfl
          have e4 : (ns.map V.str)[ws[i]]? = some (.str ns[ws[i]]) := by rw [List.getElem?_map, List.getElem?_eq_getElem W1]; rfl
          have e5 : (ns.map V.str)[ws[i + 1]]? = some (.str ns[ws[i + 1]]) := by rw [List.getElem?_map, List.getElem?_eq_getElem W2]; rfl
          have htq := k9.k _ _ ntb (k8.k _ _ ntb ht)
          have hwq := k9.k _ _ hwb hw8
          have hnq := k9.k _ _ hnb hn8
          refine ⟨_, rfl, _, rfl, _, rfl, wy, _, _, natV ws[i], rfl, rfl, SqL.of hwq, at_lit (n := i) (by omega) e1, t, _, _, .str ns[ws[i]], rfl, rfl, SqL.of htq, at_lit (n := ws[i]) rfl e4, _, rfl, _, rfl, _, rfl, _, _, rfl, rfl, wy, _, _, natV ws[i + 1], rfl, rfl, SqL.of hwq, at_lit (n := i + 1) (by omega) e2, t, _, _, .str ns[ws[i + 1]], rfl, rfl, SqL.of htq, at_lit (n := ws[i + 1]) rfl e5, _, rfl, _, rfl, nu, _, _, .int ks[i], rfl, rfl, SqL.of hnq, at_lit (n := i) (by omega) e3, (by show 4 ≤ sizeLine; decide), fun q hq => ?_⟩
          refine q' _ _ (Kp.ex (Ex.new hq)) (X9.ex (Ex.new hq)) ⟨q, .most ns[ws[i]] ns[ws[i + 1]] ks[i], rfl, upd_same, _, _, _, rfl, List.getElem_mem _, List.getElem_mem _, fun e => W3 ?_, small _ (List.getElem_mem _)⟩
          exact nd_inj nd W1 W2 e
        · obtain ⟨ls, L, pl⟩ := lits_of A9
          have ll := L.len
          refine ⟨F1, acc, rfl, .inl ⟨SqL.of hF9, fun u hu => ?_⟩⟩
          have xu := Ex.new (o := .tup acc) hu
          exact fin u acc ls _ ((k8.trans k9).trans (Kp.ex xu)) (X9.ex xu) upd_same (L.ex xu) pl (by omega) (by omega)
def spNear : Sp := fun vs H Q _ => ∃ (b p t : Addr) (ns : List Str) (l : Lit), vs = [.ref b, .ref p, .ref t] ∧ Bx b H ∧ t ≠ b ∧ H t = some (.lst (ns.map V.str)) ∧ ns.Nodup ∧ 2 ≤ ns.length ∧ ns.length ≤ 4 ∧ H p = some (.tup (litV l)) ∧ MB ns 0 l ∧
  ∀ (u : Addr) (l' : Lit) H', Kp b H H' → Bx b H' → H' u = some (.tup (litV l')) → MB ns 1 l' → Q (.ref u) H'
theorem ok_law_near (T : TX K mg a) (D : FDS K a d) : FnOk P w K mg base CX0 3 a.a_law_near d.a_law_near ["box", "bound", "moments"] spNear := by
  have G__law_take : FnOk P w K mg base CX0 1 a.a_law_take d.a_law_take ["box", "size"] spTake := ok_law_take T D
  have G__law_number : FnOk P w K mg base CX0 2 a.a_law_number d.a_law_number ["box"] spNumber := ok_law_number T D
  refine D.F__law_near.ok sc_law_near (fun vs H Q E h => ?_) (fun cdv A outer s H vs Q E hr h => ?_)
  · obtain ⟨b, p, t, ns, l, rfl, _⟩ := h
    rfl
  · obtain ⟨b, p, t, ns, l, rfl, X, ntb, ht, nd, n2, n4, hp, ⟨x, y, k, rfl, hx, hy, ne, hk⟩, fin⟩ := h
    refine ⟨_, (pss_cons (ps_set (i := 3) sc_law_near.nd rfl (Or.inl rfl) (pe_call G__law_take (hr.mono (by decide)) rfl T.f__law_take T.k__law_take D.B__law_take .nil pass0 (pa_cons (pv 0) (pa_cons pe_int pa_nil))))
        (pss_cons (ps_if (pt_cmpR op_lt (pv 3) pe_int (nomark _)) (pss_one (ps_ret (pe_tup (pa_cons pe_str (pa_cons (pe_ix ix_tup (pv 1) pe_int (fun _ _ => rfl)) (pa_cons (pe_ix ix_tup (pv 1) pe_int (fun _ _ => rfl)) (pa_cons (pe_op op_add (pe_op op_sub (pe_ix ix_tup (pv 1) pe_int (fun _ _ => rfl)) pe_int) (pe_op op_mul pe_int (pv 3))) pa_nil))))))) pss_nil)
        (pss_cons (ps_set (i := 4) sc_law_near.nd rfl (Or.inl rfl) (pe_call G__law_take (hr.mono (by decide)) rfl T.f__law_take T.k__law_take D.B__law_take .nil pass0 (pa_cons (pv 0) (pa_cons (pe_callB call_len_seq (by rfl) T.b_len (by decide +kernel) (pa_cons (pv 2) pa_nil)) pa_nil))))
        (pss_cons (ps_set (i := 5) sc_law_near.nd rfl (Or.inl rfl) (pe_op op_modN (pe_callTy call_int1 (by rfl) T.b_int (by decide +kernel) (pa_cons (pe_op op_add (pe_op op_add (pv 4) pe_int) (pe_call G__law_take (hr.mono (by decide)) rfl T.f__law_take T.k__law_take D.B__law_take .nil pass0 (pa_cons (pv 0) (pa_cons (pe_op op_sub (pe_callB call_len_seq (by rfl) T.b_len (by decide +kernel) (pa_cons (pv 2) pa_nil)) pe_int) pa_nil)))) pa_nil)) (pe_callB call_len_seq (by rfl) T.b_len (by decide +kernel) (pa_cons (pv 2) pa_nil))))
        (pss_one (ps_ret (pe_tup (pa_cons pe_str (pa_cons (pe_ix (ix_listK (K := K)) (pv 2) (pv 4) (fun _ _ => rfl)) (pa_cons (pe_ix (ix_listK (K := K)) (pv 2) (pv 5) (fun _ _ => rfl)) (pa_cons (pe_call G__law_number (hr.mono (by decide)) rfl T.f__law_number T.k__law_number D.B__law_number .nil pass0 (pa_cons (pv 0) pa_nil)) pa_nil))))))))))), ?_⟩
    have nl : (ns.map V.str).length = ns.length := List.length_map _
    refine ⟨_, rfl, b, 4, rfl, X, by decide, by decide +kernel, fun d1 H1 k1 X1 p0 p1 => ⟨_, rfl, _, _, rfl, rfl, _, rfl, ite2 (fun g => ?_) (fun g => ?_)⟩⟩
    · have hp1 := (k1.tp X).tup hp
      have hd : d1 < 2 := of_decide_eq_true g
      refine ⟨_, rfl, p, _, 1, _, rfl, rfl, SqT.of hp1, rfl, _, rfl, p, _, 2, _, rfl, rfl, SqT.of hp1, rfl, _, rfl, p, _, 3, _, rfl, rfl, SqT.of hp1, rfl, _, _, rfl, rfl, _, rfl, _, _, rfl, rfl, .inl (by decide), _, _, rfl, rfl, (by show 4 ≤ sizeLine; decide), fun q hq => ?_⟩
      refine fin q (.most x y (k - 1 + 2 * d1)) _ (k1.trans (Kp.ex (Ex.new hq))) (X1.ex (Ex.new hq)) upd_same ⟨_, _, _, rfl, hx, hy, ne, ?_⟩
      generalize (2 : Nat) ^ 300 = u at *
      omega
    · refine ⟨_, rfl, _, rfl, t, _, rfl, .inl (SqL.of (k1.k _ _ ntb ht)), b, _, rfl, X1, by rw [nl]; omega, small_size' (by rw [nl]; omega), fun d2 H2 k2 X2 q0 q1 => ?_⟩
      have ht2 := k2.k _ _ ntb (k1.k _ _ ntb ht)
      rw [nl] at q1
      obtain ⟨m, rfl⟩ : ∃ m : Nat, d2 = m := ⟨d2.toNat, by omega⟩
      refine ⟨_, rfl, _, _, rfl, rfl, _, rfl, _, rfl, t, _, rfl, .inl (SqL.of ht2), _, _, rfl, rfl, b, _, rfl, X2, by rw [nl]; omega, small_size' (by rw [nl]; omega), fun d3 H3 k3 X3 r0 r1 => ?_⟩
      have ht3 := k3.k _ _ ntb ht2
      rw [nl] at r1
      have rg := fmod_rng (n := (ns.length : Int)) (by omega) ((m : Int) + 1 + d3)
      have sne := step_ne (n := (ns.length : Int)) (w := (m : Int)) (t := d3) (by omega) (by omega) r0 r1
      refine ⟨_, _, rfl, rfl, .inl ⟨_, rfl, _, rfl, t, _, rfl, .inl (SqL.of ht3), _, _, rfl, rfl, by rw [nl]; omega, ?_⟩⟩
      dsimp only
      rw [nl]
      generalize Int.fmod ((m : Int) + 1 + d3) (ns.length : Int) = z at *
      obtain ⟨m', rfl⟩ : ∃ m' : Nat, z = m' := ⟨z.toNat, by omega⟩
      have W1 : m < ns.length := by omega
      have W2 : m' < ns.length := by omega
      have e4 : (ns.map V.str)[m]? = some (.str ns[m]) := by rw [List.getElem?_map, List.getElem?_eq_getElem W1]; rfl
      have e5 : (ns.map V.str)[m']? = some (.str ns[m']) := by rw [List.getElem?_map, List.getElem?_eq_getElem W2]; rfl
      refine ⟨_, rfl, _, rfl, t, _, _, .str ns[m], rfl, rfl, SqL.of ht3, at_lit (n := m) rfl e4, _, rfl, _, rfl, t, _, _, .str ns[m'], rfl, rfl, SqL.of ht3, at_lit (n := m') rfl e5, _, rfl, b, rfl, X3, fun k4 H4 kk4 X4 hk4 => ⟨(by show 4 ≤ sizeLine; decide), fun q hq => ?_⟩⟩
      refine fin q (.most ns[m] ns[m'] k4) _ (((k1.trans k2).trans (k3.trans kk4)).trans (Kp.ex (Ex.new hq))) (X4.ex (Ex.new hq)) upd_same ⟨_, _, _, rfl, List.getElem_mem _, List.getElem_mem _, fun e => ?_, ?_⟩
      · have := nd_inj nd W1 W2 e
        omega
      · have big10 : 10 ^ 60 ≤ 2 ^ 300 := by decide +kernel
        generalize (2 : Nat) ^ 300 = u at *
        generalize (10 : Nat) ^ 60 = v at *
        omega
end
end F5
set_option maxRecDepth 100000
set_option maxHeartbeats 8000000
namespace F5
open PySem L2 Evl GP HR SC SetM SetH RQ
theorem cutV_drop {xs : List V} {k : Nat} : L2.cutV xs (some (k : Int)) none = xs.drop k := by
  unfold L2.cutV
  rw [HT.sIx_none, HT.sIx_nat]
  by_cases h : k ≤ xs.length
  · rw [Nat.min_eq_left h]
    exact List.take_of_length_le (by rw [List.length_drop]; exact Nat.le_refl _)
  · rw [Nat.min_eq_right (by omega), List.drop_eq_nil_of_le (Nat.le_refl _), List.drop_eq_nil_of_le (by omega), List.take_nil]
def TL (ts : List Str) (l : Lit) : Prop := ∃ x, l = .yn true x ∧ x ∈ ts
/-- a literal of the pool -/
def PL (ts ms : List Str) (n : Nat) (l : Lit) : Prop := (∃ b x, l = .yn b x ∧ x ∈ ts) ∨ MB ms n l
structure Nms (b : Addr) (H : Hp) (p : Addr) (ns : List Str) : Prop where
  at_ : H p = some (.lst (ns.map V.str))
  ne : p ≠ b
  ok : ∀ z ∈ ns, isNameS z = true
  nd : ns.Nodup
  few : ns.length ≤ 4
theorem Nms.kp {b : Addr} {H H' : Hp} {p : Addr} {ns : List Str} (N : Nms b H p ns) (k : Kp b H H') : Nms b H' p ns := { N with at_ := k.k _ _ N.ne N.at_ }
theorem Nms.new {b : Addr} {H : Hp} {p : Addr} {ns ms : List Str} (X : Bx b H) (hp : H p = none) (ok : ∀ z ∈ ms, isNameS z = true) (s : ns.Sublist ms) (nd : ms.Nodup) (f : ms.length ≤ 4) : Nms b (upd H p (.lst (ns.map V.str))) p ns :=
  ⟨upd_same, X.ne hp, fun z hz => ok z (s.mem hz), nd.sublist s, Nat.le_trans s.length_le f⟩
/-- the drawn world -/
structure WV (b : Addr) (H : Hp) (r pl tr mo : Addr) (us : List V) (ls : List Lit) (ts ms : List Str) : Prop where
  r_ : ∃ rg, H r = some (.lst [.ref rg, .ref pl, .ref tr, .ref mo])
  rb : r ≠ b
  pl_ : H pl = some (.lst us)
  pb : pl ≠ b
  L : Lits H us ls
  T : Nms b H tr ts
  M : Nms b H mo ms
  ok : ∀ l ∈ ls, PL ts ms 1 l
  one : 1 ≤ ls.length
  few : ls.length ≤ 10
theorem Lits.app {H : Hp} {vs ws : List V} {ls ms : List Lit} (A : Lits H vs ls) (B : Lits H ws ms) : Lits H (vs ++ ws) (ls ++ ms) := ⟨by rw [List.length_append, List.length_append, A.len, B.len], fun i l h => by
  by_cases g : i < ls.length
  · rw [List.getElem?_append_left g] at h
    rw [List.getElem?_append_left (by rw [A.len]; exact g)]
    exact A.at_ i l h
  · rw [List.getElem?_append_right (by omega)] at h
    rw [List.getElem?_append_right (by rw [A.len]; omega), A.len]
    exact B.at_ _ l h⟩
def spWorld : Sp := fun vs H Q _ => ∃ b : Addr, vs = [.ref b] ∧ Bx b H ∧ ∀ r pl tr mo us ls ts ms H', Kp b H H' → Bx b H' → WV b H' r pl tr mo us ls ts ms → Q (.ref r) H'
section
variable {P : Program} {w : World} {K : PySem.W.Frag} {mg : Str → Option Value} {base : Heap} {a : Ad} {d : Fd} {fL fC fU fP : Addr}
theorem ok_law_world (T : TX K mg a) (D : FDS K a d) : FnOk P w K mg base CX0 4 a.a_law_world d.a_law_world ["box"] spWorld := by
  have G__law_take : FnOk P w K mg base CX0 1 a.a_law_take d.a_law_take ["box", "size"] spTake := ok_law_take T D
  have G__law_name : FnOk P w K mg base CX0 2 a.a_law_name d.a_law_name ["box", "taken"] spName := ok_law_name T D
  have G__law_ring : FnOk P w K mg base CX0 3 a.a_law_ring d.a_law_ring ["box", "moments", "steps"] spRing := ok_law_ring T D
  have G__law_near : FnOk P w K mg base CX0 3 a.a_law_near d.a_law_near ["box", "bound", "moments"] spNear := ok_law_near T D
  refine D.F__law_world.ok sc_law_world (fun vs H Q E h => ?_) (fun cdv A outer s H vs Q E hr h => ?_)
  · obtain ⟨b, rfl, _⟩ := h
    rfl
  · obtain ⟨b, rfl, X, fin⟩ := h
    refine ⟨_, (pss_cons (ps_set (i := 1) sc_law_world.nd rfl (Or.inl rfl) (pe_lst pa_nil))
        (pss_cons (ps_for PassesOwn.never rfl (pi_range1 rfl T.b_range (pa_cons pe_int pa_nil)) (pg_name (i := 2) sc_law_world.nd rfl (Or.inl rfl)) (pss_one (ps_expr (pe_bm PySem.F.plainAttrs_list PySem.F.slot_list_append PySem.F.type_list_append mt_append (pv 1) (pa_cons (pe_call G__law_name (hr.mono (by decide)) rfl T.f__law_name T.k__law_name D.B__law_name .nil pass0 (pa_cons (pv 0) (pa_cons (pv 1) pa_nil))) pa_nil)))))
        (pss_cons (ps_set (i := 3) sc_law_world.nd rfl (Or.inl rfl) (pe_call G__law_take (hr.mono (by decide)) rfl T.f__law_take T.k__law_take D.B__law_take .nil pass0 (pa_cons (pv 0) (pa_cons pe_int pa_nil))))
        (pss_cons (ps_set (i := 4) sc_law_world.nd rfl (Or.inl rfl) (pe_slice sl_list (pv 1) po_none (po_some (pe_op op_add pe_int (pe_call G__law_take (hr.mono (by decide)) rfl T.f__law_take T.k__law_take D.B__law_take .nil pass0 (pa_cons (pv 0) (pa_cons pe_int pa_nil)))))))
        (Evl.pss_cut (ps_if (pt_cmpR op_eq (pv 3) pe_int (nomark _)) (pss_one (ps_ret (pe_lst (pa_cons (pe_tup pa_nil) (pa_cons (pe_lc (own := [("one", 9)]) (g := gName 9) (tt := tYes) rfl sc_law_world.nd (pi_list (pv 4)) (blkOk_by (N := ["box", "names", "k", "shape", "truths", "moments", "steps", "ring", "pool", "one"]) (sc := defScope s_law_world) (by decide +kernel)) (fun _ _ _ _ _ => (pg_name (i := 9) sc_law_world.nd rfl (Or.inl rfl))) (fun _ _ _ _ _ => pts_nil) (fun _ _ _ _ _ => (pe_tup (pa_cons pe_str (pa_cons (pv 9) pa_nil))))) (pa_cons (pv 4) (pa_cons (pe_lst pa_nil) pa_nil))))))) pss_nil)
        (pss_cons (ps_set (i := 5) sc_law_world.nd rfl (Or.inl rfl) (pe_slice sl_list (pv 1) (po_some (pe_call G__law_take (hr.mono (by decide)) rfl T.f__law_take T.k__law_take D.B__law_take .nil pass0 (pa_cons (pv 0) (pa_cons pe_int pa_nil)))) po_none))
        (pss_cons (ps_set (i := 6) sc_law_world.nd rfl (Or.inl rfl) (pe_op op_add pe_int (pe_call G__law_take (hr.mono (by decide)) rfl T.f__law_take T.k__law_take D.B__law_take .nil pass0 (pa_cons (pv 0) (pa_cons pe_int pa_nil)))))
        (Evl.pss_cut (ps_if (pt_cmpR op_eq (pv 3) pe_int (nomark _)) (pss_cons (ps_set (i := 4) sc_law_world.nd rfl (Or.inl rfl) (pe_lst pa_nil))
        (pss_one (ps_set (i := 6) sc_law_world.nd rfl (Or.inl rfl) (pe_op op_add (pv 6) (pe_call G__law_take (hr.mono (by decide)) rfl T.f__law_take T.k__law_take D.B__law_take .nil pass0 (pa_cons (pv 0) (pa_cons pe_int pa_nil))))))) pss_nil)
        (pss_cons (ps_set (i := 7) sc_law_world.nd rfl (Or.inl rfl) (pe_call G__law_ring (hr.mono (by decide)) rfl T.f__law_ring T.k__law_ring D.B__law_ring .nil pass0 (pa_cons (pv 0) (pa_cons (pv 5) (pa_cons (pv 6) pa_nil)))))
        (pss_cons (ps_set (i := 8) sc_law_world.nd rfl (Or.inl rfl) (pe_op op_cat (pe_callTy call_list_of (by rfl) T.b_list (by decide +kernel) (pa_cons (pv 7) pa_nil)) (pe_lc (own := [("one", 9)]) (g := gName 9) (tt := tYes) rfl sc_law_world.nd (pi_list (pv 4)) (blkOk_by (N := ["box", "names", "k", "shape", "truths", "moments", "steps", "ring", "pool", "one"]) (sc := defScope s_law_world) (by decide +kernel)) (fun _ _ _ _ _ => (pg_name (i := 9) sc_law_world.nd rfl (Or.inl rfl))) (fun _ _ _ _ _ => pts_nil) (fun _ _ _ _ _ => (pe_tup (pa_cons pe_str (pa_cons (pv 9) pa_nil)))))))
        (Evl.pss_cut (ps_if (pt_cmpR op_lt (pe_callB call_len_seq (by rfl) T.b_len (by decide +kernel) (pa_cons (pv 8) pa_nil)) pe_int (nomark _)) (pss_one (ps_expr (pe_bm PySem.F.plainAttrs_list PySem.F.slot_list_append PySem.F.type_list_append mt_append (pv 8) (pa_cons (pe_call G__law_near (hr.mono (by decide)) rfl T.f__law_near T.k__law_near D.B__law_near .nil pass0 (pa_cons (pv 0) (pa_cons (pe_ix ix_tup (pv 7) (pe_call G__law_take (hr.mono (by decide)) rfl T.f__law_take T.k__law_take D.B__law_take .nil pass0 (pa_cons (pv 0) (pa_cons (pe_callB call_len_seq (by rfl) T.b_len (by decide +kernel) (pa_cons (pv 7) pa_nil)) pa_nil))) (fun _ _ => rfl)) (pa_cons (pv 5) pa_nil)))) pa_nil)))) pss_nil)
        (pss_one (ps_ret (pe_lst (pa_cons (pv 7) (pa_cons (pv 8) (pa_cons (pv 4) (pa_cons (pv 5) pa_nil)))))))))))))))))), ?_⟩
    have big : 1000 ≤ sizeLine := by decide
    refine ⟨Nat.zero_le _, fun nm hnm => ?_⟩
    have x1 := Ex.new (o := .lst []) hnm
    have k1 := Kp.ex (b := b) x1
    have X1 := X.ex x1
    have nmb := X.ne hnm
    have hn1 : upd H nm (.lst []) nm = some (.lst (([] : List Str).map V.str)) := upd_same
    generalize upd H nm (.lst []) = H1 at *
    refine ⟨4, rfl, by decide, by decide, for_it (walk_range (lo := 0) (n := 4)) (fun i σ H' => ∃ (ns : List Str) (o : Option V), σ = [some (.ref b), some (.ref nm), o, none, none, none, none, none, none, none] ∧ Kp b H H' ∧ Bx b H' ∧ Nms b H' nm ns ∧ ns.length = i)
      ⟨[], none, rfl, k1, X1, ⟨hn1, nmb, fun _ h => absurd h List.not_mem_nil, List.nodup_nil, by decide⟩, rfl⟩ (fun _ _ _ _ _ => trivial) ?_ ?_⟩
    · rintro i v σ H2 H2' hi ⟨ns, o, rfl, k2, X2, N2, rfl⟩ ⟨rfl, hv⟩
      refine ⟨_, rfl, .inl ⟨rfl, _, SqL.of N2.at_⟩, _, rfl, _, rfl, b, nm, ns, rfl, X2, nmb, N2.at_, by omega, fun z H3 k3 X3 nz zn => ⟨nm, _, _, rfl, rfl, (N2.kp k3).at_, by rw [List.length_map]; omega, ns ++ [z], _, rfl, (k2.trans k3).mut hnm, X3.upd nmb, ?_, by rw [List.length_append]; rfl⟩⟩
      refine ⟨by rw [upd_same, List.map_append]; rfl, nmb, fun y hy => ?_, ?_, by rw [List.length_append, List.length_singleton]; omega⟩
      · rcases List.mem_append.mp hy with h | h
        · exact N2.ok y h
        · rw [List.mem_singleton.mp h]; exact nz
      · refine List.nodup_append.mpr ⟨N2.nd, List.nodup_cons.mpr ⟨List.not_mem_nil, List.nodup_nil⟩, fun u hu y hy => ?_⟩
        rw [List.mem_singleton.mp hy]
        exact fun e => zn (by rw [← e]; exact hu)
    · rintro σ H2 ⟨ns, o, rfl, k2, X2, N2, l4⟩
      refine ⟨_, rfl, b, 8, rfl, X2, by decide, by decide +kernel, fun sh H3 k3 X3 s0 s1 => ?_⟩
      refine ⟨_, rfl, _, rfl, b, 3, rfl, X3, by decide, by decide +kernel, fun d1 H4 k4 X4 p0 p1 => ?_⟩
      obtain ⟨m1, rfl⟩ : ∃ m : Nat, d1 = m := ⟨d1.toNat, by omega⟩
      have N4 := N2.kp (k3.trans k4)
      have k04 := k2.trans (k3.trans k4)
      refine ⟨_, _, rfl, rfl, _, rfl, nm, _, rfl, SqL.of N4.at_, fun tr htr => ?_⟩
      have x5 := Ex.new (o := .lst (L2.cutV (ns.map V.str) none (some (1 + (m1 : Int))))) htr
      have hcut : L2.cutV (ns.map V.str) none (some (1 + (m1 : Int))) = (ns.take (m1 + 1)).map V.str := by
        rw [show (1 + (m1 : Int)) = ((m1 + 1 : Nat) : Int) by omega, cutV_take, List.map_take]
      have T5 : Nms b (upd H4 tr (.lst (L2.cutV (ns.map V.str) none (some (1 + (m1 : Int)))))) tr (ns.take (m1 + 1)) := by
        rw [hcut]
        exact .new X4 htr N4.ok (List.take_sublist _ _) N4.nd N4.few
      have X5 := X4.ex x5
      have k05 := k04.trans (Kp.ex (b := b) x5)
      have N5 := N4.kp (Kp.ex (b := b) x5)
      clear hcut
      dsimp only
      generalize upd H4 tr (.lst (L2.cutV (ns.map V.str) none (some (1 + (m1 : Int))))) = H5 at *
      have tl : 1 ≤ (ns.take (m1 + 1)).length := by rw [List.length_take]; omega
      have tl3 : (ns.take (m1 + 1)).length ≤ 3 := by rw [List.length_take]; omega
      generalize ns.take (m1 + 1) = ts at *
      clear p0 p1 k04 N4 k4 htr x5 k3
      refine ⟨fun σ' H' => σ' = [some (.ref b), some (.ref nm), o, some (.int sh), some (.ref tr), none, none, none, none, none] ∧ H' = H5, ?_, ?_⟩
      · refine ⟨_, rfl, rfl, _, rfl, ite2 (fun g => ?_) (fun g => ⟨rfl, rfl⟩)⟩
        refine ⟨Nat.zero_le _, fun e1 he1 => ?_⟩
        have x6 := Ex.new (o := .tup []) he1
        have T6 := T5.kp (Kp.ex (b := b) x6)
        have X6 := X5.ex x6
        have k06 := k05.trans (Kp.ex (b := b) x6)
        generalize upd H5 e1 (.tup []) = H6 at *
        refine ⟨_, rfl, tr, rfl, ⟨_, SqL.of T6.at_⟩, fun F1 hF1 => lcK (R := fun _ H v => ∃ t l, v = .ref t ∧ H t = some (.tup (litV l)) ∧ TL ts l) (walk_list (xs := ts.map V.str)) (fun _ _ _ _ h => h.1) (fun _ _ _ _ tp ⟨t, l, h1, h2, h3⟩ => ⟨t, l, h1, tp.tup h2, h3⟩) X6 (by rw [List.length_map]; omega) (fun H' k => SqL.of (k.k _ _ T6.ne T6.at_)) (fun _ => rfl) (fun i x H' hi hx k9 X9 Q' q' => ?_) hF1 fun H9 acc k9 X9 hF9 la9 A9 => have hF9' := hF1; ?_⟩
        · obtain ⟨_, hx⟩ := hx
          rw [List.getElem?_map] at hx
          obtain ⟨z, hz, rfl⟩ := Option.map_eq_some_iff.mp hx
          exact ⟨_, rfl, (by show 2 ≤ sizeLine; decide), fun t ht => q' _ _ (Kp.ex (Ex.new ht)) (X9.ex (Ex.new ht)) ⟨t, .yn true z, rfl, upd_same, z, rfl, List.mem_of_getElem? hz⟩⟩
        · obtain ⟨ls, L, pl⟩ := lits_of A9
          rw [List.length_map] at la9
          have ll := L.len
          have nF := X6.ne hF9'
          refine ⟨_, rfl, Nat.zero_le _, fun mo hmo => ⟨(by show 4 ≤ sizeLine; decide), fun r hr => ?_⟩⟩
          have x10 := Ex.new (o := .lst []) hmo
          have x11 := Ex.new (o := .lst [V.ref e1, .ref F1, .ref tr, .ref mo]) hr
          have x12 := x10.trans x11
          have nmo : mo ≠ r := fun e => by rw [e, upd_same] at hr; cases hr
          exact fin r F1 tr mo acc ls ts [] _ (k06.trans (k9.trans (Kp.ex x12))) (X9.ex x12) ⟨⟨e1, upd_same⟩, (X9.ex x10).ne hr, x12 _ _ hF9, nF, L.ex x12, T6.kp (k9.trans (Kp.ex x12)), ⟨by rw [upd_ne nmo, upd_same]; rfl, X9.ne hmo, fun _ h => absurd h List.not_mem_nil, List.nodup_nil, by decide⟩,
            fun l hl => .inl (let ⟨z, h1, h2⟩ := pl l hl; ⟨true, z, h1, h2⟩), by omega, by omega⟩
      · rintro σ' H' ⟨rfl, rfl⟩
        refine ⟨_, rfl, _, rfl, b, 3, rfl, X5, by decide, by decide +kernel, fun d6 H6 k6 X6 p0 p1 => ?_⟩
        obtain ⟨m6, rfl⟩ : ∃ m : Nat, d6 = m := ⟨d6.toNat, by omega⟩
        have N6 := N5.kp k6
        refine ⟨_, rfl, nm, _, rfl, SqL.of N6.at_, fun mo hmo => ?_⟩
        have x7 := Ex.new (o := .lst (L2.cutV (ns.map V.str) (some (m6 : Int)) none)) hmo
        have M7 : Nms b (upd H6 mo (.lst (L2.cutV (ns.map V.str) (some (m6 : Int)) none))) mo (ns.drop m6) := by
          rw [cutV_drop, ← List.map_drop]
          exact .new X6 hmo N6.ok (List.drop_sublist _ _) N6.nd N6.few
        have T7 := T5.kp (k6.trans (Kp.ex (b := b) x7))
        have X7 := X6.ex x7
        have k07 := k05.trans (k6.trans (Kp.ex (b := b) x7))
        generalize upd H6 mo (.lst (L2.cutV (ns.map V.str) (some (m6 : Int)) none)) = H7 at *
        have ml : 2 ≤ (ns.drop m6).length := by rw [List.length_drop]; omega
        generalize ns.drop m6 = ms at *
        refine ⟨_, rfl, b, 2, rfl, X7, by decide, by decide +kernel, fun d8 H8 k8 X8 q0 q1 => ?_⟩
        obtain ⟨m8, rfl⟩ : ∃ m : Nat, d8 = m := ⟨d8.toNat, by omega⟩
        refine ⟨_, _, rfl, rfl, fun σ' H' => ∃ (tr : Addr) (ts : List Str) (st : Int), σ' = [some (.ref b), some (.ref nm), o, some (.int sh), some (.ref tr), some (.ref mo), some (.int st), none, none, none] ∧ Kp b H H' ∧ Bx b H' ∧ Nms b H' tr ts ∧ ts.length ≤ 3 ∧ Nms b H' mo ms ∧ 1 ≤ st ∧ st ≤ 4, ?_, ?_⟩
        · have T8 := T7.kp k8
          have M8 := M7.kp k8
          have k08 := k07.trans k8
          refine ⟨_, rfl, rfl, _, rfl, ite2 (fun g => ?_) (fun g => ⟨tr, ts, 1 + (m8 : Int), rfl, k08, X8, T8, tl3, M8, by omega, by omega⟩)⟩
          refine ⟨Nat.zero_le _, fun t2 ht2 => ?_⟩
          have x9 := Ex.new (o := .lst []) ht2
          have M9 := M8.kp (Kp.ex (b := b) x9)
          have X9 := X8.ex x9
          have k09 := k08.trans (Kp.ex (b := b) x9)
          have T9 : Nms b (upd H8 t2 (.lst [])) t2 [] := ⟨upd_same, X8.ne ht2, fun _ h => absurd h List.not_mem_nil, List.nodup_nil, by decide⟩
          generalize upd H8 t2 (.lst []) = H9 at *
          exact ⟨_, rfl, _, rfl, b, 3, rfl, X9, by decide, by decide +kernel, fun d9 H10 k10 X10 u0 u1 => ⟨_, _, rfl, rfl, t2, [], 1 + (m8 : Int) + d9, rfl, k09.trans k10, X10, T9.kp k10, by decide, M9.kp k10, by omega, by omega⟩⟩
        · clear T7 T5 tl tl3
          rintro σ' H9 ⟨tr, ts, st, rfl, k9, X9, T9, tl3, M9, s1, s4⟩
          obtain ⟨st, rfl⟩ : ∃ m : Nat, st = m := ⟨st.toNat, by omega⟩
          refine ⟨_, rfl, _, rfl, _, rfl, b, mo, ms, st, rfl, X9, M9.ne, M9.at_, M9.nd, ml, M9.few, by omega, by omega, fun rg us ls H10 k10 X10 hrg L10 pl10 l1 l5 => ?_⟩
          have T10 := T9.kp k10
          have M10 := M9.kp k10
          have k010 := k9.trans k10
          refine ⟨_, rfl, rg, us, rfl, .inr (SqT.of hrg), fun F hF => ?_⟩
          have x11 := Ex.new (o := .lst us) hF
          have hF1 : upd H10 F (.lst us) F = some (.lst us) := upd_same
          have nFb := X10.ne hF
          have T11 := T10.kp (Kp.ex (b := b) x11)
          have M11 := M10.kp (Kp.ex (b := b) x11)
          have X11 := X10.ex x11
          have k011 := k010.trans (Kp.ex (b := b) x11)
          have hrg1 := x11 _ _ hrg
          have L11 := L10.ex x11
          generalize upd H10 F (.lst us) = H11 at *
          refine ⟨_, rfl, tr, rfl, ⟨_, SqL.of T11.at_⟩, fun F1 hF1' => lcK (R := fun _ H v => ∃ t l, v = .ref t ∧ H t = some (.tup (litV l)) ∧ TL ts l) (walk_list (xs := ts.map V.str)) (fun _ _ _ _ h => h.1) (fun _ _ _ _ tp ⟨t, l, h1, h2, h3⟩ => ⟨t, l, h1, tp.tup h2, h3⟩) X11 (by rw [List.length_map]; omega) (fun H' k => SqL.of (k.k _ _ T11.ne T11.at_)) (fun _ => rfl) (fun i x H' hi hx k9 X9 Q' q' => ?_) hF1' fun H12 acc k12 X12 hF12 la12 A12 => ?_⟩
          · obtain ⟨_, hx⟩ := hx
            rw [List.getElem?_map] at hx
            obtain ⟨z, hz, rfl⟩ := Option.map_eq_some_iff.mp hx
            exact ⟨_, rfl, (by show 2 ≤ sizeLine; decide), fun t ht => q' _ _ (Kp.ex (Ex.new ht)) (X9.ex (Ex.new ht)) ⟨t, .yn true z, rfl, upd_same, z, rfl, List.mem_of_getElem? hz⟩⟩
          obtain ⟨ls2, L2', pl2⟩ := lits_of A12
          rw [List.length_map] at la12
          have ll1 := L10.len
          have ll2 := L2'.len
          have L12 := L11.tp (k12.tp X11)
          refine ⟨F, F1, _, _, rfl, rfl, k12.k _ _ nFb hF1, hF12, by omega, fun pl hpl => ?_⟩
          have x13 := Ex.new (o := .lst (us ++ acc)) hpl
          have ntr : tr ≠ pl := fun e => by rw [← e, (T11.kp k12).at_] at hpl; cases hpl
          have nmo : mo ≠ pl := fun e => by rw [← e, (M11.kp k12).at_] at hpl; cases hpl
          have npb := X12.ne hpl
          have hp0 := (k011.trans k12).back X12 hpl
          have hp13 : upd H12 pl (.lst (us ++ acc)) pl = some (.lst (us ++ acc)) := upd_same
          have k013 := (k011.trans k12).trans (Kp.ex (b := b) x13)
          have X13 := X12.ex x13
          have T13 := T11.kp (k12.trans (Kp.ex (b := b) x13))
          have M13 := M11.kp (k12.trans (Kp.ex (b := b) x13))
          have hrg13 := x13 _ _ ((k12.tp X11).tup hrg1)
          have L13 : Lits (upd H12 pl (.lst (us ++ acc))) (us ++ acc) (ls ++ ls2) := (L12.app L2').ex x13
          have L13r := L12.ex x13
          have ok13 : ∀ l ∈ ls ++ ls2, PL ts ms 1 l := fun l hl => by
            rcases List.mem_append.mp hl with h | h
            · obtain ⟨x, y, k, h1, h2, h3, h4, h5⟩ := pl10 l h
              exact .inr ⟨x, y, k, h1, h2, h3, h4, Nat.le_trans h5 (Nat.le_add_right _ _)⟩
            · obtain ⟨z, h1, h2⟩ := pl2 l h
              exact .inl ⟨true, z, h1, h2⟩
          generalize upd H12 pl (.lst (us ++ acc)) = H13 at *
          have few13 : (ls ++ ls2).length ≤ 8 := by rw [List.length_append]; omega
          have one13 : 1 ≤ (ls ++ ls2).length := by rw [List.length_append]; omega
          generalize hP : us ++ acc = ps at *
          generalize ls ++ ls2 = lp at *
          refine ⟨fun σ' H' => ∃ (ps : List V) (lp : List Lit), σ' = [some (.ref b), some (.ref nm), o, some (.int sh), some (.ref tr), some (.ref mo), some (.int (st : Int)), some (.ref rg), some (.ref pl), none] ∧ Kp b H H' ∧ Bx b H' ∧ Nms b H' tr ts ∧ Nms b H' mo ms ∧ H' pl = some (.lst ps) ∧ Lits H' ps lp ∧ (∀ l ∈ lp, PL ts ms 1 l) ∧ 1 ≤ lp.length ∧ lp.length ≤ 10, ?_, ?_⟩
          · refine ⟨_, rfl, pl, _, rfl, .inl (SqL.of hp13), _, _, rfl, rfl, _, rfl, ite2 (fun g => ?_) (fun g => ⟨ps, lp, rfl, k013, X13, T13, M13, hp13, L13, ok13, one13, by omega⟩)⟩
            have ul : us.length = ls.length := ll1
            refine ⟨_, rfl, .inl ⟨rfl, _, SqL.of hp13⟩, _, rfl, _, rfl, _, rfl, _, rfl, rg, _, rfl, .inr (SqT.of hrg13), b, _, rfl, X13, by omega, small_size' (by omega), fun d14 H14 k14 X14 r0 r1 => ?_⟩
            have L14 := L13r.tp (k14.tp X13)
            have hi : d14.toNat < ls.length := by omega
            obtain ⟨t, e1, e2⟩ := L14.at_ d14.toNat ls[d14.toNat] (List.getElem?_eq_getElem hi)
            have M14 := M13.kp k14
            refine ⟨rg, _, _, _, rfl, rfl, SqT.of ((k14.tp X13).tup hrg13), at_lit (n := d14.toNat) (by omega) e1, _, rfl, b, t, mo, ms, _, rfl, X14, M14.ne, M14.at_, M14.nd, ml, M14.few, e2, pl10 _ (List.getElem_mem _), fun q l' H15 k15 X15 hq ml' => ?_⟩
            have k1315 := k14.trans k15
            have hp15 := k1315.k _ _ npb hp13
            refine ⟨pl, _, _, rfl, rfl, hp15, by rw [L13.len]; omega, ps ++ [.ref q], lp ++ [l'], rfl, (k013.trans k1315).mut hp0, X15.upd npb, ?_, ?_, upd_same, ?_, ?_, ?_, ?_⟩
            · exact { (T13.kp k1315) with at_ := by rw [upd_ne ntr]; exact (T13.kp k1315).at_ }
            · exact { M14.kp k15 with at_ := by rw [upd_ne nmo]; exact (M14.kp k15).at_ }
            · exact ((L13.tp (k1315.tp X13)).tp (Tp.lst hp15)).app ⟨rfl, fun i l h => by
                cases i with
                | zero => cases h; exact ⟨q, rfl, (Tp.lst hp15).tup hq⟩
                | succ i => simp at h⟩
            · intro l hl
              rcases List.mem_append.mp hl with h | h
              · exact ok13 l h
              · rw [List.mem_singleton.mp h]; exact .inr ml'
            · rw [List.length_append]; omega
            · rw [List.length_append, List.length_singleton]; omega
          · rintro σ' H14 ⟨ps, lp, rfl, k14, X14, T14, M14, hp14, L14, ok14, one14, few14⟩
            refine ⟨_, rfl, _, rfl, _, rfl, _, rfl, (by show 4 ≤ sizeLine; decide), fun r hr => ?_⟩
            have x15 := Ex.new (o := .lst [V.ref rg, .ref pl, .ref tr, .ref mo]) hr
            have kx := Kp.ex (b := b) x15
            exact fin r pl tr mo ps lp ts ms _ (k14.trans kx) (X14.ex x15) ⟨⟨rg, upd_same⟩, X14.ne hr, x15 _ _ hp14, npb, L14.ex x15, T14.kp kx, M14.kp kx, ok14, one14, few14⟩
end
end F5
set_option maxRecDepth 100000
set_option maxHeartbeats 8000000
namespace F5
open PySem L2 Evl GP HR SC SetM SetH RQ
theorem PL.ok {ts ms : List Str} {n : Nat} {l : Lit} (h : PL ts ms n l) (nt : ∀ z ∈ ts, isNameS z = true) (nm : ∀ z ∈ ms, isNameS z = true) (hn : n ≤ 100) : LitOk l := by
  rcases h with ⟨b, x, rfl, hx⟩ | h
  · exact nt x hx
  · exact h.ok nm hn
theorem PL.opp {ts ms : List Str} {n : Nat} {l : Lit} (h : PL ts ms n l) : PL ts ms (n + 1) (oppL l) := by
  rcases h with ⟨b, x, rfl, hx⟩ | ⟨x, y, k, rfl, hx, hy, ne, hk⟩
  · exact .inl ⟨!b, x, rfl, hx⟩
  · refine .inr ⟨y, x, -k - 1, rfl, hy, hx, fun e => ne e.symm, ?_⟩
    generalize (2 : Nat) ^ 300 = u at *
    omega
theorem PL.mono {ts ms : List Str} {n m : Nat} {l : Lit} (h : PL ts ms n l) (hm : n ≤ m) : PL ts ms m l := by
  rcases h with h | ⟨x, y, k, rfl, hx, hy, ne, hk⟩
  · exact .inl h
  · exact .inr ⟨x, y, k, rfl, hx, hy, ne, Nat.le_trans hk (Nat.add_le_add_left hm _)⟩
/-- the pool, and the names that it is of -/
structure PV (b : Addr) (H : Hp) (pl : Addr) (us : List V) (ls : List Lit) (ts ms : List Str) : Prop where
  at_ : H pl = some (.lst us)
  ne : pl ≠ b
  L : Lits H us ls
  ok : ∀ l ∈ ls, PL ts ms 1 l
  one : 1 ≤ ls.length
  few : ls.length ≤ 10
  nt : ∀ z ∈ ts, isNameS z = true
  nm : ∀ z ∈ ms, isNameS z = true
theorem PV.kp {b : Addr} {H H' : Hp} {pl : Addr} {us : List V} {ls : List Lit} {ts ms : List Str} (W : PV b H pl us ls ts ms) (k : Kp b H H') (X : Bx b H) : PV b H' pl us ls ts ms := { W with at_ := k.k _ _ W.ne W.at_, L := W.L.tp (k.tp X) }
def spSome : Sp := fun vs H Q _ => ∃ (b pl : Addr) (us : List V) (ls : List Lit) (ts ms : List Str), vs = [.ref b, .ref pl] ∧ Bx b H ∧ PV b H pl us ls ts ms ∧ ∀ t l H', Kp b H H' → Bx b H' → H' t = some (.tup (litV l)) → PL ts ms 2 l → Q (.ref t) H'
/-- a drawn row of literals, a list of its own -/
structure RV (b : Addr) (H : Hp) (p : Addr) (us : List V) (ls : List Lit) (ts ms : List Str) (n : Nat) : Prop where
  at_ : H p = some (.lst us)
  ne : p ≠ b
  L : Lits H us ls
  ok : ∀ l ∈ ls, PL ts ms 3 l
  few : ls.length ≤ n
theorem RV.kp {b : Addr} {H H' : Hp} {p : Addr} {us : List V} {ls : List Lit} {ts ms : List Str} {n : Nat} (W : RV b H p us ls ts ms n) (k : Kp b H H') (X : Bx b H) : RV b H' p us ls ts ms n := { W with at_ := k.k _ _ W.ne W.at_, L := W.L.tp (k.tp X) }
def spDrawn : Sp := fun vs H Q _ => ∃ (b pl : Addr) (us : List V) (ls : List Lit) (ts ms : List Str), vs = [.ref b, .ref pl] ∧ Bx b H ∧ PV b H pl us ls ts ms ∧ ∀ p us' ls' H', Kp b H H' → Bx b H' → RV b H' p us' ls' ts ms 5 → Q (.ref p) H'
def spPut : Sp := fun vs H Q _ => ∃ (b p : Addr) (x : V) (us : List V), vs = [.ref b, .ref p, x] ∧ Bx b H ∧ p ≠ b ∧ H p = some (.lst us) ∧ us.length ≤ 30 ∧ ∀ n q H', Kp b H H' → Bx b H' → n ≤ us.length → q ≠ b → H' q = some (.lst (us.take n ++ x :: us.drop n)) → Q (.ref q) H'
theorem draws_at {d : Int} (h0 : 0 ≤ d) (h1 : d < 8) : ∃ n : Nat, atI ([.int 1, .int 1, .int 2, .int 2, .int 3, .int 3, .int 5, .int 0] : List V) d = some (.int (n : Int)) ∧ n ≤ 5 := by
  rcases (by omega : d = 0 ∨ d = 1 ∨ d = 2 ∨ d = 3 ∨ d = 4 ∨ d = 5 ∨ d = 6 ∨ d = 7) with rfl | rfl | rfl | rfl | rfl | rfl | rfl | rfl
  · exact ⟨1, rfl, by decide⟩
  · exact ⟨1, rfl, by decide⟩
  · exact ⟨2, rfl, by decide⟩
  · exact ⟨2, rfl, by decide⟩
  · exact ⟨3, rfl, by decide⟩
  · exact ⟨3, rfl, by decide⟩
  · exact ⟨5, rfl, by decide⟩
  · exact ⟨0, rfl, by decide⟩
theorem Val.tp {H H' : Hp} {v n tm : Addr} {o : Obj} {pa : List Addr} {ns : List Str} {ps : List (Str × Int)} (A : Val H v n tm o pa ns ps) (e : Tp H H') : Val H' v n tm o pa ns ps :=
  { A with hv := e.tup A.hv, hn := e.tup A.hn, ht := e _ _ (fun _ z => nomatch z) A.ht, at_ := fun i q h => let ⟨t, h1, h2⟩ := A.at_ i q h; ⟨t, h1, e.tup h2⟩ }
/-- values that list the moments -/
def RowV (H : Hp) (v : Addr) (ms : List Str) : Prop := ∃ n tm o pa ns ps, Val H v n tm o pa ns ps ∧ ∀ z ∈ ms, z ∈ ps.map Prod.fst
theorem RowV.tp {H H' : Hp} {v : Addr} {ms : List Str} (R : RowV H v ms) (e : Tp H H') : RowV H' v ms := by
  obtain ⟨n, tm, o, pa, ns, ps, A, h⟩ := R
  exact ⟨n, tm, o, pa, ns, ps, A.tp e, h⟩
def spValues : Sp := fun vs H Q _ => ∃ (b tr mo : Addr) (ts ms : List Str), vs = [.ref b, .ref tr, .ref mo] ∧ Bx b H ∧ Nms b H tr ts ∧ Nms b H mo ms ∧ ∀ v H', Kp b H H' → Bx b H' → RowV H' v ms → Q (.ref v) H'
section
variable {P : Program} {w : World} {K : PySem.W.Frag} {mg : Str → Option Value} {base : Heap} {a : Ad} {d : Fd} {fL fC fU fP : Addr}
theorem ok_law_some (T : TX K mg a) (D : FDS K a d) : FnOk P w K mg base CX0 2 a.a_law_some d.a_law_some ["box", "pool"] spSome := by
  have G__law_take : FnOk P w K mg base CX0 1 a.a_law_take d.a_law_take ["box", "size"] spTake := ok_law_take T D
  have G__law_comp : FnOk P w K mg base CX0 1 a.a_law_comp d.a_law_comp ["literal"] spOpp := ok_law_comp T D
  refine D.F__law_some.ok sc_law_some (fun vs H Q E h => ?_) (fun cdv A outer s H vs Q E hr h => ?_)
  · obtain ⟨b, pl, us, ls, ts, ms, rfl, _⟩ := h
    rfl
  · obtain ⟨b, pl, us, ls, ts, ms, rfl, X, W, fin⟩ := h
    refine ⟨_, (pss_cons (ps_set (i := 2) sc_law_some.nd rfl (Or.inl rfl) (pe_ix (ix_listK (K := K)) (pv 1) (pe_call G__law_take (hr.mono (by decide)) rfl T.f__law_take T.k__law_take D.B__law_take .nil pass0 (pa_cons (pv 0) (pa_cons (pe_callB call_len_seq (by rfl) T.b_len (by decide +kernel) (pa_cons (pv 1) pa_nil)) pa_nil))) (fun _ _ => rfl)))
        (pss_cons (ps_if (pt_cmpR op_eq (pe_call G__law_take (hr.mono (by decide)) rfl T.f__law_take T.k__law_take D.B__law_take .nil pass0 (pa_cons (pv 0) (pa_cons pe_int pa_nil))) pe_int (nomark _)) (pss_one (ps_ret (pe_call G__law_comp (hr.mono (by decide)) rfl T.f__law_comp T.k__law_comp D.B__law_comp .nil pass0 (pa_cons (pv 2) pa_nil)))) pss_nil)
        (pss_one (ps_ret (pv 2))))), ?_⟩
    have ul := W.L.len
    have one := W.one
    have few := W.few
    refine ⟨_, rfl, _, rfl, _, rfl, pl, _, rfl, .inl (SqL.of W.at_), b, _, rfl, X, by omega, small_size' (by omega), fun d1 H1 k1 X1 p0 p1 => ?_⟩
    have W1 := W.kp k1 X
    have hi : d1.toNat < ls.length := by omega
    obtain ⟨t, e1, e2⟩ := W1.L.at_ d1.toNat ls[d1.toNat] (List.getElem?_eq_getElem hi)
    have okl := W.ok _ (List.getElem_mem hi)
    refine ⟨pl, _, _, _, rfl, rfl, SqL.of W1.at_, at_lit (n := d1.toNat) (by omega) e1, _, rfl, b, 2, rfl, X1, by decide, by decide +kernel, fun d2 H2 k2 X2 q0 q1 => ⟨rfl, _, rfl, ite2 (fun g => ?_) (fun g => ⟨_, rfl, fin t _ H2 (k1.trans k2) X2 ((k2.tp X1).tup e2) (okl.mono (by decide))⟩)⟩⟩
    exact ⟨_, rfl, t, _, rfl, (k2.tp X1).tup e2, okl.ok W.nt W.nm (by decide), fun q H3 e3 _ hq => fin q _ H3 ((k1.trans k2).trans (Kp.ex e3)) (X2.ex e3) hq okl.opp⟩
theorem ok_law_drawn (T : TX K mg a) (D : FDS K a d) : FnOk P w K mg base CX0 3 a.a_law_drawn d.a_law_drawn ["box", "pool"] spDrawn := by
  have G__law_take : FnOk P w K mg base CX0 1 a.a_law_take d.a_law_take ["box", "size"] spTake := ok_law_take T D
  have G__law_some : FnOk P w K mg base CX0 2 a.a_law_some d.a_law_some ["box", "pool"] spSome := ok_law_some T D
  refine D.F__law_drawn.ok sc_law_drawn (fun vs H Q E h => ?_) (fun cdv A outer s H vs Q E hr h => ?_)
  · obtain ⟨b, pl, us, ls, ts, ms, rfl, _⟩ := h
    rfl
  · obtain ⟨b, pl, us, ls, ts, ms, rfl, X, W, fin⟩ := h
    refine ⟨_, (pss_one (ps_ret (pe_lc (own := [("k", 2)]) (g := gName 2) (tt := tYes) rfl sc_law_drawn.nd (pi_range1 rfl T.b_range (pa_cons (pe_ix (ix_listK (K := K)) (pe_lst (pa_cons pe_int (pa_cons pe_int (pa_cons pe_int (pa_cons pe_int (pa_cons pe_int (pa_cons pe_int (pa_cons pe_int (pa_cons pe_int pa_nil))))))))) (pe_call G__law_take (hr.mono (by decide)) rfl T.f__law_take T.k__law_take D.B__law_take .nil pass0 (pa_cons (pv 0) (pa_cons pe_int pa_nil))) (fun _ _ => rfl)) pa_nil)) (blkOk_by (N := ["box", "pool", "k"]) (sc := defScope s_law_drawn) (by decide +kernel)) (fun _ _ _ _ _ => (pg_name (i := 2) sc_law_drawn.nd rfl (Or.inl rfl))) (fun _ _ _ _ _ => pts_nil) (fun _ _ _ _ _ => (pe_call G__law_some (hr.mono (by decide)) rfl T.f__law_some T.k__law_some D.B__law_some .nil pass0 (pa_cons (pv 0) (pa_cons (pv 1) pa_nil))))))), ?_⟩
    have big : 1000 ≤ sizeLine := by decide
    refine ⟨(by show 8 ≤ sizeLine; decide), fun f hf => ?_⟩
    have xf := Ex.new (o := .lst [V.int 1, .int 1, .int 2, .int 2, .int 3, .int 3, .int 5, .int 0]) hf
    have hf1 : upd H f (.lst [V.int 1, .int 1, .int 2, .int 2, .int 3, .int 3, .int 5, .int 0]) f = some (.lst [V.int 1, .int 1, .int 2, .int 2, .int 3, .int 3, .int 5, .int 0]) := upd_same
    have nfb := X.ne hf
    have X2 := X.ex xf
    have k2 := Kp.ex (b := b) xf
    have W2 := W.kp k2 X
    generalize upd H f (.lst [V.int 1, .int 1, .int 2, .int 2, .int 3, .int 3, .int 5, .int 0]) = H2 at *
    refine ⟨_, rfl, b, 8, rfl, X2, by decide, by decide +kernel, fun d3 H3 k3 X3 q0 q1 => ?_⟩
    obtain ⟨n, hn, n7⟩ := draws_at q0 q1
    have W3 := W2.kp k3 X2
    refine ⟨f, _, d3, .int n, rfl, rfl, SqL.of (k3.k _ _ nfb hf1), hn, n, rfl, by omega, by omega, fun F1 hF1 => lcK (R := fun _ H v => ∃ t l, v = .ref t ∧ H t = some (.tup (litV l)) ∧ PL ts ms 3 l) (walk_range (lo := 0) (n := n)) (fun _ _ _ _ h => h.1) (fun _ _ _ _ tp ⟨t, l, h1, h2, h3⟩ => ⟨t, l, h1, tp.tup h2, h3⟩) X3 (by omega) (fun _ _ => trivial) (fun _ => rfl) (fun i x H' hi hx k9 X9 Q' q' => ?_) hF1 fun H9 acc k9 X9 hF9 la9 A9 => have hF9' := hF1; ?_⟩
    · exact ⟨_, rfl, _, rfl, b, pl, us, ls, ts, ms, rfl, X9, W3.kp k9 X3, fun t l H10 k10 X10 ht pl => q' _ _ k10 X10 ⟨t, l, rfl, ht, pl.mono (by decide)⟩⟩
    · obtain ⟨ls', L, pl'⟩ := lits_of A9
      have ll := L.len
      exact fin F1 acc ls' H9 ((k2.trans k3).trans k9) X9 ⟨hF9, X3.ne hF9', L, pl', by omega⟩
theorem ok_law_put (T : TX K mg a) (D : FDS K a d) : FnOk P w K mg base CX0 2 a.a_law_put d.a_law_put ["box", "row", "one"] spPut := by
  have G__law_take : FnOk P w K mg base CX0 1 a.a_law_take d.a_law_take ["box", "size"] spTake := ok_law_take T D
  refine D.F__law_put.ok sc_law_put (fun vs H Q E h => ?_) (fun cdv A outer s H vs Q E hr h => ?_)
  · obtain ⟨b, p, x, us, rfl, _⟩ := h
    rfl
  · obtain ⟨b, p, x, us, rfl, X, npb, hp, few, fin⟩ := h
    refine ⟨_, (pss_cons (ps_set (i := 3) sc_law_put.nd rfl (Or.inl rfl) (pe_call G__law_take (hr.mono (by decide)) rfl T.f__law_take T.k__law_take D.B__law_take .nil pass0 (pa_cons (pv 0) (pa_cons (pe_op op_add (pe_callB call_len_seq (by rfl) T.b_len (by decide +kernel) (pa_cons (pv 1) pa_nil)) pe_int) pa_nil))))
        (pss_one (ps_ret (pe_op op_cat (pe_op op_cat (pe_slice sl_list (pv 1) po_none (po_some (pv 3))) (pe_lst (pa_cons (pv 2) pa_nil))) (pe_slice sl_list (pv 1) (po_some (pv 3)) po_none))))), ?_⟩
    have big : 1000 ≤ sizeLine := by decide
    refine ⟨_, rfl, _, rfl, p, _, rfl, .inl (SqL.of hp), _, _, rfl, rfl, b, _, rfl, X, by omega, small_size' (by omega), fun d1 H1 k1 X1 p0 p1 => ?_⟩
    obtain ⟨m, rfl⟩ : ∃ m : Nat, d1 = m := ⟨d1.toNat, by omega⟩
    have hp1 := k1.k _ _ npb hp
    refine ⟨_, rfl, _, rfl, _, rfl, p, _, rfl, SqL.of hp1, fun c1 hc1 => ?_⟩
    have x2 := Ex.new (o := .lst (L2.cutV us none (some (m : Int)))) hc1
    have h2 : upd H1 c1 (.lst (L2.cutV us none (some (m : Int)))) c1 = some (.lst (us.take m)) := by rw [upd_same, cutV_take]
    generalize upd H1 c1 (.lst (L2.cutV us none (some (m : Int)))) = H2 at *
    refine ⟨_, rfl, (by show 1 ≤ sizeLine; decide), fun c2 hc2 => ?_⟩
    have x3 := Ex.new (o := .lst [x]) hc2
    have h3 : upd H2 c2 (.lst [x]) c2 = some (.lst [x]) := upd_same
    have h23 := x3 _ _ h2
    generalize upd H2 c2 (.lst [x]) = H3 at *
    refine ⟨c1, c2, _, _, rfl, rfl, h23, h3, by rw [List.length_take]; show _ + 1 ≤ sizeLine; omega, fun c3 hc3 => ?_⟩
    have x4 := Ex.new (o := .lst (us.take m ++ [x])) hc3
    have h4 : upd H3 c3 (.lst (us.take m ++ [x])) c3 = some (.lst (us.take m ++ [x])) := upd_same
    generalize upd H3 c3 (.lst (us.take m ++ [x])) = H4 at *
    have x14 := x2.trans (x3.trans x4)
    refine ⟨_, rfl, _, rfl, _, rfl, p, _, rfl, SqL.of (x14 _ _ hp1), fun c5 hc5 => ?_⟩
    have x5 := Ex.new (o := .lst (L2.cutV us (some (m : Int)) none)) hc5
    have h5 : upd H4 c5 (.lst (L2.cutV us (some (m : Int)) none)) c5 = some (.lst (us.drop m)) := by rw [upd_same, cutV_drop]
    have h45 := x5 _ _ h4
    generalize upd H4 c5 (.lst (L2.cutV us (some (m : Int)) none)) = H5 at *
    refine ⟨c3, c5, _, _, rfl, rfl, h45, h5, by rw [List.length_append, List.length_take, List.length_drop, List.length_singleton]; omega, fun q hq => ?_⟩
    have x6 := Ex.new (o := .lst (us.take m ++ [x] ++ us.drop m)) hq
    have x16 := x14.trans (x5.trans x6)
    exact fin m q _ (k1.trans (Kp.ex x16)) (X1.ex x16) (by omega) ((X1.ex (x14.trans x5)).ne hq) (by rw [upd_same, List.append_assoc]; rfl)
end
end F5
set_option maxRecDepth 100000
set_option maxHeartbeats 8000000
namespace F5
open PySem L2 Evl GP HR SC SetM SetH RQ
section
variable {P : Program} {w : World} {K : PySem.W.Frag} {mg : Str → Option Value} {base : Heap} {a : Ad} {d : Fd} {fL fC fU fP : Addr}
theorem pairs_of {H : Hp} : ∀ {zs : List Str} {acc : List V}, acc.length = zs.length → (∀ (i : Nat) (v : V), acc[i]? = some v → ∃ t z k, v = .ref t ∧ H t = some (.tup [.str z, .int k]) ∧ zs[i]? = some z) →
    ∃ (pa : List Addr) (ps : List (Str × Int)), acc = pa.map V.ref ∧ ps.map Prod.fst = zs ∧ pa.length = ps.length ∧ ∀ (i : Nat) (q : Str × Int), ps[i]? = some q → ∃ t, pa[i]? = some t ∧ H t = some (.tup [.str q.1, .int q.2])
  | [], [], _, _ => ⟨[], [], rfl, rfl, rfl, fun i q h => by simp at h⟩
  | [], _ :: _, h, _ => by simp at h
  | _ :: _, [], h, _ => by simp at h
  | z :: zs, v :: acc, h, A => by
    obtain ⟨t, y, k, e, ht, ez⟩ := A 0 v rfl
    obtain rfl : z = y := Option.some.inj ez
    obtain ⟨pa, ps, e1, e2, e3, e4⟩ := pairs_of (zs := zs) (acc := acc) (by simpa using h) fun i v h => A (i + 1) v h
    refine ⟨t :: pa, (z, k) :: ps, by rw [e, e1]; rfl, by rw [← e2]; rfl, by rw [List.length_cons, List.length_cons, e3], fun i q hq => ?_⟩
    cases i with
    | zero => cases hq; exact ⟨t, rfl, ht⟩
    | succ i => exact e4 i q hq
theorem ok_law_values (T : TX K mg a) (D : FDS K a d) : FnOk P w K mg base CX0 3 a.a_law_values d.a_law_values ["box", "truths", "moments"] spValues := by
  have G__law_take : FnOk P w K mg base CX0 1 a.a_law_take d.a_law_take ["box", "size"] spTake := ok_law_take T D
  have G__law_number : FnOk P w K mg base CX0 2 a.a_law_number d.a_law_number ["box"] spNumber := ok_law_number T D
  refine D.F__law_values.ok sc_law_values (fun vs H Q E h => ?_) (fun cdv A outer s H vs Q E hr h => ?_)
  · obtain ⟨b, tr, mo, ts, ms, rfl, _⟩ := h
    rfl
  · obtain ⟨b, tr, mo, ts, ms, rfl, X, NT, NM, fin⟩ := h
    refine ⟨_, (pss_cons (ps_set (i := 3) sc_law_values.nd rfl (Or.inl rfl) (pe_lst pa_nil))
        (pss_cons (ps_for PassesOwn.never rfl (pi_list (pe_callB cr_sortedS (by rfl) T.b_sorted (by decide +kernel) (pa_cons (pv 1) pa_nil))) (pg_name (i := 4) sc_law_values.nd rfl (Or.inl rfl)) (pss_one (ps_if (pt_cmpR op_eq (pe_call G__law_take (hr.mono (by decide)) rfl T.f__law_take T.k__law_take D.B__law_take .nil pass0 (pa_cons (pv 0) (pa_cons pe_int pa_nil))) pe_int (nomark _)) (pss_one (ps_expr (pe_bm PySem.F.plainAttrs_list PySem.F.slot_list_append PySem.F.type_list_append mt_append (pv 3) (pa_cons (pv 4) pa_nil)))) pss_nil)))
        (pss_one (ps_ret (pe_tup (pa_cons (pe_callTy call_tuple_of (by rfl) T.b_tuple (by decide +kernel) (pa_cons (pv 3) pa_nil)) (pa_cons (pe_callTy (cr_tupF (K := K)) (by rfl) T.b_tuple (by decide +kernel) (pa_cons (pe_lc (own := [("one", 4)]) (g := gName 4) (tt := tYes) rfl sc_law_values.nd (pi_list (pe_callB cr_sortedS (by rfl) T.b_sorted (by decide +kernel) (pa_cons (pv 2) pa_nil))) (blkOk_by (N := ["box", "truths", "moments", "names", "one"]) (sc := defScope s_law_values) (by decide +kernel)) (fun _ _ _ _ _ => (pg_name (i := 4) sc_law_values.nd rfl (Or.inl rfl))) (fun _ _ _ _ _ => pts_nil) (fun _ _ _ _ _ => (pe_tup (pa_cons (pv 4) (pa_cons (pe_call G__law_number (hr.mono (by decide)) rfl T.f__law_number T.k__law_number D.B__law_number .nil pass0 (pa_cons (pv 0) pa_nil)) pa_nil))))) pa_nil)) pa_nil))))))), ?_⟩
    have big : 1000 ≤ sizeLine := by decide
    have ft := NT.few
    have fm := NM.few
    refine ⟨Nat.zero_le _, fun nm hnm => ?_⟩
    have x1 := Ex.new (o := .lst []) hnm
    have nmb := X.ne hnm
    have hn1 : upd H nm (.lst []) nm = some (.lst (([] : List Str).map V.str)) := upd_same
    have T1 := NT.kp (Kp.ex (b := b) x1)
    have M1 := NM.kp (Kp.ex (b := b) x1)
    have X1 := X.ex x1
    generalize upd H nm (.lst []) = H1 at *
    refine ⟨_, rfl, tr, ts, rfl, SqL.of T1.at_, by omega, fun ys p pm so hp => ?_⟩
    have x2 := Ex.new (o := .lst (ys.map V.str)) hp
    have npb := X1.ne hp
    have hp2 : upd H1 p (.lst (ys.map V.str)) p = some (.lst (ys.map V.str)) := upd_same
    have hn2 := x2 _ _ hn1
    have M2 := M1.kp (Kp.ex (b := b) x2)
    have X2 := X1.ex x2
    have k02 := Kp.ex (b := b) (x1.trans x2)
    have npn : p ≠ nm := fun e => by rw [e, hn1] at hp; cases hp
    have hnm0 : nm ≠ mo := fun e => by rw [e, NM.at_] at hnm; cases hnm
    generalize upd H1 p (.lst (ys.map V.str)) = H2 at *
    have lys : ys.length ≤ 4 := by rw [pm.length_eq]; exact ft
    refine ⟨p, rfl, ⟨_, SqL.of hp2⟩, for_it (walk_list (xs := ys.map V.str)) (fun i σ H' => ∃ (ns : List Str) (o : Option V), σ = [some (.ref b), some (.ref tr), some (.ref mo), some (.ref nm), o] ∧ Kp b H H' ∧ Bx b H' ∧ H' p = some (.lst (ys.map V.str)) ∧ Nms b H' mo ms ∧ H' nm = some (.lst (ns.map V.str)) ∧ ns.length ≤ i)
      ⟨[], none, rfl, k02, X2, hp2, M2, hn2, Nat.le_refl _⟩ (fun i σ H' _ ⟨_, _, _, _, _, h, _⟩ => SqL.of h) ?_ ?_⟩
    · rintro i v σ H3 H3' hi ⟨ns, o, rfl, k3, X3, hp3, M3, hn3, ln⟩ ⟨rfl, hx⟩
      rw [List.length_map] at hi
      rw [List.getElem?_map] at hx
      obtain ⟨z, hz, rfl⟩ := Option.map_eq_some_iff.mp hx
      refine ⟨_, rfl, b, 2, rfl, X3, by decide, by decide +kernel, fun d4 H4 k4 X4 p0 p1 => ⟨rfl, _, rfl, ite2 (fun g => ?_) (fun g => ⟨ns, _, rfl, k3.trans k4, X4, k4.k _ _ npb hp3, M3.kp k4, k4.k _ _ nmb hn3, by omega⟩)⟩⟩
      have hn4 := k4.k _ _ nmb hn3
      have hp4 := k4.k _ _ npb hp3
      have M4 := M3.kp k4
      exact ⟨_, rfl, .inl ⟨rfl, _, SqL.of hn4⟩, _, rfl, nm, _, _, rfl, rfl, hn4, by rw [List.length_map]; omega, ns ++ [z], _, rfl, (k3.trans k4).mut hnm, X4.upd nmb, by rw [upd_ne npn]; exact hp4, { M4 with at_ := by rw [upd_ne hnm0.symm]; exact M4.at_ }, by rw [upd_same, List.map_append]; rfl, by rw [List.length_append, List.length_singleton]; omega⟩
    · rintro σ H3 ⟨ns, o, rfl, k3, X3, hp3, M3, hn3, ln⟩
      refine ⟨_, rfl, nm, _, rfl, .inl ⟨SqL.of hn3, fun n hn => ?_⟩⟩
      have y1 := Ex.new (o := .tup (ns.map V.str)) hn
      have hn4 : upd H3 n (.tup (ns.map V.str)) n = some (.tup (ns.map V.str)) := upd_same
      have M4 := M3.kp (Kp.ex (b := b) y1)
      have X4 := X3.ex y1
      have k4 := k3.trans (Kp.ex (b := b) y1)
      generalize upd H3 n (.tup (ns.map V.str)) = H4 at *
      refine ⟨_, rfl, mo, ms, rfl, SqL.of M4.at_, by omega, fun zs p' pm' so' hp' => ?_⟩
      have x5 := Ex.new (o := .lst (zs.map V.str)) hp'
      have npb' := X4.ne hp'
      have hp5 : upd H4 p' (.lst (zs.map V.str)) p' = some (.lst (zs.map V.str)) := upd_same
      have hn5 := x5 _ _ hn4
      have X5 := X4.ex x5
      have k5 := k4.trans (Kp.ex (b := b) x5)
      generalize upd H4 p' (.lst (zs.map V.str)) = H5 at *
      have lzs : zs.length ≤ 4 := by rw [pm'.length_eq]; exact fm
      refine ⟨p', rfl, ⟨_, SqL.of hp5⟩, fun F1 hF1 => lcK (R := fun i H v => ∃ t z k, v = .ref t ∧ H t = some (.tup [.str z, .int k]) ∧ zs[i]? = some z) (walk_list (xs := zs.map V.str)) (fun _ _ _ _ h => h.1) (fun _ _ _ _ tp ⟨t, z, k, h1, h2, h3⟩ => ⟨t, z, k, h1, tp.tup h2, h3⟩) X5 (by rw [List.length_map]; omega) (fun H' k => SqL.of (k.k _ _ npb' hp5)) (fun _ => rfl) (fun i x H' hi hx k9 X9 Q' q' => ?_) hF1 fun H9 acc k9 X9 hF9 la9 A9 => ?_⟩
      · obtain ⟨_, hx⟩ := hx
        rw [List.getElem?_map] at hx
        obtain ⟨z, hz, rfl⟩ := Option.map_eq_some_iff.mp hx
        exact ⟨_, rfl, _, rfl, b, rfl, X9, fun k H10 k10 X10 hk => ⟨(by show 2 ≤ sizeLine; decide), fun t ht => q' _ _ (k10.trans (Kp.ex (Ex.new ht))) (X10.ex (Ex.new ht)) ⟨t, z, k, rfl, upd_same, hz⟩⟩⟩
      · rw [List.length_map] at la9
        obtain ⟨pa, ps, rfl, e2, e3, e4⟩ := pairs_of la9 A9
        refine ⟨F1, _, rfl, SqL.of hF9, fun tm o oc od htm => ⟨(by show 2 ≤ sizeLine; decide), fun v hv => ?_⟩⟩
        have y2 := Ex.new (o := .frz o (.tup (pa.map V.ref))) htm
        have y3 := Ex.new (o := .tup [.ref n, .ref tm]) hv
        have yy := y2.trans y3
        refine fin v _ ((k5.trans k9).trans (Kp.ex yy)) (X9.ex yy) ⟨n, tm, o, pa, ns, ps, ⟨upd_same, yy _ _ ((k9.tp X5).tup hn5), y3 _ _ upd_same, od, e3, fun i q hq => ?_, ?_, ?_⟩, fun z hz => ?_⟩
        · obtain ⟨t, h1, h2⟩ := e4 i q hq
          exact ⟨t, h1, yy _ _ h2⟩
        · rw [e2]
          exact (pm'.nodup_iff).mpr NM.nd
        · have := congrArg List.length e2
          rw [List.length_map] at this
          omega
        · rw [e2]
          exact pm'.mem_iff.mpr hz
end
end F5
set_option maxRecDepth 100000
set_option maxHeartbeats 8000000
namespace F5
open PySem L2 Evl GP HR SC SetM SetH RQ
theorem holds_opp (ns : List Str) (tv : Str → Int) (l : Lit) : holdsL ns tv (oppL l) = !holdsL ns tv l := by
  cases l with
  | yn b x =>
    show decide (decide (x ∈ ns) = !b) = !decide (decide (x ∈ ns) = b)
    cases b <;> cases decide (x ∈ ns) <;> rfl
  | most x y k =>
    show decide (tv y - tv x ≤ -k - 1) = !decide (tv x - tv y ≤ k)
    by_cases h : tv x - tv y ≤ k
    · rw [decide_eq_true h, decide_eq_false (by omega)]; rfl
    · rw [decide_eq_false h, decide_eq_true (by omega)]; rfl
/-- all moments of the literals are listed -/
def In (ps : List (Str × Int)) (ls : List Lit) : Prop := ∀ l ∈ ls, ∀ z ∈ namesOf l, z ∈ ps.map Prod.fst
def spHolds : Sp := fun vs H Q _ => ∃ (p v n tm : Addr) (o : Obj) (pa : List Addr) (l : Lit) (ns : List Str) (ps : List (Str × Int)), vs = [.ref p, .ref v] ∧ H p = some (.tup (litV l)) ∧ Val H v n tm o pa ns ps ∧ (∀ z ∈ namesOf l, z ∈ ps.map Prod.fst) ∧ ∀ H', Ex H H' → Q (.bl (holdsL ns (tvOf ps) l)) H'
def spMeets (K : PySem.W.Frag) : Sp := fun vs H Q _ => ∃ (p v n tm : Addr) (o : Obj) (pa : List Addr) (us : List V) (ls : List Lit) (ns : List Str) (ps : List (Str × Int)), vs = [.ref p, .ref v] ∧ Seq K H p us ∧ Lits H us ls ∧ Val H v n tm o pa ns ps ∧ In ps ls ∧ ∀ H', Ex H H' → Q (.bl (ls.any (holdsL ns (tvOf ps)))) H'
def spSound (K : PySem.W.Frag) : Sp := fun vs H Q _ => ∃ (p q t v n tm : Addr) (o : Obj) (pa : List Addr) (us us' ts : List V) (ls ls' tl : List Lit) (l : Lit) (ns : List Str) (ps : List (Str × Int)), vs = [.ref p, .ref q, .ref t, .ref v] ∧ Seq K H p us ∧ Lits H us ls ∧ Seq K H q us' ∧ Lits H us' ls' ∧ SqT K H t ts ∧ Lits H ts tl ∧ (∀ l ∈ tl, LitOk l) ∧ tl.length ≤ 25 ∧
  (∀ z, z ∈ tl ↔ z ∈ resL l ls ls') ∧ Val H v n tm o pa ns ps ∧ In ps ls ∧ In ps ls' ∧ ∀ H', Ex H H' → Q (.bl true) H'
section
variable {P : Program} {w : World} {K : PySem.W.Frag} {mg : Str → Option Value} {base : Heap} {a : Ad} {d : Fd} {fL fC fU fP : Addr}
theorem ok_law_holds (T : TX K mg a) (D : FDS K a d) : FnOk P w K mg base CX0 1 a.a_law_holds d.a_law_holds ["literal", "values"] spHolds := by
  refine D.F__law_holds.ok sc_law_holds (fun vs H Q E h => ?_) (fun cdv A outer s H vs Q E hr h => ?_)
  · obtain ⟨p, v, n, tm, o, pa, l, ns, ps, rfl, _⟩ := h
    rfl
  · obtain ⟨p, v, n, tm, o, pa, l, ns, ps, rfl, hp, VL, sub, fin⟩ := h
    refine ⟨_, (pss_cons (ps_if (pt_cmpR op_eq (pe_ix ix_tup (pv 0) pe_int (fun _ _ => rfl)) pe_str (nomark _)) (pss_cons (ps_set (i := 2) sc_law_holds.nd rfl (Or.inl rfl) (pe_callTy (cr_dictF rfl) (by rfl) T.b_dict (by decide +kernel) (pa_cons (pe_ix ix_tup (pv 1) pe_int (fun _ _ => rfl)) pa_nil)))
        (pss_one (ps_ret (pe_cmpR op_le (pe_op op_sub (pe_dget (hu_of hr) (pv 2) (pe_ix ix_tup (pv 0) pe_int (fun _ _ => rfl)) (fun _ _ => rfl)) (pe_dget (hu_of hr) (pv 2) (pe_ix ix_tup (pv 0) pe_int (fun _ _ => rfl)) (fun _ _ => rfl))) (pe_ix ix_tup (pv 0) pe_int (fun _ _ => rfl)) (nomark _))))) pss_nil)
        (pss_one (ps_ret (pe_cmpR op_eq (pe_cmpR op_in_seq (pe_ix ix_tup (pv 0) pe_int (fun _ _ => rfl)) (pe_ix ix_tup (pv 1) pe_int (fun _ _ => rfl)) rfl) (pe_cmpR op_eq (pe_ix ix_tup (pv 0) pe_int (fun _ _ => rfl)) pe_str (nomark _)) (nomark _))))), ?_⟩
    cases l with
    | most x y k =>
      refine ⟨_, rfl, p, _, 0, _, rfl, rfl, SqT.of hp, rfl, rfl, _, rfl, iteT' (by decide +kernel) ?_⟩
      refine ⟨_, rfl, v, _, 1, _, rfl, rfl, SqT.of VL.hv, rfl, tm, o, pa, ps.map prK, rfl, VL.ht, VL.od, pair_at VL.len VL.at_, fun td htd => ?_⟩
      have x1 := Ex.new (o := .dK (mergeK [] (ps.map prK))) htd
      have hd1 : upd H td (.dK (mergeK [] (ps.map prK))) td = some (.dK (mergeK [] (ps.map prK))) := upd_same
      have hp1 := x1 _ _ hp
      generalize upd H td (.dK (mergeK [] (ps.map prK))) = H1 at *
      have vx := val_of VL.nd (sub x (by simp [namesOf]))
      have vy := val_of VL.nd (sub y (by simp [namesOf]))
      exact ⟨_, rfl, _, rfl, p, _, 1, _, rfl, rfl, SqT.of hp1, rfl, td, _, rfl, .inl ⟨_, .inr x, .inl hd1, rfl, vx.symm⟩, _, rfl, _, rfl, p, _, 2, _, rfl, rfl, SqT.of hp1, rfl, td, _, rfl, .inl ⟨_, .inr y, .inl hd1, rfl, vy.symm⟩, _, _, rfl, rfl, _, rfl, p, _, 3, _, rfl, rfl, SqT.of hp1, rfl, _, _, rfl, rfl, fin _ x1⟩
    | yn b x =>
      refine ⟨_, rfl, p, _, 0, _, rfl, rfl, SqT.of hp, rfl, rfl, _, rfl, iteF' (by cases b <;> decide +kernel) ?_⟩
      refine ⟨_, rfl, p, _, 1, _, rfl, rfl, SqT.of hp, rfl, _, rfl, v, _, 0, _, rfl, rfl, SqT.of VL.hv, rfl, n, _, rfl, .inr (SqT.of VL.hn), rfl, flat_strs, _, rfl, p, _, 0, _, rfl, rfl, SqT.of hp, rfl, rfl, rfl, ?_⟩
      rw [if_neg Bool.false_ne_true, inV_strs]
      have e2 : decide (V.str (ynS b) = V.str (Str.ofString "yes")) = b := by cases b <;> decide +kernel
      rw [e2]
      have e3 : decide (V.bl (decide (x ∈ ns)) = V.bl b) = holdsL ns (tvOf ps) (.yn b x) := by
        show _ = decide (decide (x ∈ ns) = b)
        rw [Bool.eq_iff_iff, decide_eq_true_iff, decide_eq_true_iff]
        exact ⟨fun h => V.bl.inj h, fun h => congrArg V.bl h⟩
      rw [e3]
      exact fin H (Ex.refl _)
theorem ok_law_meets (T : TX K mg a) (D : FDS K a d) : FnOk P w K mg base CX0 2 a.a_law_meets d.a_law_meets ["clause", "values"] (spMeets K) := by
  have G__law_holds : FnOk P w K mg base CX0 1 a.a_law_holds d.a_law_holds ["literal", "values"] spHolds := ok_law_holds T D
  refine D.F__law_meets.ok sc_law_meets (fun vs H Q E h => ?_) (fun cdv A outer s H vs Q E hr h => ?_)
  · obtain ⟨p, v, n, tm, o, pa, us, ls, ns, ps, rfl, _⟩ := h
    rfl
  · obtain ⟨p, v, n, tm, o, pa, us, ls, ns, ps, rfl, hs, L, VL, sub, fin⟩ := h
    refine ⟨_, (pss_cons (ps_for PassesOwn.never rfl (pi_or (pi_list (pv 0)) (pi_tup (pv 0))) (pg_name (i := 2) sc_law_meets.nd rfl (Or.inl rfl)) (pss_one (ps_if (pt_val (pe_call G__law_holds (hr.mono (by decide)) rfl T.f__law_holds T.k__law_holds D.B__law_holds .nil pass0 (pa_cons (pv 2) (pa_cons (pv 1) pa_nil)))) (pss_one (ps_ret pe_bl)) pss_nil)))
        (pss_one (ps_ret pe_bl))), ?_⟩
    refine seq_go (fun Q q => ⟨_, rfl, q⟩) hs fun J G wk hG => for_it wk (fun i σ H' => ∃ o, σ = [some (.ref p), some (.ref v), o] ∧ Ex H H' ∧ (ls.take i).any (holdsL ns (tvOf ps)) = false) ⟨none, rfl, Ex.refl _, rfl⟩ (fun i σ H' _ ⟨_, _, e, _⟩ => hG H' e) ?_ ?_
    · rintro i x σ H2 H2' hi ⟨o5, rfl, e2, no⟩ ⟨rfl, hx⟩
      obtain ⟨t, l, rfl, hl, ht⟩ := L.get hx
      refine ⟨_, rfl, _, rfl, t, v, n, tm, o, pa, l, ns, ps, rfl, e2 _ _ ht, VL.ex e2, sub l (List.mem_of_getElem? hl), fun H3 e3 => ⟨_, rfl, ?_⟩⟩
      cases hb : holdsL ns (tvOf ps) l with
      | true => exact iteT' rfl (ex_q fin (List.any_eq_true.mpr ⟨l, List.mem_of_getElem? hl, hb⟩) (e2.trans e3))
      | false =>
        refine iteF' rfl ⟨_, rfl, e2.trans e3, ?_⟩
        rw [List.take_add_one, hl, List.any_append, no]
        simp [hb]
    · rintro σ H2 ⟨o5, rfl, e2, no⟩
      rw [L.len, List.take_length] at no
      exact ex_q fin no e2
theorem ok_law_sound (T : TX K mg a) (D : FDS K a d) (R : ER K mg P a fL fC fU fP) : FnOk P w K mg base CX0 7 a.a_law_sound d.a_law_sound ["first", "second", "told", "values"] (spSound K) := by
  have G__law_meets : FnOk P w K mg base CX0 2 a.a_law_meets d.a_law_meets ["clause", "values"] (spMeets K) := ok_law_meets T D
  have G_clause_holds : FnOk P w K mg base (L2N.CX P w) 6 a.a_clause_holds d.a_clause_holds ["clause", "values"] (spHoldC K a.cL a.cC a.cU) := ok_clause_holds T D R
  refine D.F__law_sound.ok sc_law_sound (fun vs H Q E h => ?_) (fun cdv A outer s H vs Q E hr h => ?_)
  · obtain ⟨p, q, t, v, n, tm, o, pa, us, us', ts, ls, ls', tl, l, ns, ps, rfl, _⟩ := h
    rfl
  · obtain ⟨p, q, t, v, n, tm, o, pa, us, us', ts, ls, ls', tl, l, ns, ps, rfl, hp, L1, hq, L2', ht, TL, okt, few, mem, VL, s1, s2, fin⟩ := h
    refine ⟨_, (pss_cons (ps_set (i := 4) sc_law_sound.nd rfl (Or.inl rfl) (pe_call G__law_meets (hr.mono (by decide)) rfl T.f__law_meets T.k__law_meets D.B__law_meets .nil pass0 (pa_cons (pv 2) (pa_cons (pv 3) pa_nil))))
        (pss_cons (ps_set (i := 5) sc_law_sound.nd rfl (Or.inl rfl) (pe_call G_clause_holds (hr.mono (by decide)) rfl T.f_clause_holds T.k_clause_holds D.B_clause_holds .nil passN (pa_cons (pv 2) (pa_cons (pv 3) pa_nil))))
        (pss_cons (ps_if (PW.pt (pw_or (pt_not (pt_val (pe_callB call_isi (by rfl) T.b_isinstance (by decide +kernel) (pa_cons (pv 5) (pa_cons (pe_bltn (v := .ty "bool") (by rfl) T.b_bool (by decide +kernel) rfl) pa_nil))))) (pw_or1 (pt_cmpR op_ne (pv 5) (pv 4) (nomark _))))) (pss_one (ps_ret pe_bl)) pss_nil)
        (pss_one (ps_ret (pe_or (pv 4) (pe_one (pe_not (pe_and (pe_call G__law_meets (hr.mono (by decide)) rfl T.f__law_meets T.k__law_meets D.B__law_meets .nil pass0 (pa_cons (pv 0) (pa_cons (pv 3) pa_nil))) (pe_one (pe_call G__law_meets (hr.mono (by decide)) rfl T.f__law_meets T.k__law_meets D.B__law_meets .nil pass0 (pa_cons (pv 1) (pa_cons (pv 3) pa_nil))))))))))))), ?_⟩
    have st : In ps tl := fun z hz => by
      rcases mem_resL.mp ((mem z).mp hz) with ⟨h, _⟩ | ⟨h, _⟩
      · exact s1 z h
      · exact s2 z h
    refine ⟨_, rfl, _, rfl, t, v, n, tm, o, pa, ts, tl, ns, ps, rfl, .inr ht, TL, VL, st, fun H1 e1 => ?_⟩
    refine ⟨_, rfl, _, rfl, .ref t, .ref v, rfl, .inl ⟨t, v, n, tm, o, pa, ts, tl, ns, ps, rfl, rfl, .inr (ex_t e1 ht), TL.ex e1, okt, few, VL.ex e1, fun ms asc MM => ⟨fun _ H2 e2 => ?_, fun y hy => ?_⟩⟩⟩
    · have e12 := e1.trans e2
      generalize hb : tl.any (holdsL ns (tvOf ps)) = bt
      refine ⟨_, rfl, _, _, _, _, _, rfl, .ty "bool", dp_ty (.bl bt), kit_bool (.bool bt), _, rfl, iteF' rfl ⟨_, rfl, _, rfl, ?_⟩⟩
      refine ⟨rfl, _, rfl, iteF' (by simp) ⟨_, rfl, bt, rfl, ?_⟩⟩
      cases bt with
      | true => exact iteT' rfl (fin H2 e12)
      | false =>
        refine iteF' rfl ⟨_, rfl, _, rfl, p, v, n, tm, o, pa, us, ls, ns, ps, rfl, hp.ex e12, L1.ex e12, VL.ex e12, s1, fun H3 e3 => ⟨_, rfl, ?_⟩⟩
        have e13 := e12.trans e3
        cases h1 : ls.any (holdsL ns (tvOf ps)) with
        | false => exact iteF' rfl ⟨_, rfl, fin H3 e13⟩
        | true =>
          refine iteT' rfl ⟨_, rfl, _, rfl, q, v, n, tm, o, pa, us', ls', ns, ps, rfl, hq.ex e13, L2'.ex e13, VL.ex e13, s2, fun H4 e4 => ⟨_, rfl, ?_⟩⟩
          have h2 : ls'.any (holdsL ns (tvOf ps)) = false := by
            cases h2 : ls'.any (holdsL ns (tvOf ps)) with
            | false => rfl
            | true =>
              obtain ⟨y, hy, gy⟩ := List.any_eq_true.mp h1
              obtain ⟨z, hz, gz⟩ := List.any_eq_true.mp h2
              have no := List.any_eq_false.mp hb
              have ey : y = l := Decidable.byContradiction fun ne => no y ((mem y).mpr (mem_resL.mpr (.inl ⟨hy, ne⟩))) gy
              have ez : z = oppL l := Decidable.byContradiction fun ne => no z ((mem z).mpr (mem_resL.mpr (.inr ⟨hz, ne⟩))) gz
              rw [ez, holds_opp, ← ey, gy] at gz
              exact absurd gz (by decide)
          rw [h2]
          exact fin H4 (e13.trans e4)
    · have hm := List.mem_of_find?_eq_some hy
      have hn := List.find?_some hy
      obtain ⟨z, hz, hyz⟩ := (MM y).mp hm
      have := st z hz y hyz
      simp [this] at hn
end
end F5
set_option maxRecDepth 100000
set_option maxHeartbeats 8000000
namespace F5
open PySem L2 Evl GP HR SC SetM SetH RQ
def PlainD : Nat → PyData → Prop
  | _, .str _ => True
  | _, .int _ => True
  | n + 1, .tuple ds => ds.length ≤ 1000 ∧ ∀ d ∈ ds, PlainD n d
  | _, _ => False
def spSame (K : PySem.W.Frag) : Nat → Sp
  | 0 => fun _ _ _ _ => False
  | n + 1 => fun vs H Q _ => ∃ x y d, vs = [x, y] ∧ Dp K H x d ∧ Dp K H y d ∧ PlainD n d ∧ ∀ H', Ex H H' → Q (.bl true) H'
theorem plain_lit {n : Nat} (l : Lit) : PlainD (n + 1) (litD l) := by
  cases l with
  | yn b x =>
    refine ⟨by simp, fun d hd => ?_⟩
    simp only [List.mem_cons, List.not_mem_nil, or_false] at hd
    rcases hd with rfl | rfl <;> cases n <;> exact True.intro
  | most x y k =>
    refine ⟨by simp, fun d hd => ?_⟩
    simp only [List.mem_cons, List.not_mem_nil, or_false] at hd
    rcases hd with rfl | rfl | rfl | rfl <;> cases n <;> exact True.intro
section
variable {P : Program} {w : World} {K : PySem.W.Frag} {mg : Str → Option Value} {base : Heap} {a : Ad} {d : Fd} {fL fC fU fP : Addr}
theorem ok_law_exact (T : TX K mg a) (D : FDS K a d) : ∀ n, FnOk P w K mg base CX0 (n + 1) a.a_law_exact d.a_law_exact ["told", "due"] (spSame K n)
  | 0 => by
    refine D.F__law_exact.ok sc_law_exact (fun vs H Q E h => h.elim) (fun cdv A outer s H vs Q E hr h => h.elim)
  | n + 1 => by
    have G__law_exact : FnOk P w K mg base CX0 (n + 1) a.a_law_exact d.a_law_exact ["told", "due"] (spSame K n) := ok_law_exact T D n
    refine D.F__law_exact.ok sc_law_exact (fun vs H Q E h => ?_) (fun cdv A outer s H vs Q E hr h => ?_)
    · obtain ⟨x, y, dd, rfl, _⟩ := h
      rfl
    · obtain ⟨x, y, dd, rfl, hx, hy, hp, q⟩ := h
      refine ⟨_, (pss_cons (ps_if (pt_val (pe_callB call_isi (by rfl) T.b_isinstance (by decide +kernel) (pa_cons (pv 1) (pa_cons (pe_bltn (v := .ty "tuple") (by rfl) T.b_tuple (by decide +kernel) rfl) pa_nil)))) (pss_cons (ps_if (PW.pt (pw_or (pt_not (pt_val (pe_callB call_isi (by rfl) T.b_isinstance (by decide +kernel) (pa_cons (pv 0) (pa_cons (pe_bltn (v := .ty "tuple") (by rfl) T.b_tuple (by decide +kernel) rfl) pa_nil))))) (pw_or1 (pt_cmpR op_ne (pe_callB call_len (by rfl) T.b_len (by decide +kernel) (pa_cons (pv 0) pa_nil)) (pe_callB call_len (by rfl) T.b_len (by decide +kernel) (pa_cons (pv 1) pa_nil)) (nomark _))))) (pss_one (ps_ret pe_bl)) pss_nil)
        (pss_one (ps_ret (pe_callB (cr_all rfl) (by rfl) T.b_all (by decide +kernel) (pa_cons (pe_lc (own := [("k", 2)]) (g := gName 2) (tt := tYes) rfl sc_law_exact.nd (pi_range1 rfl T.b_range (pa_cons (pe_callB call_len (by rfl) T.b_len (by decide +kernel) (pa_cons (pv 1) pa_nil)) pa_nil)) (blkOk_by (N := ["told", "due", "k"]) (sc := defScope s_law_exact) (by decide +kernel)) (fun _ _ _ _ _ => (pg_name (i := 2) sc_law_exact.nd rfl (Or.inl rfl))) (fun _ _ _ _ _ => pts_nil) (fun _ _ _ _ _ => (pe_call G__law_exact (hr.mono (Nat.le_refl _)) rfl T.f__law_exact T.k__law_exact D.B__law_exact .nil pass0 (pa_cons (pe_ix (ix_seqK (K := K)) (pv 0) (pv 2) (fun _ _ => rfl)) (pa_cons (pe_ix (ix_seqK (K := K)) (pv 1) (pv 2) (fun _ _ => rfl)) pa_nil))))) pa_nil))))) pss_nil)
        (pss_cons (ps_if (pt_val (pe_callB call_isi (by rfl) T.b_isinstance (by decide +kernel) (pa_cons (pv 1) (pa_cons (pe_bltn (v := .ty "str") (by rfl) T.b_str (by decide +kernel) rfl) pa_nil)))) (pss_one (ps_ret (pe_and (pe_callB call_isi (by rfl) T.b_isinstance (by decide +kernel) (pa_cons (pv 0) (pa_cons (pe_bltn (v := .ty "str") (by rfl) T.b_str (by decide +kernel) rfl) pa_nil))) (pe_one (pe_cmpR op_eq (pv 0) (pv 1) (nomark _)))))) pss_nil)
        (pss_one (ps_ret (pe_and (pe_callB call_isi (by rfl) T.b_isinstance (by decide +kernel) (pa_cons (pv 0) (pa_cons (pe_bltn (v := .ty "int") (by rfl) T.b_int (by decide +kernel) rfl) pa_nil))) (pe_and (pe_not (pe_callB call_isi (by rfl) T.b_isinstance (by decide +kernel) (pa_cons (pv 0) (pa_cons (pe_bltn (v := .ty "bool") (by rfl) T.b_bool (by decide +kernel) rfl) pa_nil)))) (pe_one (pe_cmpR op_eq (pv 0) (pv 1) (nomark _))))))))), ?_⟩
      refine ⟨_, rfl, y, _, _, _, _, rfl, .ty "tuple", dp_ty hy, kit_tuple dd, _, rfl, ?_⟩
      cases dd with
      | str z =>
        cases hx
        cases hy
        refine iteF' rfl ⟨_, rfl, _, _, _, _, _, rfl, .ty "str", dp_ty (.str z), kit_str (.str z), _, rfl, iteT' rfl ⟨_, rfl, _, _, _, _, _, rfl, .ty "str", dp_ty (.str z), kit_str (.str z), _, rfl, iteT' rfl ⟨_, rfl, _, rfl, ?_, ?_⟩⟩⟩
        · rfl
        · have := q H (Ex.refl _)
          rwa [show decide (V.str z = V.str z) = true from decide_eq_true rfl]
      | int k =>
        cases hx
        cases hy
        refine iteF' rfl ⟨_, rfl, _, _, _, _, _, rfl, .ty "str", dp_ty (.int k), kit_str (.int k), _, rfl, iteF' rfl ⟨_, rfl, _, _, _, _, _, rfl, .ty "int", dp_ty (.int k), kit_int (.int k), _, rfl, iteT' rfl ⟨_, rfl, _, _, _, _, _, rfl, .ty "bool", dp_ty (.int k), kit_bool (.int k), _, rfl, _, rfl, iteT' rfl ⟨_, rfl, _, rfl, ?_, ?_⟩⟩⟩⟩
        · rfl
        · have := q H (Ex.refl _)
          rwa [show decide (V.int k = V.int k) = true from decide_eq_true rfl]
      | tuple ds =>
        cases hx with
        | @tup px xs _ hpx hax =>
        cases hy with
        | @tup py ys _ hpy hay =>
        have lx := DpAll.len hax
        have ly := DpAll.len hay
        refine iteT' rfl ⟨_, rfl, _, _, _, _, _, rfl, .ty "tuple", dp_ty (.tup hpx hax), kit_tuple (.tuple ds), _, rfl, ?_⟩
        cases n with
        | zero => exact False.elim hp
        | succ n =>
        obtain ⟨hl, hall⟩ : ds.length ≤ 1000 ∧ ∀ d ∈ ds, PlainD n d := hp
        refine iteF' rfl ⟨_, rfl, _, xs.length, rfl, .inr ⟨xs, hpx, rfl⟩, _, rfl, _, ys.length, rfl, .inr ⟨ys, hpy, rfl⟩, rfl, _, rfl, iteF' ?_ ?_⟩
        · show (!decide (V.int (xs.length : Nat) = V.int (ys.length : Nat))) = false
          rw [lx, ly, decide_eq_true rfl]
          rfl
        refine ⟨_, rfl, _, ys.length, rfl, .inr ⟨ys, hpy, rfl⟩, _, rfl, by omega, by omega, fun F1 hF1 => lc_it (walk_range (lo := 0) (n := ys.length)) (fun i H' => Ex H H' ∧ H' F1 = some (.lst ((List.replicate i true).map V.bl))) ⟨Ex.new hF1, upd_same⟩ (fun _ _ _ _ => trivial) ?_ ?_⟩
        · rintro i v H1 H1' hi ⟨e, hl1⟩ ⟨rfl, rfl⟩
          obtain ⟨u, hu⟩ : ∃ u, xs[i]? = some u := ⟨xs[i]'(by omega), by simp⟩
          obtain ⟨u2, hu2⟩ : ∃ u, ys[i]? = some u := ⟨ys[i]'(by omega), by simp⟩
          obtain ⟨d1, h1, k1⟩ := DpAll.get hax hu
          obtain ⟨d2, h2, k2⟩ := DpAll.get hay hu2
          rw [h1] at h2
          cases h2
          unfold gName tYes
          dsimp only
          refine ⟨rfl, iteT' rfl ⟨_, rfl, _, rfl, .inr (.inl ⟨px, xs, _, u, rfl, rfl, ex_t e hpx, at_lit (n := i) (by omega) hu, _, rfl, _, rfl, .inr (.inl ⟨py, ys, _, u2, rfl, rfl, ex_t e hpy, at_lit (n := i) (by omega) hu2, ?_⟩)⟩)⟩⟩
          refine ⟨_, _, d1, rfl, Dp.ex e k1, Dp.ex e k2, hall _ (List.mem_of_getElem? h1), fun H2 e2 => ⟨_, e2 _ _ hl1, ?_, Ex.mut (e.trans e2) hF1, ?_⟩⟩
          · rw [List.length_map, List.length_replicate]
            have : 1000 < sizeLine := by decide
            omega
          · rw [upd_same, List.replicate_succ', List.map_append]
            rfl
        · rintro H1 ⟨e, hl1⟩
          refine ⟨F1, List.replicate ys.length true, rfl, SqL.of hl1, ?_⟩
          rw [show (List.replicate ys.length true).all id = true by simp]
          exact q H1 e
      | _ => cases n <;> exact False.elim hp
end
end F5
set_option maxRecDepth 100000
set_option maxHeartbeats 8000000
namespace F5
open PySem PySem.Spec PyProof.Rows L2
/-- isinstance(e, c) in the suite that holds the error e, whose attributes are a dict of its own -/
def rIsX (K : PySem.W.Frag) (a : Addr) (cls : Value) (d : Option Addr) : List V → Hp → VK → Prop := fun xs H Q => ∃ (D dd : Addr) (fs : List (Str × V)) (c : V) (cv : Value) (b : Bool),
  cls = .ref D ∧ d = some dd ∧ H dd = some (.xd fs) ∧ ExcC K D ∧ xs = [.ref a, c] ∧ ClsV c cv ∧ PySem.W.kitOne K (.ref D) cv = some b ∧ Q (.bl b) H
theorem call_isX {X : Cx} {a : Addr} {oe : Obj} {cls : Value} {d : Option Addr} {pn : List (Addr × Obj)} (hz : Zc cls d oe) (hf : ∃ vs, oe.data = .fields vs) : CallR (X.suite a ((a, oe) :: pn)) (.builtin "isinstance") (rIsX X.K a cls d) := by
  intro pins s σ H xs us Q I r h
  obtain ⟨D, dd, fs, c, cv, b, rfl, rfl, hdd, C, rfl, hcv, e, q⟩ := h
  obtain ⟨u1, u2, rfl, r1, r2⟩ := vals2 r
  have e2 := hcv.eq r2
  subst e2
  cases (show u1 = Value.ref a from r1)
  obtain ⟨hget, _⟩ := I.pin (a, oe) (List.mem_append.mpr (.inl List.mem_cons_self))
  obtain ⟨vs, hv⟩ := hf
  have hx : ObjOk X.prog X.w H s.heap dd (.xd fs) := I.hok dd _ hdd
  obtain ⟨mA, hns, _⟩ := hx
  obtain ⟨od, ho, _⟩ := lookIn_ns hns
  have J : PySem.W.InstAt s.heap a oe D (some od) := ⟨hget, hz.1, by unfold PySem.W.notCls; rw [hv] <;> rfl, by rw [hz.2]; exact ho⟩
  have hcl : (PySem.W.clsIn X.K D).isSome = true := by
    obtain ⟨cd, hc, _⟩ := PySem.W.any_some C.hd
    rw [hc]
    rfl
  exact PySem.W.kia_one (PySem.W.kitx_exc hcl C.hg C.hk C.hs C.ha C.hn C.ht C.hm) I.kIn J e (fun z => nomatch z) fun tk => ⟨.bl b, H, I.kept (t' := tk) fun _ _ z => z, rfl, q⟩
end F5
namespace F5
open PySem L2 Evl GP HR SC SetM SetH RQ
/-- D is an error of the program, n its place among those that the law asks for, f its field -/
structure EC (K : PySem.W.Frag) (a : Ad) (D : Addr) (n : Nat) (f : Str) : Prop where
  xc : ExcC K D
  xf : XfC K D
  noF : PySem.W.findIn K (.ref D) f = some none
  kR : PySem.W.kitOne K (.ref D) (.ref a.cR) = some true
  kV : PySem.W.kitOne K (.ref D) (.type "ValueError") = some true
  kL : PySem.W.kitOne K (.ref D) (.ref a.cL) = some (decide (n = 1))
  kC : PySem.W.kitOne K (.ref D) (.ref a.cC) = some (decide (n = 2))
  eP : PySem.W.exmOne K (.ref D) (.ref a.cP) = some (decide (n = 0))
  eL : PySem.W.exmOne K (.ref D) (.ref a.cL) = some (decide (n = 1))
  eC : PySem.W.exmOne K (.ref D) (.ref a.cC) = some (decide (n = 2))
structure ECS (K : PySem.W.Frag) (a : Ad) : Prop where
  P : EC K a a.cP 0 "pivot"
  L : EC K a a.cL 1 "value"
  C : EC K a a.cC 2 "value"
def ToldQ (H : Hp) (Q : VK) (w : Str) (y : V) : Prop := ∀ (r : Addr) H', Ex H H' → H' r = some (.lst [.str w, y, .bl true]) → Q (.ref r) H'
def GoodT (H : Hp) (ls : List Lit) (Q : VK) : Prop := ∀ (r u : Addr) (us' : List V) (ls' : List Lit) H', Ex H H' → H' r = some (.lst [.str "clause", .ref u]) → H' u = some (.tup us') → Lits H' us' ls' → (∀ l, l ∈ ls' ↔ l ∈ ls) → AscL ls' → Q (.ref r) H'
/-- a clause that is handed in: good, with a bad item, or no clause -/
def ArgT (K : PySem.W.Frag) (H : Hp) (v : V) (Q : VK) (go : List Lit → Prop) : Prop :=
  (∃ p us ls, v = .ref p ∧ Seq K H p us ∧ Lits H us ls ∧ (∀ l ∈ ls, LitOk l) ∧ ls.length ≤ 30 ∧ go ls) ∨
  (∃ p us ls i bad, v = .ref p ∧ Seq K H p us ∧ us[i]? = some bad ∧ AnyV K H bad false ∧ Lits H (us.take i) ls ∧ (∀ l ∈ ls, LitOk l) ∧ ToldQ H Q "literal" bad) ∨
  (NoSeq K H v ∧ ToldQ H Q "list" v)
theorem ArgT.c {K : PySem.W.Frag} {H : Hp} {v : V} {Q : VK} {go go' : List Lit → Prop} {cL cC : Addr} {E : XK} (h : ArgT K H v Q go) (hL : ∀ bad, ToldQ H Q "literal" bad → Raised cL "value" bad H E) (hC : ToldQ H Q "list" v → Raised cC "value" v H E) (hg : ∀ ls, go ls → go' ls) : ArgC K cL cC H v E go' := by
  rcases h with ⟨p, us, ls, h1, h2, h3, h4, h5, h⟩ | ⟨p, us, ls, i, bad, h1, h2, h3, h4, h5, h6, h7⟩ | ⟨h1, h2⟩
  · exact .inl ⟨p, us, ls, h1, h2, h3, h4, h5, hg ls h⟩
  · exact .inr (.inl ⟨p, us, ls, i, bad, h1, h2, h3, h4, h5, h6, hL bad h7⟩)
  · exact .inr (.inr ⟨h1, hC h2⟩)
def spTold (K : PySem.W.Frag) : Sp := fun vs H Q _ => ∃ (v v' : V) (x : Addr) (l : Lit), vs = [v, .ref x, v'] ∧ H x = some (.tup (litV l)) ∧ LitOk l ∧ LitOk (oppL l) ∧
  ArgT K H v Q fun ls => ArgT K H v' Q fun ls' => (l ∉ ls ∨ oppL l ∉ ls' → ToldQ H Q "pivot" (.ref x)) ∧ (l ∈ ls → oppL l ∈ ls' → GoodT H (resL l ls ls') Q)
def t_isX (K : PySem.W.Frag) (b : Addr) (cls : Value) (d : Option Addr) (c : V) : TE := tCB (rIsX K b cls d) (tCons (tVar 3) (tCons (tC c) tNil))
def t_base (K : PySem.W.Frag) (a : Ad) (b : Addr) (cls : Value) (d : Option Addr) : TE := tAndV (t_isX K b cls d (.ref a.cR)) (t_isX K b cls d (.ty "ValueError"))
def t_sP (K : PySem.W.Frag) (a : Ad) : Addr → Value → Option Addr → TS := fun b cls d =>
  tSeq (tAsg (t_base K a b cls d) (gName 4)) (tSeq (tAsg (tOrV (t_isX K b cls d (.ref a.cC)) (t_isX K b cls d (.ref a.cL))) (gName 5))
    (tRet (tLst (tCons (tC (.str "pivot")) (tCons (tXf b cls d a.cP "pivot" (tVar 3)) (tCons (tAndV (tVar 4) (tNotV (tVar 5))) tNil))))))
def t_sL (K : PySem.W.Frag) (a : Ad) : Addr → Value → Option Addr → TS := fun b cls d =>
  tSeq (tAsg (t_base K a b cls d) (gName 4))
    (tRet (tLst (tCons (tC (.str "literal")) (tCons (tXf b cls d a.cL "value" (tVar 3)) (tCons (tAndV (tVar 4) (tNotV (t_isX K b cls d (.ref a.cC)))) tNil)))))
def t_sC (K : PySem.W.Frag) (a : Ad) : Addr → Value → Option Addr → TS := fun b cls d =>
  tRet (tLst (tCons (tC (.str "list")) (tCons (tXf b cls d a.cC "value" (tVar 3)) (tCons (t_base K a b cls d) tNil))))
def t_bodyT (K : PySem.W.Frag) (a : Ad) : WX → TS := fun W =>
  tRet (tLst (tCons (tC (.str "clause")) (tCons (tCallS (spResolve K a.cL a.cC a.cP) (WE W) (tCons (tVar 0) (tCons (tVar 1) (tCons (tVar 2) tNil)))) tNil)))
section
variable {P : Program} {w : World} {K : PySem.W.Frag} {mg : Str → Option Value} {base : Heap} {a : Ad} {d : Fd} {fL fC fU fP : Addr}
theorem ok_law_told (T : TX K mg a) (D : FDS K a d) (R : ER K mg P a fL fC fU fP) (C : ECS K a) : FnOk P w K mg base CX0 8 a.a_law_told d.a_law_told ["first", "pivot", "second"] (spTold K) := by
  have G_resolve : FnOk P w K mg base (L2N.CX P w) 7 a.a_resolve d.a_resolve ["clause", "pivot", "other"] (spResolve K a.cL a.cC a.cP) := ok_resolve T D R
  refine D.F__law_told.ok sc_law_told (fun vs H Q E h => ?_) (fun cdv A outer s H vs Q E hr h => ?_)
  · obtain ⟨v, v', x, l, rfl, _⟩ := h
    rfl
  · obtain ⟨v, v', x, l, rfl, hx, ol, oo, h⟩ := h
    have hr7 : Room 7 _ := hr.mono (by decide)
    refine ⟨_, pss_one (NX.ps_try_manyA (tb := t_bodyT K a) (Wout := fun _ _ _ _ => False) (l := [(.ref a.cP, some 3, t_sP K a), (.ref a.cL, some 3, t_sL K a), (.ref a.cC, some 3, t_sC K a)]) rfl rfl NX.takes0
      (fun W pn xe tk _ => pss_one (ps_ret (pe_lst (pa_cons pe_str (pa_cons (by exact (pe_callS G_resolve hr7 rfl T.f_resolve T.k_resolve D.B_resolve (fun σ => L2N.passAt tk σ) (by exact (pa_cons (pv 0) (pa_cons (pv 1) (pa_cons (pv 2) pa_nil)))))) pa_nil)))))
      (.as (i := 3) sc_law_told.nd rfl rfl ⟨rfl, by decide, Or.inl T.c_InvalidPivot⟩ (fun b oe cls dd pn hz hf =>
        pss_cons (ps_set (i := 4) sc_law_told.nd rfl (Or.inl rfl) (pe_and (pe_callB (call_isX hz.zc hf) (by rfl) T.b_isinstance (by decide +kernel) (by exact (pa_cons (pv 3) (pa_cons (pe_glob (v := .ref a.cR) rfl T.c_RingclauseError rfl) pa_nil)))) (pe_one (pe_callB (call_isX hz.zc hf) (by rfl) T.b_isinstance (by decide +kernel) (by exact (pa_cons (pv 3) (pa_cons (pe_bltn (v := .ty "ValueError") (by rfl) T.b_ValueError (by decide +kernel) rfl) pa_nil)))))))
        (pss_cons (ps_set (i := 5) sc_law_told.nd rfl (Or.inl rfl) (pe_or (pe_callB (call_isX hz.zc hf) (by rfl) T.b_isinstance (by decide +kernel) (by exact (pa_cons (pv 3) (pa_cons (pe_glob (v := .ref a.cC) rfl T.c_InvalidClause rfl) pa_nil)))) (pe_one (pe_callB (call_isX hz.zc hf) (by rfl) T.b_isinstance (by decide +kernel) (by exact (pa_cons (pv 3) (pa_cons (pe_glob (v := .ref a.cL) rfl T.c_InvalidLiteral rfl) pa_nil)))))))
        (pss_one (ps_ret (pe_lst (pa_cons pe_str (pa_cons (by exact (pe_xf C.P.xf C.P.noF hz.zc hf (pv 3))) (pa_cons (pe_and (pv 4) (pe_one (pe_not (pv 5)))) pa_nil)))))))) 
      (.as (i := 3) sc_law_told.nd rfl rfl ⟨rfl, by decide, Or.inl T.c_InvalidLiteral⟩ (fun b oe cls dd pn hz hf =>
        pss_cons (ps_set (i := 4) sc_law_told.nd rfl (Or.inl rfl) (pe_and (pe_callB (call_isX hz.zc hf) (by rfl) T.b_isinstance (by decide +kernel) (by exact (pa_cons (pv 3) (pa_cons (pe_glob (v := .ref a.cR) rfl T.c_RingclauseError rfl) pa_nil)))) (pe_one (pe_callB (call_isX hz.zc hf) (by rfl) T.b_isinstance (by decide +kernel) (by exact (pa_cons (pv 3) (pa_cons (pe_bltn (v := .ty "ValueError") (by rfl) T.b_ValueError (by decide +kernel) rfl) pa_nil)))))))
        (pss_one (ps_ret (pe_lst (pa_cons pe_str (pa_cons (by exact (pe_xf C.L.xf C.L.noF hz.zc hf (pv 3))) (pa_cons (pe_and (pv 4) (pe_one (pe_not (pe_callB (call_isX hz.zc hf) (by rfl) T.b_isinstance (by decide +kernel) (by exact (pa_cons (pv 3) (pa_cons (pe_glob (v := .ref a.cC) rfl T.c_InvalidClause rfl) pa_nil))))))) pa_nil)))))))
      (.as (i := 3) sc_law_told.nd rfl rfl ⟨rfl, by decide, Or.inl T.c_InvalidClause⟩ (fun b oe cls dd pn hz hf =>
        pss_one (ps_ret (pe_lst (pa_cons pe_str (pa_cons (by exact (pe_xf C.C.xf C.C.noF hz.zc hf (pv 3))) (pa_cons (pe_and (pe_callB (call_isX hz.zc hf) (by rfl) T.b_isinstance (by decide +kernel) (by exact (pa_cons (pv 3) (pa_cons (pe_glob (v := .ref a.cR) rfl T.c_RingclauseError rfl) pa_nil)))) (pe_one (pe_callB (call_isX hz.zc hf) (by rfl) T.b_isinstance (by decide +kernel) (by exact (pa_cons (pv 3) (pa_cons (pe_bltn (v := .ty "ValueError") (by rfl) T.b_ValueError (by decide +kernel) rfl) pa_nil)))))) pa_nil))))))
      .nil)))), ?_⟩
    have three : 3 ≤ sizeLine := by decide
    have isx : ∀ {b cD dd : Addr} {fs : List (Str × V)} {n : Nat} {f : Str} {H1 : Hp} {σ : L2.St} {Q1 : VK} {c : V} {cv : Value} {t : Bool}, EC K a cD n f → σ[3]? = some (some (.ref b)) → H1 dd = some (.xd fs) → ClsV c cv → PySem.W.kitOne K (.ref cD) cv = some t → Q1 (.bl t) H1 → t_isX K b (.ref cD) (some dd) c σ H1 Q1 := fun Z hb hdd hc hk q => ⟨_, hb, _, _, _, _, _, _, rfl, rfl, hdd, Z.xc, rfl, hc, hk, q⟩
    have bas : ∀ {b cD dd : Addr} {fs : List (Str × V)} {n : Nat} {f : Str} {H1 : Hp} {σ : L2.St} {Q1 : VK}, EC K a cD n f → σ[3]? = some (some (.ref b)) → H1 dd = some (.xd fs) → Q1 (.bl true) H1 → t_base K a b (.ref cD) (some dd) σ H1 Q1 := fun Z hb hdd q => isx Z hb hdd (.own a.cR) Z.kR ⟨true, rfl, iteT' rfl (isx Z hb hdd (.ty "ValueError") Z.kV q)⟩
    have exP : ∀ {dd : Addr} {H1 : Hp} {y : V}, Ex H H1 → H1 dd = some (.xd [("pivot", y)]) → ToldQ H Q "pivot" y → NX.wManyA K (fun _ _ _ _ => False) { nx := fun _ H' => Q .non H', rt := Q } [(.ref a.cP, some 3, t_sP K a), (.ref a.cL, some 3, t_sL K a), (.ref a.cC, some 3, t_sC K a)] (.ref a.cP) (some dd) [some v, some (.ref x), some v', none, none, none] H1 := by
      intro dd H1 y e hdd fin
      refine ⟨_, C.P.eP, fun _ b hb => ?_, fun z => absurd z (by decide)⟩
      show t_base K a b (.ref a.cP) (some dd) _ _ _
      refine bas C.P rfl hdd ?_
      show t_isX K b (.ref a.cP) (some dd) (.ref a.cC) _ _ _
      refine isx C.P rfl hdd (.own a.cC) C.P.kC ⟨_, rfl, iteF' rfl ?_⟩
      refine isx C.P rfl hdd (.own a.cL) C.P.kL ?_
      refine ⟨_, rfl, rfl, rfl, dd, _, y, rfl, hdd, by simp [List.lookup], _, rfl, true, rfl, iteT' rfl ⟨_, rfl, _, rfl, three, fun t ht => ?_⟩⟩
      exact fin t _ (e.trans (Ex.new ht)) upd_same
    have exL : ∀ {dd : Addr} {H1 : Hp} {y : V}, Ex H H1 → H1 dd = some (.xd [("value", y)]) → ToldQ H Q "literal" y → NX.wManyA K (fun _ _ _ _ => False) { nx := fun _ H' => Q .non H', rt := Q } [(.ref a.cP, some 3, t_sP K a), (.ref a.cL, some 3, t_sL K a), (.ref a.cC, some 3, t_sC K a)] (.ref a.cL) (some dd) [some v, some (.ref x), some v', none, none, none] H1 := by
      intro dd H1 y e hdd fin
      refine ⟨_, C.L.eP, fun z => absurd z (by decide), fun _ => ⟨_, C.L.eL, fun _ b hb => ?_, fun z => absurd z (by decide)⟩⟩
      show t_base K a b (.ref a.cL) (some dd) _ _ _
      refine bas C.L rfl hdd ?_
      refine ⟨_, rfl, rfl, rfl, dd, _, y, rfl, hdd, by simp [List.lookup], _, rfl, true, rfl, iteT' rfl ?_⟩
      show t_isX K b (.ref a.cL) (some dd) (.ref a.cC) _ _ _
      refine isx C.L rfl hdd (.own a.cC) C.L.kC ⟨_, rfl, three, fun t ht => ?_⟩
      exact fin t _ (e.trans (Ex.new ht)) upd_same
    have exC : ∀ {dd : Addr} {H1 : Hp} {y : V}, Ex H H1 → H1 dd = some (.xd [("value", y)]) → ToldQ H Q "list" y → NX.wManyA K (fun _ _ _ _ => False) { nx := fun _ H' => Q .non H', rt := Q } [(.ref a.cP, some 3, t_sP K a), (.ref a.cL, some 3, t_sL K a), (.ref a.cC, some 3, t_sC K a)] (.ref a.cC) (some dd) [some v, some (.ref x), some v', none, none, none] H1 := by
      intro dd H1 y e hdd fin
      refine ⟨_, C.C.eP, fun z => absurd z (by decide), fun _ => ⟨_, C.C.eL, fun z => absurd z (by decide), fun _ => ⟨_, C.C.eC, fun _ b hb => ?_, fun z => absurd z (by decide)⟩⟩⟩
      refine ⟨_, rfl, rfl, rfl, dd, _, y, rfl, hdd, by simp [List.lookup], ?_⟩
      show t_base K a b (.ref a.cC) (some dd) _ _ _
      refine bas C.C rfl hdd ⟨three, fun t ht => ?_⟩
      exact fin t _ (e.trans (Ex.new ht)) upd_same
    refine ⟨_, rfl, _, rfl, _, rfl, v, v', x, l, rfl, hx, ol, oo, h.c (fun bad f dd H1 e1 _ hdd => exL e1 hdd f) (fun f dd H1 e1 _ hdd => exC e1 hdd f) fun ls g => g.c (fun bad f dd H1 e1 _ hdd => exL e1 hdd f) (fun f dd H1 e1 _ hdd => exC e1 hdd f) fun ls' g' => ⟨fun no dd H1 e1 _ hdd => exP e1 hdd (g'.1 no), fun g1 g2 u us' tl H1 e1 hu TL mem asc => ⟨(by show 2 ≤ sizeLine; decide), fun t ht => ?_⟩⟩⟩
    have xt := Ex.new (o := .lst [.str "clause", .ref u]) ht
    exact g'.2 g1 g2 t u us' tl _ (e1.trans xt) upd_same (xt _ _ hu) (TL.ex xt) mem asc
end
end F5
set_option maxRecDepth 100000
set_option maxHeartbeats 4000000
/-! repr of whatever is handed in -/
namespace RQ
open PySem PySem.Spec PyProof.Rows L2 SetM GP Evl
mutual
theorem Dq.ex {K : PySem.W.Frag} {H H' : Hp} (e : Ex H H') : ∀ {v : V} {d : PyData}, Dq K H v d → Dq K H' v d
  | _, _, .non => .non
  | _, _, .bl b => .bl b
  | _, _, .int i => .int i
  | _, _, .str x => .str x
  | _, _, .tup h a => .tup (ex_t e h) (DqAll.ex e a)
  | _, _, .dK h a => .dK (e _ _ h) (DqAll.ex e a)
  | _, _, .dT h a => .dT (e _ _ h) (DqAll.ex e a)
theorem DqAll.ex {K : PySem.W.Frag} {H H' : Hp} (e : Ex H H') : ∀ {vs : List V} {ds : List PyData}, DqAll K H vs ds → DqAll K H' vs ds
  | _, _, .nil => .nil
  | _, _, .cons a b => .cons (Dq.ex e a) (DqAll.ex e b)
end
inductive ShV (K : PySem.W.Frag) (H : Hp) : V → Str → Prop
  | non : ShV K H .non "None"
  | bl (b : Bool) : ShV K H (.bl b) (PyData.bool b).shown
  | int (i : Int) (h : i.natAbs.log2 < 1920) : ShV K H (.int i) (Str.ofString (toString i))
  | str (x : Str) (h : (reprText x).length ≤ sizeLine) : ShV K H (.str x) (reprText x)
  | d {p : Addr} {d : PyData} {n c : Nat} : Dp K H (.ref p) d → Rp n c d → n ≤ 60 → c ≤ sizeLine → ShV K H (.ref p) d.shown
  | q {p : Addr} {d : PyData} : Dq K H (.ref p) d → d.showable = true → d.depth ≤ 60 → d.shown.length ≤ sizeLine → ShV K H (.ref p) d.shown
def rReprA (K : PySem.W.Frag) : List V → Hp → VK → Prop := fun xs H Q => ∃ v z, xs = [v] ∧ ShV K H v z ∧ Q (.str z) H
theorem cr_reprA {X : Cx} {K : PySem.W.Frag} (gd : X.A.guards = some []) (hu : X.A.units + 70 < cLine) (hK : X.K = K := by rfl) : CallR X (.builtin "repr") (rReprA K) := by
  subst hK
  intro pins s σ H xs us Q I r h
  obtain ⟨v, z, rfl, sh, q⟩ := h
  cases sh with
  | d hd rp hn hc => exact call_reprR gd hu pins s σ H _ us Q I r ⟨_, _, _, _, rfl, hd, rp, hn, hc, q⟩
  | q hd sh dp ln => exact cr_reprQ gd hu rfl pins s σ H _ us Q I r ⟨_, _, rfl, hd, sh, dp, ln, q⟩
  | non =>
    obtain ⟨u, rfl, ru⟩ := vals1 r
    obtain rfl : u = .none := ru
    exact PySem.P.repr_of_none ⟨.str "None", H, I.tok _, ⟨_, rfl⟩, q⟩
  | bl b =>
    obtain ⟨u, rfl, ru⟩ := vals1 r
    obtain rfl : u = .bool b := ru
    exact PySem.P.repr_of_bool ⟨.str _, H, I.tok _, ⟨_, rfl⟩, by cases b <;> exact q⟩
  | int i h =>
    obtain ⟨u, rfl, t, rfl⟩ := vals1 r
    exact PySem.P.repr_of_int h ⟨.str _, H, I.tok _, ⟨_, rfl⟩, q⟩
  | str x h =>
    obtain ⟨u, rfl, t, rfl⟩ := vals1 r
    exact PySem.P.repr_of_str ⟨.str _, H, I.tok _, ⟨_, rfl⟩, q⟩ (hsz := h)
theorem ShV.ex {K : PySem.W.Frag} {H H' : Hp} (hd : ∀ v d, Dp K H v d → Dp K H' v d) (e : Ex H H') {v : V} {z : Str} (h : ShV K H v z) : ShV K H' v z := by
  cases h with
  | non => exact .non
  | bl b => exact .bl b
  | int i h => exact .int i h
  | str x h => exact .str x h
  | d a b c f => exact .d (hd _ _ a) b c f
  | q a b c f => exact .q (Dq.ex e a) b c f
theorem rp_int_text {k : Int} (h : k.natAbs.log2 < 1920) : Rp 0 20000 (.str (Str.ofString (toString k))) := by
  refine (Rp.str fun c hc => ?_).mono (Nat.le_refl _) (by have := int_text_len_1921 h; omega)
  by_cases g : c ≠ 45 ∧ (c < 48 ∨ 57 < c)
  · exact absurd hc (int_text_free' c g k)
  · have : (57 : Nat) < 16 ^ 8 := by decide
    omega
theorem al_nil {P : PyData → Prop} : ∀ d ∈ ([] : List PyData), P d := fun _ h => absurd h List.not_mem_nil
theorem al_cons {P : PyData → Prop} {d : PyData} {ds : List PyData} (h : P d) (t : ∀ x ∈ ds, P x) : ∀ x ∈ d :: ds, P x := List.forall_mem_cons.mpr ⟨h, t⟩
theorem r1t {ds : List PyData} (few : ds.length ≤ 6) (h : ∀ d ∈ ds, Rp 0 20000 d) : Rp 1 130000 (.tuple ds) := (Rp.tuple h).mono (Nat.le_refl _) (by omega)
theorem r1l {ds : List PyData} (few : ds.length ≤ 6) (h : ∀ d ∈ ds, Rp 0 20000 d) : Rp 1 130000 (.list ds) := (Rp.list h).mono (Nat.le_refl _) (by omega)
theorem up {d : PyData} (h : Rp 0 20000 d) : Rp 1 130000 d := h.mono (by decide) (by decide)
theorem r2t {ds : List PyData} (few : ds.length ≤ 6) (h : ∀ d ∈ ds, Rp 1 130000 d) : Rp 2 800000 (.tuple ds) := (Rp.tuple h).mono (Nat.le_refl _) (by omega)
theorem a_non : Rp 0 20000 .none := Rp.none.mono (Nat.le_refl _) (by decide)
theorem a_bl (b : Bool) : Rp 0 20000 (.bool b) := ⟨by simp [PyData.showable], by simp [PyData.hasDict], by simp [PyData.depth], by simp only [PyData.shown]; cases b <;> decide +kernel⟩
theorem a_int {k : Int} (h : k.natAbs.log2 < 1920) : Rp 0 20000 (.int k) := (Rp.int h).mono (Nat.le_refl _) (by decide)
theorem a_str {x : Str} (h : ∀ c ∈ x.cps.toList, c < 16 ^ 8) (l : x.length ≤ 1000) : Rp 0 20000 (.str x) := (Rp.str h).mono (Nat.le_refl _) (by omega)
end RQ
set_option maxRecDepth 100000
set_option maxHeartbeats 4000000
/-! how long the texts of small dicts are -/
namespace RQ
open PySem PySem.Spec PyProof.Rows L2 SetM GP Evl
structure Sn (n c : Nat) (d : PyData) : Prop where
  sh : d.showable = true
  dp : d.depth ≤ n
  ln : d.shown.length ≤ c
theorem Sn.of {n c : Nat} {d : PyData} (r : Rp n c d) : Sn n c d := ⟨r.sh, r.dp, r.ln⟩
theorem Sn.mono {n c m e : Nat} {d : PyData} (r : Sn n c d) (h1 : n ≤ m) (h2 : c ≤ e) : Sn m e d := ⟨r.sh, Nat.le_trans r.dp h1, Nat.le_trans r.ln h2⟩
theorem dict_text (ts : List Str) : (dictText ts).length ≤ piled ts + 2 := by
  have e1 : (("{" : Str)).length = 1 := rfl
  have e2 : (("}" : Str)).length = 1 := rfl
  unfold dictText
  rw [strLen_append, strLen_append, e1, e2]
  by_cases h : ts = []
  · subst h
    decide +kernel
  · have := join_length_add ts h
    omega
theorem sd0 : Sn 1 100 (.dict []) := ⟨by simp [PyData.showable, PyData.showableKv], by simp [PyData.depth, PyData.depthKv], by simp only [PyData.shown, PyData.shownKv]; decide +kernel⟩
theorem sd1 {n c : Nat} {k v : PyData} (a : Sn n c k) (b : Sn n c v) : Sn (n + 1) (2 * c + 100) (.dict [(k, v)]) := by
  refine ⟨by simp [PyData.showable, PyData.showableKv, a.sh, b.sh], ?_, ?_⟩
  · have := a.dp
    have := b.dp
    simp only [PyData.depth, PyData.depthKv]
    omega
  · have := a.ln
    have := b.ln
    simp only [PyData.shown, PyData.shownKv]
    refine Nat.le_trans (dict_text _) ?_
    have e : ((": " : Str)).length = 2 := rfl
    simp only [piled_cons, strLen_append, e]
    have : piled [] = 0 := rfl
    omega
theorem sd2 {n c : Nat} {k v k2 v2 : PyData} (a : Sn n c k) (b : Sn n c v) (a2 : Sn n c k2) (b2 : Sn n c v2) : Sn (n + 1) (4 * c + 200) (.dict [(k, v), (k2, v2)]) := by
  refine ⟨by simp [PyData.showable, PyData.showableKv, a.sh, b.sh, a2.sh, b2.sh], ?_, ?_⟩
  · have := a.dp
    have := b.dp
    have := a2.dp
    have := b2.dp
    simp only [PyData.depth, PyData.depthKv]
    omega
  · have := a.ln
    have := b.ln
    have := a2.ln
    have := b2.ln
    simp only [PyData.shown, PyData.shownKv]
    refine Nat.le_trans (dict_text _) ?_
    have e : ((": " : Str)).length = 2 := rfl
    simp only [piled_cons, strLen_append, e]
    have : piled [] = 0 := rfl
    omega
theorem st2 {n c : Nat} {a b : PyData} (h1 : Sn n c a) (h2 : Sn n c b) : Sn (n + 1) (2 * c + 100) (.tuple [a, b]) := by
  refine ⟨by simp [PyData.showable, PyData.showableAll, h1.sh, h2.sh], ?_, ?_⟩
  · have := h1.dp
    have := h2.dp
    simp only [PyData.depth, PyData.depthAll]
    omega
  · have := h1.ln
    have := h2.ln
    simp only [PyData.shown, PyData.shownAll]
    refine Nat.le_trans (fmt_text _) ?_
    simp only [piled_cons]
    have : piled [] = 0 := rfl
    omega
end RQ
set_option maxRecDepth 100000
set_option maxHeartbeats 8000000
namespace F5
open PySem L2 Evl GP HR SC SetM SetH RQ
/-- the heap without what stands at r -/
def rmH (H : Hp) (r : Addr) : Hp := fun a => if a = r then none else H a
theorem rm_ex {H H' : Hp} {r : Addr} (e : Ex H H') : Ex (rmH H r) (rmH H' r) := fun a x h => by
  unfold rmH at h ⊢
  by_cases g : a = r
  · rw [if_pos g] at h; cases h
  · rw [if_neg g] at h ⊢
    exact e a x h
theorem rm_new {H : Hp} {r p : Addr} {o u : HO} (hb : H r = some u) (hp : H p = none) : rmH (upd H p o) r p = some o := by
  unfold rmH
  rw [if_neg fun e => by rw [e, hb] at hp; cases hp]
  exact upd_same
theorem rm_kp {b : Addr} {H H' : Hp} (k : Kp b H H') : Ex (rmH H b) H' := fun a x h => by
  unfold rmH at h
  by_cases g : a = b
  · rw [if_pos g] at h; cases h
  · rw [if_neg g] at h
    exact k.k _ _ g h
theorem rm_kp' {b : Addr} {H H' : Hp} (X : Bx b H) (k : Kp b H H') : Ex (rmH H b) (rmH H' b) := fun a x h => by
  unfold rmH at h ⊢
  by_cases g : a = b
  · rw [if_pos g] at h; cases h
  · rw [if_neg g] at h ⊢
    exact k.k _ _ g h
theorem Bx.at {b : Addr} {H : Hp} (X : Bx b H) : ∃ u, H b = some u := let ⟨_, _, _, _, h, _⟩ := X; ⟨_, h⟩
def Gud (K : PySem.W.Frag) (H : Hp) (v : V) : Prop := AnyV K H v false ∧ ∃ z, ShV K H v z
theorem Gud.ex {K : PySem.W.Frag} {H H' : Hp} {v : V} (g : Gud K H v) (e : Ex H H') : Gud K H' v := ⟨g.1.ex e, let ⟨z, h⟩ := g.2; ⟨z, h.ex (fun _ _ => Dp.ex e) e⟩⟩
theorem good_dp {K : PySem.W.Frag} {H : Hp} {v : V} {d : PyData} (h : Dp K H v d) (r : Rp 2 800000 d) (s : szD d) (l : isLitD d = false) : Gud K H v := by
  refine ⟨.inl ⟨d, h, s, l⟩, ?_⟩
  have big : 800000 ≤ sizeLine := by decide
  cases h with
  | non => exact ⟨_, .non⟩
  | bl b => exact ⟨_, .bl b⟩
  | int i => exact ⟨_, .int i (by have := r.sh; simp only [PyData.showable] at this; exact of_decide_eq_true this)⟩
  | str x => exact ⟨_, .str x (by have := r.ln; simp only [PyData.shown] at this; omega)⟩
  | lst a b => exact ⟨_, .d (.lst a b) r (by decide) big⟩
  | tup a b => exact ⟨_, .d (.tup a b) r (by decide) big⟩
section
variable {K : PySem.W.Frag} {b : Addr} {σ : L2.St} {te : TE} {ta : TA} {d : PyData} {ds : List PyData} {n : Nat}
def GD (K : PySem.W.Frag) (b : Addr) (σ : L2.St) (te : TE) (d : PyData) : Prop := ∀ H1 u, H1 b = some u → ∀ Q : VK, (∀ v H2, Ex H1 H2 → Dp K (rmH H2 b) v d → Q v H2) → te σ H1 Q
def GDL (K : PySem.W.Frag) (b : Addr) (σ : L2.St) (ta : TA) (ds : List PyData) : Prop := ∀ H1 u, H1 b = some u → ∀ Q : List V → Hp → Prop, (∀ vs H2, Ex H1 H2 → DpAll K (rmH H2 b) vs ds → Q vs H2) → ta σ H1 Q
def GG (K : PySem.W.Frag) (b : Addr) (σ : L2.St) (te : TE) : Prop := ∀ H1 u, H1 b = some u → ∀ Q : VK, (∀ v H2, Ex H1 H2 → Gud K (rmH H2 b) v → Q v H2) → te σ H1 Q
def GL (K : PySem.W.Frag) (b : Addr) (σ : L2.St) (n : Nat) (ta : TA) : Prop := ∀ H1 u, H1 b = some u → ∀ Q : List V → Hp → Prop, (∀ vs H2, Ex H1 H2 → vs.length = n → (∀ v ∈ vs, Gud K (rmH H2 b) v) → Q vs H2) → ta σ H1 Q
theorem gd_s {z : Str} : GD K b σ (tC (.str z)) (.str z) := fun H1 _ _ Q q => q _ H1 (Ex.refl _) (.str z)
theorem gd_i {z : Int} : GD K b σ (tC (.int z)) (.int z) := fun H1 _ _ Q q => q _ H1 (Ex.refl _) (.int z)
theorem gd_b {z : Bool} : GD K b σ (tC (.bl z)) (.bool z) := fun H1 _ _ Q q => q _ H1 (Ex.refl _) (.bl z)
theorem gd_n : GD K b σ (tC .non) .none := fun H1 _ _ Q q => q _ H1 (Ex.refl _) .non
theorem gd_vs {i : Nat} {z : Str} (h : σ[i]? = some (some (.str z))) : GD K b σ (tVar i) (.str z) := fun H1 _ _ Q q => ⟨_, h, q _ H1 (Ex.refl _) (.str z)⟩
theorem gd_vi {i : Nat} {z : Int} (h : σ[i]? = some (some (.int z))) : GD K b σ (tVar i) (.int z) := fun H1 _ _ Q q => ⟨_, h, q _ H1 (Ex.refl _) (.int z)⟩
theorem gd_str {i : Nat} {z : Int} (h : σ[i]? = some (some (.int z))) (l : z.natAbs.log2 < 1920) : GD K b σ (tCB (fun xs H Q => ∃ i, xs = [.int i] ∧ i.natAbs.log2 < 1920 ∧ Q (.str (Str.ofString (toString i))) H) (tCons (tVar i) tNil)) (.str (Str.ofString (toString z))) := fun H1 _ _ Q q => ⟨_, h, _, rfl, l, q _ H1 (Ex.refl _) (.str _)⟩
theorem gdl_nil : GDL K b σ tNil [] := fun H1 _ _ Q q => q [] H1 (Ex.refl _) .nil
theorem gdl_cons (h : GD K b σ te d) (t : GDL K b σ ta ds) : GDL K b σ (tCons te ta) (d :: ds) := fun H1 u hb Q q => h H1 u hb _ fun v H2 e2 dv => t H2 u (e2 _ _ hb) _ fun vs H3 e3 dvs => q (v :: vs) H3 (e2.trans e3) (.cons (Dp.ex (rm_ex e3) dv) dvs)
theorem gd_tup (t : GDL K b σ ta ds) (few : ds.length ≤ 6) : GD K b σ (tTup ta) (.tuple ds) := fun H1 u hb Q q => t H1 u hb _ fun vs H2 e2 dvs => ⟨by rw [DpAll.len dvs]; exact Nat.le_trans few (by decide), fun p hp => by
  have x := Ex.new (o := .tup vs) hp
  exact q _ _ (e2.trans x) (.tup (SqT.of (rm_new (e2 _ _ hb) hp)) (DpAll.ex (rm_ex x) dvs))⟩
theorem gd_lst (t : GDL K b σ ta ds) (few : ds.length ≤ 6) : GD K b σ (tLst ta) (.list ds) := fun H1 u hb Q q => t H1 u hb _ fun vs H2 e2 dvs => ⟨by rw [DpAll.len dvs]; exact Nat.le_trans few (by decide), fun p hp => by
  have x := Ex.new (o := .lst vs) hp
  exact q _ _ (e2.trans x) (.lst (SqL.of (rm_new (e2 _ _ hb) hp)) (DpAll.ex (rm_ex x) dvs))⟩
theorem gl_nil : GL K b σ 0 tNil := fun H1 _ _ Q q => q [] H1 (Ex.refl _) rfl fun _ h => absurd h List.not_mem_nil
theorem gl_odd (h : GG K b σ te) (t : GL K b σ n ta) : GL K b σ (n + 1) (tCons te ta) := fun H1 u hb Q q => h H1 u hb _ fun v H2 e2 gv => t H2 u (e2 _ _ hb) _ fun vs H3 e3 l gvs => q (v :: vs) H3 (e2.trans e3) (by rw [List.length_cons, l]) fun w hw => by
  rcases List.mem_cons.mp hw with rfl | hw
  · exact gv.ex (rm_ex e3)
  · exact gvs w hw
theorem gl_cons (h : GD K b σ te d) (r : Rp 2 800000 d) (s : szD d) (l : isLitD d = false) (t : GL K b σ n ta) : GL K b σ (n + 1) (tCons te ta) := gl_odd (fun H1 u hb Q q => h H1 u hb Q fun v H2 e2 dv => q v H2 e2 (good_dp dv r s l)) t
theorem sz_t (h : ∀ d ∈ ds, szS d) : szD (.tuple ds) := h
theorem r2l {ds : List PyData} (few : ds.length ≤ 6) (h : ∀ d ∈ ds, Rp 1 130000 d) : Rp 2 800000 (.list ds) := (Rp.list h).mono (Nat.le_refl _) (by omega)
theorem up2 {d : PyData} (h : Rp 0 20000 d) : Rp 2 800000 d := h.mono (by decide) (by decide)
theorem lst_step {H : Hp} {Q : VK} {u : HO} (g : GL K b σ n ta) (hk : n ≤ 1000) (hb : H b = some u) (q : ∀ (p : Addr) (us : List V) H', Ex H H' → H p = none → H' p = some (.lst us) → us.length = n → (∀ v ∈ us, Gud K (rmH H' b) v) → Q (.ref p) H') : tLst ta σ H Q :=
  g H u hb _ fun us H2 e2 l gy => ⟨Nat.le_trans (by omega : _ ≤ 1000) (by decide), fun p hp => q p us _ (e2.trans (Ex.new hp)) (fresh_back e2 hp) upd_same l fun v hv => (gy v hv).ex (rm_ex (Ex.new hp))⟩
theorem cat_step {H : Hp} {Q : VK} {u : HO} {l : Addr} {zs : List V} {i m : Nat} (g : GL K b σ n ta) (hσ : σ[i]? = some (some (.ref l))) (hl : H l = some (.lst zs)) (lz : zs.length = m) (gz : ∀ z ∈ zs, Gud K (rmH H b) z) (hk : m + n ≤ 1000) (hb : H b = some u)
    (q : ∀ (p : Addr) (us : List V) H', Ex H H' → H p = none → H' p = some (.lst us) → us.length = m + n → (∀ v ∈ us, Gud K (rmH H' b) v) → Q (.ref p) H') : tOp rCat (tVar i) (tLst ta) σ H Q := by
  refine ⟨_, hσ, g H u hb _ fun ys H2 e2 yl gy => ⟨Nat.le_trans (by omega : _ ≤ 1000) (by decide), fun p1 h1 => ?_⟩⟩
  have x1 := Ex.new (o := .lst ys) h1
  refine ⟨l, p1, _, _, rfl, rfl, x1 _ _ (e2 _ _ hl), upd_same, Nat.le_trans (by omega : _ ≤ 1000) (by decide), fun p2 h2 => ?_⟩
  have x2 := Ex.new (o := .lst (zs ++ ys)) h2
  have e := e2.trans (x1.trans x2)
  exact q p2 (zs ++ ys) _ e (fresh_back (e2.trans x1) h2) upd_same (by rw [List.length_append, yl, lz]) fun w hw => by
    rcases List.mem_append.mp hw with hw | hw
    · exact (gz w hw).ex (rm_ex e)
    · exact (gy w hw).ex (rm_ex (x1.trans x2))
theorem put_step {i : Nat} {v : V} {H : Hp} {σ' : L2.St} {Q : L2.St → Hp → Prop} (e : σ.set i (some v) = σ') (h : Q σ' H) : gName i v σ H Q := by
  subst e
  exact h
theorem seq_step {g : TG} {rest : TS} {D : Ends} {H : Hp} (h : te σ H fun x H1 => g x σ H1 (rest D)) : tSeq (tAsg te g) rest D σ H := h
end
theorem low_lit {z : Str} (h : (z.cps.toList.all fun c => decide (c < 16 ^ 8)) = true) : ∀ c ∈ z.cps.toList, c < 16 ^ 8 := fun c hc => of_decide_eq_true (List.all_eq_true.mp h c hc)
theorem rm_new2 {H : Hp} {r p : Addr} {o u : HO} (hb : H r = some u) (hp : H p = none) {H' : Hp} : rmH (upd H' p o) r p = some o := by
  unfold rmH
  rw [if_neg fun e => by rw [e, hb] at hp; cases hp]
  exact upd_same
section
variable {K : PySem.W.Frag} {b : Addr} {σ : L2.St}
theorem od_new : GG K b σ tDNewK := fun H1 u hb Q q p hp => by
  have h := rm_new (o := .dK []) hb hp
  exact q _ _ (Ex.new hp) ⟨.inr ⟨rfl, .inl ⟨p, [], rfl, h⟩⟩, _, .q (.dK h .nil) sd0.sh (Nat.le_trans sd0.dp (by decide)) (Nat.le_trans sd0.ln (by decide))⟩
theorem asg_step {te : TE} {g : TG} {D : Ends} {H : Hp} (h : te σ H fun x H1 => g x σ H1 D.nx) : tAsg te g D σ H := h
end
theorem c_s0 : Rp 0 20000 (.str "most") := a_str (low_lit (by decide +kernel)) (by decide +kernel)
theorem d_s0 : szS (.str "most") := (by decide +kernel : ("most" : Str).length ≤ sizeLine)
theorem c_s1 : Rp 0 20000 (.str "x") := a_str (low_lit (by decide +kernel)) (by decide +kernel)
theorem d_s1 : szS (.str "x") := (by decide +kernel : ("x" : Str).length ≤ sizeLine)
theorem c_s2 : Rp 0 20000 (.str "yes") := a_str (low_lit (by decide +kernel)) (by decide +kernel)
theorem d_s2 : szS (.str "yes") := (by decide +kernel : ("yes" : Str).length ≤ sizeLine)
theorem c_s3 : Rp 0 20000 (.str "P") := a_str (low_lit (by decide +kernel)) (by decide +kernel)
theorem d_s3 : szS (.str "P") := (by decide +kernel : ("P" : Str).length ≤ sizeLine)
theorem c_s4 : Rp 0 20000 (.str "p") := a_str (low_lit (by decide +kernel)) (by decide +kernel)
theorem d_s4 : szS (.str "p") := (by decide +kernel : ("p" : Str).length ≤ sizeLine)
theorem c_s5 : Rp 0 20000 (.str "y") := a_str (low_lit (by decide +kernel)) (by decide +kernel)
theorem d_s5 : szS (.str "y") := (by decide +kernel : ("y" : Str).length ≤ sizeLine)
theorem c_s6 : Rp 0 20000 (.str "no") := a_str (low_lit (by decide +kernel)) (by decide +kernel)
theorem d_s6 : szS (.str "no") := (by decide +kernel : ("no" : Str).length ≤ sizeLine)
theorem c_s7 : Rp 0 20000 (.str "") := a_str (low_lit (by decide +kernel)) (by decide +kernel)
theorem d_s7 : szS (.str "") := (by decide +kernel : ("" : Str).length ≤ sizeLine)
theorem c_s8 : Rp 0 20000 (.str "abcdefghi") := a_str (low_lit (by decide +kernel)) (by decide +kernel)
theorem d_s8 : szS (.str "abcdefghi") := (by decide +kernel : ("abcdefghi" : Str).length ≤ sizeLine)
theorem c_s9 : Rp 0 20000 (.str "maybe") := a_str (low_lit (by decide +kernel)) (by decide +kernel)
theorem d_s9 : szS (.str "maybe") := (by decide +kernel : ("maybe" : Str).length ≤ sizeLine)
theorem c_s10 : Rp 0 20000 (.str "q") := a_str (low_lit (by decide +kernel)) (by decide +kernel)
theorem d_s10 : szS (.str "q") := (by decide +kernel : ("q" : Str).length ≤ sizeLine)
theorem c_s11 : Rp 0 20000 (.str "a b") := a_str (low_lit (by decide +kernel)) (by decide +kernel)
theorem d_s11 : szS (.str "a b") := (by decide +kernel : ("a b" : Str).length ≤ sizeLine)
theorem c_s12 : Rp 0 20000 (.str "1") := a_str (low_lit (by decide +kernel)) (by decide +kernel)
theorem d_s12 : szS (.str "1") := (by decide +kernel : ("1" : Str).length ≤ sizeLine)
theorem c_s13 : Rp 0 20000 (.str "1x") := a_str (low_lit (by decide +kernel)) (by decide +kernel)
theorem d_s13 : szS (.str "1x") := (by decide +kernel : ("1x" : Str).length ≤ sizeLine)
theorem c_s14 : Rp 0 20000 (.str "a_") := a_str (low_lit (by decide +kernel)) (by decide +kernel)
theorem d_s14 : szS (.str "a_") := (by decide +kernel : ("a_" : Str).length ≤ sizeLine)
theorem c_s15 : Rp 0 20000 (.str "least") := a_str (low_lit (by decide +kernel)) (by decide +kernel)
theorem d_s15 : szS (.str "least") := (by decide +kernel : ("least" : Str).length ≤ sizeLine)
theorem odd0 {K : PySem.W.Frag} {b : Addr} {σ : L2.St} : GL K b σ 6 (tCons (tTup (tCons (tC (.str "most")) (tCons (tC (.str "x")) (tCons (tC (.str "x")) (tCons (tC (.int 0)) tNil))))) (tCons (tTup (tCons (tC (.str "yes")) (tCons (tC (.str "P")) tNil))) (tCons (tLst (tCons (tC (.str "yes")) (tCons (tC (.str "p")) tNil))) (tCons (tTup (tCons (tC (.str "most")) (tCons (tC (.str "x")) (tCons (tC (.str "y")) (tCons (tC (.bl true)) tNil))))) (tCons (tC (.str "p")) (tCons (tTup (tCons (tC (.str "no")) (tCons (tC (.str "")) tNil))) tNil)))))) := by
  refine gl_cons (d := (.tuple [(.str "most"), (.str "x"), (.str "x"), (.int 0)])) (gd_tup (gdl_cons gd_s (gdl_cons gd_s (gdl_cons gd_s (gdl_cons gd_i gdl_nil)))) (Nat.le_of_ble_eq_true rfl)) (r2t (Nat.le_of_ble_eq_true rfl) (al_cons (up c_s0) (al_cons (up c_s1) (al_cons (up c_s1) (al_cons (up (a_int (by decide))) al_nil))))) (sz_t (al_cons d_s0 (al_cons d_s1 (al_cons d_s1 (al_cons True.intro al_nil))))) (by decide +kernel) ?_
  refine gl_cons (d := (.tuple [(.str "yes"), (.str "P")])) (gd_tup (gdl_cons gd_s (gdl_cons gd_s gdl_nil)) (Nat.le_of_ble_eq_true rfl)) (r2t (Nat.le_of_ble_eq_true rfl) (al_cons (up c_s2) (al_cons (up c_s3) al_nil))) (sz_t (al_cons d_s2 (al_cons d_s3 al_nil))) (by decide +kernel) ?_
  refine gl_cons (d := (.list [(.str "yes"), (.str "p")])) (gd_lst (gdl_cons gd_s (gdl_cons gd_s gdl_nil)) (Nat.le_of_ble_eq_true rfl)) (r2l (Nat.le_of_ble_eq_true rfl) (al_cons (up c_s2) (al_cons (up c_s4) al_nil))) True.intro (by decide +kernel) ?_
  refine gl_cons (d := (.tuple [(.str "most"), (.str "x"), (.str "y"), (.bool true)])) (gd_tup (gdl_cons gd_s (gdl_cons gd_s (gdl_cons gd_s (gdl_cons gd_b gdl_nil)))) (Nat.le_of_ble_eq_true rfl)) (r2t (Nat.le_of_ble_eq_true rfl) (al_cons (up c_s0) (al_cons (up c_s1) (al_cons (up c_s5) (al_cons (up (a_bl _)) al_nil))))) (sz_t (al_cons d_s0 (al_cons d_s1 (al_cons d_s5 (al_cons True.intro al_nil))))) (by decide +kernel) ?_
  refine gl_cons (d := (.str "p")) gd_s (up2 c_s4) True.intro (by decide +kernel) ?_
  refine gl_cons (d := (.tuple [(.str "no"), (.str "")])) (gd_tup (gdl_cons gd_s (gdl_cons gd_s gdl_nil)) (Nat.le_of_ble_eq_true rfl)) (r2t (Nat.le_of_ble_eq_true rfl) (al_cons (up c_s6) (al_cons (up c_s7) al_nil))) (sz_t (al_cons d_s6 (al_cons d_s7 al_nil))) (by decide +kernel) ?_
  exact gl_nil
theorem odd1 {K : PySem.W.Frag} {b : Addr} {σ : L2.St} : GL K b σ 8 (tCons (tC .non) (tCons (tTup (tCons (tC (.str "yes")) tNil)) (tCons (tTup (tCons (tC (.str "no")) (tCons (tC (.str "abcdefghi")) tNil))) (tCons (tTup (tCons (tC (.str "maybe")) (tCons (tC (.str "p")) tNil))) (tCons (tTup (tCons (tC (.str "yes")) (tCons (tC (.str "p")) (tCons (tC (.str "q")) tNil)))) (tCons (tTup (tCons (tC (.str "yes")) (tCons (tC (.int 1)) tNil))) (tCons (tC (.int 7)) (tCons (tTup tNil) tNil)))))))) := by
  refine gl_cons (d := .none) gd_n (up2 a_non) True.intro (by decide +kernel) ?_
  refine gl_cons (d := (.tuple [(.str "yes")])) (gd_tup (gdl_cons gd_s gdl_nil) (Nat.le_of_ble_eq_true rfl)) (r2t (Nat.le_of_ble_eq_true rfl) (al_cons (up c_s2) al_nil)) (sz_t (al_cons d_s2 al_nil)) (by decide +kernel) ?_
  refine gl_cons (d := (.tuple [(.str "no"), (.str "abcdefghi")])) (gd_tup (gdl_cons gd_s (gdl_cons gd_s gdl_nil)) (Nat.le_of_ble_eq_true rfl)) (r2t (Nat.le_of_ble_eq_true rfl) (al_cons (up c_s6) (al_cons (up c_s8) al_nil))) (sz_t (al_cons d_s6 (al_cons d_s8 al_nil))) (by decide +kernel) ?_
  refine gl_cons (d := (.tuple [(.str "maybe"), (.str "p")])) (gd_tup (gdl_cons gd_s (gdl_cons gd_s gdl_nil)) (Nat.le_of_ble_eq_true rfl)) (r2t (Nat.le_of_ble_eq_true rfl) (al_cons (up c_s9) (al_cons (up c_s4) al_nil))) (sz_t (al_cons d_s9 (al_cons d_s4 al_nil))) (by decide +kernel) ?_
  refine gl_cons (d := (.tuple [(.str "yes"), (.str "p"), (.str "q")])) (gd_tup (gdl_cons gd_s (gdl_cons gd_s (gdl_cons gd_s gdl_nil))) (Nat.le_of_ble_eq_true rfl)) (r2t (Nat.le_of_ble_eq_true rfl) (al_cons (up c_s2) (al_cons (up c_s4) (al_cons (up c_s10) al_nil)))) (sz_t (al_cons d_s2 (al_cons d_s4 (al_cons d_s10 al_nil)))) (by decide +kernel) ?_
  refine gl_cons (d := (.tuple [(.str "yes"), (.int 1)])) (gd_tup (gdl_cons gd_s (gdl_cons gd_i gdl_nil)) (Nat.le_of_ble_eq_true rfl)) (r2t (Nat.le_of_ble_eq_true rfl) (al_cons (up c_s2) (al_cons (up (a_int (by decide))) al_nil))) (sz_t (al_cons d_s2 (al_cons True.intro al_nil))) (by decide +kernel) ?_
  refine gl_cons (d := (.int 7)) gd_i (up2 (a_int (by decide))) True.intro (by decide +kernel) ?_
  refine gl_cons (d := (.tuple [])) (gd_tup gdl_nil (Nat.le_of_ble_eq_true rfl)) (r2t (Nat.le_of_ble_eq_true rfl) al_nil) (sz_t al_nil) (by decide +kernel) ?_
  exact gl_nil
theorem odd2 {K : PySem.W.Frag} {b : Addr} {σ : L2.St} : GL K b σ 4 (tCons (tTup (tCons (tC (.str "no")) (tCons (tC (.str "a b")) tNil))) (tCons (tTup (tCons (tC (.str "most")) (tCons (tC (.str "x")) (tCons (tC (.str "y")) (tCons (tC (.str "1")) tNil))))) (tCons (tTup (tCons (tC (.str "most")) (tCons (tC (.str "x")) (tCons (tC (.str "y")) tNil)))) (tCons (tTup (tCons (tC (.str "most")) (tCons (tC (.str "x")) (tCons (tC (.str "y")) (tCons (tC (.int 0)) (tCons (tC (.int 0)) tNil)))))) tNil)))) := by
  refine gl_cons (d := (.tuple [(.str "no"), (.str "a b")])) (gd_tup (gdl_cons gd_s (gdl_cons gd_s gdl_nil)) (Nat.le_of_ble_eq_true rfl)) (r2t (Nat.le_of_ble_eq_true rfl) (al_cons (up c_s6) (al_cons (up c_s11) al_nil))) (sz_t (al_cons d_s6 (al_cons d_s11 al_nil))) (by decide +kernel) ?_
  refine gl_cons (d := (.tuple [(.str "most"), (.str "x"), (.str "y"), (.str "1")])) (gd_tup (gdl_cons gd_s (gdl_cons gd_s (gdl_cons gd_s (gdl_cons gd_s gdl_nil)))) (Nat.le_of_ble_eq_true rfl)) (r2t (Nat.le_of_ble_eq_true rfl) (al_cons (up c_s0) (al_cons (up c_s1) (al_cons (up c_s5) (al_cons (up c_s12) al_nil))))) (sz_t (al_cons d_s0 (al_cons d_s1 (al_cons d_s5 (al_cons d_s12 al_nil))))) (by decide +kernel) ?_
  refine gl_cons (d := (.tuple [(.str "most"), (.str "x"), (.str "y")])) (gd_tup (gdl_cons gd_s (gdl_cons gd_s (gdl_cons gd_s gdl_nil))) (Nat.le_of_ble_eq_true rfl)) (r2t (Nat.le_of_ble_eq_true rfl) (al_cons (up c_s0) (al_cons (up c_s1) (al_cons (up c_s5) al_nil)))) (sz_t (al_cons d_s0 (al_cons d_s1 (al_cons d_s5 al_nil)))) (by decide +kernel) ?_
  refine gl_cons (d := (.tuple [(.str "most"), (.str "x"), (.str "y"), (.int 0), (.int 0)])) (gd_tup (gdl_cons gd_s (gdl_cons gd_s (gdl_cons gd_s (gdl_cons gd_i (gdl_cons gd_i gdl_nil))))) (Nat.le_of_ble_eq_true rfl)) (r2t (Nat.le_of_ble_eq_true rfl) (al_cons (up c_s0) (al_cons (up c_s1) (al_cons (up c_s5) (al_cons (up (a_int (by decide))) (al_cons (up (a_int (by decide))) al_nil)))))) (sz_t (al_cons d_s0 (al_cons d_s1 (al_cons d_s5 (al_cons True.intro (al_cons True.intro al_nil)))))) (by decide +kernel) ?_
  exact gl_nil
theorem odd3 {K : PySem.W.Frag} {b : Addr} {σ : L2.St} : GL K b σ 4 (tCons (tTup (tCons (tC (.str "most")) (tCons (tC (.str "1x")) (tCons (tC (.str "y")) (tCons (tC (.int 0)) tNil))))) (tCons (tTup (tCons (tC (.str "most")) (tCons (tC (.str "x")) (tCons (tC .non) (tCons (tC (.int 0)) tNil))))) (tCons (tTup (tCons (tC (.str "most")) (tCons (tC (.str "x")) (tCons (tC (.str "y")) (tCons (tC .non) tNil))))) (tCons (tTup (tCons (tC (.str "yes")) (tCons (tC (.str "a_")) tNil))) tNil)))) := by
  refine gl_cons (d := (.tuple [(.str "most"), (.str "1x"), (.str "y"), (.int 0)])) (gd_tup (gdl_cons gd_s (gdl_cons gd_s (gdl_cons gd_s (gdl_cons gd_i gdl_nil)))) (Nat.le_of_ble_eq_true rfl)) (r2t (Nat.le_of_ble_eq_true rfl) (al_cons (up c_s0) (al_cons (up c_s13) (al_cons (up c_s5) (al_cons (up (a_int (by decide))) al_nil))))) (sz_t (al_cons d_s0 (al_cons d_s13 (al_cons d_s5 (al_cons True.intro al_nil))))) (by decide +kernel) ?_
  refine gl_cons (d := (.tuple [(.str "most"), (.str "x"), .none, (.int 0)])) (gd_tup (gdl_cons gd_s (gdl_cons gd_s (gdl_cons gd_n (gdl_cons gd_i gdl_nil)))) (Nat.le_of_ble_eq_true rfl)) (r2t (Nat.le_of_ble_eq_true rfl) (al_cons (up c_s0) (al_cons (up c_s1) (al_cons (up a_non) (al_cons (up (a_int (by decide))) al_nil))))) (sz_t (al_cons d_s0 (al_cons d_s1 (al_cons True.intro (al_cons True.intro al_nil))))) (by decide +kernel) ?_
  refine gl_cons (d := (.tuple [(.str "most"), (.str "x"), (.str "y"), .none])) (gd_tup (gdl_cons gd_s (gdl_cons gd_s (gdl_cons gd_s (gdl_cons gd_n gdl_nil)))) (Nat.le_of_ble_eq_true rfl)) (r2t (Nat.le_of_ble_eq_true rfl) (al_cons (up c_s0) (al_cons (up c_s1) (al_cons (up c_s5) (al_cons (up a_non) al_nil))))) (sz_t (al_cons d_s0 (al_cons d_s1 (al_cons d_s5 (al_cons True.intro al_nil))))) (by decide +kernel) ?_
  refine gl_cons (d := (.tuple [(.str "yes"), (.str "a_")])) (gd_tup (gdl_cons gd_s (gdl_cons gd_s gdl_nil)) (Nat.le_of_ble_eq_true rfl)) (r2t (Nat.le_of_ble_eq_true rfl) (al_cons (up c_s2) (al_cons (up c_s14) al_nil))) (sz_t (al_cons d_s2 (al_cons d_s14 al_nil))) (by decide +kernel) ?_
  exact gl_nil
theorem odd4 {K : PySem.W.Frag} {b : Addr} {σ : L2.St} : GL K b σ 2 (tCons (tTup (tCons (tC (.str "least")) (tCons (tC (.str "x")) (tCons (tC (.str "y")) (tCons (tC (.int 0)) tNil))))) (tCons (tLst (tCons (tC (.str "p")) tNil)) tNil)) := by
  refine gl_cons (d := (.tuple [(.str "least"), (.str "x"), (.str "y"), (.int 0)])) (gd_tup (gdl_cons gd_s (gdl_cons gd_s (gdl_cons gd_s (gdl_cons gd_i gdl_nil)))) (Nat.le_of_ble_eq_true rfl)) (r2t (Nat.le_of_ble_eq_true rfl) (al_cons (up c_s15) (al_cons (up c_s1) (al_cons (up c_s5) (al_cons (up (a_int (by decide))) al_nil))))) (sz_t (al_cons d_s15 (al_cons d_s1 (al_cons d_s5 (al_cons True.intro al_nil))))) (by decide +kernel) ?_
  refine gl_cons (d := (.list [(.str "p")])) (gd_lst (gdl_cons gd_s gdl_nil) (Nat.le_of_ble_eq_true rfl)) (r2l (Nat.le_of_ble_eq_true rfl) (al_cons (up c_s4) al_nil)) True.intro (by decide +kernel) ?_
  exact gl_nil
end F5
set_option maxRecDepth 100000
set_option maxHeartbeats 8000000
namespace F5
open PySem L2 Evl GP HR SC SetM SetH RQ
def GudC (K : PySem.W.Frag) (H : Hp) (v : V) : Prop := NoSeq K H v ∧ ∃ z, ShV K H v z
theorem GudC.ex {K : PySem.W.Frag} {H H' : Hp} {v : V} (g : GudC K H v) (e : Ex H H') : GudC K H' v := ⟨g.1.ex e, let ⟨z, h⟩ := g.2; ⟨z, h.ex (fun _ _ => Dp.ex e) e⟩⟩
def spOddL (K : PySem.W.Frag) : Sp := fun vs H Q _ => ∃ b : Addr, vs = [.ref b] ∧ Bx b H ∧ ∀ v H', Kp b H H' → Bx b H' → Gud K (rmH H' b) v → Q v H'
def spOddC (K : PySem.W.Frag) : Sp := fun vs H Q _ => ∃ b : Addr, vs = [.ref b] ∧ Bx b H ∧ ∀ v H', Kp b H H' → Bx b H' → GudC K (rmH H' b) v → Q v H'
section
variable {P : Program} {w : World} {K : PySem.W.Frag} {mg : Str → Option Value} {base : Heap} {a : Ad} {d : Fd} {fL fC fU fP : Addr}
theorem ok_law_odd_literal (T : TX K mg a) (D : FDS K a d) : FnOk P w K mg base CX0 2 a.a_law_odd_literal d.a_law_odd_literal ["box"] (spOddL K) := by
  have G__law_take : FnOk P w K mg base CX0 1 a.a_law_take d.a_law_take ["box", "size"] spTake := ok_law_take T D
  refine D.F__law_odd_literal.ok sc_law_odd_literal (fun vs H Q E h => ?_) (fun cdv A outer s H vs Q E hr h => ?_)
  · obtain ⟨b, rfl, _⟩ := h
    rfl
  · obtain ⟨b, rfl, X, fin⟩ := h
    refine ⟨_, (pss_cons (ps_set (i := 1) sc_law_odd_literal.nd rfl (Or.inl rfl) (pe_lst (pa_cons (pe_tup (pa_cons pe_str (pa_cons pe_str (pa_cons pe_str (pa_cons pe_int pa_nil))))) (pa_cons (pe_tup (pa_cons pe_str (pa_cons pe_str pa_nil))) (pa_cons (pe_lst (pa_cons pe_str (pa_cons pe_str pa_nil))) (pa_cons (pe_tup (pa_cons pe_str (pa_cons pe_str (pa_cons pe_str (pa_cons pe_bl pa_nil))))) (pa_cons pe_str (pa_cons (pe_tup (pa_cons pe_str (pa_cons pe_str pa_nil))) pa_nil))))))))
        (pss_cons (ps_set (i := 1) sc_law_odd_literal.nd rfl (Or.inl rfl) (pe_op op_cat (pv 1) (pe_lst (pa_cons pe_non (pa_cons (pe_tup (pa_cons pe_str pa_nil)) (pa_cons (pe_tup (pa_cons pe_str (pa_cons pe_str pa_nil))) (pa_cons (pe_tup (pa_cons pe_str (pa_cons pe_str pa_nil))) (pa_cons (pe_tup (pa_cons pe_str (pa_cons pe_str (pa_cons pe_str pa_nil)))) (pa_cons (pe_tup (pa_cons pe_str (pa_cons pe_int pa_nil))) (pa_cons pe_int (pa_cons (pe_tup pa_nil) pa_nil)))))))))))
        (pss_cons (ps_set (i := 1) sc_law_odd_literal.nd rfl (Or.inl rfl) (pe_op op_cat (pv 1) (pe_lst (pa_cons (pe_tup (pa_cons pe_str (pa_cons pe_str pa_nil))) (pa_cons (pe_tup (pa_cons pe_str (pa_cons pe_str (pa_cons pe_str (pa_cons pe_str pa_nil))))) (pa_cons (pe_tup (pa_cons pe_str (pa_cons pe_str (pa_cons pe_str pa_nil)))) (pa_cons (pe_tup (pa_cons pe_str (pa_cons pe_str (pa_cons pe_str (pa_cons pe_int (pa_cons pe_int pa_nil)))))) pa_nil)))))))
        (pss_cons (ps_set (i := 1) sc_law_odd_literal.nd rfl (Or.inl rfl) (pe_op op_cat (pv 1) (pe_lst (pa_cons (pe_tup (pa_cons pe_str (pa_cons pe_str (pa_cons pe_str (pa_cons pe_int pa_nil))))) (pa_cons (pe_tup (pa_cons pe_str (pa_cons pe_str (pa_cons pe_non (pa_cons pe_int pa_nil))))) (pa_cons (pe_tup (pa_cons pe_str (pa_cons pe_str (pa_cons pe_str (pa_cons pe_non pa_nil))))) (pa_cons (pe_tup (pa_cons pe_str (pa_cons pe_str pa_nil))) pa_nil)))))))
        (pss_cons (ps_set (i := 1) sc_law_odd_literal.nd rfl (Or.inl rfl) (pe_op op_cat (pv 1) (pe_lst (pa_cons (pe_tup (pa_cons pe_str (pa_cons pe_str (pa_cons pe_str (pa_cons pe_int pa_nil))))) (pa_cons (pe_lst (pa_cons pe_str pa_nil)) pa_nil)))))
        (pss_one (ps_ret (pe_ix (ix_listK (K := K)) (pv 1) (pe_call G__law_take (hr.mono (by decide)) rfl T.f__law_take T.k__law_take D.B__law_take .nil pass0 (pa_cons (pv 0) (pa_cons pe_int pa_nil))) (fun _ _ => rfl))))))))), ?_⟩
    obtain ⟨ub, hb⟩ := X.at
    refine seq_step (lst_step (K := K) (b := b) (n := 6) odd0 (by decide) hb fun m1 us1 J1 e1 f1 q1 l1 g1 => ?_)
    refine put_step (σ' := [some (.ref b), some (.ref m1)]) rfl ?_
    try dsimp only
    refine seq_step (cat_step (K := K) (b := b) (n := 8) (m := 6) odd1 rfl q1 l1 g1 (by decide) (e1 _ _ hb) fun m2 us2 J2 e2 f2 q2 l2 g2 => ?_)
    refine put_step (σ' := [some (.ref b), some (.ref m2)]) rfl ?_
    try dsimp only
    refine seq_step (cat_step (K := K) (b := b) (n := 4) (m := 14) odd2 rfl q2 l2 g2 (by decide) ((e1.trans e2) _ _ hb) fun m3 us3 J3 e3 f3 q3 l3 g3 => ?_)
    refine put_step (σ' := [some (.ref b), some (.ref m3)]) rfl ?_
    try dsimp only
    refine seq_step (cat_step (K := K) (b := b) (n := 4) (m := 18) odd3 rfl q3 l3 g3 (by decide) (((e1.trans e2).trans e3) _ _ hb) fun m4 us4 J4 e4 f4 q4 l4 g4 => ?_)
    refine put_step (σ' := [some (.ref b), some (.ref m4)]) rfl ?_
    try dsimp only
    refine seq_step (cat_step (K := K) (b := b) (n := 2) (m := 22) odd4 rfl q4 l4 g4 (by decide) ((((e1.trans e2).trans e3).trans e4) _ _ hb) fun m5 us5 J5 e5 f5 q5 l5 g5 => ?_)
    refine put_step (σ' := [some (.ref b), some (.ref m5)]) rfl ?_
    try dsimp only
    have e15 := (((e1.trans e2).trans e3).trans e4).trans e5
    have X5 := X.ex e15
    have n5 : m5 ≠ b := (X.ex (((e1.trans e2).trans e3).trans e4)).ne f5
    refine ⟨_, rfl, _, rfl, b, 24, rfl, X5, by decide, by decide +kernel, fun d6 H6 k6 X6 p0 p1 => ?_⟩
    have hi : d6.toNat < us5.length := by omega
    exact ⟨m5, _, d6, _, rfl, rfl, SqL.of (k6.k _ _ n5 q5), at_lit (n := d6.toNat) (by omega) (List.getElem?_eq_getElem hi), fin _ H6 ((Kp.ex e15).trans k6) X6 ((g5 _ (List.getElem_mem hi)).ex (rm_kp' X5 k6))⟩
theorem ok_law_odd_clause (T : TX K mg a) (D : FDS K a d) : FnOk P w K mg base CX0 2 a.a_law_odd_clause d.a_law_odd_clause ["box"] (spOddC K) := by
  have G__law_take : FnOk P w K mg base CX0 1 a.a_law_take d.a_law_take ["box", "size"] spTake := ok_law_take T D
  refine D.F__law_odd_clause.ok sc_law_odd_clause (fun vs H Q E h => ?_) (fun cdv A outer s H vs Q E hr h => ?_)
  · obtain ⟨b, rfl, _⟩ := h
    rfl
  · obtain ⟨b, rfl, X, fin⟩ := h
    refine ⟨_, (pss_one (ps_ret (pe_ix (ix_listK (K := K)) (pe_lst (pa_cons pe_non (pa_cons pe_int (pa_cons pe_str (pa_cons pe_dnewK (pa_cons pe_str (pa_cons pe_bl (pa_cons pe_str pa_nil)))))))) (pe_call G__law_take (hr.mono (by decide)) rfl T.f__law_take T.k__law_take D.B__law_take .nil pass0 (pa_cons (pv 0) (pa_cons pe_int pa_nil))) (fun _ _ => rfl)))), ?_⟩
    refine fun q hq => ⟨(by show 7 ≤ sizeLine; decide), fun f hf => ?_⟩
    have x1 := Ex.new (o := .dK []) hq
    have hq1 : upd H q (.dK []) q = some (.dK []) := upd_same
    have nq : q ≠ b := X.ne hq
    have X1 := X.ex x1
    generalize upd H q (.dK []) = H1 at *
    have x2 := Ex.new (o := .lst [V.non, .int 7, .str "p", .ref q, .str "", .bl true, .str "yes"]) hf
    have hf2 : upd H1 f (.lst [V.non, .int 7, .str "p", .ref q, .str "", .bl true, .str "yes"]) f = some (.lst [V.non, .int 7, .str "p", .ref q, .str "", .bl true, .str "yes"]) := upd_same
    have nf : f ≠ b := X1.ne hf
    have X2 := X1.ex x2
    have hq2 := x2 _ _ hq1
    have k2 := Kp.ex (b := b) (x1.trans x2)
    generalize upd H1 f (.lst [V.non, .int 7, .str "p", .ref q, .str "", .bl true, .str "yes"]) = H2 at *
    refine ⟨_, rfl, b, 7, rfl, X2, by decide, by decide +kernel, fun d6 H6 k6 X6 p0 p1 => ?_⟩
    have hf6 := k6.k _ _ nf hf2
    have hq6 : rmH H6 b q = some (.dK []) := by
      unfold rmH
      rw [if_neg nq]
      exact k6.k _ _ nq hq2
    have ln : ∀ z : Str, (∀ c ∈ z.cps.toList, c < 16 ^ 8) → z.length ≤ 1000 → GudC K (rmH H6 b) (.str z) := fun z h l => ⟨.inl ⟨_, .str z, rfl, rfl⟩, _, .str z (by
      have := (a_str h l).ln
      simp only [PyData.shown] at this
      exact Nat.le_trans this (by decide))⟩
    have got : ∀ {v : V} {n : Nat}, d6 = n → ([V.non, .int 7, .str "p", .ref q, .str "", .bl true, .str "yes"] : List V)[n]? = some v → GudC K (rmH H6 b) v → rIxL K (.ref f) (.int d6) H6 Q := fun {v n} e h g => ⟨f, _, d6, v, rfl, rfl, SqL.of hf6, at_lit (n := n) e h, fin v H6 (k2.trans k6) X6 g⟩
    rcases (by omega : d6 = 0 ∨ d6 = 1 ∨ d6 = 2 ∨ d6 = 3 ∨ d6 = 4 ∨ d6 = 5 ∨ d6 = 6) with h | h | h | h | h | h | h
    · exact got (n := 0) h rfl ⟨.inl ⟨_, .non, rfl, rfl⟩, _, .non⟩
    · exact got (n := 1) h rfl ⟨.inl ⟨_, .int 7, rfl, rfl⟩, _, .int 7 (by decide)⟩
    · exact got (n := 2) h rfl (ln _ (low_lit (by decide +kernel)) (by decide +kernel))
    · exact got (n := 3) h rfl ⟨.inr ⟨q, rfl, .inl ⟨[], hq6⟩⟩, _, .q (.dK hq6 .nil) sd0.sh (Nat.le_trans sd0.dp (by decide)) (Nat.le_trans sd0.ln (by decide))⟩
    · exact got (n := 4) h rfl (ln _ (low_lit (by decide +kernel)) (by decide +kernel))
    · exact got (n := 5) h rfl ⟨.inl ⟨_, .bl true, rfl, rfl⟩, _, .bl true⟩
    · exact got (n := 6) h rfl (ln _ (low_lit (by decide +kernel)) (by decide +kernel))
end
end F5
set_option maxRecDepth 100000
set_option maxHeartbeats 8000000
namespace F5
open PySem L2 Evl GP HR SC SetM SetH RQ
/-- a literal, its integer not great -/
def PB (n : Nat) : Lit → Prop
  | .yn _ x => isNameS x = true
  | .most x y k => isNameS x = true ∧ isNameS y = true ∧ x ≠ y ∧ k.natAbs ≤ 2 ^ 300 + n
theorem PB.ok {n : Nat} {l : Lit} (h : PB n l) (hn : n ≤ 100) : LitOk l := by
  cases l with
  | yn b x => exact h
  | most x y k =>
    obtain ⟨h1, h2, h3, h4⟩ := h
    refine ⟨h1, h2, h3, Nat.le_trans h4 ?_⟩
    have : 2 ^ 300 ≤ B0 := by unfold B0; exact Nat.pow_le_pow_right (by decide) (by decide)
    omega
theorem PB.opp {n : Nat} {l : Lit} (h : PB n l) : PB (n + 1) (oppL l) := by
  cases l with
  | yn b x => exact h
  | most x y k =>
    obtain ⟨h1, h2, h3, h4⟩ := h
    refine ⟨h2, h1, fun e => h3 e.symm, ?_⟩
    generalize (2 : Nat) ^ 300 = u at *
    omega
theorem PB.mono {n m : Nat} {l : Lit} (h : PB n l) (hm : n ≤ m) : PB m l := by
  cases l with
  | yn b x => exact h
  | most x y k => exact ⟨h.1, h.2.1, h.2.2.1, Nat.le_trans h.2.2.2 (Nat.add_le_add_left hm _)⟩
theorem PL.pb {ts ms : List Str} {n : Nat} {l : Lit} (h : PL ts ms n l) (nt : ∀ z ∈ ts, isNameS z = true) (nm : ∀ z ∈ ms, isNameS z = true) : PB n l := by
  rcases h with ⟨b, x, rfl, hx⟩ | ⟨x, y, k, rfl, hx, hy, ne, hk⟩
  · exact nt x hx
  · exact ⟨nm x hx, nm y hy, ne, hk⟩
theorem rd_notInL {K : PySem.W.Frag} {H : Hp} {x y : Addr} {l : Lit} {Q : VK} {us : List V} {ls : List Lit} (hx : H x = some (.tup (litV l))) (ol : LitOk l) (hp : H y = some (.lst us)) (L : Lits H us ls) (ok : ∀ l ∈ ls, LitOk l) (q : Q (.bl (decide (l ∉ ls))) H) : rNotInD K (.ref x) (.ref y) H Q :=
  ⟨_, _, lit_dp (SqT.of hx), .lst (SqL.of hp) L.dp, (sh_lit ol).sh (by decide), (Sh.list (sh_lits ok)).sh (by decide), by rw [lit_any, ← decide_not]; exact q⟩
def spPivots : Sp := fun vs H Q _ => ∃ (b pl p q : Addr) (us us1 us2 : List V) (ls ls1 ls2 : List Lit) (ts ms : List Str), vs = [.ref b, .ref pl, .ref p, .ref q] ∧ Bx b H ∧ PV b H pl us ls ts ms ∧ RV b H p us1 ls1 ts ms 6 ∧ RV b H q us2 ls2 ts ms 6 ∧
  ∀ r vs' pv H', Kp b H H' → Bx b H' → r ≠ b → H' r = some (.lst vs') → Lits H' vs' pv → (∀ l ∈ pv, PB 6 l) → 1 ≤ pv.length → pv.length ≤ 100 → Q (.ref r) H'
theorem Lits.one {H : Hp} {t : Addr} {l : Lit} (h : H t = some (.tup (litV l))) : Lits H [.ref t] [l] := ⟨rfl, fun i m e => by
  cases i with
  | zero => cases e; exact ⟨t, rfl, h⟩
  | succ i => simp at e⟩
section
variable {P : Program} {w : World} {K : PySem.W.Frag} {mg : Str → Option Value} {base : Heap} {a : Ad} {d : Fd} {fL fC fU fP : Addr}
theorem ok_law_pivots (T : TX K mg a) (D : FDS K a d) : FnOk P w K mg base CX0 3 a.a_law_pivots d.a_law_pivots ["box", "pool", "first", "second"] spPivots := by
  have G__law_name : FnOk P w K mg base CX0 2 a.a_law_name d.a_law_name ["box", "taken"] spName := ok_law_name T D
  have G__law_comp : FnOk P w K mg base CX0 1 a.a_law_comp d.a_law_comp ["literal"] spOpp := ok_law_comp T D
  refine D.F__law_pivots.ok sc_law_pivots (fun vs H Q E h => ?_) (fun cdv A outer s H vs Q E hr h => ?_)
  · obtain ⟨b, pl, p, q, us, us1, us2, ls, ls1, ls2, ts, ms, rfl, _⟩ := h
    rfl
  · obtain ⟨b, pl, p, q, us, us1, us2, ls, ls1, ls2, ts, ms, rfl, X, W, R1, R2, fin⟩ := h
    refine ⟨_, (pss_cons (ps_set (i := 4) sc_law_pivots.nd rfl (Or.inl rfl) (pe_lst pa_nil))
        (pss_cons (ps_for PassesOwn.never rfl (pi_list (pe_op op_cat (pe_op op_cat (pe_op op_cat (pv 1) (pv 2)) (pv 3)) (pe_lst (pa_cons (pe_tup (pa_cons pe_str (pa_cons (pe_call G__law_name (hr.mono (by decide)) rfl T.f__law_name T.k__law_name D.B__law_name .nil pass0 (pa_cons (pv 0) (pa_cons (pe_lst pa_nil) pa_nil))) pa_nil))) pa_nil)))) (pg_name (i := 5) sc_law_pivots.nd rfl (Or.inl rfl)) (pss_cons (ps_set (i := 6) sc_law_pivots.nd rfl (Or.inl rfl) (pe_lst (pa_cons (pv 5) (pa_cons (pe_call G__law_comp (hr.mono (by decide)) rfl T.f__law_comp T.k__law_comp D.B__law_comp .nil pass0 (pa_cons (pv 5) pa_nil)) pa_nil))))
        (Evl.pss_cut (ps_if (pt_cmpR op_eq (pe_ix ix_tup (pv 5) pe_int (fun _ _ => rfl)) pe_str (nomark _)) (pss_one (ps_set (i := 6) sc_law_pivots.nd rfl (Or.inl rfl) (pe_op op_cat (pv 6) (pe_lst (pa_cons (pe_tup (pa_cons pe_str (pa_cons (pe_ix ix_tup (pv 5) pe_int (fun _ _ => rfl)) (pa_cons (pe_ix ix_tup (pv 5) pe_int (fun _ _ => rfl)) (pa_cons (pe_op op_add (pe_ix ix_tup (pv 5) pe_int (fun _ _ => rfl)) pe_int) pa_nil))))) (pa_cons (pe_tup (pa_cons pe_str (pa_cons (pe_ix ix_tup (pv 5) pe_int (fun _ _ => rfl)) (pa_cons (pe_ix ix_tup (pv 5) pe_int (fun _ _ => rfl)) (pa_cons (pe_op op_sub (pe_ix ix_tup (pv 5) pe_int (fun _ _ => rfl)) pe_int) pa_nil))))) pa_nil)))))) pss_nil)
        (pss_one (ps_for PassesOwn.never rfl (pi_list (pv 6)) (pg_name (i := 7) sc_law_pivots.nd rfl (Or.inl rfl)) (pss_one (ps_if (pt_cmpR (op_notInD (hu65 hr)) (pv 7) (pv 4) rfl) (pss_one (ps_expr (pe_bm PySem.F.plainAttrs_list PySem.F.slot_list_append PySem.F.type_list_append mt_append (pv 4) (pa_cons (pv 7) pa_nil)))) pss_nil)))))))
        (pss_one (ps_ret (pv 4))))), ?_⟩
    have big : 1000 ≤ sizeLine := by decide
    have c0 := W.L.len
    have c1 := R1.L.len
    have c2 := R2.L.len
    have f0 := W.few
    have f1 := R1.few
    have f2 := R2.few
    refine ⟨Nat.zero_le _, fun pv hpv => ?_⟩
    have x1 := Ex.new (o := .lst []) hpv
    have k1 := Kp.ex (b := b) x1
    have hpv1 : upd H pv (.lst []) pv = some (.lst []) := upd_same
    have npb : pv ≠ b := X.ne hpv
    have W1 := W.kp k1 X
    have R11 := R1.kp k1 X
    have R21 := R2.kp k1 X
    have X1 := X.ex x1
    generalize upd H pv (.lst []) = H1 at *
    refine ⟨_, rfl, _, rfl, pl, p, _, _, rfl, rfl, W1.at_, R11.at_, by omega, fun m1 hm1 => ?_⟩
    have x2 := Ex.new (o := .lst (us ++ us1)) hm1
    have hm2 : upd H1 m1 (.lst (us ++ us1)) m1 = some (.lst (us ++ us1)) := upd_same
    generalize upd H1 m1 (.lst (us ++ us1)) = H2 at *
    refine ⟨_, rfl, m1, q, _, _, rfl, rfl, hm2, x2 _ _ R21.at_, by rw [List.length_append]; omega, fun m3 hm3 => ?_⟩
    have x3 := Ex.new (o := .lst (us ++ us1 ++ us2)) hm3
    have hm33 : upd H2 m3 (.lst (us ++ us1 ++ us2)) m3 = some (.lst (us ++ us1 ++ us2)) := upd_same
    have nm3 : m3 ≠ b := (X1.ex x2).ne hm3
    generalize upd H2 m3 (.lst (us ++ us1 ++ us2)) = H3 at *
    refine ⟨_, rfl, Nat.zero_le _, fun e4 he4 => ?_⟩
    have x4 := Ex.new (o := .lst []) he4
    have he44 : upd H3 e4 (.lst []) e4 = some (.lst (([] : List Str).map V.str)) := upd_same
    have ne4 : e4 ≠ b := (X1.ex (x2.trans x3)).ne he4
    have hm34 := x4 _ _ hm33
    have x14 := x2.trans (x3.trans x4)
    have X4 := X1.ex x14
    have L4 : Lits (upd H3 e4 (.lst [])) (us ++ us1 ++ us2) (ls ++ ls1 ++ ls2) := ((W1.L.app R11.L).app R21.L).ex x14
    have hpv4 := x14 _ _ hpv1
    generalize upd H3 e4 (.lst []) = H4 at *
    refine ⟨b, e4, [], rfl, X4, ne4, he44, by decide, fun z H5 k5 X5 nz _ => ⟨(by show 2 ≤ sizeLine; decide), fun t ht => ⟨(by show 1 ≤ sizeLine; decide), fun m6 hm6 => ?_⟩⟩⟩
    have x6 := Ex.new (o := .tup [.str "yes", .str z]) ht
    have x7 := Ex.new (o := .lst [V.ref t]) hm6
    have ht7 : upd (upd H5 t (.tup [.str "yes", .str z])) m6 (.lst [V.ref t]) t = some (.tup (litV (.yn true z))) := x7 _ _ upd_same
    have hm7 : upd (upd H5 t (.tup [.str "yes", .str z])) m6 (.lst [V.ref t]) m6 = some (.lst [V.ref t]) := upd_same
    have x67 := x6.trans x7
    generalize upd (upd H5 t (.tup [.str "yes", .str z])) m6 (.lst [V.ref t]) = H7 at *
    have k47 := k5.trans (Kp.ex (b := b) x67)
    have L7 := (L4.tp (k47.tp X4)).app (Lits.one ht7)
    refine ⟨m3, m6, _, _, rfl, rfl, k47.k _ _ nm3 hm34, hm7, by rw [List.length_append, List.length_append]; show _ + 1 ≤ sizeLine; omega, fun m hm => ?_⟩
    have x8 := Ex.new (o := .lst (us ++ us1 ++ us2 ++ [V.ref t])) hm
    have hm8 : upd H7 m (.lst (us ++ us1 ++ us2 ++ [V.ref t])) m = some (.lst (us ++ us1 ++ us2 ++ [V.ref t])) := upd_same
    have X7 := X5.ex x67
    have nmb : m ≠ b := X7.ne hm
    have L8 := L7.ex x8
    have hpv8 := x8 _ _ (k47.k _ _ npb hpv4)
    have nmp : m ≠ pv := fun e => by rw [e, k47.k _ _ npb hpv4] at hm; cases hm
    have X8 := X7.ex x8
    have k08 := ((k1.trans (Kp.ex (b := b) x14)).trans k47).trans (Kp.ex (b := b) x8)
    generalize upd H7 m (.lst (us ++ us1 ++ us2 ++ [V.ref t])) = H8 at *
    have okA : ∀ l ∈ ls ++ ls1 ++ ls2 ++ [Lit.yn true z], PB 3 l := fun l hl => by
      rcases List.mem_append.mp hl with hl | hl
      · rcases List.mem_append.mp hl with hl | hl
        · rcases List.mem_append.mp hl with hl | hl
          · exact ((W.ok l hl).mono (by decide)).pb W.nt W.nm
          · exact (R1.ok l hl).pb W.nt W.nm
        · exact (R2.ok l hl).pb W.nt W.nm
      · rw [List.mem_singleton.mp hl]; exact nz
    have lenA : (ls ++ ls1 ++ ls2 ++ [Lit.yn true z]).length ≤ 23 := by simp only [List.length_append, List.length_singleton]; omega
    have oneA : 1 ≤ (ls ++ ls1 ++ ls2 ++ [Lit.yn true z]).length := by simp only [List.length_append, List.length_singleton]; omega
    generalize us ++ us1 ++ us2 ++ [V.ref t] = wa at *
    generalize ls ++ ls1 ++ ls2 ++ [Lit.yn true z] = la at *
    have lwa := L8.len
    refine ⟨m, rfl, ⟨_, SqL.of hm8⟩, for_it (walk_list (xs := wa)) (fun i σ H' => ∃ (vs' : List V) (lp : List Lit) (o5 o6 o7 : Option V), σ = [some (.ref b), some (.ref pl), some (.ref p), some (.ref q), some (.ref pv), o5, o6, o7] ∧ Kp b H H' ∧ Bx b H' ∧ H' m = some (.lst wa) ∧ Lits H' wa la ∧ H' pv = some (.lst vs') ∧ Lits H' vs' lp ∧ (∀ l ∈ lp, PB 6 l) ∧ lp.length ≤ 4 * i ∧ (1 ≤ i → 1 ≤ lp.length))
      ⟨[], [], none, none, none, rfl, k08, X8, hm8, L8, hpv8, Lits.nil, fun _ h => absurd h List.not_mem_nil, Nat.le_refl _, fun h => absurd h (by decide)⟩ (fun i σ H' _ ⟨_, _, _, _, _, _, _, _, h, _⟩ => SqL.of h) ?_ ?_⟩
    · rintro i v σ H9 H9' hi ⟨vs', lp, o5, o6, o7, rfl, k9, X9, hm9, L9, hp9, P9, ok9, len9, one9⟩ ⟨rfl, hx⟩
      obtain ⟨y, l, rfl, hl, hy⟩ := L9.get hx
      have pb := okA l (List.mem_of_getElem? hl)
      refine ⟨_, rfl, _, rfl, y, l, rfl, hy, pb.ok (by decide), fun y2 H10 e10 _ hy2 => ⟨(by show 2 ≤ sizeLine; decide), fun nr hnr => ?_⟩⟩
      have x11 := Ex.new (o := .lst [.ref y, .ref y2]) hnr
      have e11 := e10.trans x11
      have hy11 := e11 _ _ hy
      have hy211 := x11 _ _ hy2
      have hn11 : upd H10 nr (.lst [.ref y, .ref y2]) nr = some (.lst [.ref y, .ref y2]) := upd_same
      have nnb : nr ≠ b := (X9.ex e10).ne hnr
      have nnp : nr ≠ pv := fun e => by rw [e, e10 _ _ hp9] at hnr; cases hnr
      have k11 := k9.trans (Kp.ex (b := b) e11)
      have X11 := X9.ex e11
      have hm11 := e11 _ _ hm9
      have L11 := L9.ex e11
      have hp11 := e11 _ _ hp9
      have P11 := P9.ex e11
      generalize upd H10 nr (.lst [.ref y, .ref y2]) = H11 at *
      refine ⟨fun σ' H' => ∃ (nr : Addr) (nv : List V) (nl : List Lit), σ' = [some (.ref b), some (.ref pl), some (.ref p), some (.ref q), some (.ref pv), some (.ref y), some (.ref nr), o7] ∧ Kp b H H' ∧ Bx b H' ∧ H' m = some (.lst wa) ∧ Lits H' wa la ∧ H' pv = some (.lst vs') ∧ Lits H' vs' lp ∧ H' nr = some (.lst nv) ∧ nr ≠ b ∧ nr ≠ pv ∧ Lits H' nv nl ∧ (∀ l ∈ nl, PB 6 l) ∧ 1 ≤ nl.length ∧ nl.length ≤ 4, ?_, ?_⟩
      · have ok2 : ∀ l' ∈ [l, oppL l], PB 6 l' := fun l' h => by
          simp only [List.mem_cons, List.not_mem_nil, or_false] at h
          rcases h with rfl | rfl
          · exact pb.mono (by decide)
          · exact pb.opp.mono (by decide)
        have N11 : Lits H11 [.ref y, .ref y2] [l, oppL l] := (Lits.one hy11).app (Lits.one hy211)
        cases l with
        | yn f u =>
          refine ⟨_, rfl, y, _, 0, _, rfl, rfl, SqT.of hy11, rfl, rfl, _, rfl, iteF' (by cases f <;> decide +kernel) ?_⟩
          exact ⟨nr, _, _, rfl, k11, X11, hm11, L11, hp11, P11, hn11, nnb, nnp, N11, ok2, Nat.le_of_ble_eq_true rfl, Nat.le_of_ble_eq_true rfl⟩
        | most u u2 k =>
          refine ⟨_, rfl, y, _, 0, _, rfl, rfl, SqT.of hy11, rfl, rfl, _, rfl, iteT' (by decide +kernel) ?_⟩
          refine ⟨_, rfl, _, rfl, y, _, 1, _, rfl, rfl, SqT.of hy11, rfl, _, rfl, y, _, 2, _, rfl, rfl, SqT.of hy11, rfl, _, rfl, y, _, 3, _, rfl, rfl, SqT.of hy11, rfl, _, _, rfl, rfl, (by show 4 ≤ sizeLine; decide), fun t1 ht1 => ?_⟩
          have z1 := Ex.new (o := .tup [.str "most", .str u, .str u2, .int (k + 1)]) ht1
          have ht11 : upd H11 t1 (.tup [.str "most", .str u, .str u2, .int (k + 1)]) t1 = some (.tup (litV (.most u u2 (k + 1)))) := upd_same
          have hy12 := z1 _ _ hy11
          generalize hH12 : upd H11 t1 (.tup [.str "most", .str u, .str u2, .int (k + 1)]) = H12 at *
          refine ⟨_, rfl, y, _, 1, _, rfl, rfl, SqT.of hy12, rfl, _, rfl, y, _, 2, _, rfl, rfl, SqT.of hy12, rfl, _, rfl, y, _, 3, _, rfl, rfl, SqT.of hy12, rfl, _, _, rfl, rfl, (by show 4 ≤ sizeLine; decide), fun t2 ht2 => ⟨(by show 2 ≤ sizeLine; decide), fun n2 hn2 => ?_⟩⟩
          have z2 := Ex.new (o := .tup [.str "most", .str u, .str u2, .int (k - 1)]) ht2
          have z3 := Ex.new (o := .lst [.ref t1, .ref t2]) hn2
          have ht21 : upd (upd H12 t2 (.tup [.str "most", .str u, .str u2, .int (k - 1)])) n2 (.lst [.ref t1, .ref t2]) t2 = some (.tup (litV (.most u u2 (k - 1)))) := z3 _ _ upd_same
          have hn21 : upd (upd H12 t2 (.tup [.str "most", .str u, .str u2, .int (k - 1)])) n2 (.lst [.ref t1, .ref t2]) n2 = some (.lst [.ref t1, .ref t2]) := upd_same
          have z13 := z1.trans (z2.trans z3)
          have ht12 := (z2.trans z3) _ _ ht11
          dsimp only at ht2 hn2 ⊢
          generalize upd (upd H12 t2 (.tup [.str "most", .str u, .str u2, .int (k - 1)])) n2 (.lst [.ref t1, .ref t2]) = H13 at *
          refine ⟨nr, n2, _, _, rfl, rfl, z13 _ _ hn11, hn21, (by show 4 ≤ sizeLine; decide), fun nr' hnr' => ?_⟩
          have z4 := Ex.new (o := .lst ([V.ref y, .ref y2] ++ [.ref t1, .ref t2])) hnr'
          have z14 := z13.trans z4
          have e5 : nr' ≠ pv := fun e => by rw [e, z13 _ _ hp11] at hnr'; cases hnr'
          obtain ⟨g1, g2, g3, g4⟩ := pb
          refine ⟨nr', _, _, rfl, k11.trans (Kp.ex z14), X11.ex z14, z14 _ _ hm11, L11.ex z14, z14 _ _ hp11, P11.ex z14, upd_same, (X11.ex z13).ne hnr', e5, (N11.ex z14).app ((Lits.one (z4 _ _ ht12)).app (Lits.one (z4 _ _ ht21))), fun l' h => ?_, Nat.le_of_ble_eq_true rfl, Nat.le_of_ble_eq_true rfl⟩
          rcases List.mem_append.mp h with h | h
          · exact ok2 l' h
          · simp only [List.cons_append, List.nil_append, List.mem_cons, List.not_mem_nil, or_false] at h
            rcases h with rfl | rfl
            · refine ⟨g1, g2, g3, ?_⟩
              generalize (2 : Nat) ^ 300 = u at *
              omega
            · refine ⟨g1, g2, g3, ?_⟩
              generalize (2 : Nat) ^ 300 = u at *
              omega
      · clear hn11 nnb nnp hnr x11 hy211 hy2
        rintro σ' H12 ⟨nr, nv, nl, rfl, k12, X12, hm12, L12, hp12, P12, hn12, nnb, nnp, N12, okn, n1, n4⟩
        have lnv := N12.len
        refine ⟨_, rfl, nr, rfl, ⟨_, SqL.of hn12⟩, for_it (walk_list (xs := nv)) (fun j σ H' => ∃ (vs' : List V) (lp : List Lit) (o7 : Option V), σ = [some (.ref b), some (.ref pl), some (.ref p), some (.ref q), some (.ref pv), some (.ref y), some (.ref nr), o7] ∧ Kp b H H' ∧ Bx b H' ∧ H' m = some (.lst wa) ∧ Lits H' wa la ∧ H' nr = some (.lst nv) ∧ Lits H' nv nl ∧ H' pv = some (.lst vs') ∧ Lits H' vs' lp ∧ (∀ l ∈ lp, PB 6 l) ∧ lp.length ≤ 4 * i + j ∧ (1 ≤ j → 1 ≤ lp.length))
          ⟨vs', lp, o7, rfl, k12, X12, hm12, L12, hn12, N12, hp12, P12, ok9, len9, fun h => absurd h (by decide)⟩ (fun i σ H' _ ⟨_, _, _, _, _, _, _, _, h, _⟩ => SqL.of h) ?_ ?_⟩
        · rintro j x σ H13 H13' hj ⟨vs', lp, o7, rfl, k13, X13, hm13, L13, hn13, N13, hp13, P13, ok13, len13, one13⟩ ⟨rfl, hx⟩
          obtain ⟨t', l', rfl, hl', ht'⟩ := N13.get hx
          have lvs := P13.len
          refine ⟨_, rfl, _, rfl, rd_notInL ht' ((okn _ (List.mem_of_getElem? hl')).ok (by decide)) hp13 P13 (fun l hl => (ok13 l hl).ok (by decide)) ⟨_, rfl, ite2 (fun g => ?_) (fun g => ?_)⟩⟩
          · refine ⟨_, rfl, .inl ⟨rfl, _, SqL.of hp13⟩, _, rfl, pv, _, _, rfl, rfl, hp13, by omega, vs' ++ [.ref t'], lp ++ [l'], _, rfl, k13.mut hpv, X13.upd npb, by rw [upd_ne nmp]; exact hm13, L13.tp (Tp.lst hp13), by rw [upd_ne nnp]; exact hn13, N13.tp (Tp.lst hp13), upd_same, (P13.tp (Tp.lst hp13)).app (Lits.one ((Tp.lst hp13).tup ht')), fun l hl => ?_, by rw [List.length_append, List.length_singleton]; omega, fun _ => by rw [List.length_append, List.length_singleton]; omega⟩
            rcases List.mem_append.mp hl with hl | hl
            · exact ok13 l hl
            · rw [List.mem_singleton.mp hl]; exact okn _ (List.mem_of_getElem? hl')
          · have : l' ∈ lp := by simpa using g
            exact ⟨vs', lp, _, rfl, k13, X13, hm13, L13, hn13, N13, hp13, P13, ok13, by omega, fun _ => List.length_pos_of_mem this⟩
        · rintro σ H13 ⟨vs', lp, o7, rfl, k13, X13, hm13, L13, hn13, N13, hp13, P13, ok13, len13, one13⟩
          exact ⟨vs', lp, _, _, _, rfl, k13, X13, hm13, L13, hp13, P13, ok13, by omega, fun _ => one13 (by omega)⟩
    · rintro σ H9 ⟨vs', lp, o5, o6, o7, rfl, k9, X9, hm9, L9, hp9, P9, ok9, len9, one9⟩
      exact ⟨_, rfl, fin pv vs' lp H9 k9 X9 npb hp9 P9 ok9 (one9 (by omega)) (by omega)⟩
end
end F5
namespace HR
open PySem L2 PySem.SeqAt PyProof.Rows
/-! a != b for two lists of the same items -/
def easyV : V → Bool
  | .non => true
  | .bl _ => true
  | .int _ => true
  | .str _ => true
  | .ref _ => true
  | _ => false
def rNeSame (K : PySem.W.Frag) : R2 := fun x y H Q => ∃ (l l' : Addr) (xs : List V), x = .ref l ∧ y = .ref l' ∧ SqL K H l xs ∧ SqL K H l' xs ∧ (∀ v ∈ xs, easyV v = true) ∧ Q (.bl false) H
theorem easy_eq {A : Around} {s : Shared} {x : V} {v u : Value} (e : easyV x = true) (r1 : RelV x v) (r2 : RelV x u) : EqAt A s v u true := by
  cases x with
  | non => cases r1; cases r2; exact EqAt.same _
  | bl b => cases r1; cases r2; exact EqAt.same _
  | int i =>
    obtain ⟨t, rfl⟩ := r1
    obtain ⟨t', rfl⟩ := r2
    have := EqAt.int_int (A := A) (s := s) i t i t'
    simpa using this
  | str z =>
    obtain ⟨t, rfl⟩ := r1
    obtain ⟨t', rfl⟩ := r2
    have := EqAt.str_str (A := A) (s := s) z t z t'
    simpa using this
  | ref a => cases r1; cases r2; exact EqAt.same _
  | _ => cases e
section
variable {X : Cx}
theorem op_neSame (hu : X.A.units + 64 < cLine) : OpR X (compareOp .NotEq) (rNeSame X.K) := by
  rintro pins s σ H x y v u Q I rx ry ⟨l, l', xs, rfl, rfl, h1, h2, ez, fin⟩
  cases rx
  cases ry
  obtain ⟨its, v1, p1, _⟩ := I.list h1
  obtain ⟨its', v2, p2, _⟩ := I.list h2
  have l1 := v1.length
  have l2 := v2.length
  have hl : s.heap.IsList l its.toArray := p1.isList
  have hl' : s.heap.IsList l' its'.toArray := p2.isList
  have := RcNeAt.lists (A := X.A) (e := fun _ => true) hl hl' (by simp; omega) (by omega) fun j j1 j2 => by
    have hj : j < xs.length := by simp at j1; omega
    obtain ⟨a, e1, r1⟩ := v1.get (List.getElem?_eq_getElem hj)
    obtain ⟨b, e2, r2⟩ := v2.get (List.getElem?_eq_getElem hj)
    have f1 : its.toArray[j] = a := by
      have := List.getElem?_eq_some_iff.mp e1
      simpa using this.2
    have f2 : its'.toArray[j] = b := by
      have := List.getElem?_eq_some_iff.mp e2
      simpa using this.2
    rw [f1, f2]
    exact easy_eq (ez _ (List.getElem_mem hj)) r1 r2
  refine this X.prog X.w X.xe _ ?_
  have e : (!(List.range its.toArray.size).all fun _ => true) = false := by simp
  rw [e]
  exact ⟨.bl false, H, I, rfl, fin⟩
/-- a != b, data or two lists of the same items -/
def rNeDS (K : PySem.W.Frag) : R2 := fun x y H Q => rNeD K x y H Q ∨ rNeSame K x y H Q
theorem op_neDS (hu : X.A.units + 64 < cLine) : OpR X (compareOp .NotEq) (rNeDS X.K) := by
  rintro pins s σ H x y v u Q I rx ry (h | h)
  · exact op_neD hu pins s σ H x y v u Q I rx ry h
  · exact op_neSame hu pins s σ H x y v u Q I rx ry h
end
end HR
set_option maxRecDepth 100000
set_option maxHeartbeats 8000000
namespace F5
open PySem L2 Evl GP HR SC SetM SetH RQ
/-- a drawn clause: a list of literals of the given moments -/
structure DL (H : Hp) (p : Addr) (us : List V) (ls : List Lit) (ms : List Str) : Prop where
  at_ : H p = some (.lst us)
  L : Lits H us ls
  ok : ∀ l ∈ ls, LitOk l
  few : ls.length ≤ 10
  nm : ∀ l ∈ ls, ∀ z ∈ namesOf l, z ∈ ms
theorem DL.ex {H H' : Hp} {p : Addr} {us : List V} {ls : List Lit} {ms : List Str} (C : DL H p us ls ms) (e : Ex H H') : DL H' p us ls ms := { C with at_ := e _ _ C.at_, L := C.L.ex e }
theorem DL.cl {H : Hp} {p : Addr} {us : List V} {ls : List Lit} {ms : List Str} (C : DL H p us ls ms) : CL H p us ls := ⟨C.at_, C.L, C.ok, Nat.le_trans C.few (by decide)⟩
structure RWS (H : Hp) (r : Addr) (rv : List Addr) (ms : List Str) : Prop where
  at_ : H r = some (.lst (rv.map V.ref))
  few : rv.length ≤ 3
  each : ∀ v ∈ rv, RowV H v ms
theorem RWS.ex {H H' : Hp} {r : Addr} {rv : List Addr} {ms : List Str} (R : RWS H r rv ms) (e : Ex H H') : RWS H' r rv ms := { R with at_ := e _ _ R.at_, each := fun v hv => (R.each v hv).tp (Tp.ex e) }
theorem resL_len {l : Lit} {a b : List Lit} (ha : a.length ≤ 10) (hb : b.length ≤ 10) : (resL l a b).length ≤ 25 := by
  unfold resL
  rw [List.length_append]
  have h1 := List.length_filter_le (fun z => decide (z ≠ l)) a
  have h2 := List.length_filter_le (fun z => decide (z ≠ oppL l)) b
  omega
theorem plain_lits {n : Nat} {ls : List Lit} (few : ls.length ≤ 1000) : PlainD (n + 2) (.tuple (ls.map litD)) := ⟨by rw [List.length_map]; exact few, fun d hd => by
  obtain ⟨l, _, rfl⟩ := List.mem_map.mp hd
  exact plain_lit l⟩
def spRight : Sp := fun vs H Q _ => ∃ (p x q r : Addr) (us us' : List V) (ls ls' : List Lit) (l : Lit) (rv : List Addr) (ms : List Str), vs = [.ref p, .ref x, .ref q, .ref r] ∧ DL H p us ls ms ∧ H x = some (.tup (litV l)) ∧ LitOk l ∧ LitOk (oppL l) ∧ DL H q us' ls' ms ∧ RWS H r rv ms ∧ ∀ H', Ex H H' → Q (.bl true) H'
section
variable {P : Program} {w : World} {K : PySem.W.Frag} {mg : Str → Option Value} {base : Heap} {a : Ad} {d : Fd} {fL fC fU fP : Addr}
theorem rd_handed {H : Hp} {h1 h2 F1 F2 p q : Addr} {us us' : List V} {ls ls' : List Lit} {Q : VK} (e1 : H h1 = some (.lst [.ref F1, .ref F2])) (e2 : H h2 = some (.lst [.ref p, .ref q])) (a1 : H F1 = some (.lst us)) (a2 : H F2 = some (.lst us')) (b1 : H p = some (.lst us)) (b2 : H q = some (.lst us')) (L1 : Lits H us ls) (L2' : Lits H us' ls') (o1 : ∀ l ∈ ls, LitOk l) (o2 : ∀ l ∈ ls', LitOk l) (q' : Q (.bl false) H) : rNeD K (.ref h1) (.ref h2) H Q := by
  have sh : Sh 3 (.list [.list (ls.map litD), .list (ls'.map litD)]) := Sh.list fun d hd => by
    simp only [List.mem_cons, List.not_mem_nil, or_false] at hd
    rcases hd with rfl | rfl
    · exact Sh.list (sh_lits o1)
    · exact Sh.list (sh_lits o2)
  refine ⟨_, _, .lst (SqL.of e1) (.cons (.lst (SqL.of a1) L1.dp) (.cons (.lst (SqL.of a2) L2'.dp) .nil)), .lst (SqL.of e2) (.cons (.lst (SqL.of b1) L1.dp) (.cons (.lst (SqL.of b2) L2'.dp) .nil)), sh.sh (by decide), sh.sh (by decide), ?_⟩
  rw [PySem.SeqAt.eqv_refl _ sh.1]
  exact q'
theorem ok_law_right (T : TX K mg a) (D : FDS K a d) (R : ER K mg P a fL fC fU fP) (C : ECS K a) : FnOk P w K mg base CX0 9 a.a_law_right d.a_law_right ["first", "pivot", "second", "rows"] spRight := by
  have G__law_told : FnOk P w K mg base CX0 8 a.a_law_told d.a_law_told ["first", "pivot", "second"] (spTold K) := ok_law_told T D R C
  have G__law_comp : FnOk P w K mg base CX0 1 a.a_law_comp d.a_law_comp ["literal"] spOpp := ok_law_comp T D
  have G__law_exact : FnOk P w K mg base CX0 4 a.a_law_exact d.a_law_exact ["told", "due"] (spSame K 3) := ok_law_exact T D 3
  have G__law_resolved : FnOk P w K mg base CX0 2 a.a_law_resolved d.a_law_resolved ["clause", "pivot", "other"] spResolved := ok_law_resolved T D
  have G__law_normal : FnOk P w K mg base CX0 1 a.a_law_normal d.a_law_normal ["literals"] (spNormal K) := ok_law_normal T D
  have G__law_sound : FnOk P w K mg base CX0 7 a.a_law_sound d.a_law_sound ["first", "second", "told", "values"] (spSound K) := ok_law_sound T D R
  refine D.F__law_right.ok sc_law_right (fun vs H Q E h => ?_) (fun cdv A outer s H vs Q E hr h => ?_)
  · obtain ⟨p, x, q, r, us, us', ls, ls', l, rv, ms, rfl, _⟩ := h
    rfl
  · obtain ⟨p, x, q, r, us, us', ls, ls', l, rv, ms, rfl, C1, hx, ol, oo, C2, RV, fin⟩ := h
    refine ⟨_, (pss_cons (ps_set (i := 4) sc_law_right.nd rfl (Or.inl rfl) (pe_lst (pa_cons (pe_callTy call_list_of (by rfl) T.b_list (by decide +kernel) (pa_cons (pv 0) pa_nil)) (pa_cons (pe_callTy call_list_of (by rfl) T.b_list (by decide +kernel) (pa_cons (pv 2) pa_nil)) pa_nil))))
        (pss_cons (ps_set (i := 5) sc_law_right.nd rfl (Or.inl rfl) (pe_call G__law_told (hr.mono (by decide)) rfl T.f__law_told T.k__law_told D.B__law_told .nil pass0 (pa_cons (pe_ix (ix_listK (K := K)) (pv 4) pe_int (fun _ _ => rfl)) (pa_cons (pv 1) (pa_cons (pe_ix (ix_listK (K := K)) (pv 4) pe_int (fun _ _ => rfl)) pa_nil)))))
        (pss_cons (ps_if (pt_cmpR (op_neD hr.units) (pv 4) (pe_lst (pa_cons (pv 0) (pa_cons (pv 2) pa_nil))) (nomark _)) (pss_one (ps_ret pe_bl)) pss_nil)
        (pss_cons (ps_if (PW.pt (pw_or (pt_cmpR (op_notInD (hu65 hr)) (pv 1) (pv 0) rfl) (pw_or1 (pt_cmpR (op_notInD (hu65 hr)) (pe_call G__law_comp (hr.mono (by decide)) rfl T.f__law_comp T.k__law_comp D.B__law_comp .nil pass0 (pa_cons (pv 1) pa_nil)) (pv 2) rfl)))) (pss_one (ps_ret (pe_and (pe_cmpR op_eq (pe_ix (ix_listK (K := K)) (pv 5) pe_int (fun _ _ => rfl)) pe_str (nomark _)) (pe_and (pe_call G__law_exact (hr.mono (by decide)) rfl T.f__law_exact T.k__law_exact D.B__law_exact .nil pass0 (pa_cons (pe_ix (ix_listK (K := K)) (pv 5) pe_int (fun _ _ => rfl)) (pa_cons (pv 1) pa_nil))) (pe_one (pe_ix (ix_listK (K := K)) (pv 5) pe_int (fun _ _ => rfl))))))) pss_nil)
        (pss_cons (ps_set (i := 6) sc_law_right.nd rfl (Or.inl rfl) (pe_call G__law_resolved (hr.mono (by decide)) rfl T.f__law_resolved T.k__law_resolved D.B__law_resolved .nil pass0 (pa_cons (pv 0) (pa_cons (pv 1) (pa_cons (pv 2) pa_nil)))))
        (pss_cons (ps_if (PW.pt (pw_or (pt_cmpR op_ne (pe_ix (ix_listK (K := K)) (pv 5) pe_int (fun _ _ => rfl)) pe_str (nomark _)) (pw_or1 (pt_not (pt_val (pe_call G__law_exact (hr.mono (by decide)) rfl T.f__law_exact T.k__law_exact D.B__law_exact .nil pass0 (pa_cons (pe_ix (ix_listK (K := K)) (pv 5) pe_int (fun _ _ => rfl)) (pa_cons (pv 6) pa_nil)))))))) (pss_one (ps_ret pe_bl)) pss_nil)
        (pss_cons (ps_set (i := 7) sc_law_right.nd rfl (Or.inl rfl) (pe_call G__law_told (hr.mono (by decide)) rfl T.f__law_told T.k__law_told D.B__law_told .nil pass0 (pa_cons (pe_callTy call_tuple_of (by rfl) T.b_tuple (by decide +kernel) (pa_cons (pv 0) pa_nil)) (pa_cons (pv 1) (pa_cons (pe_call G__law_normal (hr.mono (by decide)) rfl T.f__law_normal T.k__law_normal D.B__law_normal .nil pass0 (pa_cons (pv 2) pa_nil)) pa_nil)))))
        (pss_cons (ps_if (PW.pt (pw_or (pt_cmpR op_ne (pe_ix (ix_listK (K := K)) (pv 7) pe_int (fun _ _ => rfl)) pe_str (nomark _)) (pw_or1 (pt_not (pt_val (pe_call G__law_exact (hr.mono (by decide)) rfl T.f__law_exact T.k__law_exact D.B__law_exact .nil pass0 (pa_cons (pe_ix (ix_listK (K := K)) (pv 7) pe_int (fun _ _ => rfl)) (pa_cons (pv 6) pa_nil)))))))) (pss_one (ps_ret pe_bl)) pss_nil)
        (pss_cons (ps_for PassesOwn.never rfl (pi_list (pv 3)) (pg_name (i := 8) sc_law_right.nd rfl (Or.inl rfl)) (pss_one (ps_if (pt_not (pt_val (pe_call G__law_sound (hr.mono (by decide)) rfl T.f__law_sound T.k__law_sound D.B__law_sound .nil pass0 (pa_cons (pv 0) (pa_cons (pv 2) (pa_cons (pe_ix (ix_listK (K := K)) (pv 5) pe_int (fun _ _ => rfl)) (pa_cons (pv 8) pa_nil))))))) (pss_one (ps_ret pe_bl)) pss_nil)))
        (pss_one (ps_ret pe_bl))))))))))), ?_⟩
    have big : 1000 ≤ sizeLine := by decide
    refine ⟨_, rfl, p, us, rfl, .inl (SqL.of C1.at_), fun F1 hF1 => ⟨_, rfl, q, us', rfl, .inl (SqL.of (Ex.new hF1 _ _ C2.at_)), fun F2 hF2 => ⟨(by show 2 ≤ sizeLine; decide), fun hn hhn => ?_⟩⟩⟩
    have x1 := Ex.new (o := .lst us) hF1
    have x2 := Ex.new (o := .lst us') hF2
    have x3 := Ex.new (o := .lst [.ref F1, .ref F2]) hhn
    have e03 := x1.trans (x2.trans x3)
    have a1 : upd (upd (upd H F1 (.lst us)) F2 (.lst us')) hn (.lst [.ref F1, .ref F2]) F1 = some (.lst us) := (x2.trans x3) _ _ upd_same
    have a2 : upd (upd (upd H F1 (.lst us)) F2 (.lst us')) hn (.lst [.ref F1, .ref F2]) F2 = some (.lst us') := x3 _ _ upd_same
    have a3 : upd (upd (upd H F1 (.lst us)) F2 (.lst us')) hn (.lst [.ref F1, .ref F2]) hn = some (.lst [.ref F1, .ref F2]) := upd_same
    generalize upd (upd (upd H F1 (.lst us)) F2 (.lst us')) hn (.lst [.ref F1, .ref F2]) = H3 at *
    refine ⟨_, rfl, hn, _, 0, _, rfl, rfl, SqL.of a3, at_lit (n := 0) rfl rfl, _, rfl, _, rfl, hn, _, 1, _, rfl, rfl, SqL.of a3, at_lit (n := 1) rfl rfl, .ref F1, .ref F2, x, l, rfl, e03 _ _ hx, ol, oo, .inl ⟨F1, us, ls, rfl, .inl (SqL.of a1), C1.L.ex e03, C1.ok, Nat.le_trans C1.few (by decide), .inl ⟨F2, us', ls', rfl, .inl (SqL.of a2), C2.L.ex e03, C2.ok, Nat.le_trans C2.few (by decide), fun no t H4 e4 ht => ?_, fun g1 g2 t u tus tl H4 e4 ht hu TL mem asc => ?_⟩⟩⟩
    · have e04 := e03.trans e4
      refine ⟨_, rfl, _, rfl, _, rfl, (by show 2 ≤ sizeLine; decide), fun h2 hh2 => ?_⟩
      have x5 := Ex.new (o := .lst [.ref p, .ref q]) hh2
      have e05 := e04.trans x5
      refine rd_handed ((e4.trans x5) _ _ a3) upd_same ((e4.trans x5) _ _ a1) ((e4.trans x5) _ _ a2) (e05 _ _ C1.at_) (e05 _ _ C2.at_) (C1.L.ex e05) (C2.L.ex e05) C1.ok C2.ok ⟨_, rfl, iteF' rfl ?_⟩
      generalize upd H4 h2 (.lst [.ref p, .ref q]) = H5 at *
      refine ⟨_, rfl, _, rfl, rd_notInL (e05 _ _ hx) ol (e05 _ _ C1.at_) (C1.L.ex e05) C1.ok ⟨_, rfl, ite2 (fun g => iteT' rfl ?_) (fun g => ?_)⟩⟩
      · exact ⟨_, rfl, t, _, 0, _, rfl, rfl, SqL.of (x5 _ _ ht), at_lit (n := 0) rfl rfl, rfl, _, rfl, iteT' (by decide +kernel) ⟨_, rfl, t, _, 1, _, rfl, rfl, SqL.of (x5 _ _ ht), at_lit (n := 1) rfl rfl, _, rfl, .ref x, .ref x, litD l, rfl, lit_dp (SqT.of ((e04.trans x5) _ _ hx)), lit_dp (SqT.of ((e04.trans x5) _ _ hx)), plain_lit l, fun H6 e6 => ⟨_, rfl, iteT' rfl ⟨_, rfl, t, _, 2, _, rfl, rfl, SqL.of (e6 _ _ (x5 _ _ ht)), at_lit (n := 2) rfl rfl, fin H6 ((e04.trans x5).trans e6)⟩⟩⟩⟩
      · have g1 : l ∈ ls := by simpa using g
        refine ⟨_, rfl, x, l, rfl, e05 _ _ hx, ol, fun y H7 e7 _ hy => ⟨_, rfl, rd_notInL hy oo ((e05.trans e7) _ _ C2.at_) (C2.L.ex (e05.trans e7)) C2.ok ⟨_, rfl, ite2 (fun g2 => ?_) (fun g2 => ?_)⟩⟩⟩
        · exact ⟨_, rfl, t, _, 0, _, rfl, rfl, SqL.of ((x5.trans e7) _ _ ht), at_lit (n := 0) rfl rfl, rfl, _, rfl, iteT' (by decide +kernel) ⟨_, rfl, t, _, 1, _, rfl, rfl, SqL.of ((x5.trans e7) _ _ ht), at_lit (n := 1) rfl rfl, _, rfl, .ref x, .ref x, litD l, rfl, lit_dp (SqT.of ((e04.trans (x5.trans e7)) _ _ hx)), lit_dp (SqT.of ((e04.trans (x5.trans e7)) _ _ hx)), plain_lit l, fun H6 e6 => ⟨_, rfl, iteT' rfl ⟨_, rfl, t, _, 2, _, rfl, rfl, SqL.of (e6 _ _ ((x5.trans e7) _ _ ht)), at_lit (n := 2) rfl rfl, fin H6 ((e04.trans (x5.trans e7)).trans e6)⟩⟩⟩⟩
        · rcases no with no | no
          · exact absurd g1 no
          · exact absurd (by simpa using g2) no
    · have e04 := e03.trans e4
      refine ⟨_, rfl, _, rfl, _, rfl, (by show 2 ≤ sizeLine; decide), fun h2 hh2 => ?_⟩
      have x5 := Ex.new (o := .lst [.ref p, .ref q]) hh2
      have e05 := e04.trans x5
      refine rd_handed ((e4.trans x5) _ _ a3) upd_same ((e4.trans x5) _ _ a1) ((e4.trans x5) _ _ a2) (e05 _ _ C1.at_) (e05 _ _ C2.at_) (C1.L.ex e05) (C2.L.ex e05) C1.ok C2.ok ⟨_, rfl, iteF' rfl ?_⟩
      generalize upd H4 h2 (.lst [.ref p, .ref q]) = H5 at *
      refine ⟨_, rfl, _, rfl, rd_notInL (e05 _ _ hx) ol (e05 _ _ C1.at_) (C1.L.ex e05) C1.ok ⟨_, rfl, iteF' (by simpa using g1) ?_⟩⟩
      refine ⟨_, rfl, x, l, rfl, e05 _ _ hx, ol, fun y H7 e7 _ hy => ⟨_, rfl, rd_notInL hy oo ((e05.trans e7) _ _ C2.at_) (C2.L.ex (e05.trans e7)) C2.ok ⟨_, rfl, iteF' (by simpa using g2) ?_⟩⟩⟩
      have e07 := e05.trans e7
      have e47 := x5.trans e7
      have tlen : tl.length ≤ 25 := Nat.le_trans (asc_len asc mem) (resL_len C1.few C2.few)
      have tok : ∀ z ∈ tl, LitOk z := fun z hz => by
        rcases mem_resL.mp ((mem z).mp hz) with ⟨h, _⟩ | ⟨h, _⟩
        · exact C1.ok z h
        · exact C2.ok z h
      refine ⟨_, rfl, _, rfl, _, rfl, p, x, q, us, us', ls, ls', l, rfl, C1.cl.ex e07, e07 _ _ hx, ol, oo, C2.cl.ex e07, fun du dus dl H8 e8 hdu DL' memd ascd => ?_⟩
      have same : dl = tl := ascL_same ascd asc fun z => (memd z).trans (mem z).symm
      subst same
      have e48 := e47.trans e8
      have e08 := e07.trans e8
      refine ⟨_, rfl, t, _, 0, _, rfl, rfl, SqL.of (e48 _ _ ht), at_lit (n := 0) rfl rfl, rfl, _, rfl, iteF' (by decide +kernel) ?_⟩
      refine ⟨_, rfl, t, _, 1, _, rfl, rfl, SqL.of (e48 _ _ ht), at_lit (n := 1) rfl rfl, _, rfl, .ref u, .ref du, .tuple (dl.map litD), rfl, .tup (SqT.of (e48 _ _ hu)) (TL.ex e48).dp, .tup (SqT.of hdu) DL'.dp, plain_lits (by omega), fun H9 e9 => ⟨_, rfl, iteF' rfl ?_⟩⟩
      have e49 := e48.trans e9
      have e09 := e08.trans e9
      refine ⟨_, rfl, p, us, rfl, .inl ⟨SqL.of (e09 _ _ C1.at_), fun tp htp => ?_⟩⟩
      have x10 := Ex.new (o := .tup us) htp
      have htp1 : upd H9 tp (.tup us) tp = some (.tup us) := upd_same
      have e010 := e09.trans x10
      have e410 := e49.trans x10
      have e810 := e9.trans x10
      generalize upd H9 tp (.tup us) = H10 at *
      refine ⟨_, rfl, _, rfl, q, us', ls', rfl, .inl (SqL.of (e010 _ _ C2.at_)), C2.L.ex e010, Nat.lt_of_le_of_lt C2.few (by decide), fun nu nus nl H11 e11 hnu NL memn ascn => ?_⟩
      have e011 := e010.trans e11
      have e411 := e410.trans e11
      have e811 := e810.trans e11
      refine ⟨.ref tp, .ref nu, x, l, rfl, e011 _ _ hx, ol, oo, .inl ⟨tp, us, ls, rfl, .inr (SqT.of (e11 _ _ htp1)), C1.L.ex e011, C1.ok, Nat.le_trans C1.few (by decide), .inl ⟨nu, nus, nl, rfl, .inr (SqT.of hnu), NL, fun z hz => C2.ok z ((memn z).mp hz), Nat.le_trans (asc_len ascn memn) (Nat.le_trans C2.few (by decide)), fun no => ?_, fun _ _ t2 u2 tus2 tl2 H12 e12 ht2 hu2 TL2 mem2 asc2 => ?_⟩⟩⟩
      · rcases no with no | no
        · exact absurd g1 no
        · exact absurd ((memn _).mpr g2) no
      have same2 : tl2 = dl := ascL_same asc2 asc fun z => by rw [mem2, mem, mem_resL, mem_resL, memn]
      subst same2
      have e412 := e411.trans e12
      have e012 := e011.trans e12
      have e812 := e811.trans e12
      refine ⟨_, rfl, t2, _, 0, _, rfl, rfl, SqL.of ht2, at_lit (n := 0) rfl rfl, rfl, _, rfl, iteF' (by decide +kernel) ?_⟩
      refine ⟨_, rfl, t2, _, 1, _, rfl, rfl, SqL.of ht2, at_lit (n := 1) rfl rfl, _, rfl, .ref u2, .ref du, .tuple (tl2.map litD), rfl, .tup (SqT.of hu2) TL2.dp, .tup (SqT.of (e812 _ _ hdu)) (DL'.ex e812).dp, plain_lits (by omega), fun H13 e13 => ⟨_, rfl, iteF' rfl ?_⟩⟩
      have e413 := e412.trans e13
      have e013 := e012.trans e13
      have rf := RV.few
      refine ⟨_, rfl, r, rfl, ⟨_, SqL.of (e013 _ _ RV.at_)⟩, for_it (walk_list (xs := rv.map V.ref)) (fun i σ H' => ∃ o, σ = [some (.ref p), some (.ref x), some (.ref q), some (.ref r), some (.ref hn), some (.ref t), some (.ref du), some (.ref t2), o] ∧ Ex H13 H') ⟨none, rfl, Ex.refl _⟩ (fun i σ H' _ ⟨_, _, e⟩ => SqL.of (e _ _ (e013 _ _ RV.at_))) ?_ ?_⟩
      · rintro i v σ H14 H14' hi ⟨o, rfl, e14⟩ ⟨rfl, hv⟩
        rw [List.getElem?_map] at hv
        obtain ⟨v, hv', rfl⟩ := Option.map_eq_some_iff.mp hv
        obtain ⟨n, tm, oo', pa, ns, ps, VL, sub⟩ := RV.each v (List.mem_of_getElem? hv')
        have e014 := e013.trans e14
        have e414 := e413.trans e14
        refine ⟨_, rfl, _, rfl, _, rfl, t, _, 1, _, rfl, rfl, SqL.of (e414 _ _ ht), at_lit (n := 1) rfl rfl, _, rfl, p, q, u, v, n, tm, oo', pa, us, us', tus, ls, ls', tl2, l, ns, ps, rfl, .inl (SqL.of (e014 _ _ C1.at_)), C1.L.ex e014, .inl (SqL.of (e014 _ _ C2.at_)), C2.L.ex e014, SqT.of (e414 _ _ hu), TL.ex e414, tok, tlen, mem, VL.ex e014, fun z hz y hy => sub y (C1.nm z hz y hy), fun z hz y hy => sub y (C2.nm z hz y hy), fun H15 e15 => ⟨_, rfl, iteF' rfl ⟨_, rfl, e14.trans e15⟩⟩⟩
      · rintro σ H14 ⟨o, rfl, e14⟩
        exact fin H14 (e013.trans e14)
end
end F5
set_option maxRecDepth 100000
set_option maxHeartbeats 8000000
namespace F5
open PySem L2 Evl GP HR SC SetM SetH RQ
theorem hu70 {k : Nat} {A : Around} (r : Room k A) : A.units + 70 < cLine := by have := r.un; omega
theorem Lits.take {H : Hp} {us : List V} {ls : List Lit} (A : Lits H us ls) (k : Nat) : Lits H (us.take k) (ls.take k) := ⟨by simp [A.len], fun i l h => by
  have hik : i < k := by have := (List.getElem?_eq_some_iff.mp h).1; rw [List.length_take] at this; omega
  rw [List.getElem?_take_of_lt hik] at h ⊢
  exact A.at_ i l h⟩
/-- handed in, the clauses v0 and v1 are refused with w and y -/
def CaseOk (K : PySem.W.Frag) (H : Hp) (v0 v1 : V) (w : Str) (y : V) : Prop := ∀ H' Q (go : List Lit → List Lit → Prop), Ex H H' → ToldQ H' Q w y → ArgT K H' v0 Q fun ls => ArgT K H' v1 Q (go ls)
def CaseAt (K : PySem.W.Frag) (H : Hp) (v : V) : Prop := ∃ (c e : Addr) (v0 v1 : V) (w : Str) (y : V) (z : Str), v = .ref c ∧ H c = some (.lst [v0, v1, .ref e]) ∧ H e = some (.lst [.str w, y, .bl true]) ∧ CaseOk K H v0 v1 w y ∧ ShV K H y z ∧ easyV y = true
theorem CaseAt.ex {K : PySem.W.Frag} {H H' : Hp} {v : V} (h : CaseAt K H v) (x : Ex H H') : CaseAt K H' v := by
  obtain ⟨c, e, v0, v1, w, y, z, h1, h2, h3, h4, h5, h6⟩ := h
  exact ⟨c, e, v0, v1, w, y, z, h1, x _ _ h2, x _ _ h3, fun H2 Q go x2 t => h4 H2 Q go (x.trans x2) t, h5.ex (fun _ _ => Dp.ex x) x, h6⟩
theorem easy_sh {K : PySem.W.Frag} {H : Hp} {v : V} {z : Str} (h : ShV K H v z) : easyV v = true := by cases h <;> rfl
/-- a clause that is refused as it stands -/
inductive Kd where | good | bad (y : V) | none
def ArgK (K : PySem.W.Frag) (H : Hp) (v : V) : Kd → Prop
  | .good => ∃ p us ls, v = .ref p ∧ Seq K H p us ∧ Lits H us ls ∧ (∀ l ∈ ls, LitOk l) ∧ ls.length ≤ 30
  | .bad y => ∃ p us ls i, v = .ref p ∧ Seq K H p us ∧ us[i]? = some y ∧ AnyV K H y false ∧ Lits H (us.take i) ls ∧ (∀ l ∈ ls, LitOk l)
  | .none => NoSeq K H v
theorem ArgK.ex {K : PySem.W.Frag} {H H' : Hp} {v : V} : ∀ {k : Kd}, ArgK K H v k → Ex H H' → ArgK K H' v k
  | .good, ⟨p, us, ls, h1, h2, h3, h4⟩, e => ⟨p, us, ls, h1, h2.ex e, h3.ex e, h4⟩
  | .bad _, ⟨p, us, ls, i, h1, h2, h3, h4, h5, h6⟩, e => ⟨p, us, ls, i, h1, h2.ex e, h3, h4.ex e, h5.ex e, h6⟩
  | .none, h, e => NoSeq.ex h e
theorem case_bad {K : PySem.W.Frag} {H : Hp} {v0 v1 y : V} (h : ArgK K H v0 (.bad y)) : CaseOk K H v0 v1 "literal" y := fun H' Q go e t => by
  obtain ⟨p, us, ls, i, h1, h2, h3, h4, h5, h6⟩ := h.ex e
  exact .inr (.inl ⟨p, us, ls, i, y, h1, h2, h3, h4, h5, h6, t⟩)
theorem case_none {K : PySem.W.Frag} {H : Hp} {v0 v1 : V} (h : ArgK K H v0 .none) : CaseOk K H v0 v1 "list" v0 := fun H' Q go e t => .inr (.inr ⟨NoSeq.ex h e, t⟩)
theorem case_good {K : PySem.W.Frag} {H : Hp} {v0 v1 y : V} {w : Str} (h : ArgK K H v0 .good) (h1 : (ArgK K H v1 (.bad y) ∧ w = "literal") ∨ (ArgK K H v1 .none ∧ w = "list" ∧ y = v1)) : CaseOk K H v0 v1 w y := fun H' Q go e t => by
  obtain ⟨p, us, ls, g1, g2, g3, g4, g5⟩ := h.ex e
  refine .inl ⟨p, us, ls, g1, g2, g3, g4, g5, ?_⟩
  rcases h1 with ⟨h1, rfl⟩ | ⟨h1, rfl, rfl⟩
  · obtain ⟨p, us, ls, i, f1, f2, f3, f4, f5, f6⟩ := h1.ex e
    exact .inr (.inl ⟨p, us, ls, i, y, f1, f2, f3, f4, f5, f6, t⟩)
  · exact .inr (.inr ⟨NoSeq.ex h1 e, t⟩)
section
variable {K : PySem.W.Frag} {σ : L2.St} {H0 : Hp}
def GC (K : PySem.W.Frag) (H0 : Hp) (σ : L2.St) (te : TE) : Prop := ∀ H1, Ex H0 H1 → ∀ Q : VK, (∀ v H2, Ex H1 H2 → CaseAt K H2 v → Q v H2) → te σ H1 Q
theorem gc_case {i j k : Nat} {v0 v1 y : V} {w z : Str} (hi : σ[i]? = some (some v0)) (hj : σ[j]? = some (some v1)) (hk : σ[k]? = some (some y)) (c : CaseOk K H0 v0 v1 w y) (sh : ShV K H0 y z) : GC K H0 σ (tLst (tCons (tVar i) (tCons (tVar j) (tCons (tLst (tCons (tC (.str w)) (tCons (tVar k) (tCons (tC (.bl true)) tNil)))) tNil)))) := fun H1 e1 Q q => by
  have three : 3 ≤ sizeLine := by decide
  refine ⟨_, hi, _, hj, _, hk, three, fun e he => ⟨three, fun cc hc => ?_⟩⟩
  have x1 := Ex.new (o := .lst [.str w, y, .bl true]) he
  have x2 := Ex.new (o := .lst [v0, v1, .ref e]) hc
  have e3 := e1.trans (x1.trans x2)
  exact q _ _ (x1.trans x2) ⟨cc, e, v0, v1, w, y, z, rfl, upd_same, x2 _ _ upd_same, fun H' Q go x t => c H' Q go (e3.trans x) t, sh.ex (fun _ _ => Dp.ex e3) e3, easy_sh sh⟩
/-- the first clause with one more item -/
theorem gc_more {i j k n : Nat} {p : Addr} {us ls : _} {v1 y u : V} {z : Str} {m : Nat} (hi : σ[i]? = some (some (.ref p))) (hp : H0 p = some (.lst us)) (few : us.length ≤ 100) (hu : us[m]? = some y) (av : AnyV K H0 y false) (L : Lits H0 (us.take m) ls) (ok : ∀ l ∈ ls, LitOk l) (hn : σ[n]? = some (some u)) (hj : σ[j]? = some (some v1)) (hk : σ[k]? = some (some y)) (sh : ShV K H0 y z) :
    GC K H0 σ (tLst (tCons (tOp rCat (tVar i) (tLst (tCons (tVar n) tNil))) (tCons (tVar j) (tCons (tLst (tCons (tC (.str "literal")) (tCons (tVar k) (tCons (tC (.bl true)) tNil)))) tNil)))) := fun H1 e1 Q q => by
  have three : 3 ≤ sizeLine := by decide
  refine ⟨_, hi, _, hn, (by show 1 ≤ sizeLine; decide), fun f hf => ?_⟩
  have x1 := Ex.new (o := .lst [u]) hf
  refine ⟨p, f, _, _, rfl, rfl, x1 _ _ (e1 _ _ hp), upd_same, Nat.le_trans (by show us.length + 1 ≤ 101; omega) (by decide), fun c hc => ?_⟩
  have x2 := Ex.new (o := .lst (us ++ [u])) hc
  have hc2 : upd (upd H1 f (.lst [u])) c (.lst (us ++ [u])) c = some (.lst (us ++ [u])) := upd_same
  have e3 := e1.trans (x1.trans x2)
  have x12 := x1.trans x2
  generalize upd (upd H1 f (.lst [u])) c (.lst (us ++ [u])) = H3 at *
  have lt := (List.getElem?_eq_some_iff.mp hu).1
  have C : CaseOk K H3 (.ref c) v1 "literal" y := case_bad ⟨c, us ++ [u], ls, m, rfl, .inl (SqL.of hc2), by rw [List.getElem?_append_left lt]; exact hu, av.ex e3, by rw [List.take_append_of_le_length (Nat.le_of_lt lt)]; exact L.ex e3, ok⟩
  refine ⟨_, hj, _, hk, three, fun e he => ⟨three, fun cc hcc => ?_⟩⟩
  have x4 := Ex.new (o := .lst [.str "literal", y, .bl true]) he
  have x5 := Ex.new (o := .lst [.ref c, v1, .ref e]) hcc
  have e5 := e3.trans (x4.trans x5)
  exact q _ _ (x12.trans (x4.trans x5)) ⟨cc, e, .ref c, v1, "literal", y, z, rfl, upd_same, x5 _ _ upd_same, fun H' Q go x t => C H' Q go ((x4.trans x5).trans x) t, sh.ex (fun _ _ => Dp.ex e5) e5, easy_sh sh⟩
def CS (K : PySem.W.Frag) (H : Hp) (m : Addr) (n : Nat) : Prop := ∃ vs, H m = some (.lst vs) ∧ vs.length = n ∧ ∀ v ∈ vs, CaseAt K H v
theorem cs_lst {t1 t2 : TE} (g1 : GC K H0 σ t1) (g2 : GC K H0 σ t2) {H1 : Hp} (e1 : Ex H0 H1) {Q : VK} (q : ∀ m H2, Ex H1 H2 → CS K H2 m 2 → Q (.ref m) H2) : tLst (tCons t1 (tCons t2 tNil)) σ H1 Q :=
  g1 H1 e1 _ fun v H2 e2 c => g2 H2 (e1.trans e2) _ fun v' H3 e3 c' => ⟨(by show 2 ≤ sizeLine; decide), fun m hm => by
    have x := Ex.new (o := .lst [v, v']) hm
    refine q m _ ((e2.trans e3).trans x) ⟨_, upd_same, rfl, fun u hu => ?_⟩
    simp only [List.mem_cons, List.not_mem_nil, or_false] at hu
    rcases hu with rfl | rfl
    · exact c.ex (e3.trans x)
    · exact c'.ex x⟩
theorem cs_cat {t1 t2 : TE} {i n : Nat} {m0 : Addr} (g1 : GC K H0 σ t1) (g2 : GC K H0 σ t2) {H1 : Hp} (e1 : Ex H0 H1) (hi : σ[i]? = some (some (.ref m0))) (c0 : CS K H1 m0 n) (hn : n ≤ 100) {Q : VK} (q : ∀ m H2, Ex H1 H2 → CS K H2 m (n + 2) → Q (.ref m) H2) : tOp rCat (tVar i) (tLst (tCons t1 (tCons t2 tNil))) σ H1 Q := by
  obtain ⟨vs, h0, l0, a0⟩ := c0
  refine ⟨_, hi, cs_lst g1 g2 e1 fun m H2 e2 ⟨ws, h2, l2, a2⟩ => ⟨m0, m, _, _, rfl, rfl, e2 _ _ h0, h2, Nat.le_trans (by omega : _ ≤ 102) (by decide), fun m3 hm3 => ?_⟩⟩
  have x := Ex.new (o := .lst (vs ++ ws)) hm3
  refine q m3 _ (e2.trans x) ⟨_, upd_same, by rw [List.length_append, l0, l2], fun u hu => ?_⟩
  rcases List.mem_append.mp hu with hu | hu
  · exact (a0 u hu).ex (e2.trans x)
  · exact (a2 u hu).ex x
end
def spRefused : Sp := fun vs H Q _ => ∃ (b p x q : Addr) (us us' : List V) (ls ls' : List Lit) (l : Lit) (ts ms : List Str), vs = [.ref b, .ref p, .ref x, .ref q] ∧ Bx b H ∧ RV b H p us ls ts ms 6 ∧ (∀ l ∈ ls, LitOk l) ∧ H x = some (.tup (litV l)) ∧ LitOk l ∧ LitOk (oppL l) ∧ RV b H q us' ls' ts ms 6 ∧ (∀ l ∈ ls', LitOk l) ∧ ∀ H', Q (.bl true) H'
section
variable {P : Program} {w : World} {K : PySem.W.Frag} {mg : Str → Option Value} {base : Heap} {a : Ad} {d : Fd} {fL fC fU fP : Addr}
theorem ok_law_refused (T : TX K mg a) (D : FDS K a d) (R : ER K mg P a fL fC fU fP) (C : ECS K a) : FnG P w K mg base 9 a.a_law_refused d.a_law_refused ["box", "first", "pivot", "second"] spRefused := by
  have G__law_told : FnOk P w K mg base CX0 8 a.a_law_told d.a_law_told ["first", "pivot", "second"] (spTold K) := ok_law_told T D R C
  have G__law_put : FnOk P w K mg base CX0 2 a.a_law_put d.a_law_put ["box", "row", "one"] spPut := ok_law_put T D
  have G__law_odd_literal : FnOk P w K mg base CX0 2 a.a_law_odd_literal d.a_law_odd_literal ["box"] (spOddL K) := ok_law_odd_literal T D
  have G__law_odd_clause : FnOk P w K mg base CX0 2 a.a_law_odd_clause d.a_law_odd_clause ["box"] (spOddC K) := ok_law_odd_clause T D
  refine okG D.F__law_refused sc_law_refused (fun vs H Q E h => ?_) (fun cdv A outer s H vs Q E hr gd h => ?_)
  · obtain ⟨b, p, x, q, us, us', ls, ls', l, ts, ms, rfl, _⟩ := h
    rfl
  · obtain ⟨b, p, x, q, us, us', ls, ls', l, ts, ms, rfl, X, R1, o1, hx, ol, oo, R2, o2, fin⟩ := h
    refine ⟨_, (pss_cons (ps_set (i := 4) sc_law_refused.nd rfl (Or.inl rfl) (pe_call G__law_odd_literal (hr.mono (by decide)) rfl T.f__law_odd_literal T.k__law_odd_literal D.B__law_odd_literal .nil pass0 (pa_cons (pv 0) pa_nil)))
        (pss_cons (ps_set (i := 5) sc_law_refused.nd rfl (Or.inl rfl) (pe_call G__law_odd_literal (hr.mono (by decide)) rfl T.f__law_odd_literal T.k__law_odd_literal D.B__law_odd_literal .nil pass0 (pa_cons (pv 0) pa_nil)))
        (pss_cons (ps_set (i := 6) sc_law_refused.nd rfl (Or.inl rfl) (pe_call G__law_odd_clause (hr.mono (by decide)) rfl T.f__law_odd_clause T.k__law_odd_clause D.B__law_odd_clause .nil pass0 (pa_cons (pv 0) pa_nil)))
        (pss_cons (ps_set (i := 7) sc_law_refused.nd rfl (Or.inl rfl) (pe_call G__law_put (hr.mono (by decide)) rfl T.f__law_put T.k__law_put D.B__law_put .nil pass0 (pa_cons (pv 0) (pa_cons (pv 1) (pa_cons (pv 4) pa_nil)))))
        (pss_cons (ps_set (i := 8) sc_law_refused.nd rfl (Or.inl rfl) (pe_call G__law_put (hr.mono (by decide)) rfl T.f__law_put T.k__law_put D.B__law_put .nil pass0 (pa_cons (pv 0) (pa_cons (pv 3) (pa_cons (pv 5) pa_nil)))))
        (pss_cons (ps_set (i := 9) sc_law_refused.nd rfl (Or.inl rfl) (pe_lst (pa_cons (pe_lst (pa_cons (pv 7) (pa_cons (pv 3) (pa_cons (pe_lst (pa_cons pe_str (pa_cons (pv 4) (pa_cons pe_bl pa_nil)))) pa_nil)))) (pa_cons (pe_lst (pa_cons (pv 1) (pa_cons (pv 8) (pa_cons (pe_lst (pa_cons pe_str (pa_cons (pv 5) (pa_cons pe_bl pa_nil)))) pa_nil)))) pa_nil))))
        (pss_cons (ps_set (i := 9) sc_law_refused.nd rfl (Or.inl rfl) (pe_op op_cat (pv 9) (pe_lst (pa_cons (pe_lst (pa_cons (pv 7) (pa_cons (pv 8) (pa_cons (pe_lst (pa_cons pe_str (pa_cons (pv 4) (pa_cons pe_bl pa_nil)))) pa_nil)))) (pa_cons (pe_lst (pa_cons (pe_op op_cat (pv 7) (pe_lst (pa_cons (pv 5) pa_nil))) (pa_cons (pv 3) (pa_cons (pe_lst (pa_cons pe_str (pa_cons (pv 4) (pa_cons pe_bl pa_nil)))) pa_nil)))) pa_nil)))))
        (pss_cons (ps_set (i := 9) sc_law_refused.nd rfl (Or.inl rfl) (pe_op op_cat (pv 9) (pe_lst (pa_cons (pe_lst (pa_cons (pv 6) (pa_cons (pv 8) (pa_cons (pe_lst (pa_cons pe_str (pa_cons (pv 6) (pa_cons pe_bl pa_nil)))) pa_nil)))) (pa_cons (pe_lst (pa_cons (pv 7) (pa_cons (pv 6) (pa_cons (pe_lst (pa_cons pe_str (pa_cons (pv 4) (pa_cons pe_bl pa_nil)))) pa_nil)))) pa_nil)))))
        (pss_cons (ps_set (i := 9) sc_law_refused.nd rfl (Or.inl rfl) (pe_op op_cat (pv 9) (pe_lst (pa_cons (pe_lst (pa_cons (pv 1) (pa_cons (pv 6) (pa_cons (pe_lst (pa_cons pe_str (pa_cons (pv 6) (pa_cons pe_bl pa_nil)))) pa_nil)))) (pa_cons (pe_lst (pa_cons (pv 6) (pa_cons (pv 3) (pa_cons (pe_lst (pa_cons pe_str (pa_cons (pv 6) (pa_cons pe_bl pa_nil)))) pa_nil)))) pa_nil)))))
        (pss_cons (ps_for PassesOwn.never rfl (pi_list (pv 9)) (pg_name (i := 10) sc_law_refused.nd rfl (Or.inl rfl)) (pss_cons (ps_set (i := 11) sc_law_refused.nd rfl (Or.inl rfl) (pe_call G__law_told (hr.mono (by decide)) rfl T.f__law_told T.k__law_told D.B__law_told .nil pass0 (pa_cons (pe_ix (ix_listK (K := K)) (pv 10) pe_int (fun _ _ => rfl)) (pa_cons (pv 2) (pa_cons (pe_ix (ix_listK (K := K)) (pv 10) pe_int (fun _ _ => rfl)) pa_nil)))))
        (pss_one (ps_if (PW.pt (pw_or (pt_cmpR (HR.op_neDS hr.units) (pv 11) (pe_ix (ix_listK (K := K)) (pv 10) pe_int (fun _ _ => rfl)) (nomark _)) (pw_or1 (pt_cmpR op_ne (pe_callB (RQ.cr_reprA gd (hu70 hr)) (by rfl) T.b_repr (by decide +kernel) (pa_cons (pe_ix (ix_listK (K := K)) (pv 11) pe_int (fun _ _ => rfl)) pa_nil)) (pe_callB (RQ.cr_reprA gd (hu70 hr)) (by rfl) T.b_repr (by decide +kernel) (pa_cons (pe_ix (ix_listK (K := K)) (pe_ix (ix_listK (K := K)) (pv 10) pe_int (fun _ _ => rfl)) pe_int (fun _ _ => rfl)) pa_nil)) (nomark _))))) (pss_one (ps_ret pe_bl)) pss_nil))))
        (pss_one (ps_ret pe_bl)))))))))))), ?_⟩
    have big : 1000 ≤ sizeLine := by decide
    refine ⟨_, rfl, b, rfl, X, fun od H1 k1 X1 G1 => ⟨_, rfl, b, rfl, X1, fun ot H2 k2 X2 G2 => ⟨_, rfl, b, rfl, X2, fun no H3 k3 X3 G3 => ?_⟩⟩⟩
    have G13 := G1.ex (rm_kp' X1 (k2.trans k3))
    have G23 := G2.ex (rm_kp' X2 k3)
    have k03 := k1.trans (k2.trans k3)
    have R13 := R1.kp k03 X
    have R23 := R2.kp k03 X
    have hx3 := (k03.tp X).tup hx
    refine ⟨_, rfl, _, rfl, _, rfl, b, p, od, us, rfl, X3, R13.ne, R13.at_, by rw [R13.L.len]; exact Nat.le_trans R13.few (by decide), fun n1 lf H4 k4 X4 hn1 nlf hlf => ?_⟩
    have R14 := R13.kp k4 X3
    have R24 := R23.kp k4 X3
    have hx4 := (k4.tp X3).tup hx3
    refine ⟨_, rfl, _, rfl, _, rfl, b, q, ot, us', rfl, X4, R24.ne, R24.at_, by rw [R24.L.len]; exact Nat.le_trans R24.few (by decide), fun n2 rg H5 k5 X5 hn2 nrg hrg => ?_⟩
    have R15 := R14.kp k5 X4
    have R25 := R24.kp k5 X4
    have hx5 := (k5.tp X4).tup hx4
    have hlf5 := k5.k _ _ nlf hlf
    have G15 := G13.ex (rm_kp (k4.trans k5))
    have G25 := G23.ex (rm_kp (k4.trans k5))
    have G35 := G3.ex (rm_kp (k4.trans k5))
    have gb : ∀ {y : V} {us : List V} {ls : List Lit} {p : Addr} {n : Nat}, n ≤ us.length → Lits H5 us ls → (∀ l ∈ ls, LitOk l) → H5 p = some (.lst (us.take n ++ y :: us.drop n)) → AnyV K H5 y false → ArgK K H5 (.ref p) (.bad y) ∧ (us.take n ++ y :: us.drop n)[n]? = some y ∧ Lits H5 ((us.take n ++ y :: us.drop n).take n) (ls.take n) ∧ ∀ l ∈ ls.take n, LitOk l := by
      intro y us ls p n hn L ok hp av
      have ln : (us.take n).length = n := by rw [List.length_take]; omega
      have g1 : (us.take n ++ y :: us.drop n)[n]? = some y := by
        rw [List.getElem?_append_right (by omega), ln, Nat.sub_self]
        rfl
      have g2 : (us.take n ++ y :: us.drop n).take n = us.take n := by
        have := List.take_left (l₁ := us.take n) (l₂ := y :: us.drop n)
        rwa [ln] at this
      have g3 : Lits H5 ((us.take n ++ y :: us.drop n).take n) (ls.take n) := by rw [g2]; exact L.take n
      have g4 : ∀ l ∈ ls.take n, LitOk l := fun l hl => ok l (List.mem_of_mem_take hl)
      exact ⟨⟨p, _, _, n, rfl, .inl (SqL.of hp), g1, av, g3, g4⟩, g1, g3, g4⟩
    obtain ⟨AL, L1, L2', L3⟩ := gb hn1 R15.L o1 hlf5 G15.1
    obtain ⟨AR, _, _, _⟩ := gb hn2 R25.L o2 hrg G25.1
    have A1 : ArgK K H5 (.ref p) .good := ⟨p, us, ls, rfl, .inl (SqL.of R15.at_), R15.L, o1, Nat.le_trans R15.few (by decide)⟩
    have A2 : ArgK K H5 (.ref q) .good := ⟨q, us', ls', rfl, .inl (SqL.of R25.at_), R25.L, o2, Nat.le_trans R25.few (by decide)⟩
    have AN : ArgK K H5 no .none := G35.1
    obtain ⟨z1, S1⟩ := G15.2
    obtain ⟨z2, S2⟩ := G25.2
    obtain ⟨z3, S3⟩ := G35.2
    have lus : (us.take n1 ++ od :: us.drop n1).length ≤ 100 := by
      have := R15.few
      have := R15.L.len
      simp only [List.length_append, List.length_take, List.length_cons, List.length_drop]
      omega
    clear gb
    refine put_step (σ' := [some (.ref b), some (.ref p), some (.ref x), some (.ref q), some od, some ot, some no, some (.ref lf), some (.ref rg), none, none, none]) rfl ?_
    try dsimp only
    refine seq_step (cs_lst (K := K) (H0 := H5) (gc_case (i := 7) (j := 3) (k := 4) rfl rfl rfl (case_bad AL) S1) (gc_case (i := 1) (j := 8) (k := 5) rfl rfl rfl (case_good A1 (.inl ⟨AR, rfl⟩)) S2) (Ex.refl _) fun m1 H6 e6 c6 => ?_)
    refine put_step (σ' := [some (.ref b), some (.ref p), some (.ref x), some (.ref q), some od, some ot, some no, some (.ref lf), some (.ref rg), some (.ref m1), none, none]) rfl ?_
    try dsimp only
    refine seq_step (cs_cat (K := K) (H0 := H5) (n := 2) (gc_case (i := 7) (j := 8) (k := 4) rfl rfl rfl (case_bad AL) S1) (gc_more (i := 7) (j := 3) (k := 4) (n := 5) rfl hlf5 lus L1 G15.1 L2' L3 rfl rfl rfl S1) e6 rfl c6 (by decide) fun m2 H7 e7 c7 => ?_)
    refine put_step (σ' := [some (.ref b), some (.ref p), some (.ref x), some (.ref q), some od, some ot, some no, some (.ref lf), some (.ref rg), some (.ref m2), none, none]) rfl ?_
    try dsimp only
    refine seq_step (cs_cat (K := K) (H0 := H5) (n := 4) (gc_case (i := 6) (j := 8) (k := 6) rfl rfl rfl (case_none AN) S3) (gc_case (i := 7) (j := 6) (k := 4) rfl rfl rfl (case_bad AL) S1) (e6.trans e7) rfl c7 (by decide) fun m3 H8 e8 c8 => ?_)
    refine put_step (σ' := [some (.ref b), some (.ref p), some (.ref x), some (.ref q), some od, some ot, some no, some (.ref lf), some (.ref rg), some (.ref m3), none, none]) rfl ?_
    try dsimp only
    refine seq_step (cs_cat (K := K) (H0 := H5) (n := 6) (gc_case (i := 1) (j := 6) (k := 6) rfl rfl rfl (case_good A1 (.inr ⟨AN, rfl, rfl⟩)) S3) (gc_case (i := 6) (j := 3) (k := 6) rfl rfl rfl (case_none AN) S3) ((e6.trans e7).trans e8) rfl c8 (by decide) fun m4 H9 e9 c9 => ?_)
    refine put_step (σ' := [some (.ref b), some (.ref p), some (.ref x), some (.ref q), some od, some ot, some no, some (.ref lf), some (.ref rg), some (.ref m4), none, none]) rfl ?_
    try dsimp only
    have e59 := ((e6.trans e7).trans e8).trans e9
    have hx9 := e59 _ _ hx5
    obtain ⟨cs, hm4, lcs, all⟩ := c9
    clear c6 c7 c8 e6 e7 e8 e9 e59
    refine ⟨_, rfl, m4, rfl, ⟨_, SqL.of hm4⟩, for_it (walk_list (xs := cs)) (fun i σ H' => ∃ oa ob, σ = [some (.ref b), some (.ref p), some (.ref x), some (.ref q), some od, some ot, some no, some (.ref lf), some (.ref rg), some (.ref m4), oa, ob] ∧ Ex H9 H') ⟨none, none, rfl, Ex.refl _⟩ (fun i σ H' _ ⟨_, _, _, e⟩ => SqL.of (e _ _ hm4)) ?_ ?_⟩
    · rintro i v σ H10 H10' hi ⟨oa, ob, rfl, e10⟩ ⟨rfl, hv⟩
      obtain ⟨c, e, v0, v1, w', y, z, rfl, h1, h2, ck, sh, ez⟩ := (all v (List.mem_of_getElem? hv)).ex e10
      refine ⟨_, rfl, c, _, 0, _, rfl, rfl, SqL.of h1, at_lit (n := 0) rfl rfl, _, rfl, _, rfl, c, _, 1, _, rfl, rfl, SqL.of h1, at_lit (n := 1) rfl rfl, v0, v1, x, l, rfl, e10 _ _ hx9, ol, oo, ck _ _ _ (Ex.refl _) fun r H11 e11 hr11 => ?_⟩
      have h1' := e11 _ _ h1
      have h2' := e11 _ _ h2
      have sh' := sh.ex (fun _ _ => Dp.ex e11) e11
      refine ⟨_, rfl, _, rfl, c, _, 2, _, rfl, rfl, SqL.of h1', at_lit (n := 2) rfl rfl, .inr ⟨r, e, _, rfl, rfl, SqL.of hr11, SqL.of h2', fun v hv => ?_, ⟨_, rfl, iteF' rfl ?_⟩⟩⟩
      · simp only [List.mem_cons, List.not_mem_nil, or_false] at hv
        rcases hv with rfl | rfl | rfl
        · rfl
        · exact ez
        · rfl
      · refine ⟨_, rfl, r, _, 1, _, rfl, rfl, SqL.of hr11, at_lit (n := 1) rfl rfl, y, z, rfl, sh', _, rfl, c, _, 2, _, rfl, rfl, SqL.of h1', at_lit (n := 2) rfl rfl, e, _, 1, _, rfl, rfl, SqL.of h2', at_lit (n := 1) rfl rfl, y, z, rfl, sh', rfl, _, rfl, iteF' (by simp) ⟨_, _, rfl, e10.trans e11⟩⟩
    · rintro σ H10 ⟨oa, ob, rfl, e10⟩
      exact fin H10
end
end F5
set_option maxRecDepth 100000
set_option maxHeartbeats 8000000
namespace F5
open PySem L2 Evl GP HR SC SetM SetH RQ
theorem WV.kp {b : Addr} {H H' : Hp} {r pl tr mo : Addr} {us : List V} {ls : List Lit} {ts ms : List Str} (W : WV b H r pl tr mo us ls ts ms) (k : Kp b H H') (X : Bx b H) : WV b H' r pl tr mo us ls ts ms :=
  { W with r_ := let ⟨rg, h⟩ := W.r_; ⟨rg, k.k _ _ W.rb h⟩, pl_ := k.k _ _ W.pb W.pl_, L := W.L.tp (k.tp X), T := W.T.kp k, M := W.M.kp k }
theorem WV.pv {b : Addr} {H : Hp} {r pl tr mo : Addr} {us : List V} {ls : List Lit} {ts ms : List Str} (W : WV b H r pl tr mo us ls ts ms) : PV b H pl us ls ts ms := ⟨W.pl_, W.pb, W.L, W.ok, W.one, W.few, W.T.ok, W.M.ok⟩
theorem RV.put {b : Addr} {H H' : Hp} {p q t : Addr} {us : List V} {ls : List Lit} {ts ms : List Str} {n : Nat} {l : Lit} (R : RV b H p us ls ts ms 5) (k : Tp H H') (nq : q ≠ b) (hn : n ≤ us.length) (hq : H' q = some (.lst (us.take n ++ .ref t :: us.drop n))) (ht : H' t = some (.tup (litV l))) (ok : PL ts ms 3 l) : RV b H' q (us.take n ++ .ref t :: us.drop n) (ls.take n ++ l :: ls.drop n) ts ms 6 := by
  have L := R.L.tp k
  have ll := R.L.len
  have f := R.few
  refine ⟨hq, nq, ?_, fun z hz => ?_, by rw [List.length_append, List.length_cons, List.length_take, List.length_drop]; omega⟩
  · have e1 : us.take n ++ V.ref t :: us.drop n = us.take n ++ ([V.ref t] ++ us.drop n) := rfl
    have e2 : ls.take n ++ l :: ls.drop n = ls.take n ++ ([l] ++ ls.drop n) := rfl
    rw [e1, e2]
    refine (L.take n).app ((Lits.one ht).app ⟨by rw [List.length_drop, List.length_drop, L.len], fun i m h => ?_⟩)
    rw [List.getElem?_drop] at h ⊢
    exact L.at_ _ m h
  · rcases List.mem_append.mp hz with hz | hz
    · exact R.ok z (List.mem_of_mem_take hz)
    · rcases List.mem_cons.mp hz with rfl | hz
      · exact ok
      · exact R.ok z (List.mem_of_mem_drop hz)
theorem RV.up {b : Addr} {H : Hp} {p : Addr} {us : List V} {ls : List Lit} {ts ms : List Str} {n m : Nat} (R : RV b H p us ls ts ms n) (h : n ≤ m) : RV b H p us ls ts ms m := { R with few := Nat.le_trans R.few h }
theorem RV.dl {b : Addr} {H : Hp} {p : Addr} {us : List V} {ls : List Lit} {ts ms : List Str} (R : RV b H p us ls ts ms 6) (nt : ∀ z ∈ ts, isNameS z = true) (nm : ∀ z ∈ ms, isNameS z = true) : DL H p us ls ms := ⟨R.at_, R.L, fun l hl => (R.ok l hl).ok nt nm (by decide), Nat.le_trans R.few (by decide), fun l hl z hz => by
  rcases R.ok l hl with ⟨f, x, rfl, _⟩ | ⟨x, y, k, rfl, hx, hy, _⟩
  · simp [namesOf] at hz
  · simp only [namesOf, List.mem_cons, List.not_mem_nil, or_false] at hz
    rcases hz with rfl | rfl
    · exact hx
    · exact hy⟩
theorem rd_inL {K : PySem.W.Frag} {H : Hp} {x y : Addr} {l : Lit} {Q : VK} {us : List V} {ls : List Lit} (hx : H x = some (.tup (litV l))) (ol : LitOk l) (hp : H y = some (.lst us)) (L : Lits H us ls) (ok : ∀ l ∈ ls, LitOk l) (q : Q (.bl (decide (l ∈ ls))) H) : rInD K (.ref x) (.ref y) H Q :=
  ⟨_, _, lit_dp (SqT.of hx), .lst (SqL.of hp) L.dp, (sh_lit ol).sh (by decide), (Sh.list (sh_lits ok)).sh (by decide), by rw [lit_any]; exact q⟩
def spLaw (K : PySem.W.Frag) : Sp := fun vs H Q _ => ∃ (a : Addr) (ns : List Int), vs = [.ref a] ∧ SqL K H a (ns.map V.int) ∧ ∀ H', Q (.bl true) H'
section
variable {P : Program} {w : World} {K : PySem.W.Frag} {mg : Str → Option Value} {base : Heap} {a : Ad} {d : Fd} {fL fC fU fP : Addr}
theorem refs_of {H : Hp} {ms : List Str} : ∀ {acc : List V}, (∀ (i : Nat) (v : V), acc[i]? = some v → ∃ a, v = .ref a ∧ RowV H a ms) → ∃ rv : List Addr, acc = rv.map V.ref ∧ ∀ v ∈ rv, RowV H v ms
  | [], _ => ⟨[], rfl, fun _ h => absurd h List.not_mem_nil⟩
  | v :: acc, A => by
    obtain ⟨a, e, r⟩ := A 0 v rfl
    obtain ⟨rv, e2, rs⟩ := refs_of (acc := acc) fun i v h => A (i + 1) v h
    refine ⟨a :: rv, by rw [e, e2]; rfl, fun z hz => ?_⟩
    rcases List.mem_cons.mp hz with rfl | hz
    · exact r
    · exact rs z hz
theorem ok_law (T : TX K mg a) (D : FDS K a d) (R : ER K mg P a fL fC fU fP) (C : ECS K a) : FnG P w K mg base 10 a.a_law d.a_law ["script"] (spLaw K) := by
  have G__law_box : FnOk P w K mg base CX0 1 a.a_law_box d.a_law_box ["script"] (spBox K) := ok_law_box T D
  have G__law_take : FnOk P w K mg base CX0 1 a.a_law_take d.a_law_take ["box", "size"] spTake := ok_law_take T D
  have G__law_world : FnOk P w K mg base CX0 4 a.a_law_world d.a_law_world ["box"] spWorld := ok_law_world T D
  have G__law_drawn : FnOk P w K mg base CX0 3 a.a_law_drawn d.a_law_drawn ["box", "pool"] spDrawn := ok_law_drawn T D
  have G__law_some : FnOk P w K mg base CX0 2 a.a_law_some d.a_law_some ["box", "pool"] spSome := ok_law_some T D
  have G__law_put : FnOk P w K mg base CX0 2 a.a_law_put d.a_law_put ["box", "row", "one"] spPut := ok_law_put T D
  have G__law_comp : FnOk P w K mg base CX0 1 a.a_law_comp d.a_law_comp ["literal"] spOpp := ok_law_comp T D
  have G__law_values : FnOk P w K mg base CX0 3 a.a_law_values d.a_law_values ["box", "truths", "moments"] spValues := ok_law_values T D
  have G__law_pivots : FnOk P w K mg base CX0 3 a.a_law_pivots d.a_law_pivots ["box", "pool", "first", "second"] spPivots := ok_law_pivots T D
  have G__law_right : FnOk P w K mg base CX0 9 a.a_law_right d.a_law_right ["first", "pivot", "second", "rows"] spRight := ok_law_right T D R C
  have G__law_refused : FnG P w K mg base 9 a.a_law_refused d.a_law_refused ["box", "first", "pivot", "second"] spRefused := ok_law_refused T D R C
  refine okG D.F_law sc_law (fun vs H Q E h => ?_) (fun cdv A outer s H vs Q E hr gd h => ?_)
  · obtain ⟨a, ns, rfl, _⟩ := h
    rfl
  · obtain ⟨a0, ns, rfl, ha, fin⟩ := h
    refine ⟨_, (pss_cons (ps_set (i := 1) sc_law.nd rfl (Or.inr rfl) (pe_call G__law_box (hr.mono (by decide)) rfl T.f__law_box T.k__law_box D.B__law_box .nil pass0 (pa_cons (pv 0) pa_nil)))
        (pss_cons (ps_set (i := 2) sc_law.nd rfl (Or.inr rfl) (pe_call G__law_world (hr.mono (by decide)) rfl T.f__law_world T.k__law_world D.B__law_world .nil pass0 (pa_cons (pv 1) pa_nil)))
        (pss_cons (ps_set (i := 3) sc_law.nd rfl (Or.inl rfl) (pe_ix (ix_listK (K := K)) (pv 2) pe_int (fun _ _ => rfl)))
        (pss_cons (ps_set (i := 4) sc_law.nd rfl (Or.inl rfl) (pe_call G__law_drawn (hr.mono (by decide)) rfl T.f__law_drawn T.k__law_drawn D.B__law_drawn .nil pass0 (pa_cons (pv 1) (pa_cons (pv 3) pa_nil))))
        (pss_cons (ps_set (i := 5) sc_law.nd rfl (Or.inl rfl) (pe_call G__law_drawn (hr.mono (by decide)) rfl T.f__law_drawn T.k__law_drawn D.B__law_drawn .nil pass0 (pa_cons (pv 1) (pa_cons (pv 3) pa_nil))))
        (Evl.pss_cut (ps_if (pt_cmpR op_gt (pe_call G__law_take (hr.mono (by decide)) rfl T.f__law_take T.k__law_take D.B__law_take .nil pass0 (pa_cons (pv 1) (pa_cons pe_int pa_nil))) pe_int (nomark _)) (pss_cons (ps_set (i := 6) sc_law.nd rfl (Or.inl rfl) (pe_call G__law_some (hr.mono (by decide)) rfl T.f__law_some T.k__law_some D.B__law_some .nil pass0 (pa_cons (pv 1) (pa_cons (pv 3) pa_nil))))
        (pss_cons (ps_set (i := 4) sc_law.nd rfl (Or.inl rfl) (pe_call G__law_put (hr.mono (by decide)) rfl T.f__law_put T.k__law_put D.B__law_put .nil pass0 (pa_cons (pv 1) (pa_cons (pv 4) (pa_cons (pv 6) pa_nil)))))
        (pss_one (ps_set (i := 5) sc_law.nd rfl (Or.inl rfl) (pe_call G__law_put (hr.mono (by decide)) rfl T.f__law_put T.k__law_put D.B__law_put .nil pass0 (pa_cons (pv 1) (pa_cons (pv 5) (pa_cons (pe_call G__law_comp (hr.mono (by decide)) rfl T.f__law_comp T.k__law_comp D.B__law_comp .nil pass0 (pa_cons (pv 6) pa_nil)) pa_nil)))))))) pss_nil)
        (pss_cons (ps_setLc (i := 7) (own := [("k", 10)]) (g := gName 10) (tt := tYes) rfl sc_law.nd rfl rfl (sw_true rfl rfl rfl (by decide +kernel)) (pi_range1 rfl T.b_range (pa_cons pe_int pa_nil)) (blkOk_by (N := ["script", "box", "world", "pool", "first", "second", "one", "rows", "pivots", "pivot", "k"]) (sc := defScope s_law) (by decide +kernel)) (fun _ _ _ _ _ => (pg_name (i := 10) sc_law.nd rfl (Or.inl rfl))) (fun _ _ _ _ _ => pts_nil) (fun _ _ _ _ _ => (pe_call G__law_values (hr.mono (by decide)) rfl T.f__law_values T.k__law_values D.B__law_values .nil pass0 (pa_cons (pv 1) (pa_cons (pe_ix (ix_listK (K := K)) (pv 2) pe_int (fun _ _ => rfl)) (pa_cons (pe_ix (ix_listK (K := K)) (pv 2) pe_int (fun _ _ => rfl)) pa_nil))))))
        (pss_cons (ps_set (i := 8) sc_law.nd rfl (Or.inl rfl) (pe_call G__law_pivots (hr.mono (by decide)) rfl T.f__law_pivots T.k__law_pivots D.B__law_pivots .nil pass0 (pa_cons (pv 1) (pa_cons (pv 3) (pa_cons (pv 4) (pa_cons (pv 5) pa_nil))))))
        (pss_cons (ps_for PassesOwn.never rfl (pi_list (pv 8)) (pg_name (i := 9) sc_law.nd rfl (Or.inl rfl)) (pss_cons (ps_if (pt_not (pt_val (pe_call G__law_right (hr.mono (by decide)) rfl T.f__law_right T.k__law_right D.B__law_right .nil pass0 (pa_cons (pv 4) (pa_cons (pv 9) (pa_cons (pv 5) (pa_cons (pv 7) pa_nil))))))) (pss_one (ps_ret pe_bl)) pss_nil)
        (pss_one (ps_if (PW.pt (pw_and (pt_cmpR (op_inD (hu65 hr)) (pv 9) (pv 5) rfl) (pw_and1 (pt_not (pt_val (pe_call G__law_right (hr.mono (by decide)) rfl T.f__law_right T.k__law_right D.B__law_right .nil pass0 (pa_cons (pv 5) (pa_cons (pv 9) (pa_cons (pv 4) (pa_cons (pv 7) pa_nil)))))))))) (pss_one (ps_ret pe_bl)) pss_nil))))
        (pss_one (ps_ret (pe_callG G__law_refused (hr.mono (by decide)) gd rfl T.f__law_refused T.k__law_refused D.B__law_refused pass0 (pa_cons (pv 1) (pa_cons (pv 4) (pa_cons (pe_ix (ix_listK (K := K)) (pv 8) (pe_call G__law_take (hr.mono (by decide)) rfl T.f__law_take T.k__law_take D.B__law_take .nil pass0 (pa_cons (pv 1) (pa_cons (pe_callB call_len_seq (by rfl) T.b_len (by decide +kernel) (pa_cons (pv 8) pa_nil)) pa_nil))) (fun _ _ => rfl)) (pa_cons (pv 5) pa_nil)))))))))))))))), ?_⟩
    have big : 1000 ≤ sizeLine := by decide
    refine ⟨_, rfl, a0, ns, rfl, ha, fun b H1 e1 nb X1 => ?_⟩
    refine ⟨_, rfl, b, rfl, X1, fun wo pl tr mo us ls ts ms H2 k2 X2 W2 => ?_⟩
    obtain ⟨rg, hr2⟩ := W2.r_
    refine ⟨_, rfl, wo, _, 1, _, rfl, rfl, SqL.of hr2, at_lit (n := 1) rfl rfl, ?_⟩
    refine ⟨_, rfl, _, rfl, b, pl, us, ls, ts, ms, rfl, X2, W2.pv, fun p us1 ls1 H3 k3 X3 R3 => ?_⟩
    have W3 := W2.kp k3 X2
    refine ⟨_, rfl, _, rfl, b, pl, us, ls, ts, ms, rfl, X3, W3.pv, fun q us2 ls2 H4 k4 X4 R4 => ?_⟩
    have W4 := W3.kp k4 X3
    have R34 := R3.kp k4 X3
    refine ⟨fun σ' H' => ∃ (p q : Addr) (us1 us2 : List V) (ls1 ls2 : List Lit) (o6 : Option V), σ' = [some (.ref a0), some (.ref b), some (.ref wo), some (.ref pl), some (.ref p), some (.ref q), o6, none, none, none, none] ∧ Bx b H' ∧ WV b H' wo pl tr mo us ls ts ms ∧ RV b H' p us1 ls1 ts ms 6 ∧ RV b H' q us2 ls2 ts ms 6, ?_, ?_⟩
    · refine ⟨_, rfl, b, 4, rfl, X4, by decide, by decide +kernel, fun d5 H5 k5 X5 p0 p1 => ⟨_, _, rfl, rfl, _, rfl, ite2 (fun g => ?_) (fun g => ⟨p, q, us1, us2, ls1, ls2, none, rfl, X5, W4.kp k5 X4, (R34.kp k5 X4).up (by decide), (R4.kp k5 X4).up (by decide)⟩)⟩⟩
      have W5 := W4.kp k5 X4
      have R35 := R34.kp k5 X4
      have R45 := R4.kp k5 X4
      refine ⟨_, rfl, _, rfl, b, pl, us, ls, ts, ms, rfl, X5, W5.pv, fun t l H6 k6 X6 ht pl2 => ?_⟩
      have R36 := R35.kp k6 X5
      have R46 := R45.kp k6 X5
      have W6 := W5.kp k6 X5
      refine ⟨_, rfl, _, rfl, _, rfl, b, p, .ref t, us1, rfl, X6, R36.ne, R36.at_, by rw [R36.L.len]; exact Nat.le_trans R36.few (by decide), fun n p' H7 k7 X7 hn np' hp' => ?_⟩
      have Rp := R36.put (k7.tp X6) np' hn hp' ((k7.tp X6).tup ht) (pl2.mono (by decide))
      have R47 := R46.kp k7 X6
      have W7 := W6.kp k7 X6
      have ht7 := (k7.tp X6).tup ht
      refine ⟨_, rfl, _, rfl, _, rfl, t, l, rfl, ht7, pl2.ok W7.T.ok W7.M.ok (by decide), fun t2 H8 e8 _ ht2 => ?_⟩
      have k8 := Kp.ex (b := b) e8
      have X8 := X7.ex e8
      have R48 := R47.kp k8 X7
      refine ⟨b, q, .ref t2, us2, rfl, X8, R48.ne, R48.at_, by rw [R48.L.len]; exact Nat.le_trans R48.few (by decide), fun n2 q' H9 k9 X9 hn2 nq' hq' => ?_⟩
      have Rq := R48.put (k9.tp X8) nq' hn2 hq' ((k9.tp X8).tup ht2) pl2.opp
      exact ⟨p', q', _, _, _, _, _, rfl, X9, (W7.kp k8 X7).kp k9 X8, (Rp.kp k8 X7).kp k9 X8, Rq⟩
    · clear hr2 R34 R4 R3 W4 W3 W2 k4 k3 k2
      rintro σ' H5 ⟨p, q, us1, us2, ls1, ls2, o6, rfl, X5, W5, R1, R2⟩
      have nt := W5.T.ok
      have nm := W5.M.ok
      obtain ⟨rg, hr5⟩ := W5.r_
      refine ⟨3, rfl, by decide, by decide, fun F1 hF1 => lcK (R := fun _ H v => ∃ a, v = .ref a ∧ RowV H a ms) (walk_range (lo := 0) (n := 3)) (fun _ _ _ _ h => h.1) (fun _ _ _ _ tp ⟨a, h1, h2⟩ => ⟨a, h1, h2.tp tp⟩) X5 (by show 3 < sizeLine; decide) (fun _ _ => trivial) (fun _ => rfl) (fun i x H' hi hx k6 X6 Q' q' => ?_) hF1 fun H6 acc k6 X6 hF6 la6 A6 => ?_⟩
      · have W6 := W5.kp k6 X5
        have hr6 := k6.k _ _ W5.rb hr5
        exact ⟨_, rfl, _, rfl, wo, _, 2, _, rfl, rfl, SqL.of hr6, at_lit (n := 2) rfl rfl, _, rfl, wo, _, 3, _, rfl, rfl, SqL.of hr6, at_lit (n := 3) rfl rfl, b, tr, mo, ts, ms, rfl, X6, W6.T, W6.M, fun v H7 k7 X7 rv => q' _ H7 k7 X7 ⟨v, rfl, rv⟩⟩
      have nFb := X5.ne hF1
      obtain ⟨rv, rfl, rvs⟩ := refs_of A6
      rw [List.length_map] at la6
      have W6 := W5.kp k6 X5
      have R16 := R1.kp k6 X5
      have R26 := R2.kp k6 X5
      refine ⟨_, rfl, _, rfl, _, rfl, _, rfl, b, pl, p, q, us, us1, us2, ls, ls1, ls2, ts, ms, rfl, X6, W6.pv, R16, R26, fun pv vs' pl' H7 k7 X7 npv hpv LP pb one few => ?_⟩
      have W7 := W6.kp k7 X6
      have R17 := R16.kp k7 X6
      have R27 := R26.kp k7 X6
      have RW7 : RWS H7 F1 rv ms := ⟨k7.k _ _ nFb hF6, by omega, fun v hv => (rvs v hv).tp (k7.tp X6)⟩
      have D1 := R17.dl nt nm
      have D2 := R27.dl nt nm
      have lvs := LP.len
      refine ⟨_, rfl, pv, rfl, ⟨_, SqL.of hpv⟩, for_it (walk_list (xs := vs')) (fun i σ H' => ∃ o9, σ = [some (.ref a0), some (.ref b), some (.ref wo), some (.ref pl), some (.ref p), some (.ref q), o6, some (.ref F1), some (.ref pv), o9, none] ∧ Ex H7 H') ⟨none, rfl, Ex.refl _⟩ (fun i σ H' _ ⟨_, _, e⟩ => SqL.of (e _ _ hpv)) ?_ ?_⟩
      · rintro i v σ H8 H8' hi ⟨o9, rfl, e8⟩ ⟨rfl, hv⟩
        obtain ⟨t, l, rfl, hl, ht⟩ := LP.get hv
        have pbl := pb l (List.mem_of_getElem? hl)
        have okl : LitOk l := pbl.ok (by decide)
        have oko : LitOk (oppL l) := pbl.opp.ok (by decide)
        refine ⟨_, rfl, _, rfl, _, rfl, _, rfl, p, t, q, F1, us1, us2, ls1, ls2, l, rv, ms, rfl, D1.ex e8, e8 _ _ ht, okl, oko, D2.ex e8, RW7.ex e8, fun H9 e9 => ⟨_, rfl, iteF' rfl ?_⟩⟩
        have e89 := e8.trans e9
        refine ⟨_, rfl, _, rfl, rd_inL (e89 _ _ ht) okl (e89 _ _ D2.at_) (D2.L.ex e89) D2.ok ⟨_, rfl, ite2 (fun g => ?_) (fun g => ?_)⟩⟩
        · exact ⟨_, rfl, _, rfl, _, rfl, _, rfl, q, t, p, F1, us2, us1, ls2, ls1, l, rv, ms, rfl, D2.ex e89, e89 _ _ ht, okl, oko, D1.ex e89, RW7.ex e89, fun H10 e10 => ⟨_, rfl, iteF' rfl ⟨_, rfl, e89.trans e10⟩⟩⟩
        · exact ⟨_, rfl, e89⟩
      · rintro σ H8 ⟨o9, rfl, e8⟩
        have kx := Kp.ex (b := b) e8
        have X8 := X7.ex e8
        refine ⟨_, rfl, _, rfl, _, rfl, _, rfl, _, rfl, pv, _, rfl, .inl (SqL.of (e8 _ _ hpv)), b, _, rfl, X8, by omega, small_size' (by omega), fun d9 H9 k9 X9 p0 p1 => ?_⟩
        have hi : d9.toNat < pl'.length := by omega
        have L9 := (LP.ex e8).tp (k9.tp X8)
        obtain ⟨t, h1, h2⟩ := L9.at_ d9.toNat pl'[d9.toNat] (List.getElem?_eq_getElem hi)
        have pbl := pb _ (List.getElem_mem hi)
        refine ⟨pv, _, _, _, rfl, rfl, SqL.of (k9.k _ _ npv (e8 _ _ hpv)), at_lit (n := d9.toNat) (by omega) h1, _, rfl, b, p, t, q, us1, us2, ls1, ls2, _, ts, ms, rfl, X9, (R17.kp kx X7).kp k9 X8, D1.ok, h2, pbl.ok (by decide), pbl.opp.ok (by decide), (R27.kp kx X7).kp k9 X8, D2.ok, fun H' => fin H'⟩
end
end F5
set_option maxRecDepth 100000
set_option maxHeartbeats 4000000
namespace F5
open PySem L2 Evl GP HR
theorem kit_me {K : PySem.W.Frag} {C : Addr} : PySem.W.kitOne K (.ref C) (.ref C) = some true := by
  unfold PySem.W.kitOne
  rw [if_pos (beq_self_eq_true _)]
theorem kit_ref {K : PySem.W.Frag} {C D : Addr} {v : Bool} (h1 : PySem.W.subIn K (.ref C) (.ref C) = some true) (h2 : PySem.W.subIn K (.ref C) (.ref D) = some v) (hd : PySem.W.hasDictIn K D = true) (ht : PySem.W.typeIn K (.ref D) = some (.type "type")) : PySem.W.kitOne K (.ref C) (.ref D) = some v := by
  by_cases ne : C = D
  · subst ne
    obtain rfl : true = v := Option.some.inj (h1.symm.trans h2)
    exact kit_me
  · obtain ⟨cd, hc, _⟩ := PySem.W.any_some hd
    have e2 : ((PySem.W.clsIn K D).isSome && PySem.W.typeIn K (.ref D) == some (.type "type")) = true := by rw [hc, ht] <;> rfl
    unfold PySem.W.kitOne
    rw [if_neg (fun z => ne (Value.ref.inj (eq_of_beq z)))]
    show (if ((PySem.W.clsIn K D).isSome && PySem.W.typeIn K (.ref D) == some (.type "type")) = true then PySem.W.subIn K (.ref C) (.ref D) else none) = some v
    rw [if_pos e2]
    exact h2
theorem kit_type {K : PySem.W.Frag} {C : Addr} {T : String} {v : Bool} (hm : PySem.W.kitMeta T = true) (h2 : PySem.W.subIn K (.ref C) (.type T) = some v) : PySem.W.kitOne K (.ref C) (.type T) = some v := by
  unfold PySem.W.kitOne
  rw [if_neg (fun z => nomatch (eq_of_beq z : Value.ref C = Value.type T))]
  show (if PySem.W.kitMeta T = true then PySem.W.subIn K (.ref C) (.type T) else none) = some v
  rw [if_pos hm]
  exact h2
theorem all_mk {l : PySem.W.OpenLaw} {w : World} {K : PySem.W.Frag} {h : Heap} {mg : Str → Option Value} {fa cR cL cC cU cP fXL fXC fXU fXP f1 f2 f3 f4 f5 f6 f7 f8 f9 f10 f11 f12 f13 f14 f15 f16 f17 f18 f19 f20 f21 f22 f23 f24 f25 f26 f27 f28 f29 f30 f31 f32 f33 f34 f35 f36 f37 f38 f39 f40 f41 : Addr} (X : K.In h) (G : h.Ns mainGlobals mg) (hfa : mg "law" = some (.ref fa))
    {od1 an1 od2 an2 od3 an3 od4 an4 od5 an5 od6 an6 od7 an7 od8 an8 od9 an9 od10 an10 od11 an11 od12 an12 od13 an13 od14 an14 od15 an15 od16 an16 od17 an17 od18 an18 od19 an19 od20 an20 od21 an21 od22 an22 od23 an23 od24 an24 od25 an25 od26 an26 od27 an27 od28 an28 od29 an29 od30 an30 od31 an31 od32 an32 od33 an33 od34 an34 od35 an35 od36 an36 od37 an37 od38 an38 od39 an39 od40 an40 od41 an41 od0L an0L od0C an0C od0U an0U od0P an0P : Option Addr} {sl1 sl2 sl3 sl4 sl5 sl6 sl7 sl8 sl9 sl10 sl11 sl12 sl13 sl14 sl15 sl16 sl17 sl18 sl19 sl20 sl21 sl22 sl23 sl24 sl25 sl26 sl27 sl28 sl29 sl30 sl31 sl32 sl33 sl34 sl35 sl36 sl37 sl38 sl39 sl40 sl41 sl0L sl0C sl0U sl0P : Array (Option Value)} {oc1 kV1 dc1 pm1 cd1 ct1 oc2 kV2 dc2 pm2 cd2 ct2 oc3 kV3 dc3 pm3 cd3 ct3 oc4 kV4 dc4 pm4 cd4 ct4 oc5 kV5 dc5 pm5 cd5 ct5 oc6 kV6 dc6 pm6 cd6 ct6 oc7 kV7 dc7 pm7 cd7 ct7 oc8 kV8 dc8 pm8 cd8 ct8 oc9 kV9 dc9 pm9 cd9 ct9 oc10 kV10 dc10 pm10 cd10 ct10 oc11 kV11 dc11 pm11 cd11 ct11 oc12 kV12 dc12 pm12 cd12 ct12 oc13 kV13 dc13 pm13 cd13 ct13 oc14 kV14 dc14 pm14 cd14 ct14 oc15 kV15 dc15 pm15 cd15 ct15 oc16 kV16 dc16 pm16 cd16 ct16 oc17 kV17 dc17 pm17 cd17 ct17 oc18 kV18 dc18 pm18 cd18 ct18 oc19 kV19 dc19 pm19 cd19 ct19 oc20 kV20 dc20 pm20 cd20 ct20 oc21 kV21 dc21 pm21 cd21 ct21 oc22 kV22 dc22 pm22 cd22 ct22 oc23 kV23 dc23 pm23 cd23 ct23 oc24 kV24 dc24 pm24 cd24 ct24 oc25 kV25 dc25 pm25 cd25 ct25 oc26 kV26 dc26 pm26 cd26 ct26 oc27 kV27 dc27 pm27 cd27 ct27 oc28 kV28 dc28 pm28 cd28 ct28 oc29 kV29 dc29 pm29 cd29 ct29 oc30 kV30 dc30 pm30 cd30 ct30 oc31 kV31 dc31 pm31 cd31 ct31 oc32 kV32 dc32 pm32 cd32 ct32 oc33 kV33 dc33 pm33 cd33 ct33 oc34 kV34 dc34 pm34 cd34 ct34 oc35 kV35 dc35 pm35 cd35 ct35 oc36 kV36 dc36 pm36 cd36 ct36 oc37 kV37 dc37 pm37 cd37 ct37 oc38 kV38 dc38 pm38 cd38 ct38 oc39 kV39 dc39 pm39 cd39 ct39 oc40 kV40 dc40 pm40 cd40 ct40 oc41 kV41 dc41 pm41 cd41 ct41 oc0L dc0L pm0L ct0L oc0C dc0C pm0C ct0C oc0U dc0U pm0U ct0U oc0P dc0P pm0P ct0P : Value}
    {nm_L q_L : Str} {NN_L : Addr} {bs_L bm_L : List Value} {sn_L : List Str} {sub_L : List Value} {ab_L : Bool} {col_L : Option Bool} {dd_L : Option Addr} {m0_L m1_L m2_L m3_L m5_L : Option Value} {cda_L cc_L : Addr}
    {cl0_L ccl_L : Value} {cld_L cdd_L : Option Addr} {csl_L ccs_L : Array (Option Value)} {rvs_L : Array Value} {file_L : Str} {tf_L : Tok}
    {nm_C q_C : Str} {NN_C : Addr} {bs_C bm_C : List Value} {sn_C : List Str} {sub_C : List Value} {ab_C : Bool} {col_C : Option Bool} {dd_C : Option Addr} {m0_C m1_C m2_C m3_C m5_C : Option Value} {cda_C cc_C : Addr}
    {cl0_C ccl_C : Value} {cld_C cdd_C : Option Addr} {csl_C ccs_C : Array (Option Value)} {rvs_C : Array Value} {file_C : Str} {tf_C : Tok}
    {nm_U q_U : Str} {NN_U : Addr} {bs_U bm_U : List Value} {sn_U : List Str} {sub_U : List Value} {ab_U : Bool} {col_U : Option Bool} {dd_U : Option Addr} {m0_U m1_U m2_U m3_U m5_U : Option Value} {cda_U cc_U : Addr}
    {cl0_U ccl_U : Value} {cld_U cdd_U : Option Addr} {csl_U ccs_U : Array (Option Value)} {rvs_U : Array Value} {file_U : Str} {tf_U : Tok}
    {nm_P q_P : Str} {NN_P : Addr} {bs_P bm_P : List Value} {sn_P : List Str} {sub_P : List Value} {ab_P : Bool} {col_P : Option Bool} {dd_P : Option Addr} {m0_P m1_P m2_P m3_P m5_P : Option Value} {cda_P cc_P : Addr}
    {cl0_P ccl_P : Value} {cld_P cdd_P : Option Addr} {csl_P ccs_P : Array (Option Value)} {rvs_P : Array Value} {file_P : Str} {tf_P : Tok}
    {tk0 tk1 tk2 : Tok}
    (a1 : PySem.W.nsIn K mainGlobals "is_name" = some (some (.ref f1)))
    (l1 : K.lookup f1 = some ⟨oc1, od1, .func (PySem.W.fnOf "is_name" "is_name" (defArgs s_is_name) (defBody s_is_name) (defScope s_is_name) .none kV1 dc1 pm1 an1 cd1 ct1), sl1⟩)
    (c1 : PySem.W.codeIn K cd1 "is_name" = true)
    (k1 : PySem.W.keepIn K (.ref f1) = true)
    (a2 : PySem.W.nsIn K mainGlobals "is_integer" = some (some (.ref f2)))
    (l2 : K.lookup f2 = some ⟨oc2, od2, .func (PySem.W.fnOf "is_integer" "is_integer" (defArgs s_is_integer) (defBody s_is_integer) (defScope s_is_integer) .none kV2 dc2 pm2 an2 cd2 ct2), sl2⟩)
    (c2 : PySem.W.codeIn K cd2 "is_integer" = true)
    (k2 : PySem.W.keepIn K (.ref f2) = true)
    (a3 : PySem.W.nsIn K mainGlobals "is_bound" = some (some (.ref f3)))
    (l3 : K.lookup f3 = some ⟨oc3, od3, .func (PySem.W.fnOf "is_bound" "is_bound" (defArgs s_is_bound) (defBody s_is_bound) (defScope s_is_bound) .none kV3 dc3 pm3 an3 cd3 ct3), sl3⟩)
    (c3 : PySem.W.codeIn K cd3 "is_bound" = true)
    (k3 : PySem.W.keepIn K (.ref f3) = true)
    (a4 : PySem.W.nsIn K mainGlobals "is_literal" = some (some (.ref f4)))
    (l4 : K.lookup f4 = some ⟨oc4, od4, .func (PySem.W.fnOf "is_literal" "is_literal" (defArgs s_is_literal) (defBody s_is_literal) (defScope s_is_literal) .none kV4 dc4 pm4 an4 cd4 ct4), sl4⟩)
    (c4 : PySem.W.codeIn K cd4 "is_literal" = true)
    (k4 : PySem.W.keepIn K (.ref f4) = true)
    (a5 : PySem.W.nsIn K mainGlobals "check_literal" = some (some (.ref f5)))
    (l5 : K.lookup f5 = some ⟨oc5, od5, .func (PySem.W.fnOf "check_literal" "check_literal" (defArgs s_check_literal) (defBody s_check_literal) (defScope s_check_literal) .none kV5 dc5 pm5 an5 cd5 ct5), sl5⟩)
    (c5 : PySem.W.codeIn K cd5 "check_literal" = true)
    (k5 : PySem.W.keepIn K (.ref f5) = true)
    (a6 : PySem.W.nsIn K mainGlobals "complement" = some (some (.ref f6)))
    (l6 : K.lookup f6 = some ⟨oc6, od6, .func (PySem.W.fnOf "complement" "complement" (defArgs s_complement) (defBody s_complement) (defScope s_complement) .none kV6 dc6 pm6 an6 cd6 ct6), sl6⟩)
    (c6 : PySem.W.codeIn K cd6 "complement" = true)
    (k6 : PySem.W.keepIn K (.ref f6) = true)
    (a7 : PySem.W.nsIn K mainGlobals "opposite" = some (some (.ref f7)))
    (l7 : K.lookup f7 = some ⟨oc7, od7, .func (PySem.W.fnOf "opposite" "opposite" (defArgs s_opposite) (defBody s_opposite) (defScope s_opposite) .none kV7 dc7 pm7 an7 cd7 ct7), sl7⟩)
    (c7 : PySem.W.codeIn K cd7 "opposite" = true)
    (k7 : PySem.W.keepIn K (.ref f7) = true)
    (a8 : PySem.W.nsIn K mainGlobals "moments_of" = some (some (.ref f8)))
    (l8 : K.lookup f8 = some ⟨oc8, od8, .func (PySem.W.fnOf "moments_of" "moments_of" (defArgs s_moments_of) (defBody s_moments_of) (defScope s_moments_of) .none kV8 dc8 pm8 an8 cd8 ct8), sl8⟩)
    (c8 : PySem.W.codeIn K cd8 "moments_of" = true)
    (k8 : PySem.W.keepIn K (.ref f8) = true)
    (a9 : PySem.W.nsIn K mainGlobals "clause_of" = some (some (.ref f9)))
    (l9 : K.lookup f9 = some ⟨oc9, od9, .func (PySem.W.fnOf "clause_of" "clause_of" (defArgs s_clause_of) (defBody s_clause_of) (defScope s_clause_of) .none kV9 dc9 pm9 an9 cd9 ct9), sl9⟩)
    (c9 : PySem.W.codeIn K cd9 "clause_of" = true)
    (k9 : PySem.W.keepIn K (.ref f9) = true)
    (a10 : PySem.W.nsIn K mainGlobals "normal_form" = some (some (.ref f10)))
    (l10 : K.lookup f10 = some ⟨oc10, od10, .func (PySem.W.fnOf "normal_form" "normal_form" (defArgs s_normal_form) (defBody s_normal_form) (defScope s_normal_form) .none kV10 dc10 pm10 an10 cd10 ct10), sl10⟩)
    (c10 : PySem.W.codeIn K cd10 "normal_form" = true)
    (k10 : PySem.W.keepIn K (.ref f10) = true)
    (a11 : PySem.W.nsIn K mainGlobals "check_listed" = some (some (.ref f11)))
    (l11 : K.lookup f11 = some ⟨oc11, od11, .func (PySem.W.fnOf "check_listed" "check_listed" (defArgs s_check_listed) (defBody s_check_listed) (defScope s_check_listed) .none kV11 dc11 pm11 an11 cd11 ct11), sl11⟩)
    (c11 : PySem.W.codeIn K cd11 "check_listed" = true)
    (k11 : PySem.W.keepIn K (.ref f11) = true)
    (a12 : PySem.W.nsIn K mainGlobals "literal_stands" = some (some (.ref f12)))
    (l12 : K.lookup f12 = some ⟨oc12, od12, .func (PySem.W.fnOf "literal_stands" "literal_stands" (defArgs s_literal_stands) (defBody s_literal_stands) (defScope s_literal_stands) .none kV12 dc12 pm12 an12 cd12 ct12), sl12⟩)
    (c12 : PySem.W.codeIn K cd12 "literal_stands" = true)
    (k12 : PySem.W.keepIn K (.ref f12) = true)
    (a13 : PySem.W.nsIn K mainGlobals "clauses_stand" = some (some (.ref f13)))
    (l13 : K.lookup f13 = some ⟨oc13, od13, .func (PySem.W.fnOf "clauses_stand" "clauses_stand" (defArgs s_clauses_stand) (defBody s_clauses_stand) (defScope s_clauses_stand) .none kV13 dc13 pm13 an13 cd13 ct13), sl13⟩)
    (c13 : PySem.W.codeIn K cd13 "clauses_stand" = true)
    (k13 : PySem.W.keepIn K (.ref f13) = true)
    (a14 : PySem.W.nsIn K mainGlobals "clause_holds" = some (some (.ref f14)))
    (l14 : K.lookup f14 = some ⟨oc14, od14, .func (PySem.W.fnOf "clause_holds" "clause_holds" (defArgs s_clause_holds) (defBody s_clause_holds) (defScope s_clause_holds) .none kV14 dc14 pm14 an14 cd14 ct14), sl14⟩)
    (c14 : PySem.W.codeIn K cd14 "clause_holds" = true)
    (k14 : PySem.W.keepIn K (.ref f14) = true)
    (a15 : PySem.W.nsIn K mainGlobals "resolve" = some (some (.ref f15)))
    (l15 : K.lookup f15 = some ⟨oc15, od15, .func (PySem.W.fnOf "resolve" "resolve" (defArgs s_resolve) (defBody s_resolve) (defScope s_resolve) .none kV15 dc15 pm15 an15 cd15 ct15), sl15⟩)
    (c15 : PySem.W.codeIn K cd15 "resolve" = true)
    (k15 : PySem.W.keepIn K (.ref f15) = true)
    (a16 : PySem.W.nsIn K mainGlobals "resolvent" = some (some (.ref f16)))
    (l16 : K.lookup f16 = some ⟨oc16, od16, .func (PySem.W.fnOf "resolvent" "resolvent" (defArgs s_resolvent) (defBody s_resolvent) (defScope s_resolvent) .none kV16 dc16 pm16 an16 cd16 ct16), sl16⟩)
    (c16 : PySem.W.codeIn K cd16 "resolvent" = true)
    (k16 : PySem.W.keepIn K (.ref f16) = true)
    (a17 : PySem.W.nsIn K mainGlobals "_law_box" = some (some (.ref f17)))
    (l17 : K.lookup f17 = some ⟨oc17, od17, .func (PySem.W.fnOf "_law_box" "_law_box" (defArgs s_law_box) (defBody s_law_box) (defScope s_law_box) .none kV17 dc17 pm17 an17 cd17 ct17), sl17⟩)
    (c17 : PySem.W.codeIn K cd17 "_law_box" = true)
    (k17 : PySem.W.keepIn K (.ref f17) = true)
    (a18 : PySem.W.nsIn K mainGlobals "_law_take" = some (some (.ref f18)))
    (l18 : K.lookup f18 = some ⟨oc18, od18, .func (PySem.W.fnOf "_law_take" "_law_take" (defArgs s_law_take) (defBody s_law_take) (defScope s_law_take) .none kV18 dc18 pm18 an18 cd18 ct18), sl18⟩)
    (c18 : PySem.W.codeIn K cd18 "_law_take" = true)
    (k18 : PySem.W.keepIn K (.ref f18) = true)
    (a19 : PySem.W.nsIn K mainGlobals "_law_number" = some (some (.ref f19)))
    (l19 : K.lookup f19 = some ⟨oc19, od19, .func (PySem.W.fnOf "_law_number" "_law_number" (defArgs s_law_number) (defBody s_law_number) (defScope s_law_number) .none kV19 dc19 pm19 an19 cd19 ct19), sl19⟩)
    (c19 : PySem.W.codeIn K cd19 "_law_number" = true)
    (k19 : PySem.W.keepIn K (.ref f19) = true)
    (a20 : PySem.W.nsIn K mainGlobals "_law_name" = some (some (.ref f20)))
    (l20 : K.lookup f20 = some ⟨oc20, od20, .func (PySem.W.fnOf "_law_name" "_law_name" (defArgs s_law_name) (defBody s_law_name) (defScope s_law_name) .none kV20 dc20 pm20 an20 cd20 ct20), sl20⟩)
    (c20 : PySem.W.codeIn K cd20 "_law_name" = true)
    (k20 : PySem.W.keepIn K (.ref f20) = true)
    (a21 : PySem.W.nsIn K mainGlobals "_law_comp" = some (some (.ref f21)))
    (l21 : K.lookup f21 = some ⟨oc21, od21, .func (PySem.W.fnOf "_law_comp" "_law_comp" (defArgs s_law_comp) (defBody s_law_comp) (defScope s_law_comp) .none kV21 dc21 pm21 an21 cd21 ct21), sl21⟩)
    (c21 : PySem.W.codeIn K cd21 "_law_comp" = true)
    (k21 : PySem.W.keepIn K (.ref f21) = true)
    (a22 : PySem.W.nsIn K mainGlobals "_law_normal" = some (some (.ref f22)))
    (l22 : K.lookup f22 = some ⟨oc22, od22, .func (PySem.W.fnOf "_law_normal" "_law_normal" (defArgs s_law_normal) (defBody s_law_normal) (defScope s_law_normal) .none kV22 dc22 pm22 an22 cd22 ct22), sl22⟩)
    (c22 : PySem.W.codeIn K cd22 "_law_normal" = true)
    (k22 : PySem.W.keepIn K (.ref f22) = true)
    (a23 : PySem.W.nsIn K mainGlobals "_law_resolved" = some (some (.ref f23)))
    (l23 : K.lookup f23 = some ⟨oc23, od23, .func (PySem.W.fnOf "_law_resolved" "_law_resolved" (defArgs s_law_resolved) (defBody s_law_resolved) (defScope s_law_resolved) .none kV23 dc23 pm23 an23 cd23 ct23), sl23⟩)
    (c23 : PySem.W.codeIn K cd23 "_law_resolved" = true)
    (k23 : PySem.W.keepIn K (.ref f23) = true)
    (a24 : PySem.W.nsIn K mainGlobals "_law_ring" = some (some (.ref f24)))
    (l24 : K.lookup f24 = some ⟨oc24, od24, .func (PySem.W.fnOf "_law_ring" "_law_ring" (defArgs s_law_ring) (defBody s_law_ring) (defScope s_law_ring) .none kV24 dc24 pm24 an24 cd24 ct24), sl24⟩)
    (c24 : PySem.W.codeIn K cd24 "_law_ring" = true)
    (k24 : PySem.W.keepIn K (.ref f24) = true)
    (a25 : PySem.W.nsIn K mainGlobals "_law_near" = some (some (.ref f25)))
    (l25 : K.lookup f25 = some ⟨oc25, od25, .func (PySem.W.fnOf "_law_near" "_law_near" (defArgs s_law_near) (defBody s_law_near) (defScope s_law_near) .none kV25 dc25 pm25 an25 cd25 ct25), sl25⟩)
    (c25 : PySem.W.codeIn K cd25 "_law_near" = true)
    (k25 : PySem.W.keepIn K (.ref f25) = true)
    (a26 : PySem.W.nsIn K mainGlobals "_law_world" = some (some (.ref f26)))
    (l26 : K.lookup f26 = some ⟨oc26, od26, .func (PySem.W.fnOf "_law_world" "_law_world" (defArgs s_law_world) (defBody s_law_world) (defScope s_law_world) .none kV26 dc26 pm26 an26 cd26 ct26), sl26⟩)
    (c26 : PySem.W.codeIn K cd26 "_law_world" = true)
    (k26 : PySem.W.keepIn K (.ref f26) = true)
    (a27 : PySem.W.nsIn K mainGlobals "_law_some" = some (some (.ref f27)))
    (l27 : K.lookup f27 = some ⟨oc27, od27, .func (PySem.W.fnOf "_law_some" "_law_some" (defArgs s_law_some) (defBody s_law_some) (defScope s_law_some) .none kV27 dc27 pm27 an27 cd27 ct27), sl27⟩)
    (c27 : PySem.W.codeIn K cd27 "_law_some" = true)
    (k27 : PySem.W.keepIn K (.ref f27) = true)
    (a28 : PySem.W.nsIn K mainGlobals "_law_drawn" = some (some (.ref f28)))
    (l28 : K.lookup f28 = some ⟨oc28, od28, .func (PySem.W.fnOf "_law_drawn" "_law_drawn" (defArgs s_law_drawn) (defBody s_law_drawn) (defScope s_law_drawn) .none kV28 dc28 pm28 an28 cd28 ct28), sl28⟩)
    (c28 : PySem.W.codeIn K cd28 "_law_drawn" = true)
    (k28 : PySem.W.keepIn K (.ref f28) = true)
    (a29 : PySem.W.nsIn K mainGlobals "_law_holds" = some (some (.ref f29)))
    (l29 : K.lookup f29 = some ⟨oc29, od29, .func (PySem.W.fnOf "_law_holds" "_law_holds" (defArgs s_law_holds) (defBody s_law_holds) (defScope s_law_holds) .none kV29 dc29 pm29 an29 cd29 ct29), sl29⟩)
    (c29 : PySem.W.codeIn K cd29 "_law_holds" = true)
    (k29 : PySem.W.keepIn K (.ref f29) = true)
    (a30 : PySem.W.nsIn K mainGlobals "_law_values" = some (some (.ref f30)))
    (l30 : K.lookup f30 = some ⟨oc30, od30, .func (PySem.W.fnOf "_law_values" "_law_values" (defArgs s_law_values) (defBody s_law_values) (defScope s_law_values) .none kV30 dc30 pm30 an30 cd30 ct30), sl30⟩)
    (c30 : PySem.W.codeIn K cd30 "_law_values" = true)
    (k30 : PySem.W.keepIn K (.ref f30) = true)
    (a31 : PySem.W.nsIn K mainGlobals "_law_exact" = some (some (.ref f31)))
    (l31 : K.lookup f31 = some ⟨oc31, od31, .func (PySem.W.fnOf "_law_exact" "_law_exact" (defArgs s_law_exact) (defBody s_law_exact) (defScope s_law_exact) .none kV31 dc31 pm31 an31 cd31 ct31), sl31⟩)
    (c31 : PySem.W.codeIn K cd31 "_law_exact" = true)
    (k31 : PySem.W.keepIn K (.ref f31) = true)
    (a32 : PySem.W.nsIn K mainGlobals "_law_put" = some (some (.ref f32)))
    (l32 : K.lookup f32 = some ⟨oc32, od32, .func (PySem.W.fnOf "_law_put" "_law_put" (defArgs s_law_put) (defBody s_law_put) (defScope s_law_put) .none kV32 dc32 pm32 an32 cd32 ct32), sl32⟩)
    (c32 : PySem.W.codeIn K cd32 "_law_put" = true)
    (k32 : PySem.W.keepIn K (.ref f32) = true)
    (a33 : PySem.W.nsIn K mainGlobals "_law_odd_literal" = some (some (.ref f33)))
    (l33 : K.lookup f33 = some ⟨oc33, od33, .func (PySem.W.fnOf "_law_odd_literal" "_law_odd_literal" (defArgs s_law_odd_literal) (defBody s_law_odd_literal) (defScope s_law_odd_literal) .none kV33 dc33 pm33 an33 cd33 ct33), sl33⟩)
    (c33 : PySem.W.codeIn K cd33 "_law_odd_literal" = true)
    (k33 : PySem.W.keepIn K (.ref f33) = true)
    (a34 : PySem.W.nsIn K mainGlobals "_law_odd_clause" = some (some (.ref f34)))
    (l34 : K.lookup f34 = some ⟨oc34, od34, .func (PySem.W.fnOf "_law_odd_clause" "_law_odd_clause" (defArgs s_law_odd_clause) (defBody s_law_odd_clause) (defScope s_law_odd_clause) .none kV34 dc34 pm34 an34 cd34 ct34), sl34⟩)
    (c34 : PySem.W.codeIn K cd34 "_law_odd_clause" = true)
    (k34 : PySem.W.keepIn K (.ref f34) = true)
    (a35 : PySem.W.nsIn K mainGlobals "_law_told" = some (some (.ref f35)))
    (l35 : K.lookup f35 = some ⟨oc35, od35, .func (PySem.W.fnOf "_law_told" "_law_told" (defArgs s_law_told) (defBody s_law_told) (defScope s_law_told) .none kV35 dc35 pm35 an35 cd35 ct35), sl35⟩)
    (c35 : PySem.W.codeIn K cd35 "_law_told" = true)
    (k35 : PySem.W.keepIn K (.ref f35) = true)
    (a36 : PySem.W.nsIn K mainGlobals "_law_pivots" = some (some (.ref f36)))
    (l36 : K.lookup f36 = some ⟨oc36, od36, .func (PySem.W.fnOf "_law_pivots" "_law_pivots" (defArgs s_law_pivots) (defBody s_law_pivots) (defScope s_law_pivots) .none kV36 dc36 pm36 an36 cd36 ct36), sl36⟩)
    (c36 : PySem.W.codeIn K cd36 "_law_pivots" = true)
    (k36 : PySem.W.keepIn K (.ref f36) = true)
    (a37 : PySem.W.nsIn K mainGlobals "_law_meets" = some (some (.ref f37)))
    (l37 : K.lookup f37 = some ⟨oc37, od37, .func (PySem.W.fnOf "_law_meets" "_law_meets" (defArgs s_law_meets) (defBody s_law_meets) (defScope s_law_meets) .none kV37 dc37 pm37 an37 cd37 ct37), sl37⟩)
    (c37 : PySem.W.codeIn K cd37 "_law_meets" = true)
    (k37 : PySem.W.keepIn K (.ref f37) = true)
    (a38 : PySem.W.nsIn K mainGlobals "_law_sound" = some (some (.ref f38)))
    (l38 : K.lookup f38 = some ⟨oc38, od38, .func (PySem.W.fnOf "_law_sound" "_law_sound" (defArgs s_law_sound) (defBody s_law_sound) (defScope s_law_sound) .none kV38 dc38 pm38 an38 cd38 ct38), sl38⟩)
    (c38 : PySem.W.codeIn K cd38 "_law_sound" = true)
    (k38 : PySem.W.keepIn K (.ref f38) = true)
    (a39 : PySem.W.nsIn K mainGlobals "_law_right" = some (some (.ref f39)))
    (l39 : K.lookup f39 = some ⟨oc39, od39, .func (PySem.W.fnOf "_law_right" "_law_right" (defArgs s_law_right) (defBody s_law_right) (defScope s_law_right) .none kV39 dc39 pm39 an39 cd39 ct39), sl39⟩)
    (c39 : PySem.W.codeIn K cd39 "_law_right" = true)
    (k39 : PySem.W.keepIn K (.ref f39) = true)
    (a40 : PySem.W.nsIn K mainGlobals "_law_refused" = some (some (.ref f40)))
    (l40 : K.lookup f40 = some ⟨oc40, od40, .func (PySem.W.fnOf "_law_refused" "_law_refused" (defArgs s_law_refused) (defBody s_law_refused) (defScope s_law_refused) .none kV40 dc40 pm40 an40 cd40 ct40), sl40⟩)
    (c40 : PySem.W.codeIn K cd40 "_law_refused" = true)
    (k40 : PySem.W.keepIn K (.ref f40) = true)
    (a41 : PySem.W.nsIn K mainGlobals "law" = some (some (.ref f41)))
    (l41 : K.lookup f41 = some ⟨oc41, od41, .func (PySem.W.fnOf "law" "law" (defArgs s_law) (defBody s_law) (defScope s_law) .none kV41 dc41 pm41 an41 cd41 ct41), sl41⟩)
    (c41 : PySem.W.codeIn K cd41 "law" = true)
    (k41 : PySem.W.keepIn K (.ref f41) = true)
    (z_isinstance : PySem.W.nsIn K mainGlobals "isinstance" = some none)
    (z_str : PySem.W.nsIn K mainGlobals "str" = some none)
    (z_int : PySem.W.nsIn K mainGlobals "int" = some none)
    (z_bool : PySem.W.nsIn K mainGlobals "bool" = some none)
    (z_tuple : PySem.W.nsIn K mainGlobals "tuple" = some none)
    (z_list : PySem.W.nsIn K mainGlobals "list" = some none)
    (z_len : PySem.W.nsIn K mainGlobals "len" = some none)
    (z_range : PySem.W.nsIn K mainGlobals "range" = some none)
    (z_sorted : PySem.W.nsIn K mainGlobals "sorted" = some none)
    (z_abs : PySem.W.nsIn K mainGlobals "abs" = some none)
    (z_any : PySem.W.nsIn K mainGlobals "any" = some none)
    (z_all : PySem.W.nsIn K mainGlobals "all" = some none)
    (z_set : PySem.W.nsIn K mainGlobals "set" = some none)
    (z_dict : PySem.W.nsIn K mainGlobals "dict" = some none)
    (z_sum : PySem.W.nsIn K mainGlobals "sum" = some none)
    (z_repr : PySem.W.nsIn K mainGlobals "repr" = some none)
    (z_ValueError : PySem.W.nsIn K mainGlobals "ValueError" = some none)
    (z_super : PySem.W.nsIn K mainGlobals "super" = some none)
    (aK0 : PySem.W.nsIn K mainGlobals "LETTERS" = some (some (.str letters tk0)))
    (aK1 : PySem.W.nsIn K mainGlobals "SIGNS" = some (some (.str signs tk1)))
    (aK2 : PySem.W.nsIn K mainGlobals "LONGEST_NAME" = some (some (.int 8 tk2)))
    (aR : PySem.W.nsIn K mainGlobals "RingclauseError" = some (some (.ref cR)))
    (hR : PySem.W.hasDictIn K cR = true)
    (yR : PySem.W.typeIn K (.ref cR) = some (.type "type"))
    (aL : PySem.W.nsIn K mainGlobals "InvalidLiteral" = some (some (.ref cL)))
    (hL : PySem.W.hasDictIn K cL = true)
    (yL : PySem.W.typeIn K (.ref cL) = some (.type "type"))
    (aC : PySem.W.nsIn K mainGlobals "InvalidClause" = some (some (.ref cC)))
    (hC : PySem.W.hasDictIn K cC = true)
    (yC : PySem.W.typeIn K (.ref cC) = some (.type "type"))
    (aU : PySem.W.nsIn K mainGlobals "UnknownMoment" = some (some (.ref cU)))
    (hU : PySem.W.hasDictIn K cU = true)
    (yU : PySem.W.typeIn K (.ref cU) = some (.type "type"))
    (aP : PySem.W.nsIn K mainGlobals "InvalidPivot" = some (some (.ref cP)))
    (hP : PySem.W.hasDictIn K cP = true)
    (yP : PySem.W.typeIn K (.ref cP) = some (.type "type"))
    (oq : PySem.W.nsIn K cStatics "thirdparty.any" = some none)
    (hTop : (l.prog.main.scope.names.lookup ("super" : Str)).isSome = false)
    (kn : PySem.W.specialIn K (.builtin "object.__class__") "__get__" = some (some (.builtin "getset_descriptor.__get__")))
    (kt : PySem.W.takesIn K (.builtin "object.__class__") = some true)
    (xI_L : K.lookup cL = some (excClassObj nm_L q_L cL NN_L bs_L bm_L true sn_L sub_L ab_L col_L dd_L m0_L m1_L m2_L m3_L m5_L "ValueError.__new__"))
    (rv_L : PySem.HandSPX.refsVE bm_L = true)
    (sa_L : PySem.W.findIn K (.ref cL) "__setattr__" = some (some (.builtin "object.__setattr__")))
    (ga_L : PySem.W.findIn K (.ref cL) "__getattribute__" = some (some (.builtin "BaseException.__getattribute__")))
    (gg_L : PySem.W.findIn K (.ref cL) "__getattr__" = some none)
    (nF_L : PySem.W.findIn K (.ref cL) "value" = some none)
    (iX_L : PySem.W.findIn K (.ref cL) "__init__" = some (some (.ref fXL)))
    (tF_L : PySem.W.typeIn K (.ref fXL) = some (.type "function"))
    (kI_L : PySem.W.keepIn K (.ref cL) = true)
    (eI_L : PySem.W.subIn K (.ref cL) (.type "BaseException") = some true)
    (vI_L : PySem.W.subIn K (.ref cL) (.type "ValueError") = some true)
    (mI_L : PySem.W.mroIn K cL (.ref cL) = some true)
    (su_L : PySem.W.ks_superIn K cL cL "__init__" = some (some (.builtin "ValueError.__init__")))
    (lX_L : K.lookup fXL = some ⟨oc0L, od0L, .func (PySem.Sup.sFn "value" "not a literal" "InvalidLiteral.__init__" ⟨6, 17, 6, 21⟩ ⟨6, 23, 6, 28⟩ ⟨7, 8, 7, 13⟩ ⟨7, 8, 7, 15⟩ ⟨7, 8, 7, 24⟩ ⟨7, 25, 7, 40⟩ ⟨7, 8, 7, 41⟩ ⟨7, 8, 7, 41⟩ ⟨8, 8, 8, 12⟩ ⟨8, 8, 8, 18⟩ ⟨8, 21, 8, 26⟩ ⟨8, 8, 8, 26⟩ dc0L pm0L an0L cda_L cc_L ct0L), sl0L⟩)
    (cX_L : PySem.W.codeIn K (.ref cda_L) "InvalidLiteral.__init__" = true)
    (lC_L : K.lookup cc_L = some ⟨cl0_L, cld_L, .cell (some (.ref cL)), csl_L⟩)
    (lD_L : K.lookup cda_L = some ⟨ccl_L, cdd_L, .fields rvs_L, ccs_L⟩)
    (rf_L : rvs_L[2]? = some (.str file_L tf_L))
    (fi_L : ((l.prog.main.file : Str) == file_L) = true)
    (ka_L : PySem.W.findIn K (.ref cL) "__class__" = some (some (.builtin "object.__class__")))
    (km_L : PySem.W.mroIn K cL (.type "object") = some true)
    (sR_L : PySem.W.subIn K (.ref cL) (.ref cR) = some true)
    (sL_L : PySem.W.subIn K (.ref cL) (.ref cL) = some true)
    (sC_L : PySem.W.subIn K (.ref cL) (.ref cC) = some false)
    (sU_L : PySem.W.subIn K (.ref cL) (.ref cU) = some false)
    (sP_L : PySem.W.subIn K (.ref cL) (.ref cP) = some false)
    (xI_C : K.lookup cC = some (excClassObj nm_C q_C cC NN_C bs_C bm_C true sn_C sub_C ab_C col_C dd_C m0_C m1_C m2_C m3_C m5_C "ValueError.__new__"))
    (rv_C : PySem.HandSPX.refsVE bm_C = true)
    (sa_C : PySem.W.findIn K (.ref cC) "__setattr__" = some (some (.builtin "object.__setattr__")))
    (ga_C : PySem.W.findIn K (.ref cC) "__getattribute__" = some (some (.builtin "BaseException.__getattribute__")))
    (gg_C : PySem.W.findIn K (.ref cC) "__getattr__" = some none)
    (nF_C : PySem.W.findIn K (.ref cC) "value" = some none)
    (iX_C : PySem.W.findIn K (.ref cC) "__init__" = some (some (.ref fXC)))
    (tF_C : PySem.W.typeIn K (.ref fXC) = some (.type "function"))
    (kI_C : PySem.W.keepIn K (.ref cC) = true)
    (eI_C : PySem.W.subIn K (.ref cC) (.type "BaseException") = some true)
    (vI_C : PySem.W.subIn K (.ref cC) (.type "ValueError") = some true)
    (mI_C : PySem.W.mroIn K cC (.ref cC) = some true)
    (su_C : PySem.W.ks_superIn K cC cC "__init__" = some (some (.builtin "ValueError.__init__")))
    (lX_C : K.lookup fXC = some ⟨oc0C, od0C, .func (PySem.Sup.sFn "value" "not a clause" "InvalidClause.__init__" ⟨11, 17, 11, 21⟩ ⟨11, 23, 11, 28⟩ ⟨12, 8, 12, 13⟩ ⟨12, 8, 12, 15⟩ ⟨12, 8, 12, 24⟩ ⟨12, 25, 12, 39⟩ ⟨12, 8, 12, 40⟩ ⟨12, 8, 12, 40⟩ ⟨13, 8, 13, 12⟩ ⟨13, 8, 13, 18⟩ ⟨13, 21, 13, 26⟩ ⟨13, 8, 13, 26⟩ dc0C pm0C an0C cda_C cc_C ct0C), sl0C⟩)
    (cX_C : PySem.W.codeIn K (.ref cda_C) "InvalidClause.__init__" = true)
    (lC_C : K.lookup cc_C = some ⟨cl0_C, cld_C, .cell (some (.ref cC)), csl_C⟩)
    (lD_C : K.lookup cda_C = some ⟨ccl_C, cdd_C, .fields rvs_C, ccs_C⟩)
    (rf_C : rvs_C[2]? = some (.str file_C tf_C))
    (fi_C : ((l.prog.main.file : Str) == file_C) = true)
    (ka_C : PySem.W.findIn K (.ref cC) "__class__" = some (some (.builtin "object.__class__")))
    (km_C : PySem.W.mroIn K cC (.type "object") = some true)
    (sR_C : PySem.W.subIn K (.ref cC) (.ref cR) = some true)
    (sL_C : PySem.W.subIn K (.ref cC) (.ref cL) = some false)
    (sC_C : PySem.W.subIn K (.ref cC) (.ref cC) = some true)
    (sU_C : PySem.W.subIn K (.ref cC) (.ref cU) = some false)
    (sP_C : PySem.W.subIn K (.ref cC) (.ref cP) = some false)
    (xI_U : K.lookup cU = some (excClassObj nm_U q_U cU NN_U bs_U bm_U true sn_U sub_U ab_U col_U dd_U m0_U m1_U m2_U m3_U m5_U "ValueError.__new__"))
    (rv_U : PySem.HandSPX.refsVE bm_U = true)
    (sa_U : PySem.W.findIn K (.ref cU) "__setattr__" = some (some (.builtin "object.__setattr__")))
    (ga_U : PySem.W.findIn K (.ref cU) "__getattribute__" = some (some (.builtin "BaseException.__getattribute__")))
    (gg_U : PySem.W.findIn K (.ref cU) "__getattr__" = some none)
    (nF_U : PySem.W.findIn K (.ref cU) "name" = some none)
    (iX_U : PySem.W.findIn K (.ref cU) "__init__" = some (some (.ref fXU)))
    (tF_U : PySem.W.typeIn K (.ref fXU) = some (.type "function"))
    (kI_U : PySem.W.keepIn K (.ref cU) = true)
    (eI_U : PySem.W.subIn K (.ref cU) (.type "BaseException") = some true)
    (vI_U : PySem.W.subIn K (.ref cU) (.type "ValueError") = some true)
    (mI_U : PySem.W.mroIn K cU (.ref cU) = some true)
    (su_U : PySem.W.ks_superIn K cU cU "__init__" = some (some (.builtin "ValueError.__init__")))
    (lX_U : K.lookup fXU = some ⟨oc0U, od0U, .func (PySem.Sup.sFn "name" "not a listed moment" "UnknownMoment.__init__" ⟨16, 17, 16, 21⟩ ⟨16, 23, 16, 27⟩ ⟨17, 8, 17, 13⟩ ⟨17, 8, 17, 15⟩ ⟨17, 8, 17, 24⟩ ⟨17, 25, 17, 46⟩ ⟨17, 8, 17, 47⟩ ⟨17, 8, 17, 47⟩ ⟨18, 8, 18, 12⟩ ⟨18, 8, 18, 17⟩ ⟨18, 20, 18, 24⟩ ⟨18, 8, 18, 24⟩ dc0U pm0U an0U cda_U cc_U ct0U), sl0U⟩)
    (cX_U : PySem.W.codeIn K (.ref cda_U) "UnknownMoment.__init__" = true)
    (lC_U : K.lookup cc_U = some ⟨cl0_U, cld_U, .cell (some (.ref cU)), csl_U⟩)
    (lD_U : K.lookup cda_U = some ⟨ccl_U, cdd_U, .fields rvs_U, ccs_U⟩)
    (rf_U : rvs_U[2]? = some (.str file_U tf_U))
    (fi_U : ((l.prog.main.file : Str) == file_U) = true)
    (ka_U : PySem.W.findIn K (.ref cU) "__class__" = some (some (.builtin "object.__class__")))
    (km_U : PySem.W.mroIn K cU (.type "object") = some true)
    (sR_U : PySem.W.subIn K (.ref cU) (.ref cR) = some true)
    (sL_U : PySem.W.subIn K (.ref cU) (.ref cL) = some false)
    (sC_U : PySem.W.subIn K (.ref cU) (.ref cC) = some false)
    (sU_U : PySem.W.subIn K (.ref cU) (.ref cU) = some true)
    (sP_U : PySem.W.subIn K (.ref cU) (.ref cP) = some false)
    (xI_P : K.lookup cP = some (excClassObj nm_P q_P cP NN_P bs_P bm_P true sn_P sub_P ab_P col_P dd_P m0_P m1_P m2_P m3_P m5_P "ValueError.__new__"))
    (rv_P : PySem.HandSPX.refsVE bm_P = true)
    (sa_P : PySem.W.findIn K (.ref cP) "__setattr__" = some (some (.builtin "object.__setattr__")))
    (ga_P : PySem.W.findIn K (.ref cP) "__getattribute__" = some (some (.builtin "BaseException.__getattribute__")))
    (gg_P : PySem.W.findIn K (.ref cP) "__getattr__" = some none)
    (nF_P : PySem.W.findIn K (.ref cP) "pivot" = some none)
    (iX_P : PySem.W.findIn K (.ref cP) "__init__" = some (some (.ref fXP)))
    (tF_P : PySem.W.typeIn K (.ref fXP) = some (.type "function"))
    (kI_P : PySem.W.keepIn K (.ref cP) = true)
    (eI_P : PySem.W.subIn K (.ref cP) (.type "BaseException") = some true)
    (vI_P : PySem.W.subIn K (.ref cP) (.type "ValueError") = some true)
    (mI_P : PySem.W.mroIn K cP (.ref cP) = some true)
    (su_P : PySem.W.ks_superIn K cP cP "__init__" = some (some (.builtin "ValueError.__init__")))
    (lX_P : K.lookup fXP = some ⟨oc0P, od0P, .func (PySem.Sup.sFn "pivot" "not a pivot of these clauses" "InvalidPivot.__init__" ⟨21, 17, 21, 21⟩ ⟨21, 23, 21, 28⟩ ⟨22, 8, 22, 13⟩ ⟨22, 8, 22, 15⟩ ⟨22, 8, 22, 24⟩ ⟨22, 25, 22, 55⟩ ⟨22, 8, 22, 56⟩ ⟨22, 8, 22, 56⟩ ⟨23, 8, 23, 12⟩ ⟨23, 8, 23, 18⟩ ⟨23, 21, 23, 26⟩ ⟨23, 8, 23, 26⟩ dc0P pm0P an0P cda_P cc_P ct0P), sl0P⟩)
    (cX_P : PySem.W.codeIn K (.ref cda_P) "InvalidPivot.__init__" = true)
    (lC_P : K.lookup cc_P = some ⟨cl0_P, cld_P, .cell (some (.ref cP)), csl_P⟩)
    (lD_P : K.lookup cda_P = some ⟨ccl_P, cdd_P, .fields rvs_P, ccs_P⟩)
    (rf_P : rvs_P[2]? = some (.str file_P tf_P))
    (fi_P : ((l.prog.main.file : Str) == file_P) = true)
    (ka_P : PySem.W.findIn K (.ref cP) "__class__" = some (some (.builtin "object.__class__")))
    (km_P : PySem.W.mroIn K cP (.type "object") = some true)
    (sR_P : PySem.W.subIn K (.ref cP) (.ref cR) = some true)
    (sL_P : PySem.W.subIn K (.ref cP) (.ref cL) = some false)
    (sC_P : PySem.W.subIn K (.ref cP) (.ref cC) = some false)
    (sU_P : PySem.W.subIn K (.ref cP) (.ref cU) = some false)
    (sP_P : PySem.W.subIn K (.ref cP) (.ref cP) = some true) :
    ∃ fd : FuncData, (∀ (s : Shared) (v : Value), BindsTo s fd ⟨[v], []⟩ [("script", v)]) ∧ ∀ base : Heap, K.In base → base.Ns mainGlobals mg → FnG l.prog w K mg base 10 fa fd ["script"] (spLaw K) := by
  have e := hfa.symm.trans (PySem.W.mg_of X G a41)
  cases e
  have g1 := PySem.W.mg_of X G a1
  have F1 := fun_mk (st := s_is_name) l1 c1 k1
  have b1 := F1.binds (ps := ["value"]) fun _ _ _ _ _ _ us hl => match us, hl with | [_], _ => rfl
  have g2 := PySem.W.mg_of X G a2
  have F2 := fun_mk (st := s_is_integer) l2 c2 k2
  have b2 := F2.binds (ps := ["value"]) fun _ _ _ _ _ _ us hl => match us, hl with | [_], _ => rfl
  have g3 := PySem.W.mg_of X G a3
  have F3 := fun_mk (st := s_is_bound) l3 c3 k3
  have b3 := F3.binds (ps := ["value"]) fun _ _ _ _ _ _ us hl => match us, hl with | [_], _ => rfl
  have g4 := PySem.W.mg_of X G a4
  have F4 := fun_mk (st := s_is_literal) l4 c4 k4
  have b4 := F4.binds (ps := ["value"]) fun _ _ _ _ _ _ us hl => match us, hl with | [_], _ => rfl
  have g5 := PySem.W.mg_of X G a5
  have F5 := fun_mk (st := s_check_literal) l5 c5 k5
  have b5 := F5.binds (ps := ["value"]) fun _ _ _ _ _ _ us hl => match us, hl with | [_], _ => rfl
  have g6 := PySem.W.mg_of X G a6
  have F6 := fun_mk (st := s_complement) l6 c6 k6
  have b6 := F6.binds (ps := ["literal"]) fun _ _ _ _ _ _ us hl => match us, hl with | [_], _ => rfl
  have g7 := PySem.W.mg_of X G a7
  have F7 := fun_mk (st := s_opposite) l7 c7 k7
  have b7 := F7.binds (ps := ["literal"]) fun _ _ _ _ _ _ us hl => match us, hl with | [_], _ => rfl
  have g8 := PySem.W.mg_of X G a8
  have F8 := fun_mk (st := s_moments_of) l8 c8 k8
  have b8 := F8.binds (ps := ["literals"]) fun _ _ _ _ _ _ us hl => match us, hl with | [_], _ => rfl
  have g9 := PySem.W.mg_of X G a9
  have F9 := fun_mk (st := s_clause_of) l9 c9 k9
  have b9 := F9.binds (ps := ["literals"]) fun _ _ _ _ _ _ us hl => match us, hl with | [_], _ => rfl
  have g10 := PySem.W.mg_of X G a10
  have F10 := fun_mk (st := s_normal_form) l10 c10 k10
  have b10 := F10.binds (ps := ["literals"]) fun _ _ _ _ _ _ us hl => match us, hl with | [_], _ => rfl
  have g11 := PySem.W.mg_of X G a11
  have F11 := fun_mk (st := s_check_listed) l11 c11 k11
  have b11 := F11.binds (ps := ["moments", "values"]) fun _ _ _ _ _ _ us hl => match us, hl with | [_, _], _ => rfl
  have g12 := PySem.W.mg_of X G a12
  have F12 := fun_mk (st := s_literal_stands) l12 c12 k12
  have b12 := F12.binds (ps := ["literal", "names", "table"]) fun _ _ _ _ _ _ us hl => match us, hl with | [_, _, _], _ => rfl
  have g13 := PySem.W.mg_of X G a13
  have F13 := fun_mk (st := s_clauses_stand) l13 c13 k13
  have b13 := F13.binds (ps := ["clauses", "values"]) fun _ _ _ _ _ _ us hl => match us, hl with | [_, _], _ => rfl
  have g14 := PySem.W.mg_of X G a14
  have F14 := fun_mk (st := s_clause_holds) l14 c14 k14
  have b14 := F14.binds (ps := ["clause", "values"]) fun _ _ _ _ _ _ us hl => match us, hl with | [_, _], _ => rfl
  have g15 := PySem.W.mg_of X G a15
  have F15 := fun_mk (st := s_resolve) l15 c15 k15
  have b15 := F15.binds (ps := ["clause", "pivot", "other"]) fun _ _ _ _ _ _ us hl => match us, hl with | [_, _, _], _ => rfl
  have g16 := PySem.W.mg_of X G a16
  have F16 := fun_mk (st := s_resolvent) l16 c16 k16
  have b16 := F16.binds (ps := ["first", "pivot", "second"]) fun _ _ _ _ _ _ us hl => match us, hl with | [_, _, _], _ => rfl
  have g17 := PySem.W.mg_of X G a17
  have F17 := fun_mk (st := s_law_box) l17 c17 k17
  have b17 := F17.binds (ps := ["script"]) fun _ _ _ _ _ _ us hl => match us, hl with | [_], _ => rfl
  have g18 := PySem.W.mg_of X G a18
  have F18 := fun_mk (st := s_law_take) l18 c18 k18
  have b18 := F18.binds (ps := ["box", "size"]) fun _ _ _ _ _ _ us hl => match us, hl with | [_, _], _ => rfl
  have g19 := PySem.W.mg_of X G a19
  have F19 := fun_mk (st := s_law_number) l19 c19 k19
  have b19 := F19.binds (ps := ["box"]) fun _ _ _ _ _ _ us hl => match us, hl with | [_], _ => rfl
  have g20 := PySem.W.mg_of X G a20
  have F20 := fun_mk (st := s_law_name) l20 c20 k20
  have b20 := F20.binds (ps := ["box", "taken"]) fun _ _ _ _ _ _ us hl => match us, hl with | [_, _], _ => rfl
  have g21 := PySem.W.mg_of X G a21
  have F21 := fun_mk (st := s_law_comp) l21 c21 k21
  have b21 := F21.binds (ps := ["literal"]) fun _ _ _ _ _ _ us hl => match us, hl with | [_], _ => rfl
  have g22 := PySem.W.mg_of X G a22
  have F22 := fun_mk (st := s_law_normal) l22 c22 k22
  have b22 := F22.binds (ps := ["literals"]) fun _ _ _ _ _ _ us hl => match us, hl with | [_], _ => rfl
  have g23 := PySem.W.mg_of X G a23
  have F23 := fun_mk (st := s_law_resolved) l23 c23 k23
  have b23 := F23.binds (ps := ["clause", "pivot", "other"]) fun _ _ _ _ _ _ us hl => match us, hl with | [_, _, _], _ => rfl
  have g24 := PySem.W.mg_of X G a24
  have F24 := fun_mk (st := s_law_ring) l24 c24 k24
  have b24 := F24.binds (ps := ["box", "moments", "steps"]) fun _ _ _ _ _ _ us hl => match us, hl with | [_, _, _], _ => rfl
  have g25 := PySem.W.mg_of X G a25
  have F25 := fun_mk (st := s_law_near) l25 c25 k25
  have b25 := F25.binds (ps := ["box", "bound", "moments"]) fun _ _ _ _ _ _ us hl => match us, hl with | [_, _, _], _ => rfl
  have g26 := PySem.W.mg_of X G a26
  have F26 := fun_mk (st := s_law_world) l26 c26 k26
  have b26 := F26.binds (ps := ["box"]) fun _ _ _ _ _ _ us hl => match us, hl with | [_], _ => rfl
  have g27 := PySem.W.mg_of X G a27
  have F27 := fun_mk (st := s_law_some) l27 c27 k27
  have b27 := F27.binds (ps := ["box", "pool"]) fun _ _ _ _ _ _ us hl => match us, hl with | [_, _], _ => rfl
  have g28 := PySem.W.mg_of X G a28
  have F28 := fun_mk (st := s_law_drawn) l28 c28 k28
  have b28 := F28.binds (ps := ["box", "pool"]) fun _ _ _ _ _ _ us hl => match us, hl with | [_, _], _ => rfl
  have g29 := PySem.W.mg_of X G a29
  have F29 := fun_mk (st := s_law_holds) l29 c29 k29
  have b29 := F29.binds (ps := ["literal", "values"]) fun _ _ _ _ _ _ us hl => match us, hl with | [_, _], _ => rfl
  have g30 := PySem.W.mg_of X G a30
  have F30 := fun_mk (st := s_law_values) l30 c30 k30
  have b30 := F30.binds (ps := ["box", "truths", "moments"]) fun _ _ _ _ _ _ us hl => match us, hl with | [_, _, _], _ => rfl
  have g31 := PySem.W.mg_of X G a31
  have F31 := fun_mk (st := s_law_exact) l31 c31 k31
  have b31 := F31.binds (ps := ["told", "due"]) fun _ _ _ _ _ _ us hl => match us, hl with | [_, _], _ => rfl
  have g32 := PySem.W.mg_of X G a32
  have F32 := fun_mk (st := s_law_put) l32 c32 k32
  have b32 := F32.binds (ps := ["box", "row", "one"]) fun _ _ _ _ _ _ us hl => match us, hl with | [_, _, _], _ => rfl
  have g33 := PySem.W.mg_of X G a33
  have F33 := fun_mk (st := s_law_odd_literal) l33 c33 k33
  have b33 := F33.binds (ps := ["box"]) fun _ _ _ _ _ _ us hl => match us, hl with | [_], _ => rfl
  have g34 := PySem.W.mg_of X G a34
  have F34 := fun_mk (st := s_law_odd_clause) l34 c34 k34
  have b34 := F34.binds (ps := ["box"]) fun _ _ _ _ _ _ us hl => match us, hl with | [_], _ => rfl
  have g35 := PySem.W.mg_of X G a35
  have F35 := fun_mk (st := s_law_told) l35 c35 k35
  have b35 := F35.binds (ps := ["first", "pivot", "second"]) fun _ _ _ _ _ _ us hl => match us, hl with | [_, _, _], _ => rfl
  have g36 := PySem.W.mg_of X G a36
  have F36 := fun_mk (st := s_law_pivots) l36 c36 k36
  have b36 := F36.binds (ps := ["box", "pool", "first", "second"]) fun _ _ _ _ _ _ us hl => match us, hl with | [_, _, _, _], _ => rfl
  have g37 := PySem.W.mg_of X G a37
  have F37 := fun_mk (st := s_law_meets) l37 c37 k37
  have b37 := F37.binds (ps := ["clause", "values"]) fun _ _ _ _ _ _ us hl => match us, hl with | [_, _], _ => rfl
  have g38 := PySem.W.mg_of X G a38
  have F38 := fun_mk (st := s_law_sound) l38 c38 k38
  have b38 := F38.binds (ps := ["first", "second", "told", "values"]) fun _ _ _ _ _ _ us hl => match us, hl with | [_, _, _, _], _ => rfl
  have g39 := PySem.W.mg_of X G a39
  have F39 := fun_mk (st := s_law_right) l39 c39 k39
  have b39 := F39.binds (ps := ["first", "pivot", "second", "rows"]) fun _ _ _ _ _ _ us hl => match us, hl with | [_, _, _, _], _ => rfl
  have g40 := PySem.W.mg_of X G a40
  have F40 := fun_mk (st := s_law_refused) l40 c40 k40
  have b40 := F40.binds (ps := ["box", "first", "pivot", "second"]) fun _ _ _ _ _ _ us hl => match us, hl with | [_, _, _, _], _ => rfl
  have g41 := PySem.W.mg_of X G a41
  have F41 := fun_mk (st := s_law) l41 c41 k41
  have b41 := F41.binds (ps := ["script"]) fun _ _ _ _ _ _ us hl => match us, hl with | [_], _ => rfl
  have n_isinstance := PySem.W.mg_none_of X G z_isinstance
  have n_str := PySem.W.mg_none_of X G z_str
  have n_int := PySem.W.mg_none_of X G z_int
  have n_bool := PySem.W.mg_none_of X G z_bool
  have n_tuple := PySem.W.mg_none_of X G z_tuple
  have n_list := PySem.W.mg_none_of X G z_list
  have n_len := PySem.W.mg_none_of X G z_len
  have n_range := PySem.W.mg_none_of X G z_range
  have n_sorted := PySem.W.mg_none_of X G z_sorted
  have n_abs := PySem.W.mg_none_of X G z_abs
  have n_any := PySem.W.mg_none_of X G z_any
  have n_all := PySem.W.mg_none_of X G z_all
  have n_set := PySem.W.mg_none_of X G z_set
  have n_dict := PySem.W.mg_none_of X G z_dict
  have n_sum := PySem.W.mg_none_of X G z_sum
  have n_repr := PySem.W.mg_none_of X G z_repr
  have n_ValueError := PySem.W.mg_none_of X G z_ValueError
  have n_super := PySem.W.mg_none_of X G z_super
  have sup_L : PySem.Sup.SupTxt K mg l.prog "InvalidLiteral" "value" "not a literal" cL fXL :=
    { gC := PySem.W.mg_of X G aL, ok := { bd := fun _ _ _ _ _ _ _ _ _ _ _ _ _ _ _ _ _ _ _ _ _ _ => rfl, lf := rfl, lc := rfl, ls := rfl, nd := by decide, ns := by decide }, cls := ⟨nm_L, q_L, NN_L, bs_L, bm_L, sn_L, sub_L, ab_L, col_L, dd_L, m0_L, m1_L, m2_L, m3_L, m5_L, xI_L, rv_L⟩,
      sa := sa_L, ga := ga_L, gg := gg_L, noF := nF_L, iC := iX_L, tF := tF_L, kC := kI_L, exC := eI_L, veC := vI_L, tyC := yL, hdC := hL, mC := mI_L, opq := oq, sup := su_L, htop := hTop, mgS := n_super,
      fn := ⟨oc0L, od0L, _, dc0L, pm0L, an0L, cda_L, cc_L, ct0L, sl0L, _, _, _, _, _, _, _, _, _, _, _, _, lX_L, fun _ _ => ⟨_, rfl⟩, cX_L, ⟨cl0_L, cld_L, csl_L, lC_L⟩, ⟨ccl_L, cdd_L, rvs_L, ccs_L, file_L, tf_L, lD_L, rf_L, fi_L⟩⟩ }
  have sup_C : PySem.Sup.SupTxt K mg l.prog "InvalidClause" "value" "not a clause" cC fXC :=
    { gC := PySem.W.mg_of X G aC, ok := { bd := fun _ _ _ _ _ _ _ _ _ _ _ _ _ _ _ _ _ _ _ _ _ _ => rfl, lf := rfl, lc := rfl, ls := rfl, nd := by decide, ns := by decide }, cls := ⟨nm_C, q_C, NN_C, bs_C, bm_C, sn_C, sub_C, ab_C, col_C, dd_C, m0_C, m1_C, m2_C, m3_C, m5_C, xI_C, rv_C⟩,
      sa := sa_C, ga := ga_C, gg := gg_C, noF := nF_C, iC := iX_C, tF := tF_C, kC := kI_C, exC := eI_C, veC := vI_C, tyC := yC, hdC := hC, mC := mI_C, opq := oq, sup := su_C, htop := hTop, mgS := n_super,
      fn := ⟨oc0C, od0C, _, dc0C, pm0C, an0C, cda_C, cc_C, ct0C, sl0C, _, _, _, _, _, _, _, _, _, _, _, _, lX_C, fun _ _ => ⟨_, rfl⟩, cX_C, ⟨cl0_C, cld_C, csl_C, lC_C⟩, ⟨ccl_C, cdd_C, rvs_C, ccs_C, file_C, tf_C, lD_C, rf_C, fi_C⟩⟩ }
  have sup_U : PySem.Sup.SupTxt K mg l.prog "UnknownMoment" "name" "not a listed moment" cU fXU :=
    { gC := PySem.W.mg_of X G aU, ok := { bd := fun _ _ _ _ _ _ _ _ _ _ _ _ _ _ _ _ _ _ _ _ _ _ => rfl, lf := rfl, lc := rfl, ls := rfl, nd := by decide, ns := by decide }, cls := ⟨nm_U, q_U, NN_U, bs_U, bm_U, sn_U, sub_U, ab_U, col_U, dd_U, m0_U, m1_U, m2_U, m3_U, m5_U, xI_U, rv_U⟩,
      sa := sa_U, ga := ga_U, gg := gg_U, noF := nF_U, iC := iX_U, tF := tF_U, kC := kI_U, exC := eI_U, veC := vI_U, tyC := yU, hdC := hU, mC := mI_U, opq := oq, sup := su_U, htop := hTop, mgS := n_super,
      fn := ⟨oc0U, od0U, _, dc0U, pm0U, an0U, cda_U, cc_U, ct0U, sl0U, _, _, _, _, _, _, _, _, _, _, _, _, lX_U, fun _ _ => ⟨_, rfl⟩, cX_U, ⟨cl0_U, cld_U, csl_U, lC_U⟩, ⟨ccl_U, cdd_U, rvs_U, ccs_U, file_U, tf_U, lD_U, rf_U, fi_U⟩⟩ }
  have sup_P : PySem.Sup.SupTxt K mg l.prog "InvalidPivot" "pivot" "not a pivot of these clauses" cP fXP :=
    { gC := PySem.W.mg_of X G aP, ok := { bd := fun _ _ _ _ _ _ _ _ _ _ _ _ _ _ _ _ _ _ _ _ _ _ => rfl, lf := rfl, lc := rfl, ls := rfl, nd := by decide, ns := by decide }, cls := ⟨nm_P, q_P, NN_P, bs_P, bm_P, sn_P, sub_P, ab_P, col_P, dd_P, m0_P, m1_P, m2_P, m3_P, m5_P, xI_P, rv_P⟩,
      sa := sa_P, ga := ga_P, gg := gg_P, noF := nF_P, iC := iX_P, tF := tF_P, kC := kI_P, exC := eI_P, veC := vI_P, tyC := yP, hdC := hP, mC := mI_P, opq := oq, sup := su_P, htop := hTop, mgS := n_super,
      fn := ⟨oc0P, od0P, _, dc0P, pm0P, an0P, cda_P, cc_P, ct0P, sl0P, _, _, _, _, _, _, _, _, _, _, _, _, lX_P, fun _ _ => ⟨_, rfl⟩, cX_P, ⟨cl0_P, cld_P, csl_P, lC_P⟩, ⟨ccl_P, cdd_P, rvs_P, ccs_P, file_P, tf_P, lD_P, rf_P, fi_P⟩⟩ }
  let a : Ad := { a_is_name := f1, a_is_integer := f2, a_is_bound := f3, a_is_literal := f4, a_check_literal := f5, a_complement := f6, a_opposite := f7, a_moments_of := f8, a_clause_of := f9, a_normal_form := f10, a_check_listed := f11, a_literal_stands := f12, a_clauses_stand := f13, a_clause_holds := f14, a_resolve := f15, a_resolvent := f16, a_law_box := f17, a_law_take := f18, a_law_number := f19, a_law_name := f20, a_law_comp := f21, a_law_normal := f22, a_law_resolved := f23, a_law_ring := f24, a_law_near := f25, a_law_world := f26, a_law_some := f27, a_law_drawn := f28, a_law_holds := f29, a_law_values := f30, a_law_exact := f31, a_law_put := f32, a_law_odd_literal := f33, a_law_odd_clause := f34, a_law_told := f35, a_law_pivots := f36, a_law_meets := f37, a_law_sound := f38, a_law_right := f39, a_law_refused := f40, a_law := fa, tL := tk0, tS := tk1, tN := tk2, cR := cR, cL := cL, cC := cC, cU := cU, cP := cP }
  let d : Fd := { a_is_name := PySem.W.fnOf "is_name" "is_name" (defArgs s_is_name) (defBody s_is_name) (defScope s_is_name) .none kV1 dc1 pm1 an1 cd1 ct1, a_is_integer := PySem.W.fnOf "is_integer" "is_integer" (defArgs s_is_integer) (defBody s_is_integer) (defScope s_is_integer) .none kV2 dc2 pm2 an2 cd2 ct2, a_is_bound := PySem.W.fnOf "is_bound" "is_bound" (defArgs s_is_bound) (defBody s_is_bound) (defScope s_is_bound) .none kV3 dc3 pm3 an3 cd3 ct3, a_is_literal := PySem.W.fnOf "is_literal" "is_literal" (defArgs s_is_literal) (defBody s_is_literal) (defScope s_is_literal) .none kV4 dc4 pm4 an4 cd4 ct4, a_check_literal := PySem.W.fnOf "check_literal" "check_literal" (defArgs s_check_literal) (defBody s_check_literal) (defScope s_check_literal) .none kV5 dc5 pm5 an5 cd5 ct5, a_complement := PySem.W.fnOf "complement" "complement" (defArgs s_complement) (defBody s_complement) (defScope s_complement) .none kV6 dc6 pm6 an6 cd6 ct6, a_opposite := PySem.W.fnOf "opposite" "opposite" (defArgs s_opposite) (defBody s_opposite) (defScope s_opposite) .none kV7 dc7 pm7 an7 cd7 ct7, a_moments_of := PySem.W.fnOf "moments_of" "moments_of" (defArgs s_moments_of) (defBody s_moments_of) (defScope s_moments_of) .none kV8 dc8 pm8 an8 cd8 ct8, a_clause_of := PySem.W.fnOf "clause_of" "clause_of" (defArgs s_clause_of) (defBody s_clause_of) (defScope s_clause_of) .none kV9 dc9 pm9 an9 cd9 ct9, a_normal_form := PySem.W.fnOf "normal_form" "normal_form" (defArgs s_normal_form) (defBody s_normal_form) (defScope s_normal_form) .none kV10 dc10 pm10 an10 cd10 ct10, a_check_listed := PySem.W.fnOf "check_listed" "check_listed" (defArgs s_check_listed) (defBody s_check_listed) (defScope s_check_listed) .none kV11 dc11 pm11 an11 cd11 ct11, a_literal_stands := PySem.W.fnOf "literal_stands" "literal_stands" (defArgs s_literal_stands) (defBody s_literal_stands) (defScope s_literal_stands) .none kV12 dc12 pm12 an12 cd12 ct12, a_clauses_stand := PySem.W.fnOf "clauses_stand" "clauses_stand" (defArgs s_clauses_stand) (defBody s_clauses_stand) (defScope s_clauses_stand) .none kV13 dc13 pm13 an13 cd13 ct13, a_clause_holds := PySem.W.fnOf "clause_holds" "clause_holds" (defArgs s_clause_holds) (defBody s_clause_holds) (defScope s_clause_holds) .none kV14 dc14 pm14 an14 cd14 ct14, a_resolve := PySem.W.fnOf "resolve" "resolve" (defArgs s_resolve) (defBody s_resolve) (defScope s_resolve) .none kV15 dc15 pm15 an15 cd15 ct15, a_resolvent := PySem.W.fnOf "resolvent" "resolvent" (defArgs s_resolvent) (defBody s_resolvent) (defScope s_resolvent) .none kV16 dc16 pm16 an16 cd16 ct16, a_law_box := PySem.W.fnOf "_law_box" "_law_box" (defArgs s_law_box) (defBody s_law_box) (defScope s_law_box) .none kV17 dc17 pm17 an17 cd17 ct17, a_law_take := PySem.W.fnOf "_law_take" "_law_take" (defArgs s_law_take) (defBody s_law_take) (defScope s_law_take) .none kV18 dc18 pm18 an18 cd18 ct18, a_law_number := PySem.W.fnOf "_law_number" "_law_number" (defArgs s_law_number) (defBody s_law_number) (defScope s_law_number) .none kV19 dc19 pm19 an19 cd19 ct19, a_law_name := PySem.W.fnOf "_law_name" "_law_name" (defArgs s_law_name) (defBody s_law_name) (defScope s_law_name) .none kV20 dc20 pm20 an20 cd20 ct20, a_law_comp := PySem.W.fnOf "_law_comp" "_law_comp" (defArgs s_law_comp) (defBody s_law_comp) (defScope s_law_comp) .none kV21 dc21 pm21 an21 cd21 ct21, a_law_normal := PySem.W.fnOf "_law_normal" "_law_normal" (defArgs s_law_normal) (defBody s_law_normal) (defScope s_law_normal) .none kV22 dc22 pm22 an22 cd22 ct22, a_law_resolved := PySem.W.fnOf "_law_resolved" "_law_resolved" (defArgs s_law_resolved) (defBody s_law_resolved) (defScope s_law_resolved) .none kV23 dc23 pm23 an23 cd23 ct23, a_law_ring := PySem.W.fnOf "_law_ring" "_law_ring" (defArgs s_law_ring) (defBody s_law_ring) (defScope s_law_ring) .none kV24 dc24 pm24 an24 cd24 ct24, a_law_near := PySem.W.fnOf "_law_near" "_law_near" (defArgs s_law_near) (defBody s_law_near) (defScope s_law_near) .none kV25 dc25 pm25 an25 cd25 ct25, a_law_world := PySem.W.fnOf "_law_world" "_law_world" (defArgs s_law_world) (defBody s_law_world) (defScope s_law_world) .none kV26 dc26 pm26 an26 cd26 ct26, a_law_some := PySem.W.fnOf "_law_some" "_law_some" (defArgs s_law_some) (defBody s_law_some) (defScope s_law_some) .none kV27 dc27 pm27 an27 cd27 ct27, a_law_drawn := PySem.W.fnOf "_law_drawn" "_law_drawn" (defArgs s_law_drawn) (defBody s_law_drawn) (defScope s_law_drawn) .none kV28 dc28 pm28 an28 cd28 ct28, a_law_holds := PySem.W.fnOf "_law_holds" "_law_holds" (defArgs s_law_holds) (defBody s_law_holds) (defScope s_law_holds) .none kV29 dc29 pm29 an29 cd29 ct29, a_law_values := PySem.W.fnOf "_law_values" "_law_values" (defArgs s_law_values) (defBody s_law_values) (defScope s_law_values) .none kV30 dc30 pm30 an30 cd30 ct30, a_law_exact := PySem.W.fnOf "_law_exact" "_law_exact" (defArgs s_law_exact) (defBody s_law_exact) (defScope s_law_exact) .none kV31 dc31 pm31 an31 cd31 ct31, a_law_put := PySem.W.fnOf "_law_put" "_law_put" (defArgs s_law_put) (defBody s_law_put) (defScope s_law_put) .none kV32 dc32 pm32 an32 cd32 ct32, a_law_odd_literal := PySem.W.fnOf "_law_odd_literal" "_law_odd_literal" (defArgs s_law_odd_literal) (defBody s_law_odd_literal) (defScope s_law_odd_literal) .none kV33 dc33 pm33 an33 cd33 ct33, a_law_odd_clause := PySem.W.fnOf "_law_odd_clause" "_law_odd_clause" (defArgs s_law_odd_clause) (defBody s_law_odd_clause) (defScope s_law_odd_clause) .none kV34 dc34 pm34 an34 cd34 ct34, a_law_told := PySem.W.fnOf "_law_told" "_law_told" (defArgs s_law_told) (defBody s_law_told) (defScope s_law_told) .none kV35 dc35 pm35 an35 cd35 ct35, a_law_pivots := PySem.W.fnOf "_law_pivots" "_law_pivots" (defArgs s_law_pivots) (defBody s_law_pivots) (defScope s_law_pivots) .none kV36 dc36 pm36 an36 cd36 ct36, a_law_meets := PySem.W.fnOf "_law_meets" "_law_meets" (defArgs s_law_meets) (defBody s_law_meets) (defScope s_law_meets) .none kV37 dc37 pm37 an37 cd37 ct37, a_law_sound := PySem.W.fnOf "_law_sound" "_law_sound" (defArgs s_law_sound) (defBody s_law_sound) (defScope s_law_sound) .none kV38 dc38 pm38 an38 cd38 ct38, a_law_right := PySem.W.fnOf "_law_right" "_law_right" (defArgs s_law_right) (defBody s_law_right) (defScope s_law_right) .none kV39 dc39 pm39 an39 cd39 ct39, a_law_refused := PySem.W.fnOf "_law_refused" "_law_refused" (defArgs s_law_refused) (defBody s_law_refused) (defScope s_law_refused) .none kV40 dc40 pm40 an40 cd40 ct40, a_law := PySem.W.fnOf "law" "law" (defArgs s_law) (defBody s_law) (defScope s_law) .none kV41 dc41 pm41 an41 cd41 ct41 }
  have T : TX K mg a := { b_isinstance := n_isinstance, b_str := n_str, b_int := n_int, b_bool := n_bool, b_tuple := n_tuple, b_list := n_list, b_len := n_len, b_range := n_range, b_sorted := n_sorted, b_abs := n_abs, b_any := n_any, b_all := n_all, b_set := n_set, b_dict := n_dict, b_sum := n_sum, b_repr := n_repr, b_ValueError := n_ValueError, g_LETTERS := PySem.W.mg_of X G aK0, g_SIGNS := PySem.W.mg_of X G aK1, g_LONGEST_NAME := PySem.W.mg_of X G aK2, f_is_name := g1, k_is_name := k1, f_is_integer := g2, k_is_integer := k2, f_is_bound := g3, k_is_bound := k3, f_is_literal := g4, k_is_literal := k4, f_check_literal := g5, k_check_literal := k5, f_complement := g6, k_complement := k6, f_opposite := g7, k_opposite := k7, f_moments_of := g8, k_moments_of := k8, f_clause_of := g9, k_clause_of := k9, f_normal_form := g10, k_normal_form := k10, f_check_listed := g11, k_check_listed := k11, f_literal_stands := g12, k_literal_stands := k12, f_clauses_stand := g13, k_clauses_stand := k13, f_clause_holds := g14, k_clause_holds := k14, f_resolve := g15, k_resolve := k15, f_resolvent := g16, k_resolvent := k16, f__law_box := g17, k__law_box := k17, f__law_take := g18, k__law_take := k18, f__law_number := g19, k__law_number := k19, f__law_name := g20, k__law_name := k20, f__law_comp := g21, k__law_comp := k21, f__law_normal := g22, k__law_normal := k22, f__law_resolved := g23, k__law_resolved := k23, f__law_ring := g24, k__law_ring := k24, f__law_near := g25, k__law_near := k25, f__law_world := g26, k__law_world := k26, f__law_some := g27, k__law_some := k27, f__law_drawn := g28, k__law_drawn := k28, f__law_holds := g29, k__law_holds := k29, f__law_values := g30, k__law_values := k30, f__law_exact := g31, k__law_exact := k31, f__law_put := g32, k__law_put := k32, f__law_odd_literal := g33, k__law_odd_literal := k33, f__law_odd_clause := g34, k__law_odd_clause := k34, f__law_told := g35, k__law_told := k35, f__law_pivots := g36, k__law_pivots := k36, f__law_meets := g37, k__law_meets := k37, f__law_sound := g38, k__law_sound := k38, f__law_right := g39, k__law_right := k39, f__law_refused := g40, k__law_refused := k40, f_law := g41, k_law := k41, c_RingclauseError := PySem.W.mg_of X G aR, c_InvalidLiteral := PySem.W.mg_of X G aL, c_InvalidClause := PySem.W.mg_of X G aC, c_UnknownMoment := PySem.W.mg_of X G aU, c_InvalidPivot := PySem.W.mg_of X G aP }
  have D : FDS K a d := { F_is_name := F1, B_is_name := b1, F_is_integer := F2, B_is_integer := b2, F_is_bound := F3, B_is_bound := b3, F_is_literal := F4, B_is_literal := b4, F_check_literal := F5, B_check_literal := b5, F_complement := F6, B_complement := b6, F_opposite := F7, B_opposite := b7, F_moments_of := F8, B_moments_of := b8, F_clause_of := F9, B_clause_of := b9, F_normal_form := F10, B_normal_form := b10, F_check_listed := F11, B_check_listed := b11, F_literal_stands := F12, B_literal_stands := b12, F_clauses_stand := F13, B_clauses_stand := b13, F_clause_holds := F14, B_clause_holds := b14, F_resolve := F15, B_resolve := b15, F_resolvent := F16, B_resolvent := b16, F__law_box := F17, B__law_box := b17, F__law_take := F18, B__law_take := b18, F__law_number := F19, B__law_number := b19, F__law_name := F20, B__law_name := b20, F__law_comp := F21, B__law_comp := b21, F__law_normal := F22, B__law_normal := b22, F__law_resolved := F23, B__law_resolved := b23, F__law_ring := F24, B__law_ring := b24, F__law_near := F25, B__law_near := b25, F__law_world := F26, B__law_world := b26, F__law_some := F27, B__law_some := b27, F__law_drawn := F28, B__law_drawn := b28, F__law_holds := F29, B__law_holds := b29, F__law_values := F30, B__law_values := b30, F__law_exact := F31, B__law_exact := b31, F__law_put := F32, B__law_put := b32, F__law_odd_literal := F33, B__law_odd_literal := b33, F__law_odd_clause := F34, B__law_odd_clause := b34, F__law_told := F35, B__law_told := b35, F__law_pivots := F36, B__law_pivots := b36, F__law_meets := F37, B__law_meets := b37, F__law_sound := F38, B__law_sound := b38, F__law_right := F39, B__law_right := b39, F__law_refused := F40, B__law_refused := b40, F_law := F41, B_law := b41 }
  have R : ER K mg l.prog a fXL fXC fXU fXP := { eL := sup_L, eC := sup_C, eU := sup_U, eP := sup_P }
  have C : ECS K a := { P := { xc := ⟨ga_P, gg_P, eI_P, hP, ka_P, kn, kt, km_P⟩, xf := ⟨ga_P, gg_P, eI_P, hP⟩, noF := nF_P, kR := kit_ref sP_P sR_P hR yR, kV := kit_type (by decide +kernel) vI_P, kL := kit_ref sP_P sL_P hL yL, kC := kit_ref sP_P sC_P hC yC, eP := PySem.W.exm_ref eI_P hP yP sP_P, eL := PySem.W.exm_ref eI_L hL yL sL_P, eC := PySem.W.exm_ref eI_C hC yC sC_P }, L := { xc := ⟨ga_L, gg_L, eI_L, hL, ka_L, kn, kt, km_L⟩, xf := ⟨ga_L, gg_L, eI_L, hL⟩, noF := nF_L, kR := kit_ref sL_L sR_L hR yR, kV := kit_type (by decide +kernel) vI_L, kL := kit_ref sL_L sL_L hL yL, kC := kit_ref sL_L sC_L hC yC, eP := PySem.W.exm_ref eI_P hP yP sP_L, eL := PySem.W.exm_ref eI_L hL yL sL_L, eC := PySem.W.exm_ref eI_C hC yC sC_L }, C := { xc := ⟨ga_C, gg_C, eI_C, hC, ka_C, kn, kt, km_C⟩, xf := ⟨ga_C, gg_C, eI_C, hC⟩, noF := nF_C, kR := kit_ref sC_C sR_C hR yR, kV := kit_type (by decide +kernel) vI_C, kL := kit_ref sC_C sL_C hL yL, kC := kit_ref sC_C sC_C hC yC, eP := PySem.W.exm_ref eI_P hP yP sP_C, eL := PySem.W.exm_ref eI_L hL yL sL_C, eC := PySem.W.exm_ref eI_C hC yC sC_C } }
  exact ⟨d.a_law, fun s v => .of_eq rfl, fun base _ _ => ok_law (P := l.prog) (w := w) (base := base) T D R C⟩
theorem walk {l : PySem.W.OpenLaw} {q : Program} {loose : List Str} {XP : (Str → Option Value) → Heap → Prop} {YP : World → Heap → Prop} {d : DefRec} {K : Params → PySem.W.Frag} (hn : l.most = some 63) (hdf : d.params.defaults = [])
    (hY : ∀ (w : World) (h : Heap), YP w h → (K w.params).In h)
    (H : ∀ (w : World) (mg : Str → Option Value) (fa : Addr) (h : Heap), (K w.params).In h → h.Ns mainGlobals mg → mg d.name = some (.ref fa) →
      ∃ fd : FuncData, (∀ (s : Shared) (u : Value), BindsTo s fd ⟨[u], []⟩ [("script", u)]) ∧ ∀ base : Heap, (K w.params).In base → base.Ns mainGlobals mg → FnG l.prog w (K w.params) mg base 10 fa fd ["script"] (spLaw (K w.params))) :
    PySem.W.WalkO q loose XP YP l.row.toRowW d [] (fun f vs => PySem.call f vs) :=
  walk_ofG (n := 63) (k := 10) (x := "script") (sp := fun w => spLaw (K w.params)) hn (by decide) hdf ⟨rfl, by decide, by decide⟩ hY H (fun _ _ a ns hl _ hS => ⟨a, ns, rfl, hS, fun _ => rfl⟩)
end F5
set_option maxRecDepth 100000
open PySem PySem.W PyProof.Rows in
set_option maxRecDepth 100000 in
set_option maxHeartbeats 0 in
theorem PySem.Challenge.cw_ringclause_k15_resolve_two_clauses_holds : PySem.Challenge.rw_ringclause_k15_resolve_two_clauses.Holds := by
  w_on; o_law; k_head; (case hw => w_witness2)
  k_fill
  refine F5.walk (l := PySem.Challenge.rw_ringclause_k15_resolve_two_clauses) rfl rfl (fun w h Y => PySem.W.kIn_of Y) ?F
  case F =>
    intro w mg fa h KX G hmg
    refine' F5.all_mk KX G hmg ?a1 ?l1 ?c1 ?k1 ?a2 ?l2 ?c2 ?k2 ?a3 ?l3 ?c3 ?k3 ?a4 ?l4 ?c4 ?k4 ?a5 ?l5 ?c5 ?k5 ?a6 ?l6 ?c6 ?k6 ?a7 ?l7 ?c7 ?k7 ?a8 ?l8 ?c8 ?k8 ?a9 ?l9 ?c9 ?k9 ?a10 ?l10 ?c10 ?k10 ?a11 ?l11 ?c11 ?k11 ?a12 ?l12 ?c12 ?k12 ?a13 ?l13 ?c13 ?k13 ?a14 ?l14 ?c14 ?k14 ?a15 ?l15 ?c15 ?k15 ?a16 ?l16 ?c16 ?k16 ?a17 ?l17 ?c17 ?k17 ?a18 ?l18 ?c18 ?k18 ?a19 ?l19 ?c19 ?k19 ?a20 ?l20 ?c20 ?k20 ?a21 ?l21 ?c21 ?k21 ?a22 ?l22 ?c22 ?k22 ?a23 ?l23 ?c23 ?k23 ?a24 ?l24 ?c24 ?k24 ?a25 ?l25 ?c25 ?k25 ?a26 ?l26 ?c26 ?k26 ?a27 ?l27 ?c27 ?k27 ?a28 ?l28 ?c28 ?k28 ?a29 ?l29 ?c29 ?k29 ?a30 ?l30 ?c30 ?k30 ?a31 ?l31 ?c31 ?k31 ?a32 ?l32 ?c32 ?k32 ?a33 ?l33 ?c33 ?k33 ?a34 ?l34 ?c34 ?k34 ?a35 ?l35 ?c35 ?k35 ?a36 ?l36 ?c36 ?k36 ?a37 ?l37 ?c37 ?k37 ?a38 ?l38 ?c38 ?k38 ?a39 ?l39 ?c39 ?k39 ?a40 ?l40 ?c40 ?k40 ?a41 ?l41 ?c41 ?k41 ?z_isinstance ?z_str ?z_int ?z_bool ?z_tuple ?z_list ?z_len ?z_range ?z_sorted ?z_abs ?z_any ?z_all ?z_set ?z_dict ?z_sum ?z_repr ?z_ValueError ?z_super ?aK0 ?aK1 ?aK2 ?aR ?hR ?yR ?aL ?hL ?yL ?aC ?hC ?yC ?aU ?hU ?yU ?aP ?hP ?yP ?oq ?hTop ?kn ?kt ?xI_L ?rv_L ?sa_L ?ga_L ?gg_L ?nF_L ?iX_L ?tF_L ?kI_L ?eI_L ?vI_L ?mI_L ?su_L ?lX_L ?cX_L ?lC_L ?lD_L ?rf_L ?fi_L ?ka_L ?km_L ?sR_L ?sL_L ?sC_L ?sU_L ?sP_L ?xI_C ?rv_C ?sa_C ?ga_C ?gg_C ?nF_C ?iX_C ?tF_C ?kI_C ?eI_C ?vI_C ?mI_C ?su_C ?lX_C ?cX_C ?lC_C ?lD_C ?rf_C ?fi_C ?ka_C ?km_C ?sR_C ?sL_C ?sC_C ?sU_C ?sP_C ?xI_U ?rv_U ?sa_U ?ga_U ?gg_U ?nF_U ?iX_U ?tF_U ?kI_U ?eI_U ?vI_U ?mI_U ?su_U ?lX_U ?cX_U ?lC_U ?lD_U ?rf_U ?fi_U ?ka_U ?km_U ?sR_U ?sL_U ?sC_U ?sU_U ?sP_U ?xI_P ?rv_P ?sa_P ?ga_P ?gg_P ?nF_P ?iX_P ?tF_P ?kI_P ?eI_P ?vI_P ?mI_P ?su_P ?lX_P ?cX_P ?lC_P ?lD_P ?rf_P ?fi_P ?ka_P ?km_P ?sR_P ?sL_P ?sC_P ?sU_P ?sP_P
    (case a1 => k_is)
    (case l1 => k_is)
    (case c1 => k_is)
    (case k1 => k_is)
    (case a2 => k_is)
    (case l2 => k_is)
    (case c2 => k_is)
    (case k2 => k_is)
    (case a3 => k_is)
    (case l3 => k_is)
    (case c3 => k_is)
    (case k3 => k_is)
    (case a4 => k_is)
    (case l4 => k_is)
    (case c4 => k_is)
    (case k4 => k_is)
    (case a5 => k_is)
    (case l5 => k_is)
    (case c5 => k_is)
    (case k5 => k_is)
    (case a6 => k_is)
    (case l6 => k_is)
    (case c6 => k_is)
    (case k6 => k_is)
    (case a7 => k_is)
    (case l7 => k_is)
    (case c7 => k_is)
    (case k7 => k_is)
    (case a8 => k_is)
    (case l8 => k_is)
    (case c8 => k_is)
    (case k8 => k_is)
    (case a9 => k_is)
    (case l9 => k_is)
    (case c9 => k_is)
    (case k9 => k_is)
    (case a10 => k_is)
    (case l10 => k_is)
    (case c10 => k_is)
    (case k10 => k_is)
    (case a11 => k_is)
    (case l11 => k_is)
    (case c11 => k_is)
    (case k11 => k_is)
    (case a12 => k_is)
    (case l12 => k_is)
    (case c12 => k_is)
    (case k12 => k_is)
    (case a13 => k_is)
    (case l13 => k_is)
    (case c13 => k_is)
    (case k13 => k_is)
    (case a14 => k_is)
    (case l14 => k_is)
    (case c14 => k_is)
    (case k14 => k_is)
    (case a15 => k_is)
    (case l15 => k_is)
    (case c15 => k_is)
    (case k15 => k_is)
    (case a16 => k_is)
    (case l16 => k_is)
    (case c16 => k_is)
    (case k16 => k_is)
    (case a17 => k_is)
    (case l17 => k_is)
    (case c17 => k_is)
    (case k17 => k_is)
    (case a18 => k_is)
    (case l18 => k_is)
    (case c18 => k_is)
    (case k18 => k_is)
    (case a19 => k_is)
    (case l19 => k_is)
    (case c19 => k_is)
    (case k19 => k_is)
    (case a20 => k_is)
    (case l20 => k_is)
    (case c20 => k_is)
    (case k20 => k_is)
    (case a21 => k_is)
    (case l21 => k_is)
    (case c21 => k_is)
    (case k21 => k_is)
    (case a22 => k_is)
    (case l22 => k_is)
    (case c22 => k_is)
    (case k22 => k_is)
    (case a23 => k_is)
    (case l23 => k_is)
    (case c23 => k_is)
    (case k23 => k_is)
    (case a24 => k_is)
    (case l24 => k_is)
    (case c24 => k_is)
    (case k24 => k_is)
    (case a25 => k_is)
    (case l25 => k_is)
    (case c25 => k_is)
    (case k25 => k_is)
    (case a26 => k_is)
    (case l26 => k_is)
    (case c26 => k_is)
    (case k26 => k_is)
    (case a27 => k_is)
    (case l27 => k_is)
    (case c27 => k_is)
    (case k27 => k_is)
    (case a28 => k_is)
    (case l28 => k_is)
    (case c28 => k_is)
    (case k28 => k_is)
    (case a29 => k_is)
    (case l29 => k_is)
    (case c29 => k_is)
    (case k29 => k_is)
    (case a30 => k_is)
    (case l30 => k_is)
    (case c30 => k_is)
    (case k30 => k_is)
    (case a31 => k_is)
    (case l31 => k_is)
    (case c31 => k_is)
    (case k31 => k_is)
    (case a32 => k_is)
    (case l32 => k_is)
    (case c32 => k_is)
    (case k32 => k_is)
    (case a33 => k_is)
    (case l33 => k_is)
    (case c33 => k_is)
    (case k33 => k_is)
    (case a34 => k_is)
    (case l34 => k_is)
    (case c34 => k_is)
    (case k34 => k_is)
    (case a35 => k_is)
    (case l35 => k_is)
    (case c35 => k_is)
    (case k35 => k_is)
    (case a36 => k_is)
    (case l36 => k_is)
    (case c36 => k_is)
    (case k36 => k_is)
    (case a37 => k_is)
    (case l37 => k_is)
    (case c37 => k_is)
    (case k37 => k_is)
    (case a38 => k_is)
    (case l38 => k_is)
    (case c38 => k_is)
    (case k38 => k_is)
    (case a39 => k_is)
    (case l39 => k_is)
    (case c39 => k_is)
    (case k39 => k_is)
    (case a40 => k_is)
    (case l40 => k_is)
    (case c40 => k_is)
    (case k40 => k_is)
    (case a41 => k_is)
    (case l41 => k_is)
    (case c41 => k_is)
    (case k41 => k_is)
    (case z_isinstance => k_is)
    (case z_str => k_is)
    (case z_int => k_is)
    (case z_bool => k_is)
    (case z_tuple => k_is)
    (case z_list => k_is)
    (case z_len => k_is)
    (case z_range => k_is)
    (case z_sorted => k_is)
    (case z_abs => k_is)
    (case z_any => k_is)
    (case z_all => k_is)
    (case z_set => k_is)
    (case z_dict => k_is)
    (case z_sum => k_is)
    (case z_repr => k_is)
    (case z_ValueError => k_is)
    (case z_super => k_is)
    (case aK0 => k_is)
    (case aK1 => k_is)
    (case aK2 => k_is)
    (case aR => k_is)
    (case hR => k_is)
    (case yR => k_is)
    (case aL => k_is)
    (case hL => k_is)
    (case yL => k_is)
    (case aC => k_is)
    (case hC => k_is)
    (case yC => k_is)
    (case aU => k_is)
    (case hU => k_is)
    (case yU => k_is)
    (case aP => k_is)
    (case hP => k_is)
    (case yP => k_is)
    (case oq => k_is)
    (case hTop => rfl)
    (case kn => k_is)
    (case kt => k_is)
    (case xI_L => k_is)
    (case rv_L => rfl)
    (case sa_L => k_is)
    (case ga_L => k_is)
    (case gg_L => k_is)
    (case nF_L => k_is)
    (case iX_L => k_is)
    (case tF_L => k_is)
    (case kI_L => k_is)
    (case eI_L => k_is)
    (case vI_L => k_is)
    (case mI_L => k_is)
    (case su_L => ks_is)
    (case lX_L => k_is)
    (case cX_L => k_is)
    (case lC_L => k_is)
    (case lD_L => k_is)
    (case rf_L => rfl)
    (case fi_L => rfl)
    (case ka_L => k_is)
    (case km_L => k_is)
    (case sR_L => k_is)
    (case sL_L => k_is)
    (case sC_L => k_is)
    (case sU_L => k_is)
    (case sP_L => k_is)
    (case xI_C => k_is)
    (case rv_C => rfl)
    (case sa_C => k_is)
    (case ga_C => k_is)
    (case gg_C => k_is)
    (case nF_C => k_is)
    (case iX_C => k_is)
    (case tF_C => k_is)
    (case kI_C => k_is)
    (case eI_C => k_is)
    (case vI_C => k_is)
    (case mI_C => k_is)
    (case su_C => ks_is)
    (case lX_C => k_is)
    (case cX_C => k_is)
    (case lC_C => k_is)
    (case lD_C => k_is)
    (case rf_C => rfl)
    (case fi_C => rfl)
    (case ka_C => k_is)
    (case km_C => k_is)
    (case sR_C => k_is)
    (case sL_C => k_is)
    (case sC_C => k_is)
    (case sU_C => k_is)
    (case sP_C => k_is)
    (case xI_U => k_is)
    (case rv_U => rfl)
    (case sa_U => k_is)
    (case ga_U => k_is)
    (case gg_U => k_is)
    (case nF_U => k_is)
    (case iX_U => k_is)
    (case tF_U => k_is)
    (case kI_U => k_is)
    (case eI_U => k_is)
    (case vI_U => k_is)
    (case mI_U => k_is)
    (case su_U => ks_is)
    (case lX_U => k_is)
    (case cX_U => k_is)
    (case lC_U => k_is)
    (case lD_U => k_is)
    (case rf_U => rfl)
    (case fi_U => rfl)
    (case ka_U => k_is)
    (case km_U => k_is)
    (case sR_U => k_is)
    (case sL_U => k_is)
    (case sC_U => k_is)
    (case sU_U => k_is)
    (case sP_U => k_is)
    (case xI_P => k_is)
    (case rv_P => rfl)
    (case sa_P => k_is)
    (case ga_P => k_is)
    (case gg_P => k_is)
    (case nF_P => k_is)
    (case iX_P => k_is)
    (case tF_P => k_is)
    (case kI_P => k_is)
    (case eI_P => k_is)
    (case vI_P => k_is)
    (case mI_P => k_is)
    (case su_P => ks_is)
    (case lX_P => k_is)
    (case cX_P => k_is)
    (case lC_P => k_is)
    (case lD_P => k_is)
    (case rf_P => rfl)
    (case fi_P => rfl)
    (case ka_P => k_is)
    (case km_P => k_is)
    (case sR_P => k_is)
    (case sL_P => k_is)
    (case sC_P => k_is)
    (case sU_P => k_is)
    (case sP_P => k_is)
