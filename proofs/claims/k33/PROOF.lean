import PyProof.Rows.All
import Wide.All
import OpenK.AllK
import Wide.FinOn
import KE.KExcSuper
import HandS.ForExc
import HandS.HotCalls
import HandS.ForMost
import HandS.Ends
import PyProof.ReprRoads
import HandS.SortRule
import KE.SortData
import HandS.List
import HandS.Evl
import HandS.FStrTup
import PyProof.ReprText
import HandS.DictTup
import PyProof.DictMoreH
import HandS.Conv
import HandS.DictSubView
import KE.KDictCopyH
import KE.KDictWalk
import PyProof.TupleOfGen
import HandS.ExcField
import HandS.ExcIs
import HandS.IsInst
import HandS.Wide
import HandS.Walk
import HandS.Zip
import HandS.StrMore
import PyProof.Rows.StrCut
import PySem.Challenge.RW_ringclause_k33_preferred_list
import HandS.Deep
import HandS.Star
import HandS.TupAny
import KE.RegKSuper
set_option Elab.async false
set_option linter.all false
set_option maxRecDepth 100000
set_option maxHeartbeats 4000000
/-! An own exception over ValueError whose __init__ is: super().__init__('..'); self.f = f -/
namespace PySem
namespace Sup
open PySem.W PySem.Calls PyProof.Rows PySem.HandSPX

def sArgs (fld : Str) (p1 p2 : Pos) : Arguments :=
  { posonlyargs := [], args := [{ arg := "self", annotation := none, pos := p1 }, { arg := fld, annotation := none, pos := p2 }], vararg := none, kwonlyargs := [], kw_defaults := [], kwarg := none, defaults := [] }
def sBody (fld msg : Str) (a1 a2 a3 a4 a5 a6 b1 b2 b3 b4 : Pos) : List Stmt :=
  [.Expr (.Call (.Attribute (.Call (.Name "super" a1) [] [] a2) "__init__" a3) [.Constant (.str msg) 0 a4] [] a5) a6,
   .Assign [.Attribute (.Name "self" b1) fld b2] (.Name fld b3) b4]
def sScope (fld : Str) : Scope :=
  { kind := .function, names := [(PySem.Str.ofString "self", .local), (fld, .local), (PySem.Str.ofString "__class__", .free), (PySem.Str.ofString "super", .globalImplicit)], isGenerator := false, isCoroutine := false, more := [] }

abbrev sFn (fld msg qual : Str) (p1 p2 a1 a2 a3 a4 a5 a6 b1 b2 b3 b4 : Pos) (doc pm : Value) (an : Option Addr) (cda cc : Addr) (ct : Value) : FuncData :=
  fnX "__init__" qual (sArgs fld p1 p2) (sBody fld msg a1 a2 a3 a4 a5 a6 b1 b2 b3 b4) (sScope fld) [("__class__", cc)] .none .none doc pm an (.ref cda) ct
/-- the field's name is none of the other names; what follows from it, each by rfl -/
structure FldOk (fld : Str) : Prop where
  bd : ∀ (msg qual : Str) (p1 p2 a1 a2 a3 a4 a5 a6 b1 b2 b3 b4 : Pos) (doc pm : Value) (an : Option Addr) (cda cc : Addr) (ct u v : Value),
    bindArgs (sFn fld msg qual p1 p2 a1 a2 a3 a4 a5 a6 b1 b2 b3 b4 doc pm an cda cc ct) ⟨[u, v], []⟩ = pure [(("self" : Str), u), (fld, v)]
  lf : (sScope fld).names.lookup fld = some .local
  lc : (sScope fld).names.lookup ("__class__" : Str) = some .free
  ls : (sScope fld).names.lookup ("super" : Str) = some .globalImplicit
  nd : (fld == ("__debug__" : Str)) = false
  ns : ("self" : Str) ≠ fld

/-- super().__init__('..') is a method's call on one row of the text: by ⟨_, rfl⟩ where the places are written -/
def EvOk (fld msg qual : Str) (p1 p2 a1 a2 a3 a4 a5 a6 b1 b2 b3 b4 : Pos) (doc pm : Value) (an : Option Addr) (cda cc : Addr) (ct : Value) : Prop := ∀ (L a : Addr), ∃ pl : Sem Bool,
    eval (.Call (.Attribute (.Call (.Name "super" a1) [] [] a2) "__init__" a3) [.Constant (.str msg) 0 a4] [] a5) (callEnv (sFn fld msg qual p1 p2 a1 a2 a3 a4 a5 a6 b1 b2 b3 b4 doc pm an cda cc ct) L a) = (do
      let ov ← attributeBase (.Call (.Name "super" a1) [] [] a2) "__init__" (callEnv (sFn fld msg qual p1 p2 a1 a2 a3 a4 a5 a6 b1 b2 b3 b4 doc pm an cda cc ct) L a)
        (eval (.Call (.Name "super" a1) [] [] a2) (callEnv (sFn fld msg qual p1 p2 a1 a2 a3 a4 a5 a6 b1 b2 b3 b4 doc pm an cda cc ct) L a))
      standAt a3.atName
      let (f, first) ← holding [ov] (getMethod ov "__init__" pl)
      callWith a5 f first (backTo a5 (starEach [.Constant (.str msg) 0 a4] (callEnv (sFn fld msg qual p1 p2 a1 a2 a3 a4 a5 a6 b1 b2 b3 b4 doc pm an cda cc ct) L a))) [])
/-- what the written part says of such a class at C, its __init__ at fI, the cell at cc that holds C, the code record at cda -/
structure SupTxt (K : Frag) (mg : Str → Option Value) (prog : Program) (cn fld msg : Str) (C fI : Addr) : Prop where
  gC : mg cn = some (.ref C)
  ok : FldOk fld
  cls : ∃ nm q N bs bm sn sub ab col dd k0 k1 k2 k3 k5, K.lookup C = some (excClassObj nm q C N bs bm true sn sub ab col dd k0 k1 k2 k3 k5 "ValueError.__new__") ∧ refsVE bm = true
  sa : findIn K (.ref C) "__setattr__" = some (some (.builtin "object.__setattr__"))
  ga : findIn K (.ref C) "__getattribute__" = some (some (.builtin "BaseException.__getattribute__"))
  gg : findIn K (.ref C) "__getattr__" = some none
  noF : findIn K (.ref C) fld = some none
  iC : findIn K (.ref C) "__init__" = some (some (.ref fI))
  tF : typeIn K (.ref fI) = some (.type "function")
  kC : keepIn K (.ref C) = true
  exC : subIn K (.ref C) (.type "BaseException") = some true
  veC : subIn K (.ref C) (.type "ValueError") = some true
  tyC : typeIn K (.ref C) = some (.type "type")
  hdC : hasDictIn K C = true
  mC : mroIn K C (.ref C) = some true
  opq : nsIn K cStatics "thirdparty.any" = some none
  sup : ks_superIn K C C "__init__" = some (some (.builtin "ValueError.__init__"))
  htop : (prog.main.scope.names.lookup ("super" : Str)).isSome = false
  mgS : mg "super" = none
  fn : ∃ (oc : Value) (od : Option Addr) (qual : Str) (doc pm : Value) (an : Option Addr) (cda cc : Addr) (ct : Value) (osl : Array (Option Value)) (p1 p2 a1 a2 a3 a4 a5 a6 b1 b2 b3 b4 : Pos),
    K.lookup fI = some ⟨oc, od, .func (sFn fld msg qual p1 p2 a1 a2 a3 a4 a5 a6 b1 b2 b3 b4 doc pm an cda cc ct), osl⟩ ∧ EvOk fld msg qual p1 p2 a1 a2 a3 a4 a5 a6 b1 b2 b3 b4 doc pm an cda cc ct ∧
    codeIn K (.ref cda) qual = true ∧
    (∃ cl cld csl, K.lookup cc = some ⟨cl, cld, .cell (some (.ref C)), csl⟩) ∧
    (∃ ccl cdd vs ccs file tf, K.lookup cda = some ⟨ccl, cdd, .fields vs, ccs⟩ ∧ vs[2]? = some (.str file tf) ∧ ((prog.main.file : Str) == file) = true)

theorem line1 (v : Value) : [v].length ≤ sizeLine := by
  rw [sizeLine_eq]
  exact (by decide : 1 ≤ 16777216)

/-- what __init__ leaves of a fresh exception at x -/
structure SupEnd (h h' : Heap) (x C dx : Addr) (fld : Str) (v : Value) : Prop where
  keep : ∀ b o, b ≠ x → h.get? b = some o → h'.get? b = some o
  obj : ∃ t1 : Addr, h'.get? x = some { cls := .ref C, dict := some dx, data := .fields #[.ref t1, .none, .none, .none, .bool false, .none] }
  dbig : h.objs.size ≤ dx
  dne : dx ≠ x
  ns : h'.Ns1 dx (fun y => if y = fld then some v else none)

section
variable {prog : Program} {w : World} {A : Around} {E : Value → Shared → Prop} {R : Result → Shared → Prop} {s : Shared} {K : Frag} {mg mb : Str → Option Value} {cn fld msg : Str} {C fI : Addr}

/-- the bound ValueError.__init__ called with one argument -/
theorem base_init {u x t0 : Addr} {a : Value} {Q : Value → Shared → Prop} (T : SupTxt K mg prog cn fld msg C fI) (X : K.In s.heap)
    (hu : s.heap.get? u = some (kxs_mw "ValueError.__init__" x)) (hx : s.heap.get? x = some (excO C t0))
    (hq : ∀ h' t1, (∀ b o, b ≠ x → s.heap.get? b = some o → h'.get? b = some o) → h'.get? x = some (excO C t1) → Q .none { s with heap := h' }) :
    wpAny (model prog w) A (call (.ref u) [a]) Q E s := by
  obtain ⟨nm, q, N, bs, bm, sn, sub, ab, col, dd, k0, k1, k2, k3, k5, hC, hbm⟩ := T.cls
  obtain ⟨hh, g, d, tk, os⟩ := s
  have hC' := X _ _ hC
  refine wpAny_call (codeAny_of_tree ?_)
  show wpAny (model prog w) A.in1 (callAny (.ref u) ⟨[a], []⟩) _ _ _
  unfold callAny
  refine wpAny_bind (wpAny_load hu ?_)
  have m1 : (Value.type "method-wrapper" == Value.type "method") = false := by decide
  have m2 : (Value.type "method-wrapper" == Value.type "builtin_function_or_method") = false := by decide
  have m3 : (Value.type "method-wrapper" == Value.type "method-wrapper") = true := by decide
  simp only [kxs_mw, m1, m2, m3, Bool.or_true, Bool.false_or, if_true]
  refine KFB.if_so (by decide) ?_
  refine wpAny_bind (check_bound_init PySem.F.excBase_ValueError.toExcCallFacts hC' hx rfl ?_)
  refine wpAny_bind (wpAny_pure (wpAny_pure ?_))
  refine ⟨plainId_quiet PySem.F.excBase_ValueError.init.plain _, codeAny_builtin PySem.F.excBase_ValueError.initEntry ?_⟩
  exact exc_init_tree (cls := .ref C) (t0 := t0) (dv := none) (c2 := .none) (c3 := .none) (b4 := .bool false) hx (line1 a) fun h' k e _ => hq h' _ k e

theorem sup_init (T : SupTxt K mg prog cn fld msg C fI) {x t0 : Addr} {v : Value} (X : K.In s.heap) (hlim : s.heap.NoLimit) (hG : s.heap.Ns mainGlobals mg) (hB : s.heap.Ns builtinsNs mb) (hmb : mb "super" = some (.type "super"))
    (hx : s.heap.get? x = some (excO C t0)) (hnx : K.lookup x = none) (hroom : A.depth < recursionLimit)
    (hq : ∀ h' tk dx, SupEnd s.heap h' x C dx fld v → R (.ok (.ret .none)) { s with heap := h', toks := tk }) :
    codeAny (model prog w) A (.call (.ref fI) ⟨[.ref x, v], []⟩) R s := by
  obtain ⟨oc, od, qual, doc, pm, an, cda, cc, ct, osl, p1, p2, a1, a2, a3, a4, a5, a6, b1, b2, b3, b4, ho, hevO, hcd, ⟨cl, cld, csl, hcell⟩, ⟨ccl, cdd, vs, ccs, file, tf, hcda, hvs, hfile⟩⟩ := T.fn
  obtain ⟨nm, q, N, bs, bm, sn, sub, ab, col, dd, k0, k1, k2, k3, k5, hC, hbm⟩ := T.cls
  have O := T.ok
  refine ks_codeAny_call_defAt (fd := fnX "__init__" qual (sArgs fld p1 p2) (sBody fld msg a1 a2 a3 a4 a5 a6 b1 b2 b3 b4) (sScope fld) [("__class__", cc)] .none .none doc pm an (.ref cda) ct) (binds := [("self", .ref x), (fld, v)])
    hroom (X _ _ ho) rfl hlim (codeRec_of X hcd) rfl (BindsTo.of_eq (O.bd _ _ _ _ _ _ _ _ _ _ _ _ _ _ _ _ _ _ _ _ _ _)) (by
      intro y hy
      simp only [sScope, List.mem_cons, List.not_mem_nil, or_false] at hy
      rcases hy with rfl | rfl | rfl | rfl <;> (intro z; cases z)) (by
      intro y hy
      simp only [List.mem_cons, List.not_mem_nil, or_false] at hy
      rcases hy with rfl | rfl
      · rfl
      · exact O.lf) (fun h₁ hns k => ?_) rfl rfl rfl
  have X₁ : K.In h₁ := X.keeps k
  have hx₁ := k _ _ hx
  have hvf : ([(("self" : Str), Value.ref x), (fld, v)].reverse).lookup fld = some v := by
    show List.lookup fld [(fld, v), (("self" : Str), Value.ref x)] = some v
    simp [List.lookup]
  have hvs' : ([(("self" : Str), Value.ref x), (fld, v)].reverse).lookup ("self" : Str) = some (.ref x) := by
    show List.lookup ("self" : Str) [(fld, v), (("self" : Str), Value.ref x)] = some (.ref x)
    have e : (("self" : Str) == fld) = false := by simpa using O.ns
    simp [List.lookup, e]
  have hcls : clsIn K C = some { name := nm, bases := bs, mro := .ref C :: bm, ns := N, qualname := q, hasDict := true, slotNames := sn, subclasses := sub, abstract := ab, collection := col, hasDel := false } := by unfold clsIn; rw [hC] <;> rfl
  have hsc : (sScope fld).names.lookup ("self" : Str) = some .local := rfl
  show wpAt (model prog w) _ _ (execs (sBody fld msg a1 a2 a3 a4 a5 a6 b1 b2 b3 b4) _) _ _ _
  obtain ⟨pl, hev⟩ := hevO s.heap.objs.size fI
  refine ks_wpAt_execs_cons (ks_wpAt_Expr_any (ks_wpAt_MethodCall (pl := pl) (he := hev) (ks_wpAt_super_base O.ls O.lc (by decide) rfl (X₁ _ _ ho) rfl rfl rfl (X₁ _ _ hcda) rfl hvs hfile T.htop ?_)))
  refine ks_loadName_global rfl O.ls (loadGlobal_builtin (hG.keeps k) T.mgS (hB.keeps k) hmb ⟨rfl, ?_⟩)
  refine wpAny_loadName_free rfl O.lc rfl ⟨_, X₁ _ _ hcell, rfl⟩ ?_
  refine wpAny_loadName_local rfl hsc hns hvs' ?_
  refine ks_wpAny_isType_cls (X₁ _ _ hC) rfl ⟨rfl, ?_⟩
  refine ks_wpAny_call_super (X₁ _ _ hC) rfl hx₁ rfl (fun c e => by cases e) (looks_mroIn X₁ T.mC) (fun h₂ e₂ k₂ => ?_)
  have X₂ : K.In h₂ := X₁.keeps k₂
  have hx₂ := k₂ _ _ hx₁
  have I₂ : InstAt h₂ x (excO C t0) C none := ⟨hx₂, rfl, rfl, trivial⟩
  have xC : x ≠ C := ks_ne X₂ I₂ hcls
  have hsup : alongIn K "__init__" ((_root_.List.dropWhile (· != Value.ref C) (.ref C :: bm)).drop 1) = some (some (.builtin "ValueError.__init__")) := by
    have z := T.sup
    unfold ks_superIn at z
    rw [hcls] at z
    exact z
  refine kxs_getMethod kxs_ValueError e₂ (looks_opaque X₂ T.opq) (l₀ := .ref C :: bm) (fun A Q E s k q => wpAny_bind ((looks_clsIn X₂ hcls) A _ E s k (wpAny_pure q))) rfl X₂ hsup (I₂.type.andThen (looks_subIn X₂ T.veC)) xC (by decide) ?_
  refine kxs_callWith (i := "ValueError.__init__") (x := x) rfl (evalArgs_plain ?_)
  refine spliced_cons (Constant_str (k := 0) (pos := a4) (spliced_nil ?_))
  have hu₃ : (h₂.push (kxs_mw "ValueError.__init__" x)).get? h₂.objs.size = some (kxs_mw "ValueError.__init__" x) := Heap.get?_push_at rfl rfl
  have k₃ : ∀ b o, h₂.get? b = some o → (h₂.push (kxs_mw "ValueError.__init__" x)).get? b = some o := fun b o e => Heap.get?_push_of_some _ e
  refine ⟨hu₃, base_init T (X₂.keeps k₃) hu₃ (k₃ _ _ hx₂) (fun h₄ t4 k₄ hx₄ => ?_)⟩
  have kx : ∀ b o, b ≠ x → s.heap.get? b = some o → h₄.get? b = some o := fun b o hb e => k₄ b o hb (k₃ _ _ (k₂ _ _ (k _ _ e)))
  have X₄ : K.In h₄ := fun a o e => kx a o (fun z => by rw [z, hnx] at e; cases e) (X a o e)
  have nL : s.heap.objs.size ≠ x := Nat.ne_of_gt (Heap.lt_size hx)
  have hns₄ : h₄.Ns s.heap.objs.size (fun y => ([(("self" : Str), Value.ref x), (fld, v)].reverse).lookup y) := by
    obtain ⟨oL, es, ep, hL, r⟩ := hns
    exact ⟨oL, es, ep, k₄ _ _ nL (k₃ _ _ (k₂ _ _ hL)), r⟩
  show wpAt (model prog w) _ _ (execs [.Assign [.Attribute (.Name "self" b1) fld b2] (.Name fld b3) b4] _) _ _ _
  refine wpAt_of_wpAny (wpAny_execs_cons (plainObj_wpAny_Assign_Attribute ?_))
  refine wpAny_Name (wpAny_loadName_local rfl O.lf hns₄ hvf ?_) O.nd
  refine wpAny_Name (wpAny_loadName_local rfl hsc hns₄ hvs' ?_) (by decide)
  refine set_plain X₄ (ox := excO C t4) (od := none) ⟨hx₄, rfl, rfl, trivial⟩ T.sa ?_
  refine exc_osa X₄ hx₄ hcls (show refsVE (.ref C :: bm) = true from hbm) rfl T.noF (fun h₅ tk₅ dx k₅ dn dne hx₅ hn₅ => ?_)
  have le1 : s.heap.objs.size < h₄.objs.size := by
    obtain ⟨oL, es, ep, hL, r⟩ := hns₄
    exact Heap.lt_size hL
  refine wpAny_execs_nil (hq h₅ tk₅ dx ⟨fun b o hb e => k₅ b o hb (kx b o hb e), ⟨t4, hx₅⟩, Nat.le_of_lt (Nat.lt_of_lt_of_le le1 dn), dne, hn₅⟩)
end

/-- C(v): the exception at e, its own dict at d -/
structure SupMade (h h' : Heap) (e C d : Addr) (fld : Str) (v : Value) : Prop where
  keep : ∀ b o, h.get? b = some o → h'.get? b = some o
  new : h.objs.size ≤ e
  obj : ∃ oe vs, h'.get? e = some oe ∧ oe.cls = .ref C ∧ oe.dict = some d ∧ oe.data = .fields vs ∧ vs[1]? = some .none
  dbig : h.objs.size ≤ d
  dne : d ≠ e
  ns : h'.Ns1 d (fun y => if y = fld then some v else none)
section
variable {prog : Program} {w : World} {A : Around} {E : Value → Shared → Prop} {R : Result → Shared → Prop} {s : Shared} {K : Frag} {mg mb : Str → Option Value} {cn fld msg : Str} {C fI : Addr}
theorem sup_made (T : SupTxt K mg prog cn fld msg C fI) {v : Value} (X : K.In s.heap) (hlim : s.heap.NoLimit) (hG : s.heap.Ns mainGlobals mg) (hB : s.heap.Ns builtinsNs mb) (hmb : mb "super" = some (.type "super")) (hroom : A.depth + 1 < recursionLimit)
    (hq : ∀ h' tk e d, SupMade s.heap h' e C d fld v → R (.ok (.ret (.ref e))) { s with heap := h', toks := tk }) :
    codeAny (model prog w) A (.call (.ref C) ⟨[v], []⟩) R s := by
  obtain ⟨nm, q, N, bs, bm, sn, sub, ab, col, dd, k0, k1, k2, k3, k5, hC, hbm⟩ := T.cls
  obtain ⟨hp, g, dr, tk, os⟩ := s
  have k : ∀ b o, hp.get? b = some o → ((hp.push (kdv_tup [v])).push (excO C hp.objs.size)).get? b = some o := fun b o e => Heap.get?_push_of_some _ (Heap.get?_push_of_some _ e)
  have hget : ((hp.push (kdv_tup [v])).push (excO C hp.objs.size)).get? (hp.objs.size + 1) = some (excO C hp.objs.size) := by heap_get
  have hnx : K.lookup (hp.objs.size + 1) = none := by
    cases e : K.lookup (hp.objs.size + 1) with
    | none => rfl
    | some o =>
      have z : hp.get? (hp.objs.size + 1) = some o := X _ _ e
      have z2 : hp.objs.size + 1 < hp.objs.size := Heap.lt_size z
      omega
  refine call_own PySem.F.excBase_ValueError (fun Y => refsVE_contains Y bm hbm) (X _ _ hC) (looks_findIn X T.iC) (fun self => bind_fn X self T.tF) (line1 v) ?_
  refine sup_init (s := ⟨(hp.push (kdv_tup [v])).push (excO C hp.objs.size), g, dr, tk, os⟩) T (X.keeps k) (hlim.keeps k) (hG.keeps k) (hB.keeps k) hmb hget hnx hroom fun h' tk' dx M => ?_
  obtain ⟨kp, ⟨t1, hob⟩, hd, hne, hns⟩ := M
  have sz : ((hp.push (kdv_tup [v])).push (excO C hp.objs.size)).objs.size = hp.objs.size + 1 + 1 := by simp only [Heap.size_push]
  have hd' : hp.objs.size + 2 ≤ dx := by
    have z : ((hp.push (kdv_tup [v])).push (excO C hp.objs.size)).objs.size ≤ dx := hd
    omega
  have old : ∀ b o, hp.get? b = some o → h'.get? b = some o := fun b o e => kp b o (Nat.ne_of_lt (Nat.lt_succ_of_lt (Heap.lt_size e))) (k b o e)
  exact ⟨rfl, hq h' tk' (hp.objs.size + 1) dx ⟨old, Nat.le_succ _, ⟨_, _, hob, rfl, rfl, rfl, rfl⟩, (by show hp.objs.size ≤ dx; omega), hne, hns⟩⟩
end
theorem fld_value : FldOk "value" := ⟨fun _ _ _ _ _ _ _ _ _ _ _ _ _ _ _ _ _ _ _ _ _ _ => rfl, rfl, rfl, rfl, by decide, by decide +kernel⟩
theorem ev_test (doc pm : Value) (an : Option Addr) (cda cc : Addr) (ct : Value) : EvOk "bounds" "abc" "q" ⟨6, 17, 6, 21⟩ ⟨6, 23, 6, 28⟩ ⟨7, 8, 7, 13⟩ ⟨7, 8, 7, 15⟩ ⟨7, 8, 7, 24⟩ ⟨7, 25, 7, 40⟩ ⟨7, 8, 7, 41⟩ ⟨7, 8, 7, 41⟩ ⟨8, 8, 8, 12⟩ ⟨8, 8, 8, 18⟩ ⟨8, 21, 8, 26⟩ ⟨8, 8, 8, 26⟩ doc pm an cda cc ct := fun _ _ => ⟨_, rfl⟩
end Sup
end PySem
namespace L2
open PySem PySem.Spec PyProof.Rows
theorem relO_one {fld : Str} {v : V} {v' : Value} (r : RelV v v') (f : Str) : RelO (List.lookup f [(fld, v)]) (if f = fld then some v' else none) := by
  by_cases hw : f = fld
  · have q : List.lookup f [(fld, v)] = some v := by simp [List.lookup, hw]
    rw [q, if_pos hw]
    exact r
  · have qw : (f == fld) = false := by simpa using hw
    have q2 : List.lookup f [(fld, v)] = none := by simp [List.lookup, qw]
    rw [q2, if_neg hw]
    trivial
section
variable {X : Cx} {C fI : Addr} {cn fld msg : Str}
/-- X(e), an own error whose __init__ is super().__init__('..'); self.f = f -/
def tMkSup (C : Addr) (fld : Str) (ta : TA) : St → Hp → XK → Prop := fun σ H Q => ta σ H fun vs H1 => ∃ v, vs = [v] ∧ ∀ d, H1 d = none → Q (.ref C) (some d) (upd H1 d (.xd [(fld, v)]))
theorem pmk_sup {a : Expr} {ta : TA} {p pos : Pos} {k : Nat} (T : PySem.Sup.SupTxt X.K X.mg X.prog cn fld msg C fI) (hr : Room k X.A) (ha : PA X [a] ta) (hg : Gl X cn := by rfl) (nd : (cn == ("__debug__" : Str)) = false := by decide)
    (he : starEach (a :: []) X.env = (false, eval a X.env) :: starEach [] X.env := by rfl) (hpl : (backTo pos (starEach [] X.env)).any (·.1) = false := by rfl) :
    PMk X (.Call (.Name cn p) [a] [] pos) (tMkSup C fld ta) := by
  intro pins s σ H Q I h
  refine wpAny_Call_Name_kw (ld_glob I hg T.gC ?_ nd)
  refine PySem.W.callWith_K (h₀ := X.base) I.ok.mod.kin T.kC (thn (ha.run pos pins s σ H _ I h) fun us s1 hh => ?_) he hpl
  obtain ⟨vs, H1, I1, r1, v, ev, q1⟩ := hh
  subst ev
  refine ⟨I1.kIn, ?_⟩
  cases r1 with
  | cons rv rn =>
    rename_i v' us'
    cases rn
    show wpAny _ _ (call (.ref C) [v']) _ _ _
    have hlim := I1.nolimit
    obtain ⟨mb, hb1, hb2⟩ := I1.mod.blt
    have hmb : mb "super" = some (.type "super") := (hb2 "super" (by decide)).trans (by decide +kernel)
    have hGl : s1.heap.Ns mainGlobals X.mg := I1.mod.glob.keeps I1.bk
    have hBl : s1.heap.Ns builtinsNs mb := hb1.keeps I1.bk
    obtain ⟨hp, g, dr, tk, os⟩ := s1
    refine wpAny_call (PySem.Sup.sup_made T I1.kIn hlim hGl hBl hmb (by have := hr.dp; omega) fun h' tk' e d M => ?_)
    show MkP X pins σ Q (.ref e) ⟨h', g, dr, tk', os⟩
    obtain ⟨kp, nw, ⟨oe, fv, hoe, hc, hd, hdat, h1⟩, dbig, dne, hns⟩ := M
    obtain ⟨G', g1, g2⟩ := restrict h' fun b => decide (b ≠ e)
    have gk : ∀ b, b ≠ e → G'.get? b = h'.get? b := fun b hb => g1 b (decide_eq_true hb)
    have ge : G'.get? e = none := g2 e (by simp)
    have old : ∀ b o, hp.get? b = some o → G'.get? b = some o := fun b o q => (gk b (Nat.ne_of_lt (Nat.lt_of_lt_of_le (Heap.lt_size q) nw))).trans (kp b o q)
    have ob : ObjOk X.prog X.w (upd H1 d (.xd [(fld, v)])) G' d (.xd [(fld, v)]) :=
      ⟨_, hns.at (fun o q => (gk d dne).trans q), fun f => relO_one rv f⟩
    have J : Inv X pins σ (upd H1 d (.xd [(fld, v)])) ⟨G', g, dr, tk', os⟩ := I1.laid (t' := tk') old dbig ob
    refine ⟨e, oe, fv, ⟨G', g, dr, tk', os⟩, _, .ref C, some d, rfl, J, fun b o q => ?_, ge, hoe, ⟨hc, hd⟩, hdat, h1, ?_, rfl, I1.bare, raises_own T.exC T.tyC, q1 d (I1.hok.fresh dbig)⟩
    · by_cases hb : b = e
      · have q' : G'.get? b = some o := q
        rw [hb, ge] at q'; cases q'
      · exact (gk b hb).symm.trans q
    · rw [upd_ne (Ne.symm dne)]
      exact I1.hok.fresh nw
/-- raise X(e) -/
def tRaiseSup (C : Addr) (fld : Str) (W : WX) (ta : TA) : TS := fun _ σ H => tMkSup C fld ta σ H fun cls d H' => W cls d σ H'
theorem ps_raiseSup {a : Expr} {ta : TA} {W : WX} {p pos pos2 : Pos} {k : Nat} (hc : X.calm = true) (T : PySem.Sup.SupTxt X.K X.mg X.prog cn fld msg C fI) (hr : Room k X.A) (tk : Takes X W) (ha : PA X [a] ta) (hg : Gl X cn := by rfl) (nd : (cn == ("__debug__" : Str)) = false := by decide)
    (he : starEach (a :: []) X.env = (false, eval a X.env) :: starEach [] X.env := by rfl) (hpl : (backTo pos (starEach [] X.env)).any (·.1) = false := by rfl) :
    PS X (.Raise (some (.Call (.Name cn p) [a] [] pos)) none pos2) (tRaiseSup C fld W ta) := ps_raise hc tk (pmk_sup T hr ha hg nd he hpl)
end
end L2
set_option maxRecDepth 100000
set_option maxHeartbeats 4000000
/-! repr of tuples and lists: defs that are called while nothing is being shown -/
namespace GP
open PySem PySem.Spec PyProof.Rows L2
/-- what a def promises that is called while nothing is being shown -/
structure FnG (P : Program) (w : World) (K : PySem.W.Frag) (mg : Str → Option Value) (base : Heap) (k : Nat) (f : Addr) (fd : FuncData) (ps : List Str) (sp : Sp) : Prop where
  len : ∀ vs H Q E, sp vs H Q E → vs.length = ps.length
  run : ∀ (A : Around) (outer : List Env) (s : Shared) (H : Hp) (args : Args) (us : List Value) (vs : List V) (Q : VK) (E : XK), Room k A → A.guards = some [] → Env0 P w K mg base A outer s H → BindsTo s fd args (ps.zip us) → Vals vs us →
    sp vs H Q E → codeAny (model P w) A (.call (.ref f) args) (CR CX0 outer P w H s Q E) s
section
variable {P : Program} {w : World} {K : PySem.W.Frag} {mg : Str → Option Value} {base : Heap}
theorem FnG.of {k : Nat} {f : Addr} {fd : FuncData} {ps : List Str} {sp : Sp} (F : FnOk P w K mg base CX0 k f fd ps sp) : FnG P w K mg base k f fd ps sp :=
  ⟨F.len, fun A outer s H args us vs Q E hr _ => F.run A outer s H args us vs Q E hr⟩
/-- such a def by its body -/
theorem okG {x qual : Str} {st : Stmt} {f : Addr} {fd : FuncData} {N ps : List Str} {k : Nat} {sp : Sp} (F : Fun K x qual st f fd) (S : FnScope N ps (defScope st)) (len : ∀ vs H Q E, sp vs H Q E → vs.length = ps.length)
    (body : ∀ (cdv : Value) (A : Around) (outer : List Env) (s : Shared) (H : Hp) (vs : List V) (Q : VK) (E : XK), Room k (A.deeper (envOfC qual (defScope st) s.heap.objs.size f cdv)) → A.guards = some [] → sp vs H Q E →
      ∃ t, PSs (cxOf CX0 P w K mg base N qual (defScope st) f cdv A outer s H E).nox (defBody st) t ∧ t { nx := fun _ H' => Q .non H', rt := Q } (L2.start N vs) H) : FnG P w K mg base (k + 1) f fd ps sp := by
  obtain ⟨oc, od, kV, doc, pm, an, cdv, ct, osl, rfl, lk, hcd⟩ := F.ex
  refine ⟨len, fun A outer s H args us vs Q E room gd e0 bind r h => ?_⟩
  have lenV := len _ _ _ _ h
  have inS : K.In s.heap := e0.mod.kin.keeps fun b o e => (e0.bs b o e).1
  have noLim : s.heap.NoLimit := e0.mod.nolimit.keeps fun b o e => (e0.bs b o e).1
  have kinds : ∀ y ∈ ps.zip us, (defScope st).names.lookup y.1 = some .local ∨ ((defScope st).names.lookup y.1 = some .cell ∧ ((cellsFrom (s.heap.objs.size + 1) (defScope st).names []).lookup y.1).isSome = true) := by
    rintro ⟨n, v⟩ hy
    cases S.par n (List.of_mem_zip hy).1 with
    | inl q => exact .inl q
    | inr q => exact .inr ⟨q, PySem.W.cellsFrom_some _ _ _ (.inl q)⟩
  refine codeAny_call_function room.depth (inS _ _ lk) rfl S.co S.gen rfl (PySem.W.codeRec_of inS hcd) (bind _ _ _ _ (wpAny_newFunctionEnv_cells S.kind kinds fun env he s1 y => ?_))
  subst he
  refine ⟨noLim.keeps y.toInCall.keep, codeAny_func ?_⟩
  obtain ⟨t, ht0, hq⟩ := body cdv A outer s H vs Q E (room.deeper _) gd h
  have ht := ht0.nox
  have I0 := inv_start (CX := CX0) (E := E) S room.hd e0 lenV r y
  refine wpAny_mono (ht.run [] s1 (L2.start N vs) H _ I0 hq) (fun fl s' hs => ?_) fun e s' hs => hs
  cases fl with
  | ret u => obtain ⟨v, σ', H', J, rv, q⟩ := hs; exact ⟨v, H', J.os, J.bare, J.base, J.hok, rv, q⟩
  | next => obtain ⟨σ', H', J, q⟩ := hs; exact ⟨V.non, H', J.os, J.bare, J.base, J.hok, rfl, q⟩
  | brk => obtain ⟨_, _, _, q⟩ := hs; exact q.elim
  | cont => obtain ⟨_, _, _, q⟩ := hs; exact q.elim
end
section
variable {X : Cx} {k : Nat} {f : Addr} {fd : FuncData} {ps : List Str} {sp : Sp} {x : Str} {q pos : Pos} {e : Expr} {es : List Expr} {t : TA} {E : XK}
/-- the call of such a def -/
theorem pe_callG (F : FnG X.prog X.w X.K X.mg X.base k f fd ps sp) (hr : Room k X.A) (gd : X.A.guards = some []) (hg : Gl X x) (hm : X.mg x = some (.ref f)) (hk : PySem.W.keepIn X.K (.ref f) = true) (hb : Binds X.K fd ps []) (hx : Passes CX0 X E)
    (ha : PA X (e :: es) t) (hdb : (x == ("__debug__" : Str)) = false := by decide) (he : starEach (e :: es) X.env = (false, eval e X.env) :: starEach es X.env := by rfl) (hpl : (backTo pos (starEach es X.env)).any (·.1) = false := by rfl) :
    PE X (.Call (.Name x q) (e :: es) [] pos) (tCall sp [] E t) := by
  refine ⟨fun pins s σ H Q I h => wpAny_Call_Name_kw (ld_glob I hg hm ?_ hdb)⟩
  refine PySem.W.callWith_K (h₀ := X.base) I.ok.mod.kin hk (thn (ha.run pos pins s σ H _ I h) fun us s1 ⟨vs, H1, I1, r, w0⟩ => ⟨I1.kIn, ?_⟩) he hpl
  have w1 : sp (vs ++ []) H1 Q E := w0
  rw [List.append_nil] at w1
  have lenU : us.length = ps.length := by rw [← r.length]; exact F.len _ _ _ _ w1
  have bd := hb s1 us I1.kIn (by rw [List.append_nil]; exact lenU)
  rw [List.append_nil] at bd
  refine wpAny_call (codeAny_mono (F.run X.A X.stack s1 H1 ⟨us, []⟩ us vs Q E hr gd I1.env0 bd r w1) fun r s' hq => ?_)
  cases r with
  | error e => exact hx pins σ H1 s1 e s' I1 hq
  | ok fl =>
    cases fl with
    | ret u => exact I1.after hq
    | next => exact hq.elim
    | brk => exact hq.elim
    | cont => exact hq.elim
/-- repr of a tuple or a list -/
theorem call_reprD (gd : X.A.guards = some []) (hu : X.A.units + 70 < cLine) : CallR X (.builtin "repr") (fun xs H Q => ∃ p d, xs = [.ref p] ∧ Dp X.K H (.ref p) d ∧ d.showable = true ∧ d.hasDict = false ∧ d.depth ≤ 60 ∧ d.shown.length ≤ sizeLine ∧ Q (.str d.shown) H) := by
  intro pins s σ H xs us Q I r h
  obtain ⟨p, d, rfl, hd, sh, nd, dep, hsz, q⟩ := h
  obtain ⟨u, rfl, ru⟩ := vals1 r
  cases (show u = Value.ref p from ru)
  obtain ⟨as, r1⟩ := Dp.reads I d (.ref p) (.ref p) hd rfl
  exact repr_of_reads' r1 sh (fun z => by rw [nd] at z; cases z) gd (by omega) (fun _ _ z => z) (fun h' u tk hk => ⟨.str d.shown, H, I.kept (t' := tk) hk, ⟨u, rfl⟩, q⟩) hsz
end
end GP
set_option maxRecDepth 100000
set_option maxHeartbeats 4000000
namespace GP
open PySem PySem.Spec PyProof.Rows L2
section
variable {P : Program} {w : World} {K : PySem.W.Frag} {mg mb : Str → Option Value} {k : Nat} {fa script : Addr} {fd : FuncData} {x : Str} {sp : Sp} {st : Shared} {cells : List Value} {ns : List Int}
def Fin0 (st : Shared) : Except Value Flow → Shared → Prop := fun r s2 => r = .ok (.ret (.bool true)) ∧ OldK st.heap s2.heap ∧ s2.os = st.os ∧ AllBare s2.gens
/-- the law, from a heap in which at most the script is told -/
theorem law_part (inK : K.In st.heap) (g1 : st.heap.Ns mainGlobals mg) (g2 : st.heap.Ns builtinsNs mb) (g3 : ∀ x : Str, x ≠ "__name__" → mb x = bootBuiltins x) (g4 : st.heap.NoLimit) (g5 : st.gens = #[])
    (is : st.heap.get? script = some { cls := .type "list", data := .seq cells.toArray }) (room : Room k callerA) (F : ∀ base : Heap, K.In base → base.Ns mainGlobals mg → FnG P w K mg base k fa fd [x] sp) (bind : ∀ (s : Shared) (u : Value), BindsTo s fd ⟨[u], []⟩ [(x, u)])
    (H : Hp) (only : Only H) (h : sp [.ref script] H (fun v _ => v = .bl true) fun _ _ _ => False) (ok : HOk P w H st.heap) (one : ∀ b, H b ≠ none → b = script) (notK : H script ≠ none → K.lookup script = none) :
    codeAny (model P w) callerA (.call (.ref fa) ⟨[.ref script], []⟩) (Fin0 st) st := by
  have seen : ∀ {b : Addr} {o : Obj}, st.heap.get? b = some o → H b = none → (hidT st.heap H).get? b = some o := fun a1 a2 => hidT_get a1 a2
  have free : ∀ {b : Addr} {o : Obj} {es : Array DictEntry} {ep : Nat}, st.heap.get? b = some o → o.data = .dict es ep → H b = none := by
    intro b o es ep a1 a2
    rcases e : H b with _ | u
    · rfl
    · have := one b (by rw [e]; exact fun z => nomatch z)
      rw [this, is] at a1
      rw [← Option.some.inj a1] at a2
      cases a2
  have names : ∀ {b : Addr} {m : Str → Option Value}, st.heap.Ns b m → (hidT st.heap H).Ns b m := by
    rintro b m ⟨o, es, ep, a1, a2, a3⟩
    exact ⟨o, es, ep, seen a1 (free a1 a2), a2, a3⟩
  have inB : K.In (hidT st.heap H) := by
    intro b o a1
    refine seen (inK b o a1) ?_
    rcases e : H b with _ | u
    · rfl
    · have := one b (by rw [e]; exact fun z => nomatch z)
      rw [this] at e a1
      rw [notK (by rw [e]; exact fun z => nomatch z)] at a1
      cases a1
  obtain ⟨mc, c1, c2⟩ := g4
  have M : Mod K mg (hidT st.heap H) := ⟨inB, names g1, ⟨mb, names g2, g3⟩, ⟨mc, names c1, c2⟩⟩
  have e0 : Env0 P w K mg (hidT st.heap H) callerA [] st H := ⟨rfl, M, fun b o e => of_hidT e, Nat.le_of_eq (hidT_size _ _), trivial, fun b hb => absurd hb List.not_mem_nil, ok, .of_eq g5⟩
  have R := (F _ inB (names g1)).run callerA [] st H ⟨[.ref script], []⟩ [.ref script] [.ref script] _ _ room rfl e0 (bind st (.ref script)) (.cons rfl .nil) h
  refine codeAny_mono R fun r s2 z => ?_
  match r, z with
  | .error e, z => exact absurd z (fun y => by exact y.elim)
  | .ok .next, z => exact z.elim
  | .ok .brk, z => exact z.elim
  | .ok .cont, z => exact z.elim
  | .ok (.ret u), ⟨v, H2, os, bare, un, ok2, ru, hv⟩ =>
    have hv2 : v = .bl true := hv
    rw [hv2] at ru
    have ru2 : u = Value.bool true := ru
    rw [ru2]
    refine ⟨rfl, OldK.of_keep fun b o a1 => ?_, os, bare⟩
    rcases e : H b with _ | t
    · exact un.keep b o a1 e (fun z => absurd z List.not_mem_nil) List.not_mem_nil
    · rcases only b with z | ⟨ob, xs, z⟩
      · rw [e] at z; cases z
      · have f1 := (ok b _ z).1
        have f2 := (ok2 b _ (un.frzs b ob _ z)).1
        rw [a1] at f1
        rw [Option.some.inj f1]
        exact f2
theorem law_whole (inK : K.In st.heap) (g1 : st.heap.Ns mainGlobals mg) (g2 : st.heap.Ns builtinsNs mb) (g3 : ∀ x : Str, x ≠ "__name__" → mb x = bootBuiltins x) (g4 : st.heap.NoLimit) (g5 : st.gens = #[])
    (is : st.heap.get? script = some { cls := .type "list", data := .seq cells.toArray }) (nums : IntsAre cells ns) (few : ns.length ≤ sizeLine) (room : Room k callerA) (F : ∀ base : Heap, K.In base → base.Ns mainGlobals mg → FnG P w K mg base k fa fd [x] sp)
    (bind : ∀ (s : Shared) (u : Value), BindsTo s fd ⟨[u], []⟩ [(x, u)]) (h : ∀ H : Hp, Only H → SqL K H script (ns.map V.int) → sp [.ref script] H (fun v _ => v = .bl true) fun _ _ _ => False) :
    codeAny (model P w) callerA (.call (.ref fa) ⟨[.ref script], []⟩) (Fin0 st) st := by
  have vals := vals_ints nums
  have len := nums.length
  rcases e : K.lookup script with _ | o
  · let ob : Obj := { cls := .type "list", data := .seq cells.toArray }
    let G : Hp := fun b => if b = script then some (.frz ob (.lst (ns.map V.int))) else none
    have at1 : G script = some (.frz ob (.lst (ns.map V.int))) := if_pos rfl
    have at2 : ∀ b, b ≠ script → G b = none := fun b n => if_neg n
    refine law_part inK g1 g2 g3 g4 g5 is room F bind G (fun b => ?_) (h G (fun b => ?_) (.inl (.inr ⟨ob, at1⟩))) (fun b u z => ?_) (fun b z => ?_) fun _ => e
    · by_cases n : b = script
      · exact .inr ⟨ob, _, by rw [n]; exact at1⟩
      · exact .inl (at2 b n)
    · by_cases n : b = script
      · exact .inr ⟨ob, _, by rw [n]; exact at1⟩
      · exact .inl (at2 b n)
    · by_cases n : b = script
      · subst n
        cases at1.symm.trans z
        exact ⟨is, by rw [List.length_map]; exact few, cells, _, vals, is⟩
      · cases (at2 b n).symm.trans z
    · by_cases n : b = script
      · exact n
      · exact absurd (at2 b n) z
  · have mine := inK script o e
    rw [is] at mine
    cases mine
    let G : Hp := fun _ => none
    exact law_part inK g1 g2 g3 g4 g5 is room F bind G (fun _ => .inl rfl) (h G (fun _ => .inl rfl) (.inr ⟨_, cells.toArray, _, e, rfl, rfl, rfl, by rw [List.size_toArray, len]; exact few, by simpa using vals⟩)) (fun _ _ z => nomatch z) (fun _ z => absurd rfl z) fun z => absurd rfl z
end
theorem walk_ofG {l : PySem.W.OpenLaw} {n k : Nat} {q : Program} {loose : List Str} {XP : (Str → Option Value) → Heap → Prop} {YP : World → Heap → Prop} {d : DefRec} {K : Params → PySem.W.Frag} {sp : World → Sp} {x : Str}
    (most : l.most = some n) (few : n ≤ sizeLine) (plain : d.params.defaults = []) (room : Room k callerA) (inK : ∀ (w : World) (h : Heap), YP w h → (K w.params).In h)
    (F : ∀ (w : World) (mg : Str → Option Value) (fa : Addr) (h : Heap), (K w.params).In h → h.Ns mainGlobals mg → mg d.name = some (.ref fa) →
      ∃ fd : FuncData, (∀ (s : Shared) (u : Value), BindsTo s fd ⟨[u], []⟩ [(x, u)]) ∧ ∀ base : Heap, (K w.params).In base → base.Ns mainGlobals mg → FnG l.prog w (K w.params) mg base k fa fd [x] (sp w))
    (h : ∀ (w : World) (H : Hp) (a : Addr) (ns : List Int), ns.length ≤ n → Only H → SqL (K w.params) H a (ns.map V.int) → sp w [.ref a] H (fun v _ => v = .bl true) fun _ _ _ => False) :
    PySem.W.WalkO q loose XP YP l.row.toRowW d [] (fun f vs => PySem.call f vs) := by
  refine Att.attach_call most plain fun w _ _ mg _ fa _ _ _ _ a cells ns S Y _ _ _ named is nums len gens => ?_
  obtain ⟨fd, bind, G⟩ := F w mg fa _ (inK w _ Y) S.T.g named
  exact law_whole (inK w _ Y) S.T.g S.T.b S.T.builtins S.T.nolimit gens is nums (Nat.le_trans len few) room G bind fun H only z => h w H a ns len only z
end GP
set_option maxRecDepth 100000
set_option maxHeartbeats 4000000
/-! sorted of a list of data: texts, literals, clauses .. -/
namespace SD
open PySem PySem.Spec PyProof.Rows L2
theorem vals_each : ∀ {bs : List (V × PyData)} {us : List Value}, Vals (bs.map Prod.fst) us → PySem.W.EachIs (fun u b => RelV b.1 u) us bs
  | [], _, r => by
    cases r
    exact .nil
  | b :: bs, _, r => by
    cases r with
    | cons r1 r2 => exact .cons r1 (vals_each r2)
theorem each_vals : ∀ {us : List Value} {bs : List (V × PyData)}, PySem.W.EachIs (fun u b => RelV b.1 u) us bs → Vals (bs.map Prod.fst) us
  | _, _, .nil => .nil
  | _, _, .cons r1 r2 => .cons r1 (each_vals r2)
/-- what the list reads as, sorted -/
def sortedD (bs : List (V × PyData)) : List (V × PyData) := bs.mergeSort (PySem.W.dataLe false Prod.snd)
theorem sorted_perm (bs : List (V × PyData)) : (sortedD bs).Perm bs := List.mergeSort_perm _ _
/-- sorted(xs), xs a list of alike data -/
def rSortedD (K : PySem.W.Frag) : List V → Hp → VK → Prop := fun vs H Q => ∃ (a : Addr) (bs : List (V × PyData)), vs = [.ref a] ∧ SqL K H a (bs.map Prod.fst) ∧ (∀ b ∈ bs, Dp K H b.1 b.2 ∧ b.2.depth ≤ 60) ∧ PySem.W.AllAlike (bs.map Prod.snd) ∧ PySem.W.Sortable (bs.map Prod.snd) ∧
  ∀ p, H p = none → Q (.ref p) (upd H p (.lst ((sortedD bs).map Prod.fst)))
section
variable {X : Cx}
theorem each_reads {pins : List (Addr × Obj)} {σ : L2.St} {H : Hp} {s : Shared} (I : Inv X pins σ H s) : ∀ {us : List Value} {bs : List (V × PyData)}, PySem.W.EachIs (fun u b => RelV b.1 u) us bs → (∀ b ∈ bs, Dp X.K H b.1 b.2) → PySem.W.EachIs (fun u b => ∃ as, Reads s.heap u b.2 as) us bs
  | _, _, .nil, _ => .nil
  | _, b :: bs, .cons r1 r2, h => .cons (Dp.reads I b.2 b.1 _ (h b List.mem_cons_self) r1) (each_reads I r2 fun c hc => h c (List.mem_cons_of_mem _ hc))
theorem cr_sortedD (hu : X.A.units + 64 < cLine) : CallR X (.builtin "sorted") (rSortedD X.K) := by
  intro pins s σ H vs us Q I r h
  obtain ⟨a, bs, rfl, hs, hd, hal, hk, q⟩ := h
  obtain ⟨its, rv, hl, hz⟩ := I.list hs
  obtain ⟨u, rfl, ru⟩ := vals1 r
  obtain rfl : u = Value.ref a := ru
  have hlen : bs.length ≤ sizeLine := by rw [List.length_map] at hz; exact hz
  refine PySem.W.sorted_data (R := fun u b => RelV b.1 u) (enc := fun b : V × PyData => b.2) (bs := bs) hl.isList (vals_each rv) (each_reads I (vals_each rv) fun b hb => (hd b hb).1) hal hk hlen (fun b hb => by have := (hd b hb).2; omega) fun out ho he => ?_
  obtain ⟨c, hc⟩ := sortedAll_at s.heap its out.toArray
  have fr : H (s.heap.objs.size + 1) = none := I.hok.fresh (Nat.le_succ _)
  refine ⟨.ref (s.heap.objs.size + 1), upd H (s.heap.objs.size + 1) (.lst ((sortedD bs).map Prod.fst)), I.laid (t' := s.toks) (fun _ _ => sortedAll_old) (Nat.le_succ _) ⟨?_, out, c, each_vals he, hc⟩, rfl, q _ fr⟩
  rw [List.length_map, (sorted_perm bs).length_eq]
  exact hlen
end
end SD
set_option maxRecDepth 100000
set_option maxHeartbeats 4000000
/-! which data repr may be asked of -/
namespace GP
open PySem PySem.Spec PyProof.Rows L2
structure Rp (n c : Nat) (d : PyData) : Prop where
  sh : d.showable = true
  nd : d.hasDict = false
  dp : d.depth ≤ n
  ln : d.shown.length ≤ c
theorem Rp.mono {n c m e : Nat} {d : PyData} (r : Rp n c d) (h1 : n ≤ m) (h2 : c ≤ e) : Rp m e d := ⟨r.sh, r.nd, Nat.le_trans r.dp h1, Nat.le_trans r.ln h2⟩
theorem Rp.none : Rp 0 4 .none := ⟨by simp [PyData.showable], by simp [PyData.hasDict], by simp [PyData.depth], by simp only [PyData.shown]; decide +kernel⟩
theorem Rp.int {i : Int} (h : i.natAbs.log2 < 1920) : Rp 0 1921 (.int i) := ⟨by simp only [PyData.showable]; exact decide_eq_true h, by simp [PyData.hasDict], by simp [PyData.depth], by simp only [PyData.shown]; exact int_text_len_1921 h⟩
theorem Rp.str {x : Str} (h : ∀ c ∈ x.cps.toList, c < 16 ^ 8) : Rp 0 (10 * x.length + 2) (.str x) := ⟨by simp [PyData.showable], by simp [PyData.hasDict], by simp [PyData.depth], by simp only [PyData.shown]; exact StrLaws.reprText_len x h⟩
theorem all_sh : ∀ {n c : Nat} {ds : List PyData}, (∀ d ∈ ds, Rp n c d) → PyData.showableAll ds = true ∧ PyData.hasDictAll ds = false ∧ PyData.depthAll ds ≤ n ∧ piled (PyData.shownAll ds) ≤ ds.length * (c + 2)
  | n, c, [], _ => ⟨by simp [PyData.showableAll], by simp [PyData.hasDictAll], by simp [PyData.depthAll], by simp [PyData.shownAll, piled]⟩
  | n, c, d :: ds, h => by
    have r := h d List.mem_cons_self
    obtain ⟨h1, h2, h3, h4⟩ := all_sh (n := n) (c := c) (ds := ds) fun x hx => h x (List.mem_cons_of_mem _ hx)
    refine ⟨by simp only [PyData.showableAll, r.sh, h1, Bool.and_self], by simp only [PyData.hasDictAll, r.nd, h2, Bool.or_self], ?_, ?_⟩
    · simp only [PyData.depthAll]
      exact Nat.max_le.mpr ⟨r.dp, h3⟩
    · simp only [PyData.shownAll]
      rw [piled_cons, List.length_cons, Nat.add_mul, Nat.one_mul]
      have := r.ln
      omega
theorem Rp.tuple {n c : Nat} {ds : List PyData} (h : ∀ d ∈ ds, Rp n c d) : Rp (n + 1) (ds.length * (c + 2) + 2) (.tuple ds) := by
  obtain ⟨h1, h2, h3, h4⟩ := all_sh h
  refine ⟨by simp only [PyData.showable, h1], by simp only [PyData.hasDict, h2], by simp only [PyData.depth]; omega, ?_⟩
  simp only [PyData.shown]
  exact Nat.le_trans (fmt_text _) (by omega)
theorem list_text (ts : List Str) : (listText ts).length ≤ piled ts + 2 := by
  have e1 : (("[" : Str)).length = 1 := rfl
  have e2 : (("]" : Str)).length = 1 := rfl
  rw [listText_eq_join, strLen_append, strLen_append, e1, e2]
  by_cases h : ts = []
  · subst h
    decide +kernel
  · have := join_length_add ts h
    omega
theorem Rp.list {n c : Nat} {ds : List PyData} (h : ∀ d ∈ ds, Rp n c d) : Rp (n + 1) (ds.length * (c + 2) + 2) (.list ds) := by
  obtain ⟨h1, h2, h3, h4⟩ := all_sh h
  refine ⟨by simp only [PyData.showable, h1], by simp only [PyData.hasDict, h2], by simp only [PyData.depth]; omega, ?_⟩
  simp only [PyData.shown]
  exact Nat.le_trans (list_text _) (by omega)
section
variable {X : Cx}
theorem call_reprR (gd : X.A.guards = some []) (hu : X.A.units + 70 < cLine) : CallR X (.builtin "repr") (fun xs H Q => ∃ p d n c, xs = [.ref p] ∧ Dp X.K H (.ref p) d ∧ Rp n c d ∧ n ≤ 60 ∧ c ≤ sizeLine ∧ Q (.str d.shown) H) := by
  intro pins s σ H xs us Q I r h
  obtain ⟨p, d, n, c, rfl, hd, rp, hn, hc, q⟩ := h
  exact call_reprD gd hu pins s σ H [.ref p] us Q I r ⟨p, d, rfl, hd, rp.sh, rp.nd, Nat.le_trans rp.dp hn, Nat.le_trans rp.ln hc, q⟩
end
end GP
set_option maxRecDepth 100000
set_option maxHeartbeats 4000000
/-! d.setdefault(k, v), k a tuple of ints and texts -/
namespace SDF
open PySem PySem.Spec PyProof.Rows L2
def rSetdefT : V → List V → Hp → VK → Prop := fun x xs H Q => ∃ (a : Addr) (kvs : List (List L2.Key × V)) (k : List L2.Key) (b : Addr) (d : V), x = .ref a ∧ xs = [.ref b, d] ∧ H a = some (.dT kvs) ∧ H b = some (.tup (k.map kV)) ∧ kvs.length < sizeLine ∧
  (∀ v, valV kvs k = some v → Q v H) ∧ (valV kvs k = none → Q d (upd H a (.dT (putK kvs k d))))
theorem mt_setdefT {X : Cx} (hu : X.A.units + 1 < cLine) : MtR X "dict.setdefault" rSetdefT := by
  intro pins s σ H x xs v us Q I rx rxs h
  obtain ⟨a, kvs, k, b, d, rfl, rfl, ha, hb, few, q1, q2⟩ := h
  cases rx
  obtain ⟨u1, u2, rfl, r1, r2⟩ := vals2 rxs
  cases r1
  obtain ⟨z, hd, ys, rel, dd⟩ := dt_of I.hok ha
  have hz : ys.length ≤ sizeLine := by rw [← Paired.length rel]; exact z
  refine call_setdefault_heap (hsz := hz) (knd := tupleKind (mixKind X.prog X.w)) (k := k) (tupleKind_room_in1 hu) (key_of I.hok hb) hd dd (fun p hp => ?_) fun hn h' dd' hs => ?_
  · have r := rel.val k
    rw [hp] at r
    obtain ⟨v0, ev, rv⟩ : ∃ v0, valV kvs k = some v0 ∧ RelV v0 p.2 := by
      rcases ev : valV kvs k with _ | v0
      · rw [ev] at r
        exact (show False from r).elim
      · rw [ev] at r
        exact ⟨v0, rfl, r⟩
    exact ⟨v0, H, I.tok _, rv, q1 v0 ev⟩
  · have r := rel.val k
    rw [hn] at r
    have ev : valV kvs k = none := by
      rcases ev : valV kvs k with _ | v0
      · rfl
      · rw [ev] at r
        exact (show False from r).elim
    have hl : (putK kvs k d).length ≤ sizeLine := by have := length_putK kvs k d; omega
    obtain ⟨q, es, ep, hq, h2, h3, h4, _, h5⟩ := dd'
    have I2 : Inv X pins σ (upd H a (.dT (putK kvs k d))) { s with heap := h', toks := s.toks + (tupleKind (mixKind X.prog X.w)).draws k } := d_write I (by rw [ha]; exact True.intro) hs ⟨q, hq⟩ ⟨hl, hd, _, (rel.put k hb r2).keeps fun c zs ec => (by
      rw [upd_ne (ne_of ec ha (fun z => nomatch z))]
      exact ec), q, es, ep, hq, h2, h3, h4, h5⟩
    exact ⟨d, _, I2, r2, q2 ev⟩
end SDF
set_option maxRecDepth 100000
set_option maxHeartbeats 4000000
/-! tuple(d.values()), the keys of d tuples of ints and texts -/
namespace TV
open PySem PySem.Spec PyProof.Rows L2
section
variable {prog : Program} {w : World} {A : Around} {E : Value → Shared → Prop} {s : Shared} {T : String} {r d : Addr} {n : Nat} {P : Nat → Value → Prop} {OK : Heap → Prop}
theorem collect_kdl {Q : List Value → Shared → Prop} (K : PySem.W.KdlSrc prog w T r d n P OK) (hh : A.handled = none) (hok : OK s.heap) (hn : n ≤ sizeLine)
    (hQ : ∀ (h' : Heap) (tk : Nat) (acc : Array Value), (∀ b o, s.heap.get? b = some o → h'.get? b = some o) → ItemsOf P acc n → Q acc.toList { s with heap := h', toks := tk }) :
    wpAny (model prog w) A (collect (.ref r)) Q E s := by
  have hok1 : OK (s.heap.push { cls := .type "list", data := .seq ([] : List Value).toArray }) := K.keep _ _ hok fun b _ o e => Heap.get?_push_of_some _ e
  have hlt := K.there _ hok
  unfold collect
  refine wpAny_bind (wpAny_runValue (codeAny_builtin F.entry_proto_collect ?_))
  rw [Around.under_plainId F.plain_proto_collect _]
  show wpAny _ A.in1 (newList [] >>= fun l => again (.builtin "list.__iadd__" ⟨[l, .ref r], []⟩)) _ _ s
  refine wpAny_bind (wpAny_newObj_type ?_)
  refine wpAny_pure ⟨plainId_quiet F.plain_list_iadd _, codeAny_builtin F.entry_list_iadd ?_⟩
  rw [Around.under_plainId F.plain_list_iadd _]
  show wpAny _ A.in1 (Builtin.List.listExtendWith (.ref s.heap.objs.size) (.ref r) (.ref s.heap.objs.size)) _ _ _
  have hS : (s.heap.push { cls := .type "list", data := .seq ([] : List Value).toArray }).get? s.heap.objs.size = some { cls := .type "list", data := .seq #[] 0 } := Heap.get?_push_size _ rfl
  refine wpAny_mono (PySem.W.kdl_extend (A := A) (R := fun rr s' => rr = .ok (.ret (.ref s.heap.objs.size)) ∧ ∃ (h' : Heap) (tk : Nat) (acc : Array Value) (c' : Nat), s' = { s with heap := h', toks := tk } ∧
      (∀ b o, s.heap.get? b = some o → h'.get? b = some o) ∧ h'.get? s.heap.objs.size = some { cls := .type "list", dict := none, data := .seq acc c', slots := #[] } ∧ ItemsOf P acc n)
    (s := { s with heap := s.heap.push { cls := .type "list", data := .seq ([] : List Value).toArray } }) K hh hok1 s.heap.objs.size (Nat.ne_of_gt hlt.1) (Nat.ne_of_gt hlt.2) _ 0 hS
    (fun h' tk acc c' hk e hi => ⟨rfl, h', tk, acc, c', rfl, fun b o q => hk b o (Nat.ne_of_lt (Heap.lt_size q)) (Heap.get?_push_of_some _ q), e, hi⟩) hn) (fun fin s' h => ?_) (fun e s' h => ?_)
  · cases fin with
    | done f =>
      obtain ⟨e, h', tk, acc, c', rfl, hk, hS', hi⟩ := h
      cases e
      show wpAny _ A (load s.heap.objs.size >>= _) _ _ _
      exact wpAny_bind (wpAny_load hS' (wpAny_pure (hQ h' tk acc hk hi)))
    | again c' =>
      refine ⟨h.1, codeAny_mono h.2 fun rr s'' hr' => ?_⟩
      obtain ⟨rfl, h', tk, acc, c', rfl, hk, hS', hi⟩ := hr'
      show wpAny _ A (load s.heap.objs.size >>= _) _ _ _
      exact wpAny_bind (wpAny_load hS' (wpAny_pure (hQ h' tk acc hk hi)))
  · exact absurd h.1 (by simp)
theorem code_tuple_new_vals {Q₁ : Value → Shared → Prop} (K : PySem.W.KdlSrc prog w "dict_values" r d n P OK) (hh : A.handled = none) (hok : OK s.heap) (hn : n ≤ sizeLine)
    (h : ∀ (h' : Heap) (tk : Nat) (acc : Array Value), (∀ b o, s.heap.get? b = some o → h'.get? b = some o) → ItemsOf P acc n →
      Q₁ (.ref h'.objs.size) { s with heap := h'.push { cls := .type "tuple", data := .seq acc }, toks := tk }) :
    codeAny (model prog w) A (.call (.builtin "tuple.__new__") ⟨[.type "tuple", .ref r], []⟩) (wants Q₁ E) s := by
  refine codeAny_of_tree ?_
  show wpAny _ A.in1 (do checkBuiltinCall "tuple.__new__" ⟨[.type "tuple", .ref r], []⟩; again (.builtin "tuple.__new__" ⟨[.type "tuple", .ref r], []⟩)) _ _ s
  refine wpAny_bind (wpAny_of_eq (F.newCall_tuple_1 _) (wpAny_pure ⟨plainId_quiet F.plain_tuple_new _, codeAny_builtin F.entry_tuple_new ?_⟩))
  rw [Around.under_plainId F.plain_tuple_new _]
  have hsub := sub_tuple_self
  have hinit := init_tuple_lookup
  have hmh := madeHere_tuple
  have hTI : s.TypeIs (.ref r) "dict_values" := K.type s hok
  have hh1 : A.in1.handled = none := hh
  wp_walk using wpAny_typeOf hTI, collect_kdl (A := A.in1) K hh1 hok hn
  intro h' tk acc hk hacc
  show wpAny _ _ (Builtin.Tuple.tupleExact acc.toList.toArray >>= fun v => ret v) _ _ _
  unfold Builtin.Tuple.tupleExact
  refine wpAny_bind (wpAny_newObj_type ?_ (by show acc.toList.toArray.size ≤ sizeLine; simp only [Array.toArray_toList]; rw [hacc.1]; exact hn))
  refine wpAny_pure ?_
  have e : acc.toList.toArray = acc := by simp
  rw [e]
  exact h h' tk acc hk hacc
theorem call_tuple_vals {Q : Value → Shared → Prop} (K : PySem.W.KdlSrc prog w "dict_values" r d n P OK) (hh : A.handled = none) (hok : OK s.heap) (hn : n ≤ sizeLine)
    (hQ : ∀ (h' : Heap) (tk : Nat) (acc : Array Value), (∀ b o, s.heap.get? b = some o → h'.get? b = some o) → ItemsOf P acc n →
      Q (.ref h'.objs.size) { s with heap := h'.push { cls := .type "tuple", data := .seq acc }, toks := tk }) :
    wpAny (model prog w) A (call (.type "tuple") [.ref r]) Q E s := by
  refine callType_codes (Q₁ := fun obj s₁ => s₁.TypeIs obj "tuple" ∧ Q obj s₁) F.called_tuple (F.typeCall_tuple_1 _) F.entry_object_init
    (code_tuple_new_vals (A := A.in1) K hh hok hn fun h' tk acc hk hacc => ⟨⟨_, Heap.get?_push_size _ rfl, rfl⟩, hQ h' tk acc hk hacc⟩) fun obj s₁ h₁ => ?_
  exact ⟨h₁.1, F.args_object_init_2 obj _, object_init_meets F.called_tuple.init.lookup F.called_tuple.made (by decide) prog w A.in1 _ s₁ ⟨h₁.1, rfl, h₁.2⟩⟩
end
section
variable {X : Cx} {e : Expr} {td : TE} {apos cpos : Pos}
theorem raw_of {P : Program} {w : World} {h : Heap} {a : Addr} {xs : List (List L2.Key × Addr × Value)} (x : h.DictOfH (tupleKind (mixKind P w)) a xs) : ∃ es ep, h.DictRaw a es ep ∧ es.toList = xs.map (entryOfKey (tupleKind (mixKind P w))) := by
  obtain ⟨o, es, ep, h1, h2, h3, h4, _⟩ := x
  exact ⟨es, ep, ⟨o, h1, h2, h3⟩, h4⟩
def tValsT (td : TE) : TE := fun σ H Q => td σ H fun x H1 => ∃ d, x = .ref d ∧ (∃ kvs, H1 d = some (.dT kvs)) ∧ ∀ p, H1 p = none → Q (.ref p) (upd H1 p (viewO "dict_values" p d))
theorem pe_valsT (he : PE X e td) (hbase : attributeBase e "values" X.env (eval e X.env) = eval e X.env := by rfl) (hline : (apos.endLine == cpos.line) = true := by rfl) : PE X (.Call (.Attribute e "values" apos) [] [] cpos) (tValsT td) := by
  refine ⟨fun pins s σ H Q I h => ?_⟩
  refine wpAny_Call_method (T := "dict") (id := "dict.values") hbase rfl hline F.plainAttrs_dict F.slot_dict_values F.type_dict_values (thn (he.run pins s σ H _ I h) fun u s1 ⟨x, H1, I1, rx, d, ex, ⟨kvs, hd⟩, q⟩ => ?_)
  subst ex
  obtain rfl : u = Value.ref d := rx
  obtain ⟨z, hs, xs, rel, dd⟩ := dt_of I1.hok hd
  obtain ⟨es, ep, raw, _⟩ := raw_of dd
  refine ⟨raw.typeIs, fun b e => ?_, ?_⟩
  · cases e
    obtain ⟨o, h1, h2, _⟩ := raw
    exact ⟨o, h1, h2.2.1⟩
  show wpAny _ _ (callWith cpos (.builtin "dict.values") [.ref d] [] []) _ X.xe s1
  exact method_meetsIn F.slot_dict_values F.entry_dict_values rfl (PySem.evalArgs_none ⟨rfl, raw.typeIs, F.args_dict_values_1 _, _, meets_dict_values_raw d hs, ⟨⟨es, ep, raw⟩, ⟨.ref s1.heap.objs.size, _, I1.laid (t' := s1.toks) (fun b o q => Heap.get?_push_of_some _ q) (Nat.le_refl _) (viewO_ok (Heap.get?_push_size _ rfl)), rfl, q _ (I1.hok.fresh (Nat.le_refl _))⟩⟩⟩)
theorem pair_get {α β : Type} {F : α → β → Prop} : ∀ {l : List α} {m : List β}, Paired F l m → ∀ {j : Nat} {a : α}, l[j]? = some a → ∃ b, m[j]? = some b ∧ F a b
  | _, _, .nil, _, _, h => by simp at h
  | _, _, .cons (a := c) (b := b) hq r, 0, a, h => ⟨b, rfl, by have e : c = a := Option.some.inj h; rw [← e]; exact hq⟩
  | _, _, .cons hq r, j + 1, a, h => pair_get r (j := j) (by simpa using h)
def rTupVals : List V → Hp → VK → Prop := fun xs H Q => ∃ (p d : Addr) (kvs : List (List L2.Key × V)), xs = [.ref p] ∧ H p = some (viewO "dict_values" p d) ∧ H d = some (.dT kvs) ∧ ∀ q, H q = none → Q (.ref q) (upd H q (.tup (kvs.map (·.2))))
theorem cr_tupVals (hc : X.calm = true) : CallR X (.type "tuple") rTupVals := by
  intro pins s σ H xs us Q I rx h
  obtain ⟨p, d, kvs, rfl, hp, hd, q⟩ := h
  rw [Vals.ref1 rx]
  have hv : s.heap.get? p = some (DSub.viewOb "dict_values" d) := (show ObjOk X.prog X.w H s.heap p (viewO "dict_values" p d) from I.hok p _ hp).1
  obtain ⟨z, hs, ys, rel, dd⟩ := dt_of I.hok hd
  obtain ⟨es, ep, raw, he⟩ := raw_of dd
  have hl : kvs.length = ys.length := Paired.length rel
  have hes : es.size = ys.length := by
    have := congrArg List.length he
    rwa [List.length_map, Array.length_toList] at this
  refine call_tuple_vals (PySem.KdlSrc.rawValues (r := p) (d := d) (es := es) (ep := ep)) (I.ok.hd hc) ⟨⟨_, hv, rfl, rfl⟩, raw⟩ (by omega) fun h' tk acc hk hacc => ?_
  have I1 : Inv X pins σ H { s with heap := h', toks := tk } := I.kept hk
  refine ⟨.ref h'.objs.size, upd H h'.objs.size (.tup (kvs.map (·.2))), I1.laid (t' := tk) (fun b o q => Heap.get?_push_of_some _ q) (Nat.le_refl _) (show ObjOk X.prog X.w _ _ _ (.tup (kvs.map (·.2))) from ⟨by rw [List.length_map]; exact z, acc.toList, ?_, ?_⟩), rfl, q _ (I1.hok.fresh (Nat.le_refl _))⟩
  · have el : acc.toList.length = acc.size := by simp
    refine vals_of_at (by rw [List.length_map, el, hacc.1, hl, hes]) fun j x w h1 h2 => ?_
    obtain ⟨hi, hw⟩ := hacc.2 j w (by rw [← Array.getElem?_toList]; exact h2)
    rw [List.getElem?_map] at h1
    obtain ⟨kv, hkv, rfl⟩ := Option.map_eq_some_iff.mp h1
    obtain ⟨y, hy, hr⟩ := pair_get rel hkv
    have e1 : es.toList[j]? = some (entryOfKey (tupleKind (mixKind X.prog X.w)) y) := by rw [he, List.getElem?_map, hy]; rfl
    have e2 : es.toList[j]? = some es[j] := by rw [Array.getElem?_toList, Array.getElem?_eq_getElem hi]
    have e3 := Option.some.inj (e2.symm.trans e1)
    rw [hw, e3]
    exact hr.2.2
  · have := IsTup.new h' acc.toList.toArray
    rw [Array.toArray_toList] at this ⊢
    exact this
end
end TV
set_option maxRecDepth 100000
set_option maxHeartbeats 4000000
namespace B3
open PySem L2 Evl
def top (i : Nat) : Stmt := PySem.Challenge.pw_ringclause_k33_preferred_list.main.body.getD i (.Pass ⟨0, 0, 0, 0⟩)

/-! ### general -/
section
variable {K : PySem.W.Frag} {σ : L2.St} {H H1 : Hp} {J : It} {G : Hp → Prop} {te : TE}
theorem lcMap {xs : List V} (w : Walk J xs.length G (YAt xs)) (f : V → V) {j : Nat} {vs : List Nat} (hz : xs.length < sizeLine) (hG : ∀ H', Ex H1 H' → G H')
    (hw : ∀ v, wipe ((wipe σ vs).set j (some v)) vs = wipe σ vs) (he : ∀ v ∈ xs, ∀ H', Ex H1 H' → Ev te ((wipe σ vs).set j (some v)) H' (f v)) {Qd : Hp → Prop} {D : Addr} (hD : H1 D = none)
    (k : ∀ H', Ex H1 H' → H' D = some (.lst (xs.map f)) → Qd H') :
    ∃ W : Nat → Nat → Hp → Prop, (∃ m, W 0 m (upd H1 D (.lst []))) ∧ ∀ i m H, W i m H →
      (J.stop i H ∧ Qd H) ∨ (J.go i H ∧ ∃ Nx : Hp → Prop, (∀ H', Nx H' → ∃ m', m' < m ∧ W (i + 1) m' H') ∧ ∀ x H', J.yld i H x H' → gName j x (wipe σ vs) H' fun σ2 H2 => wipe σ2 vs = wipe σ vs ∧ tYes σ2 H2 fun b H3 =>
        if b = true then te σ2 H3 fun y H4 => ∃ acc, H4 D = some (.lst acc) ∧ acc.length < sizeLine ∧ Nx (upd H4 D (.lst (acc ++ [y]))) else Nx H3) := by
  refine lc_it w (fun i H => Ex H1 H ∧ H D = some (.lst ((xs.take i).map f))) ⟨Ex.new hD, upd_same⟩ (fun i H _ p => hG H p.1) ?_ (fun H p => k H p.1 (by have := p.2; rwa [List.take_length] at this))
  rintro i x H H' hi ⟨e, hl⟩ ⟨rfl, hx⟩
  have hm : x ∈ xs := by
    obtain ⟨h, q⟩ := List.getElem?_eq_some_iff.mp hx
    rw [← q]
    exact List.getElem_mem h
  unfold gName tYes
  dsimp only
  refine ⟨hw x, ?_⟩
  rw [if_pos rfl]
  refine he x hm H' e H' (Ex.refl _) _ fun H4 e4 => ⟨_, e4 D _ hl, ?_, Ex.mut (e.trans e4) hD, ?_⟩
  · rw [List.length_map, List.length_take]
    omega
  · rw [upd_same, List.take_add_one, hx]
    simp
theorem walk_signs {z : Str} : Walk (Its z) (z.cps.toList.map fun c => V.str ⟨#[c]⟩).length (fun _ => True) (YAt (z.cps.toList.map fun c => V.str ⟨#[c]⟩)) := by
  have e : (z.cps.toList.map fun c => V.str ⟨#[c]⟩).length = z.cps.size := by simp
  rw [e]
  refine walk_str.mono (fun _ h => h) ?_
  rintro i H x H' hi _ ⟨rfl, c, hc, rfl⟩
  refine ⟨rfl, ?_⟩
  simp [hc]
end

theorem at_lit {α : Type} {l : List α} {n : Nat} {z : Int} {v : α} (e : z = (n : Int)) (h : l[n]? = some v) : atI l z = some v := by
  rw [e]
  exact atI_nat h
/-! ### data by its kind -/
def tyN : PyData → String
  | .none => "NoneType" | .bool _ => "bool" | .int _ => "int" | .str _ => "str" | .list _ => "list" | .tuple _ => "tuple" | .dict _ => "dict"
def isStrD : PyData → Bool | .str _ => true | _ => false
def isIntLikeD : PyData → Bool | .int _ => true | .bool _ => true | _ => false
def isBoolD : PyData → Bool | .bool _ => true | _ => false
def isTupD : PyData → Bool | .tuple _ => true | _ => false
def isListD : PyData → Bool | .list _ => true | _ => false
section
variable {K : PySem.W.Frag} {H H' : Hp} {v : V} {d : PyData}
theorem dp_ty (h : Dp K H v d) : TyX K H v (.type (tyN d)) := by
  cases h with
  | non => exact .base .non
  | bl b => exact .base (.bl b)
  | int i => exact .base (.int i)
  | str x => exact .base (.str x)
  | lst h _ =>
    rcases h with (h | ⟨o, h⟩) | ⟨o, its, n, h1, h2, _⟩
    · exact .base (.lst h)
    · exact .base (.frz h)
    · exact .kList h1 h2
  | tup h _ =>
    rcases h with (h | ⟨o, h⟩) | ⟨o, its, n, h1, h2, _⟩
    · exact .base (.tup h)
    · exact .fTuple h
    · exact .kTuple h1 h2
theorem kit_str (d : PyData) : PySem.W.kitOne K (.type (tyN d)) (.type "str") = some (isStrD d) := by cases d <;> (refine kit_ty ?_; simp only [tyN, isStrD]; decide +kernel)
theorem kit_int (d : PyData) : PySem.W.kitOne K (.type (tyN d)) (.type "int") = some (isIntLikeD d) := by cases d <;> (refine kit_ty ?_; simp only [tyN, isIntLikeD]; decide +kernel)
theorem kit_bool (d : PyData) : PySem.W.kitOne K (.type (tyN d)) (.type "bool") = some (isBoolD d) := by cases d <;> (refine kit_ty ?_; simp only [tyN, isBoolD]; decide +kernel)
theorem kit_tuple (d : PyData) : PySem.W.kitOne K (.type (tyN d)) (.type "tuple") = some (isTupD d) := by cases d <;> (refine kit_ty ?_; simp only [tyN, isTupD]; decide +kernel)
theorem kit_list (d : PyData) : PySem.W.kitOne K (.type (tyN d)) (.type "list") = some (isListD d) := by cases d <;> (refine kit_ty ?_; simp only [tyN, isListD]; decide +kernel)
mutual
theorem Dp.ex (e : Ex H H') {v : V} {d : PyData} : Dp K H v d → Dp K H' v d
  | .non => .non
  | .bl b => .bl b
  | .int i => .int i
  | .str x => .str x
  | .lst h a => .lst (ex_l e h) (DpAll.ex e a)
  | .tup h a => .tup (ex_t e h) (DpAll.ex e a)
theorem DpAll.ex (e : Ex H H') {vs : List V} {ds : List PyData} : DpAll K H vs ds → DpAll K H' vs ds
  | .nil => .nil
  | .cons a b => .cons (Dp.ex e a) (DpAll.ex e b)
end
theorem DpAll.len : ∀ {vs : List V} {ds : List PyData}, DpAll K H vs ds → vs.length = ds.length
  | _, _, .nil => rfl
  | _, _, .cons _ r => by rw [List.length_cons, List.length_cons, DpAll.len r]
theorem DpAll.get : ∀ {vs : List V} {ds : List PyData}, DpAll K H vs ds → ∀ {i : Nat} {v : V}, vs[i]? = some v → ∃ d, ds[i]? = some d ∧ Dp K H v d
  | _, _, .nil, _, _, h => by simp at h
  | _, _, .cons (d := d) a _, 0, v, h => by
    have e : _ = v := Option.some.inj h
    subst e
    exact ⟨d, rfl, a⟩
  | _, _, .cons _ b, i + 1, v, h => DpAll.get b (i := i) (by simpa using h)
end
/-! ### the names and bounds of the program, over data -/
def letters : Str := "abcdefghijklmnopqrstuvwxyz"
def signs : Str := "abcdefghijklmnopqrstuvwxyz0123456789"
def isNameS (z : Str) : Bool := decide (1 ≤ z.length ∧ z.length ≤ 8) && (decide ((z.cps.toList.headD 0) ∈ letters.cps.toList) && z.cps.toList.all fun c => decide (c ∈ signs.cps.toList))
def isNameD : PyData → Bool | .str z => isNameS z | _ => false
def isIntD (d : PyData) : Bool := isIntLikeD d && !isBoolD d
def partsD : PyData → Option (PyData × PyData × PyData × PyData)
  | .tuple [a, b, c, e] => some (a, b, c, e)
  | _ => none
def isMostD : PyData → Bool | .str w => decide (w = ("most" : Str)) | _ => false
def sameD : PyData → PyData → Bool
  | .str x, .str y => decide (x = y)
  | _, _ => false
def isBoundD (d : PyData) : Bool := match partsD d with
  | some (a, b, c, e) => isMostD a && (isNameD b && (isNameD c && (!sameD b c && isIntD e)))
  | none => false
theorem isBound4 {a b c e : PyData} : isBoundD (.tuple [a, b, c, e]) = (isMostD a && (isNameD b && (isNameD c && (!sameD b c && isIntD e)))) := rfl
/-- texts in it, not too long -/
def szS : PyData → Prop | .str z => z.length ≤ sizeLine | _ => True
def szD : PyData → Prop | .tuple ds => ∀ d ∈ ds, szS d | _ => True

/-! ### the text -/
abbrev s_is_name : Stmt := top 7
theorem sc_is_name : FnScope ["value"] ["value"] (defScope s_is_name) := ⟨rfl, rfl, rfl, by decide +kernel, rfl, by decide +kernel, by decide +kernel⟩
abbrev s_is_integer : Stmt := top 8
theorem sc_is_integer : FnScope ["value"] ["value"] (defScope s_is_integer) := ⟨rfl, rfl, rfl, by decide +kernel, rfl, by decide +kernel, by decide +kernel⟩
abbrev s_is_bound : Stmt := top 9
theorem sc_is_bound : FnScope ["value", "word", "first", "second", "limit"] ["value"] (defScope s_is_bound) := ⟨rfl, rfl, rfl, by decide +kernel, rfl, by decide +kernel, by decide +kernel⟩
abbrev s_is_literal : Stmt := top 10
theorem sc_is_literal : FnScope ["value", "word", "name"] ["value"] (defScope s_is_literal) := ⟨rfl, rfl, rfl, by decide +kernel, rfl, by decide +kernel, by decide +kernel⟩
abbrev s_check_literal : Stmt := top 11
theorem sc_check_literal : FnScope ["value"] ["value"] (defScope s_check_literal) := ⟨rfl, rfl, rfl, by decide +kernel, rfl, by decide +kernel, by decide +kernel⟩
abbrev s_opposite : Stmt := top 12
theorem sc_opposite : FnScope ["literal", "_", "first", "second", "limit", "word", "name"] ["literal"] (defScope s_opposite) := ⟨rfl, rfl, rfl, by decide +kernel, rfl, by decide +kernel, by decide +kernel⟩
abbrev s_atom_of : Stmt := top 13
theorem sc_atom_of : FnScope ["literal", "other"] ["literal"] (defScope s_atom_of) := ⟨rfl, rfl, rfl, by decide +kernel, rfl, by decide +kernel, by decide +kernel⟩
abbrev s_preferred : Stmt := top 15
theorem sc_preferred : FnScope ["atoms", "order", "chosen", "literal"] ["atoms", "order"] (defScope s_preferred) := ⟨rfl, rfl, rfl, by decide +kernel, rfl, by decide +kernel, by decide +kernel⟩
abbrev s_law_open : Stmt := top 17
theorem sc_law_open : FnScope ["script", "great", "small", "seed", "cell"] ["script"] (defScope s_law_open) := ⟨rfl, rfl, rfl, by decide +kernel, rfl, by decide +kernel, by decide +kernel⟩
abbrev s_law_draw : Stmt := top 18
theorem sc_law_draw : FnScope ["box", "size", "great", "small", "digit", "turn", "cell", "seed"] ["box", "size"] (defScope s_law_draw) := ⟨rfl, rfl, rfl, by decide +kernel, rfl, by decide +kernel, by decide +kernel⟩
abbrev s_law_other : Stmt := top 19
theorem sc_law_other : FnScope ["literal"] ["literal"] (defScope s_law_other) := ⟨rfl, rfl, rfl, by decide +kernel, rfl, by decide +kernel, by decide +kernel⟩
abbrev s_law_atom : Stmt := top 20
theorem sc_law_atom : FnScope ["literal"] ["literal"] (defScope s_law_atom) := ⟨rfl, rfl, rfl, by decide +kernel, rfl, by decide +kernel, by decide +kernel⟩
abbrev s_law_atoms : Stmt := top 21
theorem sc_law_atoms : FnScope ["literals", "found", "atom", "literal"] ["literals"] (defScope s_law_atoms) := ⟨rfl, rfl, rfl, by decide +kernel, rfl, by decide +kernel, by decide +kernel⟩
abbrev s_law_names : Stmt := top 22
theorem sc_law_names : FnScope ["box", "count", "signs", "shape", "k", "stem", "names", "name", "j"] ["box", "count"] (defScope s_law_names) := ⟨rfl, rfl, rfl, by decide +kernel, rfl, by decide +kernel, by decide +kernel⟩
abbrev s_law_integer : Stmt := top 23
theorem sc_law_integer : FnScope ["box", "found", "k"] ["box"] (defScope s_law_integer) := ⟨rfl, rfl, rfl, by decide +kernel, rfl, by decide +kernel, by decide +kernel⟩
abbrev s_law_pick : Stmt := top 24
theorem sc_law_pick : FnScope ["box", "pool", "literal"] ["box", "pool"] (defScope s_law_pick) := ⟨rfl, rfl, rfl, by decide +kernel, rfl, by decide +kernel, by decide +kernel⟩
abbrev s_law_pool : Stmt := top 25
theorem sc_law_pool : FnScope ["box", "large", "names", "pool", "last", "k", "at", "to", "number", "bend", "name"] ["box"] (defScope s_law_pool) := ⟨rfl, rfl, rfl, by decide +kernel, rfl, by decide +kernel, by decide +kernel⟩
abbrev s_law_preferred : Stmt := top 26
theorem sc_law_preferred : FnScope ["atoms", "listed", "found", "seen", "literal", "atom"] ["atoms", "listed"] (defScope s_law_preferred) := ⟨rfl, rfl, rfl, by decide +kernel, rfl, by decide +kernel, by decide +kernel⟩
abbrev s_law_is : Stmt := top 27
theorem sc_law_is : FnScope ["actual", "due"] ["actual", "due"] (defScope s_law_is) := ⟨rfl, rfl, rfl, by decide +kernel, rfl, by decide +kernel, by decide +kernel⟩
abbrev s_law : Stmt := top 28
theorem sc_law : FnScope ["script", "box", "pool", "some", "literal", "atoms", "listed", "k", "due", "handed", "turned", "first", "back", "atom", "many"] ["script"] (defScope s_law) := ⟨rfl, rfl, rfl, by decide +kernel, rfl, by decide +kernel, by decide +kernel⟩
/-- where the defs stand -/
structure Ad where
  a_is_name : Addr
  a_is_integer : Addr
  a_is_bound : Addr
  a_is_literal : Addr
  a_check_literal : Addr
  a_opposite : Addr
  a_atom_of : Addr
  a_preferred : Addr
  a_law_open : Addr
  a_law_draw : Addr
  a_law_other : Addr
  a_law_atom : Addr
  a_law_atoms : Addr
  a_law_names : Addr
  a_law_integer : Addr
  a_law_pick : Addr
  a_law_pool : Addr
  a_law_preferred : Addr
  a_law_is : Addr
  a_law : Addr
  tL : Tok
  tS : Tok
  tN : Tok
structure Fd where
  a_is_name : FuncData
  a_is_integer : FuncData
  a_is_bound : FuncData
  a_is_literal : FuncData
  a_check_literal : FuncData
  a_opposite : FuncData
  a_atom_of : FuncData
  a_preferred : FuncData
  a_law_open : FuncData
  a_law_draw : FuncData
  a_law_other : FuncData
  a_law_atom : FuncData
  a_law_atoms : FuncData
  a_law_names : FuncData
  a_law_integer : FuncData
  a_law_pick : FuncData
  a_law_pool : FuncData
  a_law_preferred : FuncData
  a_law_is : FuncData
  a_law : FuncData
structure TX (K : PySem.W.Frag) (mg : Str → Option Value) (a : Ad) : Prop where
  b_isinstance : mg "isinstance" = none
  b_str : mg "str" = none
  b_int : mg "int" = none
  b_bool : mg "bool" = none
  b_tuple : mg "tuple" = none
  b_list : mg "list" = none
  b_len : mg "len" = none
  b_range : mg "range" = none
  b_sorted : mg "sorted" = none
  b_abs : mg "abs" = none
  b_max : mg "max" = none
  b_repr : mg "repr" = none
  g_LETTERS : mg "LETTERS" = some (.str letters a.tL)
  g_SIGNS : mg "SIGNS" = some (.str signs a.tS)
  g_LONGEST_NAME : mg "LONGEST_NAME" = some (.int 8 a.tN)
  f_is_name : mg "is_name" = some (.ref a.a_is_name)
  k_is_name : PySem.W.keepIn K (.ref a.a_is_name) = true
  f_is_integer : mg "is_integer" = some (.ref a.a_is_integer)
  k_is_integer : PySem.W.keepIn K (.ref a.a_is_integer) = true
  f_is_bound : mg "is_bound" = some (.ref a.a_is_bound)
  k_is_bound : PySem.W.keepIn K (.ref a.a_is_bound) = true
  f_is_literal : mg "is_literal" = some (.ref a.a_is_literal)
  k_is_literal : PySem.W.keepIn K (.ref a.a_is_literal) = true
  f_check_literal : mg "check_literal" = some (.ref a.a_check_literal)
  k_check_literal : PySem.W.keepIn K (.ref a.a_check_literal) = true
  f_opposite : mg "opposite" = some (.ref a.a_opposite)
  k_opposite : PySem.W.keepIn K (.ref a.a_opposite) = true
  f_atom_of : mg "atom_of" = some (.ref a.a_atom_of)
  k_atom_of : PySem.W.keepIn K (.ref a.a_atom_of) = true
  f_preferred : mg "preferred" = some (.ref a.a_preferred)
  k_preferred : PySem.W.keepIn K (.ref a.a_preferred) = true
  f__law_open : mg "_law_open" = some (.ref a.a_law_open)
  k__law_open : PySem.W.keepIn K (.ref a.a_law_open) = true
  f__law_draw : mg "_law_draw" = some (.ref a.a_law_draw)
  k__law_draw : PySem.W.keepIn K (.ref a.a_law_draw) = true
  f__law_other : mg "_law_other" = some (.ref a.a_law_other)
  k__law_other : PySem.W.keepIn K (.ref a.a_law_other) = true
  f__law_atom : mg "_law_atom" = some (.ref a.a_law_atom)
  k__law_atom : PySem.W.keepIn K (.ref a.a_law_atom) = true
  f__law_atoms : mg "_law_atoms" = some (.ref a.a_law_atoms)
  k__law_atoms : PySem.W.keepIn K (.ref a.a_law_atoms) = true
  f__law_names : mg "_law_names" = some (.ref a.a_law_names)
  k__law_names : PySem.W.keepIn K (.ref a.a_law_names) = true
  f__law_integer : mg "_law_integer" = some (.ref a.a_law_integer)
  k__law_integer : PySem.W.keepIn K (.ref a.a_law_integer) = true
  f__law_pick : mg "_law_pick" = some (.ref a.a_law_pick)
  k__law_pick : PySem.W.keepIn K (.ref a.a_law_pick) = true
  f__law_pool : mg "_law_pool" = some (.ref a.a_law_pool)
  k__law_pool : PySem.W.keepIn K (.ref a.a_law_pool) = true
  f__law_preferred : mg "_law_preferred" = some (.ref a.a_law_preferred)
  k__law_preferred : PySem.W.keepIn K (.ref a.a_law_preferred) = true
  f__law_is : mg "_law_is" = some (.ref a.a_law_is)
  k__law_is : PySem.W.keepIn K (.ref a.a_law_is) = true
  f_law : mg "law" = some (.ref a.a_law)
  k_law : PySem.W.keepIn K (.ref a.a_law) = true
structure FDS (K : PySem.W.Frag) (a : Ad) (d : Fd) : Prop where
  F_is_name : Fun K "is_name" "is_name" s_is_name a.a_is_name d.a_is_name
  B_is_name : Binds K d.a_is_name ["value"] []
  F_is_integer : Fun K "is_integer" "is_integer" s_is_integer a.a_is_integer d.a_is_integer
  B_is_integer : Binds K d.a_is_integer ["value"] []
  F_is_bound : Fun K "is_bound" "is_bound" s_is_bound a.a_is_bound d.a_is_bound
  B_is_bound : Binds K d.a_is_bound ["value"] []
  F_is_literal : Fun K "is_literal" "is_literal" s_is_literal a.a_is_literal d.a_is_literal
  B_is_literal : Binds K d.a_is_literal ["value"] []
  F_check_literal : Fun K "check_literal" "check_literal" s_check_literal a.a_check_literal d.a_check_literal
  B_check_literal : Binds K d.a_check_literal ["value"] []
  F_opposite : Fun K "opposite" "opposite" s_opposite a.a_opposite d.a_opposite
  B_opposite : Binds K d.a_opposite ["literal"] []
  F_atom_of : Fun K "atom_of" "atom_of" s_atom_of a.a_atom_of d.a_atom_of
  B_atom_of : Binds K d.a_atom_of ["literal"] []
  F_preferred : Fun K "preferred" "preferred" s_preferred a.a_preferred d.a_preferred
  B_preferred : Binds K d.a_preferred ["atoms", "order"] []
  F__law_open : Fun K "_law_open" "_law_open" s_law_open a.a_law_open d.a_law_open
  B__law_open : Binds K d.a_law_open ["script"] []
  F__law_draw : Fun K "_law_draw" "_law_draw" s_law_draw a.a_law_draw d.a_law_draw
  B__law_draw : Binds K d.a_law_draw ["box", "size"] []
  F__law_other : Fun K "_law_other" "_law_other" s_law_other a.a_law_other d.a_law_other
  B__law_other : Binds K d.a_law_other ["literal"] []
  F__law_atom : Fun K "_law_atom" "_law_atom" s_law_atom a.a_law_atom d.a_law_atom
  B__law_atom : Binds K d.a_law_atom ["literal"] []
  F__law_atoms : Fun K "_law_atoms" "_law_atoms" s_law_atoms a.a_law_atoms d.a_law_atoms
  B__law_atoms : Binds K d.a_law_atoms ["literals"] []
  F__law_names : Fun K "_law_names" "_law_names" s_law_names a.a_law_names d.a_law_names
  B__law_names : Binds K d.a_law_names ["box", "count"] []
  F__law_integer : Fun K "_law_integer" "_law_integer" s_law_integer a.a_law_integer d.a_law_integer
  B__law_integer : Binds K d.a_law_integer ["box"] []
  F__law_pick : Fun K "_law_pick" "_law_pick" s_law_pick a.a_law_pick d.a_law_pick
  B__law_pick : Binds K d.a_law_pick ["box", "pool"] []
  F__law_pool : Fun K "_law_pool" "_law_pool" s_law_pool a.a_law_pool d.a_law_pool
  B__law_pool : Binds K d.a_law_pool ["box"] []
  F__law_preferred : Fun K "_law_preferred" "_law_preferred" s_law_preferred a.a_law_preferred d.a_law_preferred
  B__law_preferred : Binds K d.a_law_preferred ["atoms", "listed"] []
  F__law_is : Fun K "_law_is" "_law_is" s_law_is a.a_law_is d.a_law_is
  B__law_is : Binds K d.a_law_is ["actual", "due"] []
  F_law : Fun K "law" "law" s_law a.a_law d.a_law
  B_law : Binds K d.a_law ["script"] []

def spD (pre : PyData → Prop) (F : PyData → Bool) (K : PySem.W.Frag) : Sp := fun vs H Q _ => ∃ v d, vs = [v] ∧ Dp K H v d ∧ pre d ∧ ∀ H', Ex H H' → Q (.bl (F d)) H'
def spIsName (K : PySem.W.Frag) : Sp := spD szS isNameD K
def spIsInt (K : PySem.W.Frag) : Sp := spD (fun _ => True) isIntD K
def spIsBound (K : PySem.W.Frag) : Sp := spD szD isBoundD K
theorem iteT' {c : Bool} {A B : Prop} (hc : c = true) (h : A) : if c = true then A else B := by
  rw [if_pos hc]
  exact h
theorem ex_q {H H1 : Hp} {Q : VK} {b : Bool} (q : ∀ H', Ex H H' → Q (.bl b) H') {c : Bool} (e : b = c) (x : Ex H H1) : Q (.bl c) H1 := by
  rw [← e]
  exact q H1 x

section
variable {P : Program} {w : World} {K : PySem.W.Frag} {mg : Str → Option Value} {base : Heap} {a : Ad} {d : Fd}
theorem strip_all (z y : Str) : (Txt.stripChars z y = (⟨#[]⟩ : Str)) ↔ ∀ c ∈ z.cps.toList, c ∈ y.cps.toList := by
  have e0 : Txt.stripChars z y = Builtin.Str.strSub z (stripLo y.cps.contains true z) (stripHi y.cps.contains true z (stripLo y.cps.contains true z)) := PyProof.Rows.stripBy_eq _ _ _ _
  obtain ⟨l1, l2, l3⟩ := PyProof.Rows.lo_facts y.cps.contains z
  rw [e0]
  generalize stripLo y.cps.contains true z = lo at l1 l2 l3
  obtain ⟨h1, h2, h3, _⟩ := PyProof.Rows.hi_facts y.cps.contains z lo l1
  generalize stripHi y.cps.contains true z lo = hi at h1 h2 h3
  have hlen : z.cps.toList.length = z.length := by show _ = z.cps.size; simp
  have hin : ∀ c, y.cps.contains c = true ↔ c ∈ y.cps.toList := fun c => by rw [Array.contains_iff_mem]; simp
  have hk : ∀ k, k < z.length → ∃ c, z.cps.toList[k]? = some c ∧ z.cps.getD k 0 = c := fun k h => by
    have h' : k < z.cps.toList.length := by omega
    refine ⟨z.cps.toList[k], by simp, ?_⟩
    rw [← PyProof.Rows.getD_list]
    rw [List.getD, List.getElem?_eq_getElem h']; rfl
  constructor
  · intro h c hc
    have hd : (Builtin.Str.strSub z lo hi).cps.toList = [] := by rw [h]
    have hl : hi ≤ lo := by
      have := congrArg List.length hd
      rw [PySem.StrLaws.strSub_toList, List.length_take, List.length_drop, List.length_nil] at this
      omega
    obtain ⟨k, hk1, hk2⟩ := List.mem_iff_getElem.mp hc
    rw [hlen] at hk1
    obtain ⟨c', e1, e2⟩ := hk k hk1
    have : c' = c := by
      rw [List.getElem?_eq_getElem (by omega)] at e1
      rw [← hk2]
      exact (Option.some.inj e1).symm
    subst this
    rw [← hin, ← e2]
    by_cases hlo : k < lo
    · exact l2 k hlo
    · exact h3 k (by omega) hk1
  · intro h
    have hlo : lo = z.length := by
      rcases l3 with l3 | l3
      · exact l3
      · by_cases hb : lo < z.length
        · obtain ⟨c, e1, e2⟩ := hk lo hb
          rw [e2] at l3
          have := (hin c).mpr (h c (List.mem_of_getElem? e1))
          rw [this] at l3
          cases l3
        · omega
    have : hi = lo := by omega
    subst this
    have hd : (Builtin.Str.strSub z hi hi).cps.toList = [] := by rw [PySem.StrLaws.strSub_toList]; simp
    have : (Builtin.Str.strSub z hi hi).cps = #[] := by
      apply Array.ext'
      rw [hd]
    show (⟨(Builtin.Str.strSub z hi hi).cps⟩ : Str) = _
    rw [this]
theorem ok_is_name (T : TX K mg a) (D : FDS K a d) : FnOk P w K mg base CX0 1 a.a_is_name d.a_is_name ["value"] (spIsName K) := by
  refine D.F_is_name.ok sc_is_name (fun vs H Q E h => ?_) (fun cdv A outer s H vs Q E hr h => ?_)
  · obtain ⟨v, d, rfl, _⟩ := h
    rfl
  · obtain ⟨v, d, rfl, hd, hz, q⟩ := h
    refine ⟨_, (pss_cons (ps_if (PW.pt (pw_or (pt_not (pt_val (pe_callB call_isi (by rfl) T.b_isinstance (by decide +kernel) (pa_cons (pv 0) (pa_cons (pe_bltn (v := .ty "str") (by rfl) T.b_str (by decide +kernel) rfl) pa_nil))))) (pw_or1 (pt_not (pt_chain op_le op_le pe_int (pe_callB call_len_str (by rfl) T.b_len (by decide +kernel) (pa_cons (pv 0) pa_nil)) (pe_glob (v := .int 8) rfl T.g_LONGEST_NAME ⟨_, rfl⟩)))))) (pss_one (ps_ret pe_bl)) pss_nil)
        (pss_one (ps_ret (pe_and (pe_cmpR op_in_sign (pe_ix ix_str (pv 0) pe_int (fun _ _ => rfl)) (pe_glob (v := .str letters) rfl T.g_LETTERS ⟨_, rfl⟩) rfl) (pe_one (pe_cmpR op_eq (pe_m1 PySem.F.slot_str_strip PySem.F.type_str_strip mt_stripChars (pv 0) (pe_glob (v := .str signs) rfl T.g_SIGNS ⟨_, rfl⟩)) pe_str (nomark _))))))), ?_⟩
    refine ⟨_, rfl, v, _, _, _, _, rfl, .ty "str", dp_ty hd, kit_str d, _, rfl, ?_⟩
    cases hd with
    | str z =>
      have hz : z.length ≤ sizeLine := hz
      have hlen : z.cps.toList.length = z.length := by show _ = z.cps.size; simp
      refine ⟨_, rfl, z, rfl, hz, 1, _, rfl, rfl, _, rfl, ?_⟩
      by_cases h1 : (1 : Int) ≤ (z.length : Int)
      · rw [decide_eq_true h1]
        refine ⟨_, 8, rfl, rfl, _, rfl, ?_⟩
        by_cases h2 : (z.length : Int) ≤ 8
        · rw [decide_eq_true h2]
          obtain ⟨c, cs, hc⟩ : ∃ c cs, z.cps.toList = c :: cs := by
            cases e : z.cps.toList with
            | nil =>
              rw [e] at hlen
              simp at hlen
              omega
            | cons c cs => exact ⟨c, cs, rfl⟩
          refine ⟨_, rfl, z, 0, c, rfl, rfl, hz, at_lit (n := 0) rfl (show z.cps.toList[0]? = some c by rw [hc]; rfl), c, letters, rfl, rfl, _, rfl, ?_⟩
          have hv : isNameS z = (decide (c ∈ letters.cps.toList) && z.cps.toList.all fun c => decide (c ∈ signs.cps.toList)) := by
            unfold isNameS
            rw [decide_eq_true (show 1 ≤ z.length ∧ z.length ≤ 8 by omega), hc]
            rfl
          by_cases h3 : c ∈ letters.cps.toList
          · rw [decide_eq_true h3]
            refine iteT ⟨_, rfl, ⟨_, rfl⟩, z, signs, rfl, rfl, hz, rfl, ex_q q ?_ (Ex.refl _)⟩
            show isNameS z = decide (V.str (Txt.stripChars z signs) = V.str (⟨#[]⟩ : Str))
            rw [hv, decide_eq_true h3]
            apply Bool.eq_iff_iff.mpr
            rw [Bool.true_and, decide_eq_true_eq, List.all_eq_true]
            refine ⟨fun g => ?_, fun g => ?_⟩
            · rw [(strip_all z signs).mpr fun c h => of_decide_eq_true (g c h)]
            · intro c h
              exact decide_eq_true ((strip_all z signs).mp (V.str.inj g) c h)
          · rw [decide_eq_false h3]
            exact iteF (ex_q q (show isNameS z = false by rw [hv, decide_eq_false h3]; rfl) (Ex.refl _))
        · rw [decide_eq_false h2]
          refine ex_q q (show isNameS z = false from ?_) (Ex.refl _)
          unfold isNameS
          rw [decide_eq_false (show ¬ (1 ≤ z.length ∧ z.length ≤ 8) by omega)]
          rfl
      · rw [decide_eq_false h1]
        refine ⟨false, rfl, ex_q q (show isNameS z = false from ?_) (Ex.refl _)⟩
        unfold isNameS
        rw [decide_eq_false (show ¬ (1 ≤ z.length ∧ z.length ≤ 8) by omega)]
        rfl
    | _ => exact q H (Ex.refl _)
theorem ok_is_integer (T : TX K mg a) (D : FDS K a d) : FnOk P w K mg base CX0 1 a.a_is_integer d.a_is_integer ["value"] (spIsInt K) := by
  refine D.F_is_integer.ok sc_is_integer (fun vs H Q E h => ?_) (fun cdv A outer s H vs Q E hr h => ?_)
  · obtain ⟨v, d, rfl, _⟩ := h
    rfl
  · obtain ⟨v, d, rfl, hd, _, q⟩ := h
    refine ⟨_, (pss_one (ps_ret (pe_and (pe_callB call_isi (by rfl) T.b_isinstance (by decide +kernel) (pa_cons (pv 0) (pa_cons (pe_bltn (v := .ty "int") (by rfl) T.b_int (by decide +kernel) rfl) pa_nil))) (pe_one (pe_not (pe_callB call_isi (by rfl) T.b_isinstance (by decide +kernel) (pa_cons (pv 0) (pa_cons (pe_bltn (v := .ty "bool") (by rfl) T.b_bool (by decide +kernel) rfl) pa_nil)))))))), ?_⟩
    refine ⟨_, rfl, v, _, _, _, _, rfl, .ty "int", dp_ty hd, kit_int d, _, rfl, ?_⟩
    cases e : isIntLikeD d with
    | false => exact iteF (ex_q q (by show (isIntLikeD d && _) = false; rw [e]; rfl) (Ex.refl _))
    | true =>
      refine iteT ⟨_, rfl, v, _, _, _, _, rfl, .ty "bool", dp_ty hd, kit_bool d, _, rfl, ?_⟩
      exact ex_q q (by show (isIntLikeD d && _) = _; rw [e]; rfl) (Ex.refl _)
theorem ok_is_bound (T : TX K mg a) (D : FDS K a d) : FnOk P w K mg base CX0 2 a.a_is_bound d.a_is_bound ["value"] (spIsBound K) := by
  have G_is_name : FnOk P w K mg base CX0 1 a.a_is_name d.a_is_name ["value"] (spIsName K) := ok_is_name T D
  have G_is_integer : FnOk P w K mg base CX0 1 a.a_is_integer d.a_is_integer ["value"] (spIsInt K) := ok_is_integer T D
  refine D.F_is_bound.ok sc_is_bound (fun vs H Q E h => ?_) (fun cdv A outer s H vs Q E hr h => ?_)
  · obtain ⟨v, d, rfl, _⟩ := h
    rfl
  · obtain ⟨v, d, rfl, hd, hz, q⟩ := h
    refine ⟨_, (pss_cons (ps_if (PW.pt (pw_or (pt_not (pt_val (pe_callB call_isi (by rfl) T.b_isinstance (by decide +kernel) (pa_cons (pv 0) (pa_cons (pe_bltn (v := .ty "tuple") (by rfl) T.b_tuple (by decide +kernel) rfl) pa_nil))))) (pw_or1 (pt_cmpR op_ne (pe_callB call_len_seq (by rfl) T.b_len (by decide +kernel) (pa_cons (pv 0) pa_nil)) pe_int (nomark _))))) (pss_one (ps_ret pe_bl)) pss_nil)
        (pss_cons (ps_asg (pv 0) (pg_tup rfl (pgs_cons (pg_name (i := 1) sc_is_bound.nd rfl (Or.inl rfl)) (pgs_cons (pg_name (i := 2) sc_is_bound.nd rfl (Or.inl rfl)) (pgs_cons (pg_name (i := 3) sc_is_bound.nd rfl (Or.inl rfl)) (pgs_cons (pg_name (i := 4) sc_is_bound.nd rfl (Or.inl rfl)) pgs_nil))))))
        (pss_cons (ps_if (PW.pt (pw_or (pt_not (pt_val (pe_callB call_isi (by rfl) T.b_isinstance (by decide +kernel) (pa_cons (pv 1) (pa_cons (pe_bltn (v := .ty "str") (by rfl) T.b_str (by decide +kernel) rfl) pa_nil))))) (pw_or1 (pt_cmpR op_ne (pv 1) pe_str (nomark _))))) (pss_one (ps_ret pe_bl)) pss_nil)
        (pss_one (ps_ret (pe_and (pe_call G_is_name (hr.mono (by decide)) rfl T.f_is_name T.k_is_name D.B_is_name .nil pass0 (pa_cons (pv 2) pa_nil)) (pe_and (pe_call G_is_name (hr.mono (by decide)) rfl T.f_is_name T.k_is_name D.B_is_name .nil pass0 (pa_cons (pv 3) pa_nil)) (pe_and (pe_cmpR op_ne (pv 2) (pv 3) (nomark _)) (pe_one (pe_call G_is_integer (hr.mono (by decide)) rfl T.f_is_integer T.k_is_integer D.B_is_integer .nil pass0 (pa_cons (pv 4) pa_nil))))))))))), ?_⟩
    refine ⟨_, rfl, v, _, _, _, _, rfl, .ty "tuple", dp_ty hd, kit_tuple d, _, rfl, ?_⟩
    cases hd with
    | @tup a xs ds ha hall =>
      have hl := DpAll.len hall
      refine ⟨_, rfl, a, xs, rfl, .inr ha, rfl, _, rfl, ?_⟩
      by_cases h4 : xs.length = 4
      · refine iteNS (by rw [h4]; rfl) ?_
        obtain ⟨v1, v2, v3, v4, rfl⟩ : ∃ v1 v2 v3 v4, xs = [v1, v2, v3, v4] := by
          match xs, h4 with
          | [v1, v2, v3, v4], _ => exact ⟨v1, v2, v3, v4, rfl⟩
        cases hall with
        | cons g1 r1 =>
        cases r1 with
        | cons g2 r2 =>
        cases r2 with
        | cons g3 r3 =>
        cases r3 with
        | cons g4 r4 =>
        cases r4
        rename_i d1 d2 d3 d4
        have z2 : szS d2 := hz d2 (by simp)
        have z3 : szS d3 := hz d3 (by simp)
        refine ⟨_, rfl, a, _, rfl, ha, rfl, _, _, rfl, _, _, rfl, _, _, rfl, _, _, rfl, rfl, ?_⟩
        refine ⟨_, rfl, v1, _, _, _, _, rfl, .ty "str", dp_ty g1, kit_str d1, _, rfl, ?_⟩
        cases g1 with
        | str wd =>
          refine ⟨_, rfl, rfl, _, rfl, ?_⟩
          by_cases hw : wd = ("most" : Str)
          · refine iteNS (by rw [hw]) ?_
            subst hw
            -- is_name(first) and is_name(second) and first != second and is_integer(limit)
            refine ⟨_, rfl, v2, d2, rfl, g2, z2, fun H1 e1 => ⟨_, rfl, ?_⟩⟩
            cases e2 : isNameD d2 with
            | false => exact iteF (ex_q q (by rw [isBound4, e2]; simp) e1)
            | true =>
              refine iteT ⟨_, rfl, v3, d3, rfl, Dp.ex e1 g3, z3, fun H2 e3 => ⟨_, rfl, ?_⟩⟩
              cases g2 with
              | str x =>
                have e2' : isNameS x = true := e2
                cases e4 : isNameD d3 with
                | false => exact iteF (ex_q q (by rw [isBound4, e4]; simp) (e1.trans e3))
                | true =>
                  cases g3 with
                  | str y =>
                    have e4' : isNameS y = true := e4
                    refine iteT ⟨_, rfl, _, rfl, rfl, _, rfl, ?_⟩
                    by_cases hxy : x = y
                    · subst hxy
                      have e5 : decide (V.str x = V.str x) = true := decide_eq_true rfl
                      rw [e5]
                      exact iteF (ex_q q (by rw [isBound4, show sameD (.str x) (.str x) = true from decide_eq_true rfl]; simp) (e1.trans e3))
                    · have e5 : decide (V.str x = V.str y) = false := decide_eq_false fun z => hxy (V.str.inj z)
                      rw [e5]
                      refine iteT ⟨_, rfl, v4, d4, rfl, Dp.ex (e1.trans e3) g4, trivial, fun H3 e6 => ?_⟩
                      refine ex_q q ?_ ((e1.trans e3).trans e6)
                      rw [isBound4, e2, e4, show sameD (.str x) (.str y) = false from decide_eq_false hxy, (by simp [isMostD] : isMostD (.str ("most" : Str)) = true)]
                      rfl
                  | _ => cases e4
              | _ => cases e2
          · refine iteT' ?_ (ex_q q ?_ (Ex.refl _))
            · have e5 : decide (V.str wd = V.str ("most" : Str)) = false := decide_eq_false fun z => hw (V.str.inj z)
              rw [e5]
              rfl
            · rw [isBound4, show isMostD (.str wd) = false from decide_eq_false hw]
              rfl
        | _ => exact ex_q q rfl (Ex.refl _)
      · refine iteT' ?_ (ex_q q ?_ (Ex.refl _))
        · have e5 : decide (V.int (xs.length : Nat) = V.int 4) = false := decide_eq_false fun z => h4 (by have := V.int.inj z; omega)
          rw [e5]
          rfl
        · have l4 : ds.length ≠ 4 := by omega
          show isBoundD (.tuple ds) = false
          match ds, l4 with
          | [], _ => rfl
          | [_], _ => rfl
          | [_, _], _ => rfl
          | [_, _, _], _ => rfl
          | [_, _, _, _], h => exact absurd rfl h
          | _ :: _ :: _ :: _ :: _ :: _, _ => rfl
    | _ => exact ex_q q rfl (Ex.refl _)
end
end B3
set_option maxRecDepth 100000
set_option maxHeartbeats 4000000
namespace B3
open PySem L2 Evl
inductive Lit where
  | yn (b : Bool) (x : Str)
  | most (x y : Str) (k : Int)
deriving DecidableEq
def ynS (b : Bool) : Str := if b = true then "yes" else "no"
def litD : Lit → PyData
  | .yn b x => .tuple [.str (ynS b), .str x]
  | .most x y k => .tuple [.str "most", .str x, .str y, .int k]
def litV : Lit → List V
  | .yn b x => [.str (ynS b), .str x]
  | .most x y k => [.str "most", .str x, .str y, .int k]
def LitOk : Lit → Prop
  | .yn _ x => isNameS x = true
  | .most x y k => isNameS x = true ∧ isNameS y = true ∧ x ≠ y ∧ -(2 ^ 300) ≤ k ∧ k < 2 ^ 300
def oppL : Lit → Lit
  | .yn b x => .yn (!b) x
  | .most x y k => .most y x (-k - 1)
def ltS (x y : Str) : Bool := decide (x.cps.toList < y.cps.toList)
def atomL : Lit → Lit
  | .yn _ x => .yn true x
  | .most x y k => if ltS x y = true then .most x y k else .most y x (-k - 1)
theorem lit_dp {K : PySem.W.Frag} {H : Hp} {p : Addr} {l : Lit} (h : SqT K H p (litV l)) : Dp K H (.ref p) (litD l) := by
  cases l with
  | yn b x => exact .tup h (.cons (.str _) (.cons (.str _) .nil))
  | most x y k => exact .tup h (.cons (.str _) (.cons (.str _) (.cons (.str _) (.cons (.int _) .nil))))
theorem name_len {x : Str} (h : isNameS x = true) : x.length ≤ 8 := by
  unfold isNameS at h
  have := of_decide_eq_true (Bool.and_eq_true_iff.mp h).1
  exact this.2
theorem lit_sz {l : Lit} (h : LitOk l) : szD (litD l) := by
  cases l with
  | yn b x =>
    have := name_len h
    intro d hd
    simp only [List.mem_cons, List.not_mem_nil, or_false] at hd
    rcases hd with rfl | rfl
    · show (ynS b).length ≤ sizeLine
      cases b <;> decide +kernel
    · exact Nat.le_trans this (by decide)
  | most x y k =>
    obtain ⟨h1, h2, _⟩ := h
    intro d hd
    simp only [List.mem_cons, List.not_mem_nil, or_false] at hd
    rcases hd with rfl | rfl | rfl | rfl
    · show ("most" : Str).length ≤ sizeLine
      decide +kernel
    · exact Nat.le_trans (name_len h1) (by decide)
    · exact Nat.le_trans (name_len h2) (by decide)
    · exact True.intro
theorem bound_lit {l : Lit} (h : LitOk l) : isBoundD (litD l) = match l with | .yn _ _ => false | .most _ _ _ => true := by
  cases l with
  | yn b x => rfl
  | most x y k =>
    obtain ⟨h1, h2, h3, _⟩ := h
    show isBoundD (.tuple [.str "most", .str x, .str y, .int k]) = true
    rw [isBound4, show isNameD (.str x) = true from h1, show isNameD (.str y) = true from h2, show sameD (.str x) (.str y) = false from decide_eq_false h3, (by simp [isMostD] : isMostD (.str ("most" : Str)) = true)]
    rfl
def spIsLit : Sp := fun vs H Q _ => ∃ p l, vs = [.ref p] ∧ H p = some (.tup (litV l)) ∧ LitOk l ∧ ∀ H', Ex H H' → Q (.bl true) H'
theorem iteF' {c : Bool} {A B : Prop} (hc : c = false) (h : B) : if c = true then A else B := by
  rw [hc, if_neg Bool.false_ne_true]
  exact h
section
variable {P : Program} {w : World} {K : PySem.W.Frag} {mg : Str → Option Value} {base : Heap} {a : Ad} {d : Fd}
theorem ok_is_literal (T : TX K mg a) (D : FDS K a d) : FnOk P w K mg base CX0 3 a.a_is_literal d.a_is_literal ["value"] spIsLit := by
  have G_is_name : FnOk P w K mg base CX0 1 a.a_is_name d.a_is_name ["value"] (spIsName K) := ok_is_name T D
  have G_is_bound : FnOk P w K mg base CX0 2 a.a_is_bound d.a_is_bound ["value"] (spIsBound K) := ok_is_bound T D
  refine D.F_is_literal.ok sc_is_literal (fun vs H Q E h => ?_) (fun cdv A outer s H vs Q E hr h => ?_)
  · obtain ⟨p, l, rfl, _⟩ := h
    rfl
  · obtain ⟨p, l, rfl, hp, ok, q⟩ := h
    refine ⟨_, (pss_cons (ps_if (pt_val (pe_call G_is_bound (hr.mono (by decide)) rfl T.f_is_bound T.k_is_bound D.B_is_bound .nil pass0 (pa_cons (pv 0) pa_nil))) (pss_one (ps_ret pe_bl)) pss_nil)
        (pss_cons (ps_if (PW.pt (pw_or (pt_not (pt_val (pe_callB call_isi (by rfl) T.b_isinstance (by decide +kernel) (pa_cons (pv 0) (pa_cons (pe_bltn (v := .ty "tuple") (by rfl) T.b_tuple (by decide +kernel) rfl) pa_nil))))) (pw_or1 (pt_cmpR op_ne (pe_callB call_len_seq (by rfl) T.b_len (by decide +kernel) (pa_cons (pv 0) pa_nil)) pe_int (nomark _))))) (pss_one (ps_ret pe_bl)) pss_nil)
        (pss_cons (ps_asg (pv 0) (pg_tup rfl (pgs_cons (pg_name (i := 1) sc_is_literal.nd rfl (Or.inl rfl)) (pgs_cons (pg_name (i := 2) sc_is_literal.nd rfl (Or.inl rfl)) pgs_nil))))
        (pss_one (ps_ret (pe_and (pe_callB call_isi (by rfl) T.b_isinstance (by decide +kernel) (pa_cons (pv 1) (pa_cons (pe_bltn (v := .ty "str") (by rfl) T.b_str (by decide +kernel) rfl) pa_nil))) (pe_and (pe_cmpR op_in_seq (pv 1) (pe_tup (pa_cons pe_str (pa_cons pe_str pa_nil))) rfl) (pe_one (pe_call G_is_name (hr.mono (by decide)) rfl T.f_is_name T.k_is_name D.B_is_name .nil pass0 (pa_cons (pv 2) pa_nil)))))))))), ?_⟩
    refine ⟨_, rfl, .ref p, litD l, rfl, lit_dp (SqT.of hp), lit_sz ok, fun H1 e1 => ?_⟩
    rw [bound_lit ok]
    cases l with
    | most x y k => exact ⟨_, rfl, iteT (q H1 e1)⟩
    | yn b x =>
      have h1 : SqT K H1 p (litV (.yn b x)) := SqT.of (e1 _ _ hp)
      refine ⟨_, rfl, iteF ?_⟩
      refine ⟨_, rfl, .ref p, _, _, _, _, rfl, .ty "tuple", dp_ty (lit_dp h1), kit_tuple _, _, rfl, ?_⟩
      refine ⟨_, rfl, p, _, rfl, .inr h1, rfl, _, rfl, ?_⟩
      refine iteNS (by rfl) ?_
      refine ⟨_, rfl, p, _, rfl, h1, rfl, _, _, rfl, _, _, rfl, rfl, ?_⟩
      refine ⟨_, rfl, .str (ynS b), _, _, _, _, rfl, .ty "str", dp_ty (.str _), kit_str (.str (ynS b)), _, rfl, iteT ?_⟩
      refine ⟨_, rfl, (by show 2 ≤ sizeLine; decide), fun t ht => ?_⟩
      have xt := Ex.new (o := .tup [.str "yes", .str "no"]) ht
      refine ⟨t, _, rfl, .inr (SqT.of upd_same), rfl, rfl, _, rfl, ?_⟩
      have hin : inV (.str (ynS b)) [.str "yes", .str "no"] = true := by cases b <;> decide +kernel
      show (if inV _ _ = true then _ else _)
      rw [hin]
      refine iteT ⟨_, rfl, .str x, .str x, rfl, .str _, Nat.le_trans (name_len ok) (by decide), fun H2 e2 => ?_⟩
      show Q (.bl (isNameS x)) H2
      rw [show isNameS x = true from ok]
      exact q H2 ((e1.trans xt).trans e2)
def spUnit : Sp := fun vs H Q _ => ∃ p l, vs = [.ref p] ∧ H p = some (.tup (litV l)) ∧ LitOk l ∧ ∀ H', Ex H H' → Q .non H'
def spLitTo (f : Lit → Lit) : Sp := fun vs H Q _ => ∃ p l, vs = [.ref p] ∧ H p = some (.tup (litV l)) ∧ LitOk l ∧ ∀ u H', Ex H H' → H' u = some (.tup (litV (f l))) → Q (.ref u) H'
theorem ps_never {X : Cx} {st : Stmt} : PS X st (fun _ _ _ => False) := ⟨fun _ _ _ _ _ _ h => h.elim⟩
theorem ok_check_literal (T : TX K mg a) (D : FDS K a d) : FnOk P w K mg base CX0 4 a.a_check_literal d.a_check_literal ["value"] spUnit := by
  have G_is_literal : FnOk P w K mg base CX0 3 a.a_is_literal d.a_is_literal ["value"] spIsLit := ok_is_literal T D
  refine D.F_check_literal.ok sc_check_literal (fun vs H Q E h => ?_) (fun cdv A outer s H vs Q E hr h => ?_)
  · obtain ⟨p, l, rfl, _⟩ := h
    rfl
  · obtain ⟨p, l, rfl, hp, ok, q⟩ := h
    refine ⟨_, pss_one (ps_if (pt_not (pt_val (pe_call G_is_literal (hr.mono (by decide)) rfl T.f_is_literal T.k_is_literal D.B_is_literal .nil pass0 (pa_cons (pv 0) pa_nil)))) (pss_one ps_never) pss_nil), ?_⟩
    exact ⟨_, rfl, p, l, rfl, hp, ok, fun H1 e1 => ⟨_, rfl, iteF' rfl (q H1 e1)⟩⟩
theorem ok_opposite (T : TX K mg a) (D : FDS K a d) : FnOk P w K mg base CX0 1 a.a_opposite d.a_opposite ["literal"] (spLitTo oppL) := by
  refine D.F_opposite.ok sc_opposite (fun vs H Q E h => ?_) (fun cdv A outer s H vs Q E hr h => ?_)
  · obtain ⟨p, l, rfl, _⟩ := h
    rfl
  · obtain ⟨p, l, rfl, hp, ok, q⟩ := h
    refine ⟨_, (pss_cons (ps_if (pt_cmpR op_eq (pe_ix ix_tup (pv 0) pe_int (fun _ _ => rfl)) pe_str (nomark _)) (pss_cons (ps_asg (pv 0) (pg_tup rfl (pgs_cons (pg_name (i := 1) sc_opposite.nd rfl (Or.inl rfl)) (pgs_cons (pg_name (i := 2) sc_opposite.nd rfl (Or.inl rfl)) (pgs_cons (pg_name (i := 3) sc_opposite.nd rfl (Or.inl rfl)) (pgs_cons (pg_name (i := 4) sc_opposite.nd rfl (Or.inl rfl)) pgs_nil))))))
        (pss_one (ps_ret (pe_tup (pa_cons pe_str (pa_cons (pv 3) (pa_cons (pv 2) (pa_cons (pe_op op_sub (pe_un un_neg (pv 4)) pe_int) pa_nil)))))))) pss_nil)
        (pss_cons (ps_asg (pv 0) (pg_tup rfl (pgs_cons (pg_name (i := 5) sc_opposite.nd rfl (Or.inl rfl)) (pgs_cons (pg_name (i := 6) sc_opposite.nd rfl (Or.inl rfl)) pgs_nil))))
        (pss_one (ps_ret (pe_ifExp (pt_cmpR op_eq (pv 5) pe_str (nomark _)) (pe_tup (pa_cons pe_str (pa_cons (pv 6) pa_nil))) (pe_tup (pa_cons pe_str (pa_cons (pv 6) pa_nil)))))))), ?_⟩
    cases l with
    | most x y k =>
      refine ⟨_, rfl, p, _, 0, _, rfl, rfl, SqT.of hp, at_lit (n := 0) rfl rfl, rfl, _, rfl, iteT' (decide_eq_true rfl) ?_⟩
      refine ⟨_, rfl, p, _, rfl, SqT.of hp, rfl, _, _, rfl, _, _, rfl, _, _, rfl, _, _, rfl, rfl, ?_⟩
      refine ⟨_, rfl, _, rfl, _, rfl, k, rfl, _, _, rfl, rfl, (by show 4 ≤ sizeLine; decide), fun t ht => ?_⟩
      exact q t _ (Ex.new ht) upd_same
    | yn b x =>
      have nm : decide (V.str (ynS b) = V.str ("most" : Str)) = false := by cases b <;> decide +kernel
      refine ⟨_, rfl, p, _, 0, _, rfl, rfl, SqT.of hp, at_lit (n := 0) rfl rfl, rfl, _, rfl, iteF' nm ?_⟩
      refine ⟨_, rfl, p, _, rfl, SqT.of hp, rfl, _, _, rfl, _, _, rfl, rfl, ?_⟩
      cases b with
      | true => exact ⟨_, rfl, rfl, _, rfl, iteT' (decide_eq_true rfl) ⟨_, rfl, (by show 2 ≤ sizeLine; decide), fun t ht => q t _ (Ex.new ht) upd_same⟩⟩
      | false => exact ⟨_, rfl, rfl, _, rfl, iteF' (by decide +kernel) ⟨_, rfl, (by show 2 ≤ sizeLine; decide), fun t ht => q t _ (Ex.new ht) upd_same⟩⟩
theorem ok_atom_of (T : TX K mg a) (D : FDS K a d) : FnOk P w K mg base CX0 5 a.a_atom_of d.a_atom_of ["literal"] (spLitTo atomL) := by
  have G_check_literal : FnOk P w K mg base CX0 4 a.a_check_literal d.a_check_literal ["value"] spUnit := ok_check_literal T D
  have G_opposite : FnOk P w K mg base CX0 1 a.a_opposite d.a_opposite ["literal"] (spLitTo oppL) := ok_opposite T D
  refine D.F_atom_of.ok sc_atom_of (fun vs H Q E h => ?_) (fun cdv A outer s H vs Q E hr h => ?_)
  · obtain ⟨p, l, rfl, _⟩ := h
    rfl
  · obtain ⟨p, l, rfl, hp, ok, q⟩ := h
    refine ⟨_, (pss_cons (ps_expr (pe_call G_check_literal (hr.mono (by decide)) rfl T.f_check_literal T.k_check_literal D.B_check_literal .nil pass0 (pa_cons (pv 0) pa_nil)))
        (pss_cons (ps_set (i := 1) sc_atom_of.nd rfl (Or.inl rfl) (pe_call G_opposite (hr.mono (by decide)) rfl T.f_opposite T.k_opposite D.B_opposite .nil pass0 (pa_cons (pv 0) pa_nil)))
        (pss_cons (ps_if (pt_cmpR op_eq (pe_ix ix_tup (pv 0) pe_int (fun _ _ => rfl)) pe_str (nomark _)) (pss_one (ps_ret (pe_ifExp (pt_cmpR op_lt_str (pe_ix ix_tup (pv 0) pe_int (fun _ _ => rfl)) (pe_ix ix_tup (pv 0) pe_int (fun _ _ => rfl)) (nomark _)) (pv 0) (pv 1)))) pss_nil)
        (pss_one (ps_ret (pe_ifExp (pt_cmpR op_eq (pe_ix ix_tup (pv 0) pe_int (fun _ _ => rfl)) pe_str (nomark _)) (pv 0) (pv 1))))))), ?_⟩
    refine ⟨_, rfl, p, l, rfl, hp, ok, fun H1 e1 => ?_⟩
    refine ⟨_, rfl, p, l, rfl, e1 _ _ hp, ok, fun u H2 e2 hu => ?_⟩
    have e12 := e1.trans e2
    have h2 := e12 _ _ hp
    cases l with
    | most x y k =>
      refine ⟨_, rfl, p, _, 0, _, rfl, rfl, SqT.of h2, at_lit (n := 0) rfl rfl, rfl, _, rfl, iteT' (decide_eq_true rfl) ?_⟩
      refine ⟨_, rfl, p, _, 1, _, rfl, rfl, SqT.of h2, at_lit (n := 1) rfl rfl, _, rfl, p, _, 2, _, rfl, rfl, SqT.of h2, at_lit (n := 2) rfl rfl, x, y, rfl, rfl, _, rfl, ?_⟩
      show (if ltS x y = true then _ else _)
      refine ite2 (fun g => ?_) (fun g => ?_)
      · exact ⟨_, rfl, q p H2 e12 (by show H2 p = some (.tup (litV (if ltS x y = true then .most x y k else .most y x (-k - 1)))); rw [if_pos g]; exact h2)⟩
      · exact ⟨_, rfl, q u H2 e12 (by show H2 u = some (.tup (litV (if ltS x y = true then .most x y k else .most y x (-k - 1)))); rw [if_neg g]; exact hu)⟩
    | yn b x =>
      have nm : decide (V.str (ynS b) = V.str ("most" : Str)) = false := by cases b <;> decide +kernel
      refine ⟨_, rfl, p, _, 0, _, rfl, rfl, SqT.of h2, at_lit (n := 0) rfl rfl, rfl, _, rfl, iteF' nm ?_⟩
      refine ⟨_, rfl, p, _, 0, _, rfl, rfl, SqT.of h2, at_lit (n := 0) rfl rfl, rfl, _, rfl, ?_⟩
      cases b with
      | true => exact iteT' (decide_eq_true rfl) ⟨_, rfl, q p H2 e12 h2⟩
      | false => exact iteF' (by decide +kernel) ⟨_, rfl, q u H2 e12 hu⟩
end
end B3
set_option maxRecDepth 100000
set_option maxHeartbeats 4000000
namespace B3
open PySem L2 Evl
theorem opp_ok {l : Lit} (h : LitOk l) : LitOk (oppL l) := by
  cases l with
  | yn b x => exact h
  | most x y k => exact ⟨h.2.1, h.1, fun e => h.2.2.1 e.symm, by have := h.2.2.2; omega, by have := h.2.2.2; omega⟩
theorem atom_ok {l : Lit} (h : LitOk l) : LitOk (atomL l) := by
  cases l with
  | yn b x => exact h
  | most x y k =>
    show LitOk (if ltS x y = true then .most x y k else .most y x (-k - 1))
    split
    · exact h
    · exact ⟨h.2.1, h.1, fun e => h.2.2.1 e.symm, by have := h.2.2.2; omega, by have := h.2.2.2; omega⟩
theorem toList_inj {x y : Str} (h : x.cps.toList = y.cps.toList) : x = y := by
  have e : x.cps = y.cps := Array.toList_inj.mp h
  cases x
  cases y
  exact congrArg Str.mk e
section
variable {P : Program} {w : World} {K : PySem.W.Frag} {mg : Str → Option Value} {base : Heap} {a : Ad} {d : Fd}
theorem ok_law_other (T : TX K mg a) (D : FDS K a d) : FnOk P w K mg base CX0 1 a.a_law_other d.a_law_other ["literal"] (spLitTo oppL) := by
  refine D.F__law_other.ok sc_law_other (fun vs H Q E h => ?_) (fun cdv A outer s H vs Q E hr h => ?_)
  · obtain ⟨p, l, rfl, _⟩ := h
    rfl
  · obtain ⟨p, l, rfl, hp, ok, q⟩ := h
    refine ⟨_, (pss_cons (ps_if (pt_cmpR op_eq (pe_ix ix_tup (pv 0) pe_int (fun _ _ => rfl)) pe_str (nomark _)) (pss_one (ps_ret (pe_tup (pa_cons pe_str (pa_cons (pe_ix ix_tup (pv 0) pe_int (fun _ _ => rfl)) pa_nil))))) pss_nil)
        (pss_cons (ps_if (pt_cmpR op_eq (pe_ix ix_tup (pv 0) pe_int (fun _ _ => rfl)) pe_str (nomark _)) (pss_one (ps_ret (pe_tup (pa_cons pe_str (pa_cons (pe_ix ix_tup (pv 0) pe_int (fun _ _ => rfl)) pa_nil))))) pss_nil)
        (pss_one (ps_ret (pe_tup (pa_cons pe_str (pa_cons (pe_ix ix_tup (pv 0) pe_int (fun _ _ => rfl)) (pa_cons (pe_ix ix_tup (pv 0) pe_int (fun _ _ => rfl)) (pa_cons (pe_op op_sub (pe_un un_neg (pe_ix ix_tup (pv 0) pe_int (fun _ _ => rfl))) pe_int) pa_nil))))))))), ?_⟩
    have two : 2 ≤ sizeLine := by decide
    have four : 4 ≤ sizeLine := by decide
    cases l with
    | most x y k =>
      refine ⟨_, rfl, p, _, 0, _, rfl, rfl, SqT.of hp, at_lit (n := 0) rfl rfl, rfl, _, rfl, iteF' (by decide +kernel) ?_⟩
      refine ⟨_, rfl, p, _, 0, _, rfl, rfl, SqT.of hp, at_lit (n := 0) rfl rfl, rfl, _, rfl, iteF' (by decide +kernel) ?_⟩
      refine ⟨_, rfl, p, _, 2, _, rfl, rfl, SqT.of hp, at_lit (n := 2) rfl rfl, _, rfl, p, _, 1, _, rfl, rfl, SqT.of hp, at_lit (n := 1) rfl rfl, _, rfl, p, _, 3, _, rfl, rfl, SqT.of hp, at_lit (n := 3) rfl rfl, k, rfl, _, _, rfl, rfl, four, fun t ht => ?_⟩
      exact q t _ (Ex.new ht) upd_same
    | yn b x =>
      cases b with
      | true =>
        refine ⟨_, rfl, p, _, 0, _, rfl, rfl, SqT.of hp, at_lit (n := 0) rfl rfl, rfl, _, rfl, iteT' (decide_eq_true rfl) ?_⟩
        exact ⟨_, rfl, p, _, 1, _, rfl, rfl, SqT.of hp, at_lit (n := 1) rfl rfl, two, fun t ht => q t _ (Ex.new ht) upd_same⟩
      | false =>
        refine ⟨_, rfl, p, _, 0, _, rfl, rfl, SqT.of hp, at_lit (n := 0) rfl rfl, rfl, _, rfl, iteF' (by decide +kernel) ?_⟩
        refine ⟨_, rfl, p, _, 0, _, rfl, rfl, SqT.of hp, at_lit (n := 0) rfl rfl, rfl, _, rfl, iteT' (decide_eq_true rfl) ?_⟩
        exact ⟨_, rfl, p, _, 1, _, rfl, rfl, SqT.of hp, at_lit (n := 1) rfl rfl, two, fun t ht => q t _ (Ex.new ht) upd_same⟩
theorem ltS_total {x y : Str} (n : x ≠ y) : ltS y x = !ltS x y := by
  unfold ltS
  by_cases h : x.cps.toList < y.cps.toList
  · rw [decide_eq_true h, decide_eq_false (List.lt_asymm h)]
    rfl
  · by_cases g : y.cps.toList < x.cps.toList
    · rw [decide_eq_false h, decide_eq_true g]
      rfl
    · have e : x.cps.toList = y.cps.toList := List.le_antisymm (List.not_lt.mp g) (List.not_lt.mp h)
      exact absurd (toList_inj e) n
theorem ok_law_atom (T : TX K mg a) (D : FDS K a d) : FnOk P w K mg base CX0 2 a.a_law_atom d.a_law_atom ["literal"] (spLitTo atomL) := by
  have G__law_other : FnOk P w K mg base CX0 1 a.a_law_other d.a_law_other ["literal"] (spLitTo oppL) := ok_law_other T D
  refine D.F__law_atom.ok sc_law_atom (fun vs H Q E h => ?_) (fun cdv A outer s H vs Q E hr h => ?_)
  · obtain ⟨p, l, rfl, _⟩ := h
    rfl
  · obtain ⟨p, l, rfl, hp, ok, q⟩ := h
    refine ⟨_, (pss_cons (ps_if (PW.pt (pw_or (pt_cmpR op_eq (pe_ix ix_tup (pv 0) pe_int (fun _ _ => rfl)) pe_str (nomark _)) (pw_or1 (PW.pt (pw_and (pt_cmpR op_eq (pe_ix ix_tup (pv 0) pe_int (fun _ _ => rfl)) pe_str (nomark _)) (pw_and1 (pt_cmpR op_lt_str (pe_ix ix_tup (pv 0) pe_int (fun _ _ => rfl)) (pe_ix ix_tup (pv 0) pe_int (fun _ _ => rfl)) (nomark _)))))))) (pss_one (ps_ret (pe_call G__law_other (hr.mono (by decide)) rfl T.f__law_other T.k__law_other D.B__law_other .nil pass0 (pa_cons (pv 0) pa_nil)))) pss_nil)
        (pss_one (ps_ret (pv 0)))), ?_⟩
    cases l with
    | most x y k =>
      refine ⟨_, rfl, p, _, 0, _, rfl, rfl, SqT.of hp, at_lit (n := 0) rfl rfl, rfl, _, rfl, iteF' (by decide +kernel) ?_⟩
      refine ⟨_, rfl, p, _, 0, _, rfl, rfl, SqT.of hp, at_lit (n := 0) rfl rfl, rfl, _, rfl, iteT' (decide_eq_true rfl) ?_⟩
      refine ⟨_, rfl, p, _, 2, _, rfl, rfl, SqT.of hp, at_lit (n := 2) rfl rfl, _, rfl, p, _, 1, _, rfl, rfl, SqT.of hp, at_lit (n := 1) rfl rfl, y, x, rfl, rfl, _, rfl, ?_⟩
      show (if ltS y x = true then _ else _)
      rw [ltS_total ok.2.2.1]
      have e : atomL (.most x y k) = if ltS x y = true then .most x y k else .most y x (-k - 1) := rfl
      cases g : ltS x y with
      | true =>
        rw [g, if_pos rfl] at e
        exact iteF' rfl ⟨_, rfl, q p H (Ex.refl _) (by rw [e]; exact hp)⟩
      | false =>
        rw [g, if_neg Bool.false_ne_true] at e
        exact iteT' rfl ⟨_, rfl, p, .most x y k, rfl, hp, ok, fun u H' e1 hu => q u H' e1 (by rw [e]; exact hu)⟩
    | yn b x =>
      cases b with
      | true =>
        refine ⟨_, rfl, p, _, 0, _, rfl, rfl, SqT.of hp, at_lit (n := 0) rfl rfl, rfl, _, rfl, iteF' (by decide +kernel) ?_⟩
        refine ⟨_, rfl, p, _, 0, _, rfl, rfl, SqT.of hp, at_lit (n := 0) rfl rfl, rfl, _, rfl, iteF' (by decide +kernel) ?_⟩
        exact ⟨_, rfl, q p H (Ex.refl _) hp⟩
      | false =>
        refine ⟨_, rfl, p, _, 0, _, rfl, rfl, SqT.of hp, at_lit (n := 0) rfl rfl, rfl, _, rfl, iteT' (decide_eq_true rfl) ?_⟩
        exact ⟨_, rfl, p, .yn false x, rfl, hp, ok, fun u H' e1 hu => q u H' e1 hu⟩
end
end B3
set_option maxRecDepth 100000
set_option maxHeartbeats 4000000
namespace B3
open PySem L2 Evl GP
/-- the values are literals, each its own tuple -/
structure Lits (H : Hp) (vs : List V) (ls : List Lit) : Prop where
  len : vs.length = ls.length
  at_ : ∀ (i : Nat) (l : Lit), ls[i]? = some l → ∃ t, vs[i]? = some (.ref t) ∧ H t = some (.tup (litV l))
theorem Lits.nil {H : Hp} : Lits H [] [] := ⟨rfl, fun i q h => by simp at h⟩
theorem Lits.ex {H H' : Hp} {vs : List V} {ls : List Lit} (A : Lits H vs ls) (e : Ex H H') : Lits H' vs ls := ⟨A.len, fun i q h => by
  obtain ⟨t, h1, h2⟩ := A.at_ i q h
  exact ⟨t, h1, e _ _ h2⟩⟩
theorem Lits.dp {K : PySem.W.Frag} {H : Hp} : ∀ {vs : List V} {ls : List Lit}, Lits H vs ls → DpAll K H vs (ls.map litD)
  | [], [], _ => .nil
  | [], _ :: _, A => by have := A.len; simp at this
  | _ :: _, [], A => by have := A.len; simp at this
  | v :: vs, l :: ls, A => by
    obtain ⟨t, h1, h2⟩ := A.at_ 0 l rfl
    obtain rfl : v = .ref t := Option.some.inj h1
    exact .cons (lit_dp (SqT.of h2)) (Lits.dp ⟨by have := A.len; simpa using this, fun i r g => A.at_ (i + 1) r g⟩)
theorem name_low {x : Str} (h : isNameS x = true) : ∀ c ∈ x.cps.toList, c < 16 ^ 8 := by
  unfold isNameS at h
  have h2 := (Bool.and_eq_true_iff.mp (Bool.and_eq_true_iff.mp h).2).2
  have h3 : ∀ c ∈ signs.cps.toList, c < 16 ^ 8 := by decide +kernel
  exact fun c hc => h3 c (of_decide_eq_true (List.all_eq_true.mp h2 c hc))
theorem rp_name {x : Str} (h : isNameS x = true) : Rp 0 2000 (.str x) := (Rp.str (name_low h)).mono (Nat.le_refl _) (by have := name_len h; omega)
theorem rp_lit {l : Lit} (h : LitOk l) : Rp 1 8010 (litD l) := by
  cases l with
  | yn b x =>
    refine (Rp.tuple (n := 0) (c := 2000) fun d hd => ?_).mono (Nat.le_refl _) (by show 2 * 2002 + 2 ≤ _; decide)
    simp only [List.mem_cons, List.not_mem_nil, or_false] at hd
    rcases hd with rfl | rfl
    · refine (Rp.str ?_).mono (Nat.le_refl _) ?_ <;> cases b <;> decide +kernel
    · exact rp_name h
  | most x y k =>
    obtain ⟨h1, h2, _, h3, h4⟩ := h
    refine (Rp.tuple (n := 0) (c := 2000) fun d hd => ?_).mono (Nat.le_refl _) (by show 4 * 2002 + 2 ≤ _; decide)
    simp only [List.mem_cons, List.not_mem_nil, or_false] at hd
    rcases hd with rfl | rfl | rfl | rfl
    · refine (Rp.str ?_).mono (Nat.le_refl _) ?_ <;> decide +kernel
    · exact rp_name h1
    · exact rp_name h2
    · have lg : k.natAbs.log2 < 301 := PySem.Flt.log2_lt_of (by decide) (by omega)
      exact (Rp.int (Nat.lt_trans lg (by decide))).mono (Nat.le_refl _) (by decide)
theorem rp_lits {ls : List Lit} (h : ∀ l ∈ ls, LitOk l) (few : ls.length ≤ 1000) : Rp 2 8012002 (.tuple (ls.map litD)) ∧ Rp 2 8012002 (.list (ls.map litD)) := by
  have g : ∀ d ∈ ls.map litD, Rp 1 8010 d := fun d hd => by
    obtain ⟨l, hl, rfl⟩ := List.mem_map.mp hd
    exact rp_lit (h l hl)
  exact ⟨(Rp.tuple g).mono (Nat.le_refl _) (by rw [List.length_map]; omega), (Rp.list g).mono (Nat.le_refl _) (by rw [List.length_map]; omega)⟩
end B3
set_option maxRecDepth 100000
set_option maxHeartbeats 4000000
namespace B3
open PySem L2 Evl GP
/-! ### data that can be compared -/
def Sh (n : Nat) (d : PyData) : Prop := d.canLay0 = true ∧ d.depth ≤ n
theorem Sh.all {n : Nat} : ∀ {ds : List PyData}, (∀ d ∈ ds, Sh n d) → PyData.canLayAll0 ds = true ∧ PyData.depthAll ds ≤ n
  | [], _ => ⟨by simp [PyData.canLayAll0], by simp [PyData.depthAll]⟩
  | d :: ds, h => by
    have a := h d List.mem_cons_self
    have b := Sh.all (ds := ds) fun x hx => h x (List.mem_cons_of_mem _ hx)
    refine ⟨?_, ?_⟩
    · rw [PyData.canLayAll0, a.1, b.1]
      rfl
    · rw [PyData.depthAll]
      exact Nat.max_le.mpr ⟨a.2, b.2⟩
theorem Sh.list {n : Nat} {ds : List PyData} (h : ∀ d ∈ ds, Sh n d) : Sh (n + 1) (.list ds) := ⟨by rw [PyData.canLay0]; exact (Sh.all h).1, by rw [PyData.depth]; exact Nat.succ_le_succ (Sh.all h).2⟩
theorem Sh.tuple {n : Nat} {ds : List PyData} (h : ∀ d ∈ ds, Sh n d) : Sh (n + 1) (.tuple ds) := ⟨by rw [PyData.canLay0]; exact (Sh.all h).1, by rw [PyData.depth]; exact Nat.succ_le_succ (Sh.all h).2⟩
theorem Sh.mono {n m : Nat} {d : PyData} (h : Sh n d) (l : n ≤ m) : Sh m d := ⟨h.1, Nat.le_trans h.2 l⟩
theorem Sh.sh {n : Nat} {d : PyData} (h : Sh n d) (l : n ≤ 64) : PySem.SeqAt.shaped d = true := Bool.and_eq_true_iff.mpr ⟨h.1, decide_eq_true (Nat.le_trans h.2 l)⟩
theorem sh_str {n : Nat} {s : Str} (h : PyData.strOk s = true) : Sh n (.str s) := by simp [Sh, PyData.canLay0, PyData.depth, h]
theorem sh_int {n : Nat} {i : Int} : Sh n (.int i) := by simp [Sh, PyData.canLay0, PyData.depth]
theorem sh_none {n : Nat} : Sh n .none := by simp [Sh, PyData.canLay0, PyData.depth]
theorem sh_pair {n : Nat} {a b : PyData} (h1 : Sh n a) (h2 : Sh n b) : Sh (n + 1) (.tuple [a, b]) := Sh.tuple fun x hx => by
  simp only [List.mem_cons, List.not_mem_nil, or_false] at hx
  rcases hx with rfl | rfl <;> assumption
theorem signs_low : ∀ c ∈ signs.cps.toList, c < 128 := by decide +kernel
theorem name_ok {z : Str} (h : isNameS z = true) : PyData.strOk z = true := by
  unfold isNameS at h
  simp only [Bool.and_eq_true, List.all_eq_true, decide_eq_true_eq] at h
  unfold PyData.strOk
  rw [← Array.all_toList, List.all_eq_true]
  intro c hc
  have := signs_low c (h.2.2 c hc)
  exact decide_eq_true (by omega)
theorem hu70 {k : Nat} {A : Around} (r : Room k A) : A.units + 70 < cLine := by have := r.un; omega
theorem sh_lit {l : Lit} (h : LitOk l) : Sh 2 (litD l) := by
  cases l with
  | yn b x =>
    refine Sh.tuple fun d hd => ?_
    simp only [List.mem_cons, List.not_mem_nil, or_false] at hd
    rcases hd with rfl | rfl
    · exact sh_str (by cases b <;> decide +kernel)
    · exact sh_str (name_ok h)
  | most x y k =>
    refine Sh.tuple fun d hd => ?_
    simp only [List.mem_cons, List.not_mem_nil, or_false] at hd
    rcases hd with rfl | rfl | rfl | rfl
    · exact sh_str (by decide +kernel)
    · exact sh_str (name_ok h.1)
    · exact sh_str (name_ok h.2.1)
    · exact sh_int
theorem sh_lits {ls : List Lit} (h : ∀ l ∈ ls, LitOk l) : ∀ d ∈ ls.map litD, Sh 2 d := fun d hd => by
  obtain ⟨l, hl, rfl⟩ := List.mem_map.mp hd
  exact sh_lit (h l hl)
theorem eq_same {K : PySem.W.Frag} {H : Hp} {x y : V} {d : PyData} {n : Nat} (hx : Dp K H x d) (hy : Dp K H y d) (s : Sh n d) (l : n ≤ 64) {Q : VK} (q : Q (.bl true) H) : rEqD K x y H Q :=
  ⟨d, d, hx, hy, s.sh l, s.sh l, by rw [PySem.SeqAt.eqv_refl d s.1]; exact q⟩
/-- two tuples of the same literals -/
def spIs : Sp := fun vs H Q _ => ∃ p u xs ys ls, vs = [.ref p, .ref u] ∧ H p = some (.tup xs) ∧ H u = some (.tup ys) ∧ Lits H xs ls ∧ Lits H ys ls ∧ (∀ l ∈ ls, LitOk l) ∧ ls.length ≤ 1000 ∧ ∀ H', Ex H H' → Q (.bl true) H'
section
variable {P : Program} {w : World} {K : PySem.W.Frag} {mg : Str → Option Value} {base : Heap} {a : Ad} {d : Fd}
theorem ok_law_is (T : TX K mg a) (D : FDS K a d) : FnG P w K mg base 1 a.a_law_is d.a_law_is ["actual", "due"] spIs := by
  refine okG D.F__law_is sc_law_is (fun vs H Q E h => ?_) (fun cdv A outer s H vs Q E hr gd h => ?_)
  · obtain ⟨p, u, xs, ys, ls, rfl, _⟩ := h
    rfl
  · obtain ⟨p, u, xs, ys, ls, rfl, hp, hu, A1, A2, ok, few, q⟩ := h
    refine ⟨_, (pss_one (ps_ret (pe_and (pe_callB call_isi (by rfl) T.b_isinstance (by decide +kernel) (pa_cons (pv 0) (pa_cons (pe_bltn (v := .ty "tuple") (by rfl) T.b_tuple (by decide +kernel) rfl) pa_nil))) (pe_and (pe_cmpR (op_eqD hr.units) (pv 0) (pv 1) (nomark _)) (pe_one (pe_cmpR op_eq (pe_callB (call_reprR gd (hu70 hr)) (by rfl) T.b_repr (by decide +kernel) (pa_cons (pv 0) pa_nil)) (pe_callB (call_reprR gd (hu70 hr)) (by rfl) T.b_repr (by decide +kernel) (pa_cons (pv 1) pa_nil)) (nomark _))))))), ?_⟩
    have d1 : Dp K H (.ref p) (.tuple (ls.map litD)) := .tup (SqT.of hp) A1.dp
    have d2 : Dp K H (.ref u) (.tuple (ls.map litD)) := .tup (SqT.of hu) A2.dp
    have rp := (rp_lits ok few).1
    refine ⟨_, rfl, .ref p, _, _, _, _, rfl, .ty "tuple", dp_ty d1, kit_tuple _, _, rfl, iteT ?_⟩
    refine ⟨_, rfl, _, rfl, eq_same d1 d2 (Sh.tuple (sh_lits ok)) (by decide) ⟨_, rfl, iteT' rfl ?_⟩⟩
    refine ⟨_, rfl, p, _, _, _, rfl, d1, rp, by decide, by decide, _, rfl, u, _, _, _, rfl, d2, rp, by decide, by decide, rfl, ?_⟩
    rw [decide_eq_true rfl]
    exact q H (Ex.refl _)
end
end B3
set_option maxRecDepth 100000
set_option maxHeartbeats 4000000
namespace B3
open PySem L2 Evl GP
/-- the box of a script: the dict, its list of great cells, its list of small ones -/
structure Box where
  b : Addr
  g : Addr
  s : Addr
def boxK (x : Box) (r e t : Int) : List (Key × V) := [(.inr "great", .ref x.g), (.inr "small", .ref x.s), (.inr "rest", .int r), (.inr "seed", .int e), (.inr "turn", .int t)]
structure Bx (x : Box) (n : Nat) (H : Hp) : Prop where
  d : ∃ r e t, H x.b = some (.dK (boxK x r e t)) ∧ 0 ≤ r ∧ 0 ≤ t ∧ t ≤ (n : Int)
  g : ∃ ns : List Int, H x.g = some (.lst (ns.map V.int)) ∧ ∀ n ∈ ns, 0 < n
  s : ∃ ns : List Int, H x.s = some (.lst (ns.map V.int))
  bg : x.b ≠ x.g
  bs : x.b ≠ x.s
  gs : x.g ≠ x.s
/-- all but the dict and the great ones is as it was -/
structure Kp (x : Box) (H H' : Hp) : Prop where
  k : ∀ a o, a ≠ x.b → a ≠ x.g → H a = some o → H' a = some o
theorem Kp.refl (x : Box) (H : Hp) : Kp x H H := ⟨fun _ _ _ _ h => h⟩
theorem Kp.trans {x : Box} {H H1 H2 : Hp} (y : Kp x H H1) (z : Kp x H1 H2) : Kp x H H2 := ⟨fun a o n m h => z.k a o n m (y.k a o n m h)⟩
theorem Kp.ex {x : Box} {H H1 : Hp} (e : Ex H H1) : Kp x H H1 := ⟨fun a o _ _ h => e a o h⟩
theorem Kp.mut {x : Box} {H H' : Hp} {l : Addr} {o : HO} (y : Kp x H H') (hl : H l = none) : Kp x H (upd H' l o) :=
  ⟨fun a u n m h => by
    rw [upd_ne (ne_of_none h hl)]
    exact y.k a u n m h⟩
theorem Bx.mono {x : Box} {n k : Nat} {H : Hp} (X : Bx x n H) (h : n ≤ k) : Bx x k H := by
  obtain ⟨⟨r, f, t, h1, h2, h3, h4⟩, g, s, n1, n2, n3⟩ := X
  exact ⟨⟨r, f, t, h1, h2, h3, by omega⟩, g, s, n1, n2, n3⟩
theorem Bx.ex {x : Box} {n : Nat} {H H1 : Hp} (X : Bx x n H) (e : Ex H H1) : Bx x n H1 := by
  obtain ⟨⟨r, f, t, h1, h2⟩, ⟨ns, h3, h4⟩, ⟨ms, h5⟩, n1, n2, n3⟩ := X
  exact ⟨⟨r, f, t, e _ _ h1, h2⟩, ⟨ns, e _ _ h3, h4⟩, ⟨ms, e _ _ h5⟩, n1, n2, n3⟩
theorem Bx.neb {x : Box} {n : Nat} {H : Hp} {l : Addr} (X : Bx x n H) (hl : H l = none) : l ≠ x.b := by
  obtain ⟨⟨r, f, t, h1, h2⟩, _⟩ := X
  exact (ne_of_none h1 hl).symm
theorem Bx.neg {x : Box} {n : Nat} {H : Hp} {l : Addr} (X : Bx x n H) (hl : H l = none) : l ≠ x.g := by
  obtain ⟨_, ⟨ns, h3, h4⟩, _⟩ := X
  exact (ne_of_none h3 hl).symm
theorem Bx.nes {x : Box} {n : Nat} {H : Hp} {l : Addr} (X : Bx x n H) (hl : H l = none) : l ≠ x.s := by
  obtain ⟨_, _, ⟨ms, h5⟩, _⟩ := X
  exact (ne_of_none h5 hl).symm
theorem Kp.at {x : Box} {k : Nat} {H0 H H' : Hp} (y : Kp x H H') {a : Addr} {o : HO} (X : Bx x k H0) (n : H0 a = none) (h : H a = some o) : H' a = some o := y.k a o (X.neb n) (X.neg n) h
theorem Bx.mut {x : Box} {m k : Nat} {H H' : Hp} {l : Addr} {o : HO} (X : Bx x m H) (hl : H l = none) (Y : Bx x k H') : Bx x k (upd H' l o) := by
  have n1 := X.neb hl
  have n2 := X.neg hl
  have n3 := X.nes hl
  obtain ⟨⟨r, f, t, h1, h2⟩, ⟨ns, h3, h4⟩, ⟨ms, h5⟩, m1, m2, m3⟩ := Y
  exact ⟨⟨r, f, t, by rw [upd_ne n1.symm]; exact h1, h2⟩, ⟨ns, by rw [upd_ne n2.symm]; exact h3, h4⟩, ⟨ms, by rw [upd_ne n3.symm]; exact h5⟩, m1, m2, m3⟩
def spDraw : Sp := fun vs H Q _ => ∃ (x : Box) (size : Int) (n : Nat), vs = [.ref x.b, .int size] ∧ Bx x n H ∧ n ≤ 1000000 ∧ 0 < size ∧ size < 1073741824 ∧ ∀ (d : Int) H', Kp x H H' → Bx x (n + 1) H' → 0 ≤ d → d < size → Q (.int d) H'
def spInteger : Sp := fun vs H Q _ => ∃ (x : Box) (n : Nat), vs = [.ref x.b] ∧ Bx x n H ∧ n ≤ 900000 ∧ ∀ (k : Int) H', Kp x H H' → Bx x (n + 8) H' → -(2 ^ 290) ≤ k ∧ k < 2 ^ 290 → Q (.int k) H'
section
variable {P : Program} {w : World} {K : PySem.W.Frag} {mg : Str → Option Value} {base : Heap} {a : Ad} {d : Fd}
theorem ok_law_integer (T : TX K mg a) (D : FDS K a d) (G__law_draw : FnOk P w K mg base CX0 1 a.a_law_draw d.a_law_draw ["box", "size"] spDraw) : FnOk P w K mg base CX0 2 a.a_law_integer d.a_law_integer ["box"] spInteger := by
  refine D.F__law_integer.ok sc_law_integer (fun vs H Q E h => ?_) (fun cdv A outer s H vs Q E hr h => ?_)
  · obtain ⟨x, n, rfl, _⟩ := h
    rfl
  · obtain ⟨x, n, rfl, X, hn, q⟩ := h
    refine ⟨_, (pss_cons (ps_if (pt_cmpR op_gt (pe_call G__law_draw (hr.mono (by decide)) rfl T.f__law_draw T.k__law_draw D.B__law_draw .nil pass0 (pa_cons (pv 0) (pa_cons pe_int pa_nil))) pe_int (nomark _)) (pss_one (ps_ret (pe_op op_sub (pe_call G__law_draw (hr.mono (by decide)) rfl T.f__law_draw T.k__law_draw D.B__law_draw .nil pass0 (pa_cons (pv 0) (pa_cons pe_int pa_nil))) pe_int))) pss_nil)
        (pss_cons (ps_set (i := 1) sc_law_integer.nd rfl (Or.inl rfl) pe_int)
        (pss_cons (ps_for PassesOwn.never rfl (pi_range1 rfl T.b_range (pa_cons pe_int pa_nil)) (pg_name (i := 2) sc_law_integer.nd rfl (Or.inl rfl)) (pss_one (ps_set (i := 1) sc_law_integer.nd rfl (Or.inl rfl) (pe_op op_add (pe_op op_mulW (pv 1) (pe_op op_pow pe_int pe_int)) (pe_call G__law_draw (hr.mono (by decide)) rfl T.f__law_draw T.k__law_draw D.B__law_draw .nil pass0 (pa_cons (pv 0) (pa_cons (pe_op op_pow pe_int pe_int) pa_nil)))))))
        (pss_one (ps_ret (pe_op op_sub (pv 1) (pe_op op_mulW pe_int (pe_op op_pow pe_int pe_int)))))))), ?_⟩
    refine ⟨_, rfl, x, 11, n, rfl, X, by omega, by decide, by decide +kernel, fun d1 H1 k1 X1 a0 a1 => ⟨_, _, rfl, rfl, _, rfl, ite2 (fun g => ?_) (fun g => ?_)⟩⟩
    · exact ⟨_, rfl, x, 9, n + 1, rfl, X1, by omega, by decide, by decide +kernel, fun d2 H2 k2 X2 b0 b1 => ⟨_, _, rfl, rfl, q _ H2 (k1.trans k2) (X2.mono (by omega)) (by omega)⟩⟩
    · refine ⟨7, rfl, by decide, by decide, for_range (lo := 0) (n := 7) (fun i σ H' => (∃ (u : Option V) (f : Int), σ = [some (.ref x.b), some (.int f), u] ∧ 0 ≤ f ∧ f < 10 ^ (9 * i)) ∧ Kp x H H' ∧ Bx x (n + 1 + i) H') ⟨⟨none, 0, rfl, by decide, by decide⟩, k1, X1⟩ ?_ ?_⟩
      · rintro i σ H' hi ⟨⟨u, f, rfl, f0, f1⟩, k2, X2⟩
        have pb : f < 10 ^ 54 := by
          have h7 : ∀ i, i < 7 → (10 : Int) ^ (9 * i) ≤ 10 ^ 54 := by decide +kernel
          have := h7 i hi
          omega
        have p54 : (10 : Int) ^ 54 < 2 ^ 200 := by decide +kernel
        have cp : (10 : Int) ^ (9 : Int).toNat = 1000000000 := by decide +kernel
        refine ⟨_, rfl, _, _, rfl, rfl, ⟨by decide, by decide, by decide⟩, _, _, rfl, rfl, wide_mul (a := 200) (b := 40) (by omega) (by rw [cp]; decide) (by decide) (by decide) (by decide), _, rfl, _, _, rfl, rfl, ⟨by decide, by decide, by decide⟩, x, _, n + 1 + i, rfl, X2, by omega, by decide +kernel, by decide +kernel, fun d H3 k3 X3 r0 r1 => ⟨_, _, rfl, rfl, ⟨_, f * (10 : Int) ^ (9 : Int).toNat + d, rfl, ?_, ?_⟩, k2.trans k3, X3⟩⟩
        · rw [cp]
          omega
        · have r2 : d < 1000000000 := by rw [cp] at r1; exact r1
          have e : (10 : Int) ^ (9 * (i + 1)) = 10 ^ (9 * i) * 1000000000 := by rw [Nat.mul_add, Int.pow_add]; rfl
          rw [cp, e]
          omega
      · rintro σ H' ⟨⟨u, f, rfl, f0, f1⟩, k2, X2⟩
        have f2 : f < 10 ^ 63 := f1
        have c62 : (5 : Int) * 10 ^ (62 : Int).toNat = 5 * 10 ^ 62 := rfl
        have p63 : (10 : Int) ^ 63 < 2 ^ 280 := by decide +kernel
        have p62 : (5 : Int) * 10 ^ 62 < 2 ^ 280 := by decide +kernel
        have p62' : 0 < (5 : Int) * 10 ^ 62 := by decide +kernel
        refine ⟨_, rfl, _, _, rfl, rfl, ⟨by decide, by decide, by decide⟩, _, _, rfl, rfl, wide_mul (a := 4) (b := 280) (by decide) (by decide +kernel) (by decide) (by decide) (by decide), _, _, rfl, rfl, q _ H' k2 (X2.mono (by omega)) ?_⟩
        rw [c62]
        omega
end
end B3
set_option maxRecDepth 100000
set_option maxHeartbeats 8000000
namespace B3
open PySem L2 Evl GP
theorem Bx.tup {x : Box} {n : Nat} {H H' : Hp} {t : Addr} {vs : List V} (X : Bx x n H) (k : Kp x H H') (h : H t = some (.tup vs)) : H' t = some (.tup vs) := by
  obtain ⟨⟨r, f, u, h1, _⟩, ⟨ns, h3, _⟩, _⟩ := X
  refine k.k t _ (fun e => ?_) (fun e => ?_) h
  · rw [e, h1] at h
    cases h
  · rw [e, h3] at h
    cases h
theorem Lits.kp {x : Box} {n : Nat} {H H' : Hp} {vs : List V} {ls : List Lit} (A : Lits H vs ls) (X : Bx x n H) (k : Kp x H H') : Lits H' vs ls := ⟨A.len, fun i q h => by
  obtain ⟨t, h1, h2⟩ := A.at_ i q h
  exact ⟨t, h1, X.tup k h2⟩⟩
def spPick : Sp := fun vs H Q _ => ∃ (x : Box) (n : Nat) (p : Addr) (us : List V) (ls : List Lit), vs = [.ref x.b, .ref p] ∧ Bx x n H ∧ n ≤ 900000 ∧ H p = some (.lst us) ∧ p ≠ x.b ∧ p ≠ x.g ∧ Lits H us ls ∧ (∀ l ∈ ls, LitOk l) ∧ 0 < ls.length ∧ ls.length ≤ 1000 ∧
  ∀ (u : Addr) (l : Lit) H', Kp x H H' → Bx x (n + 2) H' → H' u = some (.tup (litV l)) → LitOk l → Q (.ref u) H'
section
variable {P : Program} {w : World} {K : PySem.W.Frag} {mg : Str → Option Value} {base : Heap} {a : Ad} {d : Fd}
theorem ok_law_pick (T : TX K mg a) (D : FDS K a d) (G__law_draw : FnOk P w K mg base CX0 1 a.a_law_draw d.a_law_draw ["box", "size"] spDraw) : FnOk P w K mg base CX0 2 a.a_law_pick d.a_law_pick ["box", "pool"] spPick := by
  have G__law_other : FnOk P w K mg base CX0 1 a.a_law_other d.a_law_other ["literal"] (spLitTo oppL) := ok_law_other T D
  refine D.F__law_pick.ok sc_law_pick (fun vs H Q E h => ?_) (fun cdv A outer s H vs Q E hr h => ?_)
  · obtain ⟨x, n, p, us, ls, rfl, _⟩ := h
    rfl
  · obtain ⟨x, n, p, us, ls, rfl, X, hn, hp, n1, n2, L, ok, l0, l1, q⟩ := h
    refine ⟨_, (pss_cons (ps_set (i := 2) sc_law_pick.nd rfl (Or.inl rfl) (pe_ix ix_list (pv 1) (pe_call G__law_draw (hr.mono (by decide)) rfl T.f__law_draw T.k__law_draw D.B__law_draw .nil pass0 (pa_cons (pv 0) (pa_cons (pe_callB call_len_seq (by rfl) T.b_len (by decide +kernel) (pa_cons (pv 1) pa_nil)) pa_nil))) (fun _ _ => rfl)))
        (pss_cons (ps_if (pt_cmpR op_eq (pe_call G__law_draw (hr.mono (by decide)) rfl T.f__law_draw T.k__law_draw D.B__law_draw .nil pass0 (pa_cons (pv 0) (pa_cons pe_int pa_nil))) pe_int (nomark _)) (pss_one (ps_ret (pe_call G__law_other (hr.mono (by decide)) rfl T.f__law_other T.k__law_other D.B__law_other .nil pass0 (pa_cons (pv 2) pa_nil)))) pss_nil)
        (pss_one (ps_ret (pv 2))))), ?_⟩
    have ll := L.len
    refine ⟨_, rfl, _, rfl, _, rfl, p, _, rfl, .inl (SqL.of hp), x, _, n, rfl, X, by omega, by omega, by omega, fun k1 H1 c1 X1 a0 a1 => ?_⟩
    obtain ⟨i, rfl⟩ : ∃ i : Nat, k1 = (i : Int) := ⟨k1.toNat, by omega⟩
    have hi : i < ls.length := by omega
    obtain ⟨t, ht, hl⟩ := L.at_ i ls[i] (List.getElem?_eq_getElem hi)
    have h1 := c1.k p _ n1 n2 hp
    have t1 := X.tup c1 hl
    have okl := ok _ (List.getElem_mem hi)
    refine ⟨p, _, _, _, rfl, rfl, SqL.of h1, atI_nat ht, ?_⟩
    refine ⟨_, rfl, x, 2, n + 1, rfl, X1, by omega, by decide, by decide +kernel, fun d2 H2 c2 X2 b0 b1 => ⟨rfl, _, rfl, ite2 (fun g => ?_) (fun g => ?_)⟩⟩
    · exact ⟨_, rfl, t, ls[i], rfl, X1.tup c2 t1, okl, fun u H3 e3 hu => q u _ H3 ((c1.trans c2).trans (Kp.ex e3)) (X2.ex e3) hu (opp_ok okl)⟩
    · exact ⟨_, rfl, q t _ H2 (c1.trans c2) X2 (X1.tup c2 t1) okl⟩
end
end B3
set_option maxRecDepth 100000
set_option maxHeartbeats 4000000
namespace B3
open PySem L2 Evl GP
theorem eqv_str (x y : Str) : PyData.eqv (.str x) (.str y) = decide (x = y) := by
  rw [PyData.eqv]
  by_cases h : x = y <;> simp [h]
theorem yn_inj {b c : Bool} : ynS b = ynS c ↔ b = c := by cases b <;> cases c <;> decide +kernel
theorem yn_most (b : Bool) : ynS b ≠ ("most" : Str) := by cases b <;> decide +kernel
theorem eqv_lit (l m : Lit) : PyData.eqv (litD l) (litD m) = decide (l = m) := by
  cases l with
  | yn b x =>
    cases m with
    | yn c y =>
      show PyData.eqv (.tuple [.str (ynS b), .str x]) (.tuple [.str (ynS c), .str y]) = _
      rw [PyData.eqv]
      simp only [PyData.eqvAll, eqv_str, Bool.and_true, Lit.yn.injEq, yn_inj]
      by_cases h : b = c <;> by_cases g : x = y <;> simp [h, g]
    | most x2 y2 k2 =>
      show PyData.eqv (.tuple [.str (ynS b), .str x]) (.tuple [.str "most", .str x2, .str y2, .int k2]) = _
      rw [PyData.eqv]
      simp only [PyData.eqvAll, eqv_str, decide_eq_false (yn_most b), Bool.false_and]
      simp
  | most x y k =>
    cases m with
    | yn c z =>
      show PyData.eqv (.tuple [.str "most", .str x, .str y, .int k]) (.tuple [.str (ynS c), .str z]) = _
      rw [PyData.eqv]
      simp only [PyData.eqvAll, eqv_str, decide_eq_false (yn_most c).symm, Bool.false_and]
      simp
    | most x2 y2 k2 =>
      show PyData.eqv (.tuple [.str "most", .str x, .str y, .int k]) (.tuple [.str "most", .str x2, .str y2, .int k2]) = _
      rw [PyData.eqv]
      simp only [PyData.eqvAll, eqv_str, PyData.eqv, Bool.and_true, Lit.most.injEq, decide_true, Bool.true_and]
      by_cases h : x = x2 <;> by_cases g : y = y2 <;> by_cases e : k = k2 <;> simp [h, g, e]
theorem any_lit (ls : List Lit) (l : Lit) : ((ls.map litD).any fun z => PyData.eqv z (litD l)) = decide (l ∈ ls) := by
  rw [List.any_map]
  induction ls with
  | nil => simp
  | cons m r ih =>
    rw [List.any_cons, ih]
    show (PyData.eqv (litD m) (litD l) || _) = _
    rw [eqv_lit]
    by_cases h : m = l
    · subst h; simp
    · by_cases g : l ∈ r
      · simp [h, g]
      · have h2 : l ≠ m := fun e => h e.symm
        simp [h, g, h2]
end B3
set_option maxRecDepth 100000
set_option maxHeartbeats 8000000
namespace B3
open PySem L2 Evl GP
theorem hu65 {k : Nat} {A : Around} (r : Room k A) : A.units + 65 < cLine := by have := r.un; omega
theorem Lits.upd {H : Hp} {vs : List V} {ls : List Lit} {l : Addr} {xs ys : List V} (A : Lits H vs ls) (h : H l = some (.lst xs)) : Lits (upd H l (.lst ys)) vs ls := ⟨A.len, fun i q g => by
  obtain ⟨t, h1, h2⟩ := A.at_ i q g
  have : t ≠ l := fun e => by rw [e, h] at h2; cases h2
  exact ⟨t, h1, by rw [upd_ne this]; exact h2⟩⟩
theorem Lits.snoc {H : Hp} {vs : List V} {ls : List Lit} {q : Lit} {t : Addr} (A : Lits H vs ls) (h : H t = some (.tup (litV q))) : Lits H (vs ++ [.ref t]) (ls ++ [q]) := ⟨by simp [A.len], fun i r g => by
  by_cases hi : i < ls.length
  · rw [List.getElem?_append_left hi] at g
    obtain ⟨t2, h1, h2⟩ := A.at_ i r g
    exact ⟨t2, by rw [List.getElem?_append_left (by rw [A.len]; exact hi)]; exact h1, h2⟩
  · rw [List.getElem?_append_right (by omega)] at g
    have h0 : i - ls.length = 0 := by
      have := (List.getElem?_eq_some_iff.mp g).1
      simp at this
      omega
    rw [h0] at g
    obtain rfl : q = r := Option.some.inj g
    exact ⟨t, by rw [List.getElem?_append_right (by rw [A.len]; omega), A.len, h0]; rfl, h⟩⟩
theorem Lits.get {H : Hp} {vs : List V} {ls : List Lit} (A : Lits H vs ls) {i : Nat} {v : V} (h : vs[i]? = some v) : ∃ t l, v = .ref t ∧ ls[i]? = some l ∧ H t = some (.tup (litV l)) := by
  have hi : i < ls.length := by rw [← A.len]; exact (List.getElem?_eq_some_iff.mp h).1
  obtain ⟨t, h1, h2⟩ := A.at_ i ls[i] (List.getElem?_eq_getElem hi)
  exact ⟨t, ls[i], Option.some.inj (h.symm.trans h1), List.getElem?_eq_getElem hi, h2⟩
theorem Lits.app {H : Hp} {us ws : List V} {ls ms : List Lit} (A : Lits H us ls) (B : Lits H ws ms) : Lits H (us ++ ws) (ls ++ ms) := ⟨by simp [A.len, B.len], fun i q h => by
  have c := A.len
  by_cases hi : i < ls.length
  · rw [List.getElem?_append_left hi] at h
    obtain ⟨t, h1, h2⟩ := A.at_ i q h
    exact ⟨t, by rw [List.getElem?_append_left (by omega)]; exact h1, h2⟩
  · rw [List.getElem?_append_right (by omega)] at h
    obtain ⟨t, h1, h2⟩ := B.at_ _ q h
    exact ⟨t, by rw [List.getElem?_append_right (by omega), c]; exact h1, h2⟩⟩
/-- one more of the list: what is taken, and the atoms that are seen -/
def prefS (st : List Lit × List Lit) (l : Lit) : List Lit × List Lit := if atomL l ∈ st.2 then st else (st.1 ++ [l], st.2 ++ [atomL l])
def prefP (ls : List Lit) : List Lit × List Lit := ls.foldl prefS ([], [])
def prefL (as ls : List Lit) : List Lit := (prefP ls).1 ++ as.filter fun a => decide (a ∉ (prefP ls).2)
theorem prefP_snoc (ls : List Lit) (l : Lit) : prefP (ls ++ [l]) = prefS (prefP ls) l := by
  unfold prefP
  rw [List.foldl_append]
  rfl
def spPref : Sp := fun vs H Q _ => ∃ p q us vs2 as ls, vs = [.ref p, .ref q] ∧ H p = some (.tup us) ∧ H q = some (.lst vs2) ∧ Lits H us as ∧ Lits H vs2 ls ∧ (∀ l ∈ as, LitOk l) ∧ (∀ l ∈ ls, LitOk l) ∧ as.length ≤ 200 ∧ ls.length ≤ 200 ∧
  ∀ u ws H', Ex H H' → H' u = some (.tup ws) → Lits H' ws (prefL as ls) → Q (.ref u) H'
section
variable {P : Program} {w : World} {K : PySem.W.Frag} {mg : Str → Option Value} {base : Heap} {a : Ad} {d : Fd}
theorem ok_law_preferred (T : TX K mg a) (D : FDS K a d) : FnOk P w K mg base CX0 3 a.a_law_preferred d.a_law_preferred ["atoms", "listed"] spPref := by
  have G__law_atom : FnOk P w K mg base CX0 2 a.a_law_atom d.a_law_atom ["literal"] (spLitTo atomL) := ok_law_atom T D
  refine D.F__law_preferred.ok sc_law_preferred (fun vs H Q E h => ?_) (fun cdv A outer s H vs Q E hr h => ?_)
  · obtain ⟨p, q, us, vs2, as, ls, rfl, _⟩ := h
    rfl
  · obtain ⟨p, q, us, vs2, as, ls, rfl, hp, hq, A1, A2, ok1, ok2, s1, s2, fin⟩ := h
    refine ⟨_, (pss_cons (ps_set (i := 2) sc_law_preferred.nd rfl (Or.inl rfl) (pe_lst pa_nil))
        (pss_cons (ps_set (i := 3) sc_law_preferred.nd rfl (Or.inr rfl) (pe_lst pa_nil))
        (pss_cons (ps_for PassesOwn.never rfl (pi_list (pv 1)) (pg_name (i := 4) sc_law_preferred.nd rfl (Or.inl rfl)) (pss_one (ps_if (pt_cmpR (op_notInD (hu65 hr)) (pe_call G__law_atom (hr.mono (by decide)) rfl T.f__law_atom T.k__law_atom D.B__law_atom .nil pass0 (pa_cons (pv 4) pa_nil)) (pv 3) rfl) (pss_cons (ps_expr (pe_bm PySem.F.plainAttrs_list PySem.F.slot_list_append PySem.F.type_list_append mt_append (pv 2) (pa_cons (pv 4) pa_nil)))
        (pss_one (ps_expr (pe_bm PySem.F.plainAttrs_list PySem.F.slot_list_append PySem.F.type_list_append mt_append (pv 3) (pa_cons (pe_call G__law_atom (hr.mono (by decide)) rfl T.f__law_atom T.k__law_atom D.B__law_atom .nil pass0 (pa_cons (pv 4) pa_nil)) pa_nil))))) pss_nil)))
        (pss_one (ps_ret (pe_callTy call_tuple_of (by rfl) T.b_tuple (by decide +kernel) (pa_cons (pe_op op_cat (pv 2) (pe_lc (own := [("atom", 5)]) (g := gName 5) (tt := tTest (tOp (rNotInD K) (tVar 5) (tVar 3))) rfl sc_law_preferred.nd (pi_tup (pv 0)) (blkOk_by (N := ["atoms", "listed", "found", "seen", "literal", "atom"]) (sc := defScope s_law_preferred) (by decide +kernel)) (fun _ _ _ _ _ => (pg_name (i := 5) sc_law_preferred.nd rfl (Or.inl rfl))) (fun _ _ _ _ _ => (pts_one (pt_cmpR (op_notInD (by exact hu65 hr)) (pv 5) (pv 3) rfl))) (fun _ _ _ _ _ => (pv 5)))) pa_nil))))))), ?_⟩
    have l2 := A2.len
    refine ⟨(by show 0 ≤ sizeLine; decide), fun lf hlf => ⟨(by show 0 ≤ sizeLine; decide), fun lz hlz => ?_⟩⟩
    have xf := Ex.new (o := .lst []) hlf
    have xz := Ex.new (o := .lst []) hlz
    have nlz : H lz = none := fresh_back xf hlz
    have nfz : lf ≠ lz := fun e => by rw [e, upd_same] at hlz; cases hlz
    refine ⟨_, rfl, q, rfl, ⟨_, SqL.of ((xf.trans xz) _ _ hq)⟩, for_it (walk_list (xs := vs2)) (fun i σ H' => ∃ (us1 us2 : List V) (o4 : Option V), σ = [some (.ref p), some (.ref q), some (.ref lf), some (.ref lz), o4, none] ∧ Ex H H' ∧ H' lf = some (.lst us1) ∧ H' lz = some (.lst us2) ∧
        Lits H' us1 (prefP (ls.take i)).1 ∧ Lits H' us2 (prefP (ls.take i)).2 ∧ (prefP (ls.take i)).1.length ≤ i ∧ (prefP (ls.take i)).2.length ≤ i ∧ ∀ l ∈ (prefP (ls.take i)).2, LitOk l)
      ⟨[], [], none, rfl, xf.trans xz, by rw [upd_ne nfz]; exact upd_same, upd_same, Lits.nil, Lits.nil, Nat.le_refl _, Nat.le_refl _, fun _ h => absurd h List.not_mem_nil⟩ (fun i σ H' _ ⟨_, _, _, _, e, _⟩ => SqL.of (e _ _ hq)) ?_ ?_⟩
    · rintro i v σ H1 H1' hi ⟨us1, us2, o4, rfl, e1, g1, g2, B1, B2, b1, b2, okz⟩ ⟨rfl, hv⟩
      obtain ⟨t, l, rfl, hl, ht⟩ := A2.get hv
      have okl := ok2 l (List.mem_of_getElem? hl)
      have tk : ls.take (i + 1) = ls.take i ++ [l] := by rw [List.take_add_one, hl]; rfl
      rw [tk, prefP_snoc]
      generalize prefP (ls.take i) = st at *
      have t1 := e1 _ _ ht
      refine ⟨_, rfl, t, l, rfl, t1, okl, fun u H2 e2 hu => ?_⟩
      have D2 : Dp K H2 (.ref lz) (.list (st.2.map litD)) := .lst (SqL.of (e2 _ _ g2)) (B2.ex e2).dp
      refine ⟨_, rfl, litD (atomL l), st.2.map litD, lit_dp (SqT.of hu), D2, (sh_lit (atom_ok okl)).sh (by decide), (Sh.list (sh_lits okz)).sh (by decide), ?_⟩
      rw [any_lit]
      have hpl : prefS st l = if atomL l ∈ st.2 then st else (st.1 ++ [l], st.2 ++ [atomL l]) := rfl
      by_cases g : atomL l ∈ st.2
      · rw [if_pos g] at hpl
        rw [hpl, decide_eq_true g]
        exact ⟨_, rfl, iteF ⟨us1, us2, _, rfl, e1.trans e2, e2 _ _ g1, e2 _ _ g2, B1.ex e2, B2.ex e2, by omega, by omega, okz⟩⟩
      · rw [if_neg g] at hpl
        rw [hpl, decide_eq_false g]
        have big : 1000 ≤ sizeLine := by decide
        have c1 := B1.len
        have c2 := B2.len
        refine ⟨_, rfl, iteT ⟨_, rfl, .inl ⟨rfl, _, SqL.of (e2 _ _ g1)⟩, _, rfl, lf, _, _, rfl, rfl, e2 _ _ g1, by omega, ?_⟩⟩
        have f1 : (upd H2 lf (.lst (us1 ++ [.ref t]))) lz = some (.lst us2) := by rw [upd_ne (Ne.symm nfz)]; exact e2 _ _ g2
        have e3 := Ex.mut (o := .lst (us1 ++ [.ref t])) (e1.trans e2) hlf
        refine ⟨_, rfl, .inl ⟨rfl, _, SqL.of f1⟩, _, rfl, t, l, rfl, e3 _ _ ht, okl, fun u2 H3 e4 hu2 => ?_⟩
        have f2 := e4 _ _ f1
        have f0 : H3 lf = some (.lst (us1 ++ [.ref t])) := e4 _ _ upd_same
        refine ⟨lz, _, _, rfl, rfl, f2, by omega, ?_⟩
        have C1 : Lits H3 (us1 ++ [.ref t]) (st.1 ++ [l]) := (((B1.ex e2).upd (e2 _ _ g1)).ex e4).snoc (e4 _ _ (e3 _ _ ht))
        have C2 : Lits H3 (us2 ++ [.ref u2]) (st.2 ++ [atomL l]) := (((B2.ex e2).upd (e2 _ _ g1)).ex e4).snoc hu2
        refine ⟨us1 ++ [.ref t], us2 ++ [.ref u2], _, rfl, Ex.mut (e3.trans e4) nlz, by rw [upd_ne nfz]; exact f0, upd_same, C1.upd f2, C2.upd f2, by simp; omega, by simp; omega, fun m hm => ?_⟩
        rcases List.mem_append.mp hm with hm | hm
        · exact okz m hm
        · rw [List.mem_singleton.mp hm]
          exact atom_ok okl
    · rintro σ H1 ⟨us1, us2, o4, rfl, e1, g1, g2, B1, B2, b1, b2, okz⟩
      rw [l2, List.take_length] at B1 B2 b1 b2 okz
      have few : us.length < sizeLine := by
        have := A1.len
        exact Nat.lt_of_le_of_lt (by omega : _ ≤ 200) (by decide)
      have la := A1.len
      have fin2 : ∀ u ws H', Ex H H' → H' u = some (.tup ws) → Lits H' ws ((prefP ls).1 ++ as.filter fun a => decide (a ∉ (prefP ls).2)) → Q (.ref u) H' := fin
      generalize prefP ls = st at *
      refine ⟨_, rfl, _, rfl, p, rfl, ⟨_, SqT.of (e1 _ _ hp)⟩, fun D1 hD1 => lc_it (H1 := H1) (walk_tup (xs := us)) (fun i H' => Ex H1 H' ∧ ∃ ws, H' D1 = some (.lst ws) ∧ ws.length ≤ i ∧ Lits H' ws ((as.take i).filter fun a => decide (a ∉ st.2)))
        ⟨Ex.new hD1, [], upd_same, Nat.le_refl _, Lits.nil⟩ (fun i H' _ z => SqT.of (z.1 _ _ (e1 _ _ hp))) ?_ ?_⟩
      · rintro i v H2 H2' hi ⟨e2, ws, hw, wl, W⟩ ⟨rfl, hv⟩
        obtain ⟨t, l, rfl, hl, ht⟩ := A1.get hv
        have tk : as.take (i + 1) = as.take i ++ [l] := by rw [List.take_add_one, hl]; rfl
        rw [tk, List.filter_append]
        have okl := ok1 l (List.mem_of_getElem? hl)
        have t2 := e2 _ _ (e1 _ _ ht)
        unfold gName
        dsimp only
        refine ⟨rfl, ?_⟩
        have D2 : Dp K H2' (.ref lz) (.list (st.2.map litD)) := .lst (SqL.of (e2 _ _ g2)) (B2.ex e2).dp
        refine ⟨_, rfl, _, rfl, litD l, st.2.map litD, lit_dp (SqT.of t2), D2, (sh_lit okl).sh (by decide), (Sh.list (sh_lits okz)).sh (by decide), ?_⟩
        rw [any_lit]
        by_cases g : l ∈ st.2
        · rw [decide_eq_true g]
          refine ⟨_, rfl, iteF ⟨e2, ws, hw, by omega, ?_⟩⟩
          have : List.filter (fun a => decide (a ∉ st.2)) [l] = [] := by simp [g]
          rw [this, List.append_nil]
          exact W
        · rw [decide_eq_false g]
          have small : ws.length < sizeLine := Nat.lt_of_le_of_lt (by omega : _ ≤ 200) (by decide)
          refine ⟨_, rfl, iteT ⟨_, rfl, ws, hw, small, ?_⟩⟩
          have : List.filter (fun a => decide (a ∉ st.2)) [l] = [l] := by simp [g]
          rw [this]
          exact ⟨Ex.mut e2 hD1, ws ++ [.ref t], upd_same, by simp; omega, (W.snoc t2).upd hw⟩
      · rintro H2 ⟨e2, ws, hw, wl, W⟩
        rw [la, List.take_length] at W
        have big : 1000 ≤ sizeLine := by decide
        have c1 := B1.len
        refine ⟨lf, D1, _, _, rfl, rfl, e2 _ _ g1, hw, by omega, fun p3 h3 => ?_⟩
        have x3 := Ex.new (o := .lst (us1 ++ ws)) h3
        refine ⟨p3, _, rfl, .inl ⟨SqL.of upd_same, fun u hu => ?_⟩⟩
        have x4 := Ex.new (o := .tup (us1 ++ ws)) hu
        exact fin2 u _ _ ((e1.trans e2).trans (x3.trans x4)) upd_same (((B1.ex e2).app W).ex (x3.trans x4))
end
end B3
set_option maxRecDepth 100000
set_option maxHeartbeats 8000000
namespace B3
open PySem L2 Evl GP
def unL : PyData → Lit
  | .tuple [.str w, .str x] => .yn (decide (w = ("yes" : Str))) x
  | .tuple [.str _, .str x, .str y, .int k] => .most x y k
  | _ => .yn true ""
theorem unL_lit (l : Lit) : unL (litD l) = l := by
  cases l with
  | yn b x =>
    show Lit.yn (decide (ynS b = ("yes" : Str))) x = _
    cases b
    · rw [decide_eq_false (by decide +kernel)]
    · rw [show decide (ynS true = ("yes" : Str)) = true from by decide +kernel]
  | most x y k => rfl
theorem lit_alike (l m : Lit) : PySem.W.alike (litD l) (litD m) = true := by
  cases l <;> cases m <;> simp [litD, PySem.W.alike, PySem.W.alikeAll]
/-- the values with what they are -/
def both (us : List V) (ls : List Lit) : List (V × PyData) := (us.zip ls).map fun z => (z.1, litD z.2)
theorem both_fst : ∀ {us : List V} {ls : List Lit}, us.length = ls.length → (both us ls).map Prod.fst = us := by
  intro us ls h
  unfold both
  rw [List.map_map]
  show (us.zip ls).map Prod.fst = us
  exact List.map_fst_zip (by omega)
theorem Lits.mem {H : Hp} {us : List V} {ls : List Lit} (A : Lits H us ls) : ∀ z ∈ us.zip ls, ∃ t, z.1 = .ref t ∧ H t = some (.tup (litV z.2)) := by
  intro z hz
  obtain ⟨i, hi⟩ := List.mem_iff_getElem?.mp hz
  obtain ⟨h1, h2⟩ := List.getElem?_zip_eq_some.mp hi
  obtain ⟨t, h3, h4⟩ := A.at_ i z.2 h2
  exact ⟨t, Option.some.inj (h1.symm.trans h3), h4⟩
theorem Lits.of_zip {H : Hp} (zs : List (V × Lit)) (h : ∀ z ∈ zs, ∃ t, z.1 = .ref t ∧ H t = some (.tup (litV z.2))) : Lits H (zs.map Prod.fst) (zs.map Prod.snd) := ⟨by simp, fun i l hl => by
  rw [List.getElem?_map] at hl
  obtain ⟨z, hz, rfl⟩ := Option.map_eq_some_iff.mp hl
  obtain ⟨t, h1, h2⟩ := h z (List.mem_of_getElem? hz)
  exact ⟨t, by rw [List.getElem?_map, hz]; exact congrArg some h1, h2⟩⟩
/-- sorted literals are the same literals in some order -/
theorem sorted_lits {H : Hp} {us : List V} {ls : List Lit} (A : Lits H us ls) : ∃ ms : List Lit, ms.Perm ls ∧ Lits H ((SD.sortedD (both us ls)).map Prod.fst) ms := by
  have pm := SD.sorted_perm (both us ls)
  let f : V × PyData → V × Lit := fun b => (b.1, unL b.2)
  have back : (both us ls).map f = us.zip ls := by
    unfold both
    rw [List.map_map]
    have : ∀ z : V × Lit, (f ∘ fun z : V × Lit => (z.1, litD z.2)) z = z := fun z => by
      show (z.1, unL (litD z.2)) = z
      rw [unL_lit]
    rw [show (f ∘ fun z : V × Lit => (z.1, litD z.2)) = id from funext this, List.map_id]
  have pz : ((SD.sortedD (both us ls)).map f).Perm (us.zip ls) := by rw [← back]; exact pm.map f
  refine ⟨((SD.sortedD (both us ls)).map f).map Prod.snd, ?_, ?_⟩
  · have := pz.map Prod.snd
    rwa [List.map_snd_zip (by rw [A.len]; exact Nat.le_refl _)] at this
  · have e : (SD.sortedD (both us ls)).map Prod.fst = ((SD.sortedD (both us ls)).map f).map Prod.fst := by rw [List.map_map]; rfl
    rw [e]
    exact Lits.of_zip _ fun z hz => A.mem z (pz.mem_iff.mp hz)
end B3
set_option maxRecDepth 100000
set_option maxHeartbeats 8000000
namespace B3
open PySem L2 Evl GP
theorem both_mem {us : List V} {ls : List Lit} {b : V × PyData} (h : b ∈ both us ls) : ∃ z ∈ us.zip ls, b = (z.1, litD z.2) := by
  obtain ⟨z, hz, rfl⟩ := List.mem_map.mp h
  exact ⟨z, hz, rfl⟩
theorem lit_depth {l : Lit} (h : LitOk l) : (litD l).depth ≤ 60 := Nat.le_trans (sh_lit h).2 (by decide)
def spAtoms : Sp := fun vs H Q _ => ∃ q us ls, vs = [.ref q] ∧ H q = some (.lst us) ∧ Lits H us ls ∧ (∀ l ∈ ls, LitOk l) ∧ ls.length ≤ 200 ∧
  ∀ u ws ms H', Ex H H' → H' u = some (.tup ws) → Lits H' ws ms → ms.Nodup → (∀ a, a ∈ ms ↔ ∃ l ∈ ls, atomL l = a) → ms.length ≤ ls.length → Q (.ref u) H'
def ddS (acc : List Lit) (l : Lit) : List Lit := if l ∈ acc then acc else acc ++ [l]
def ddL (ls : List Lit) : List Lit := ls.foldl ddS []
theorem dd_snoc (ls : List Lit) (l : Lit) : ddL (ls ++ [l]) = if l ∈ ddL ls then ddL ls else ddL ls ++ [l] := by
  unfold ddL
  rw [List.foldl_append]
  rfl
theorem dd_from : ∀ (ls acc : List Lit), acc.Nodup → (ls.foldl ddS acc).Nodup ∧ (∀ a, a ∈ ls.foldl ddS acc ↔ a ∈ acc ∨ a ∈ ls) ∧ (ls.foldl ddS acc).length ≤ acc.length + ls.length
  | [], acc, h => ⟨h, fun a => by simp, by simp⟩
  | l :: ls, acc, h => by
    rw [List.foldl_cons]
    by_cases g : l ∈ acc
    · rw [show ddS acc l = acc from if_pos g]
      obtain ⟨h1, h2, h3⟩ := dd_from ls acc h
      refine ⟨h1, fun a => ?_, by simp only [List.length_cons]; omega⟩
      rw [h2, List.mem_cons]
      exact ⟨fun x => x.elim .inl fun y => .inr (.inr y), fun x => x.elim .inl fun y => y.elim (fun e => .inl (by rw [e]; exact g)) .inr⟩
    · rw [show ddS acc l = acc ++ [l] from if_neg g]
      have nd : (acc ++ [l]).Nodup := List.nodup_append.mpr ⟨h, List.pairwise_singleton _ _, fun a ha b hb e => by
        rw [List.mem_singleton.mp hb] at e
        rw [e] at ha
        exact g ha⟩
      obtain ⟨h1, h2, h3⟩ := dd_from ls (acc ++ [l]) nd
      refine ⟨h1, fun a => ?_, by simp only [List.length_append, List.length_cons, List.length_nil] at h3 ⊢; omega⟩
      rw [h2, List.mem_append, List.mem_singleton, List.mem_cons, or_assoc]
theorem dd_all (ls : List Lit) : (ddL ls).Nodup ∧ (∀ a, a ∈ ddL ls ↔ a ∈ ls) ∧ (ddL ls).length ≤ ls.length := by
  obtain ⟨h1, h2, h3⟩ := dd_from ls [] List.nodup_nil
  refine ⟨h1, fun a => (h2 a).trans ⟨fun h => h.elim (fun x => absurd x List.not_mem_nil) (fun x => x), .inr⟩, Nat.le_trans h3 (by simp)⟩
theorem dd_nodup (ls : List Lit) : (ddL ls).Nodup := (dd_all ls).1
theorem dd_mem (ls : List Lit) (a : Lit) : a ∈ ddL ls ↔ a ∈ ls := (dd_all ls).2.1 a
theorem dd_len (ls : List Lit) : (ddL ls).length ≤ ls.length := (dd_all ls).2.2
section
variable {P : Program} {w : World} {K : PySem.W.Frag} {mg : Str → Option Value} {base : Heap} {a : Ad} {d : Fd}
theorem ok_law_atoms (T : TX K mg a) (D : FDS K a d) : FnOk P w K mg base CX0 3 a.a_law_atoms d.a_law_atoms ["literals"] spAtoms := by
  have G__law_atom : FnOk P w K mg base CX0 2 a.a_law_atom d.a_law_atom ["literal"] (spLitTo atomL) := ok_law_atom T D
  refine D.F__law_atoms.ok sc_law_atoms (fun vs H Q E h => ?_) (fun cdv A outer s H vs Q E hr h => ?_)
  · obtain ⟨q, us, ls, rfl, _⟩ := h
    rfl
  · obtain ⟨q, us, ls, rfl, hq, A1, ok, few, fin⟩ := h
    refine ⟨_, (pss_cons (ps_set (i := 1) sc_law_atoms.nd rfl (Or.inl rfl) (pe_lst pa_nil))
        (pss_cons (ps_for PassesOwn.never rfl (pi_list (pe_callB (SD.cr_sortedD hr.units) (by rfl) T.b_sorted (by decide +kernel) (pa_cons (pe_lc (own := [("literal", 3)]) (g := gName 3) (tt := tYes) rfl sc_law_atoms.nd (pi_list (pv 0)) (blkOk_by (N := ["literals", "found", "atom", "literal"]) (sc := defScope s_law_atoms) (by decide +kernel)) (fun _ _ _ _ _ => (pg_name (i := 3) sc_law_atoms.nd rfl (Or.inl rfl))) (fun _ _ _ _ _ => pts_nil) (fun _ _ _ _ _ => (pe_call G__law_atom (hr.mono (by decide)) rfl T.f__law_atom T.k__law_atom D.B__law_atom .nil pass0 (pa_cons (pv 3) pa_nil)))) pa_nil))) (pg_name (i := 2) sc_law_atoms.nd rfl (Or.inl rfl)) (pss_one (ps_if (pt_cmpR (op_notInD (hu65 hr)) (pv 2) (pv 1) rfl) (pss_one (ps_expr (pe_bm PySem.F.plainAttrs_list PySem.F.slot_list_append PySem.F.type_list_append mt_append (pv 1) (pa_cons (pv 2) pa_nil)))) pss_nil)))
        (pss_one (ps_ret (pe_callTy call_tuple_of (by rfl) T.b_tuple (by decide +kernel) (pa_cons (pv 1) pa_nil)))))), ?_⟩
    have la := A1.len
    refine ⟨(by show 0 ≤ sizeLine; decide), fun lf hlf => ?_⟩
    have xf := Ex.new (o := .lst []) hlf
    generalize hH0 : upd H lf (.lst []) = H0 at *
    have h0 : H0 lf = some (.lst []) := by rw [← hH0]; exact upd_same
    have q0 := xf _ _ hq
    refine ⟨_, rfl, q, rfl, ⟨_, SqL.of q0⟩, fun D1 hD1 => lc_it (H1 := H0) (walk_list (xs := us)) (fun i H' => Ex H0 H' ∧ ∃ ws, H' D1 = some (.lst ws) ∧ ws.length ≤ i ∧ Lits H' ws ((ls.take i).map atomL))
        ⟨Ex.new hD1, [], upd_same, Nat.le_refl _, Lits.nil⟩ (fun i H' _ z => SqL.of (z.1 _ _ q0)) ?_ ?_⟩
    · rintro i v H2 H2' hi ⟨e2, ws, hw, wl, W⟩ ⟨rfl, hv⟩
      obtain ⟨t, l, rfl, hl, ht⟩ := A1.get hv
      have tk : ls.take (i + 1) = ls.take i ++ [l] := by rw [List.take_add_one, hl]; rfl
      rw [tk, List.map_append]
      have okl := ok l (List.mem_of_getElem? hl)
      have small : ws.length < sizeLine := Nat.lt_of_le_of_lt (by omega : _ ≤ 200) (by decide)
      unfold gName tYes
      dsimp only
      refine ⟨rfl, ?_⟩
      rw [if_pos rfl]
      refine ⟨_, rfl, t, l, rfl, e2 _ _ (xf _ _ ht), okl, fun u H3 e3 hu => ⟨ws, e3 _ _ hw, small, Ex.mut (e2.trans e3) hD1, ws ++ [.ref u], upd_same, by simp; omega, ((W.ex e3).snoc hu).upd (e3 _ _ hw)⟩⟩
    · rintro H2 ⟨e2, ws, hw, wl, W⟩
      rw [la, List.take_length] at W
      have okm : ∀ m ∈ ls.map atomL, LitOk m := fun m hm => by
        obtain ⟨l, hl, rfl⟩ := List.mem_map.mp hm
        exact atom_ok (ok l hl)
      have lw := W.len
      refine ⟨D1, both ws (ls.map atomL), rfl, SqL.of (by rw [both_fst lw]; exact hw), fun b hb => ?_, fun x hx y hy => ?_, .inl fun x hx => ?_, fun p3 h3 => ?_⟩
      · obtain ⟨z, hz, rfl⟩ := both_mem hb
        obtain ⟨t, h1, h2⟩ := W.mem z hz
        have hm : z.2 ∈ ls.map atomL := (List.of_mem_zip hz).2
        exact ⟨by show Dp K H2 z.1 (litD z.2); rw [h1]; exact lit_dp (SqT.of h2), lit_depth (okm _ hm)⟩
      · obtain ⟨b, hb, rfl⟩ := List.mem_map.mp hx
        obtain ⟨c, hc, rfl⟩ := List.mem_map.mp hy
        obtain ⟨z, hz, rfl⟩ := both_mem hb
        obtain ⟨z2, hz2, rfl⟩ := both_mem hc
        exact lit_alike _ _
      · obtain ⟨b, hb, rfl⟩ := List.mem_map.mp hx
        obtain ⟨z, hz, rfl⟩ := both_mem hb
        show ∃ x r, litD z.2 = _
        cases z.2 <;> exact ⟨_, _, rfl⟩
      · obtain ⟨ms, pm, M⟩ := sorted_lits W
        generalize (SD.sortedD (both ws (ls.map atomL))).map Prod.fst = ys at *
        have x3 := Ex.new (o := .lst ys) h3
        have e0 : Ex H H2 := xf.trans e2
        have lf2 := e2 _ _ h0
        have nfp : p3 ≠ lf := fun e => by rw [e, lf2] at h3; cases h3
        have ly := M.len
        have lm : ms.length = ls.length := by rw [pm.length_eq, List.length_map]
        have okms : ∀ m ∈ ms, LitOk m := fun m hm => okm m (pm.mem_iff.mp hm)
        have M3 := M.ex x3
        refine ⟨p3, rfl, ⟨_, SqL.of upd_same⟩, for_it (walk_list (xs := ys)) (fun i σ H' => ∃ (us1 : List V) (o2 : Option V), σ = [some (.ref q), some (.ref lf), o2, none] ∧ Ex H H' ∧ H' p3 = some (.lst ys) ∧ (∀ t vs, (upd H2 p3 (.lst ys)) t = some (.tup vs) → H' t = some (.tup vs)) ∧
            H' lf = some (.lst us1) ∧ Lits H' us1 (ddL (ms.take i)))
          ⟨[], none, rfl, e0.trans x3, upd_same, fun _ _ h => h, x3 _ _ lf2, Lits.nil⟩ (fun i σ H' _ ⟨_, _, _, _, g, _⟩ => SqL.of g) ?_ ?_⟩
        · rintro i v σ H4 H4' hi ⟨us1, o2, rfl, e4, g4, k4, f4, B⟩ ⟨rfl, hv⟩
          obtain ⟨t, m, rfl, hm, ht⟩ := M3.get hv
          have tk : ms.take (i + 1) = ms.take i ++ [m] := by rw [List.take_add_one, hm]; rfl
          have okm2 := okms m (List.mem_of_getElem? hm)
          have t4 := k4 _ _ ht
          have D4 : Dp K H4' (.ref lf) (.list ((ddL (ms.take i)).map litD)) := .lst (SqL.of f4) B.dp
          have okd : ∀ l ∈ ddL (ms.take i), LitOk l := fun l hl => okms l (List.mem_of_mem_take ((dd_mem _ l).mp hl))
          have dl := dd_len (ms.take i)
          have tl : (ms.take i).length ≤ 200 := by rw [List.length_take]; omega
          refine ⟨_, rfl, _, rfl, litD m, _, lit_dp (SqT.of t4), D4, (sh_lit okm2).sh (by decide), (Sh.list (sh_lits okd)).sh (by decide), ?_⟩
          rw [any_lit, tk, dd_snoc]
          by_cases g : m ∈ ddL (ms.take i)
          · rw [decide_eq_true g, if_pos g]
            exact ⟨_, rfl, iteF ⟨us1, _, rfl, e4, g4, k4, f4, B⟩⟩
          · rw [decide_eq_false g, if_neg g]
            have lb := B.len
            have small : us1.length < sizeLine := Nat.lt_of_le_of_lt (by omega : _ ≤ 200) (by decide)
            refine ⟨_, rfl, iteT ⟨_, rfl, .inl ⟨rfl, _, SqL.of f4⟩, _, rfl, lf, _, _, rfl, rfl, f4, small, us1 ++ [.ref t], _, rfl, Ex.mut e4 hlf, by rw [upd_ne nfp]; exact g4, fun t2 vs h => ?_, upd_same, (B.snoc t4).upd f4⟩⟩
            have := k4 t2 vs h
            have n2 : t2 ≠ lf := fun e => by rw [e, f4] at this; cases this
            rw [upd_ne n2]
            exact this
        · rintro σ H4 ⟨us1, o2, rfl, e4, g4, k4, f4, B⟩
          rw [ly, List.take_length] at B
          refine ⟨_, rfl, lf, _, rfl, .inl ⟨SqL.of f4, fun u hu => ?_⟩⟩
          have x5 := Ex.new (o := .tup us1) hu
          refine fin u us1 _ _ (e4.trans x5) upd_same (B.ex x5) (dd_nodup ms) (fun c => ?_) (by have := dd_len ms; omega)
          rw [dd_mem, pm.mem_iff, List.mem_map]
end
end B3
set_option maxRecDepth 100000
set_option maxHeartbeats 8000000
namespace B3
open PySem L2 Evl GP
section
variable {x : Box} {r e t : Int} {H : Hp}
theorem box_great (h : H x.b = some (.dK (boxK x r e t))) : DGet H x.b (.str "great") (some (.ref x.g)) := by
  have := DGet.k (k := .inr "great") h
  exact this
theorem box_small (h : H x.b = some (.dK (boxK x r e t))) : DGet H x.b (.str "small") (some (.ref x.s)) := by
  have := DGet.k (k := .inr "small") h
  rwa [show valV (boxK x r e t) (.inr "small") = some (.ref x.s) from rfl] at this
theorem box_rest (h : H x.b = some (.dK (boxK x r e t))) : DGet H x.b (.str "rest") (some (.int r)) := by
  have := DGet.k (k := .inr "rest") h
  rwa [show valV (boxK x r e t) (.inr "rest") = some (.int r) from rfl] at this
theorem box_seed (h : H x.b = some (.dK (boxK x r e t))) : DGet H x.b (.str "seed") (some (.int e)) := by
  have := DGet.k (k := .inr "seed") h
  rwa [show valV (boxK x r e t) (.inr "seed") = some (.int e) from rfl] at this
theorem box_turn (h : H x.b = some (.dK (boxK x r e t))) : DGet H x.b (.str "turn") (some (.int t)) := by
  have := DGet.k (k := .inr "turn") h
  rwa [show valV (boxK x r e t) (.inr "turn") = some (.int t) from rfl] at this
theorem put_rest (h : H x.b = some (.dK (boxK x r e t))) (z : Int) : DPut H x.b (.str "rest") (.int z) (upd H x.b (.dK (boxK x z e t))) := by
  have := DPut.k (k := .inr "rest") (v := .int z) h (by show 5 < sizeLine; decide)
  rwa [show putK (boxK x r e t) (.inr "rest") (.int z) = boxK x z e t from rfl] at this
theorem put_seed (h : H x.b = some (.dK (boxK x r e t))) (z : Int) : DPut H x.b (.str "seed") (.int z) (upd H x.b (.dK (boxK x r z t))) := by
  have := DPut.k (k := .inr "seed") (v := .int z) h (by show 5 < sizeLine; decide)
  rwa [show putK (boxK x r e t) (.inr "seed") (.int z) = boxK x r z t from rfl] at this
theorem put_turn (h : H x.b = some (.dK (boxK x r e t))) (z : Int) : DPut H x.b (.str "turn") (.int z) (upd H x.b (.dK (boxK x r e z))) := by
  have := DPut.k (k := .inr "turn") (v := .int z) h (by show 5 < sizeLine; decide)
  rwa [show putK (boxK x r e t) (.inr "turn") (.int z) = boxK x r e z from rfl] at this
end
section
variable {P : Program} {w : World} {K : PySem.W.Frag} {mg : Str → Option Value} {base : Heap} {a : Ad} {d : Fd}
theorem ok_law_draw (T : TX K mg a) (D : FDS K a d) : FnOk P w K mg base CX0 1 a.a_law_draw d.a_law_draw ["box", "size"] spDraw := by
  refine D.F__law_draw.ok sc_law_draw (fun vs H Q E h => ?_) (fun cdv A outer s H vs Q E hr h => ?_)
  · obtain ⟨x, size, n, rfl, _⟩ := h
    rfl
  · obtain ⟨x, size, n, rfl, ⟨⟨r, e, t, h1, r0, t0, tn⟩, ⟨ns, hg, gp⟩, ⟨ms, hs⟩, nbg, nbs, ngs⟩, hn, s0, s9, q⟩ := h
    have rng : ∀ z : Int, 0 ≤ Int.fmod z size ∧ Int.fmod z size < size := fun z => by
      rw [Int.fmod_eq_emod_of_nonneg _ (by omega)]
      exact ⟨Int.emod_nonneg _ (by omega), Int.emod_lt_of_pos _ s0⟩
    refine ⟨_, (pss_cons (ps_set (i := 2) sc_law_draw.nd rfl (Or.inl rfl) (pe_dget (hu_of hr) (pv 0) pe_str (fun _ _ => rfl)))
        (pss_cons (ps_set (i := 3) sc_law_draw.nd rfl (Or.inl rfl) (pe_dget (hu_of hr) (pv 0) pe_str (fun _ _ => rfl)))
        (Evl.pss_cut (ps_if (PW.pt (pw_and (pt_cmpR op_eq (pe_dget (hu_of hr) (pv 0) pe_str (fun _ _ => rfl)) pe_int (nomark _)) (pw_and1 (pt_truth (pv 2) (by intro _; rfl))))) (pss_one (ps_dput (hu_of hr) (pv 0) pe_str (pe_bm PySem.F.plainAttrs_list PySem.F.slot_list_pop PySem.F.type_list_pop mt_popAt (pv 2) (pa_cons pe_int pa_nil)) rfl)) pss_nil)
        (pss_cons (ps_if (pt_cmpR op_gt (pe_dget (hu_of hr) (pv 0) pe_str (fun _ _ => rfl)) pe_int (nomark _)) (pss_cons (ps_set (i := 4) sc_law_draw.nd rfl (Or.inl rfl) (pe_op op_modN (pe_callTy call_int1 (by rfl) T.b_int (by decide +kernel) (pa_cons (pe_dget (hu_of hr) (pv 0) pe_str (fun _ _ => rfl)) pa_nil)) (pv 1)))
        (pss_cons (ps_dput (hu_of hr) (pv 0) pe_str (pe_op op_fdivN (pe_callTy call_int1 (by rfl) T.b_int (by decide +kernel) (pa_cons (pe_dget (hu_of hr) (pv 0) pe_str (fun _ _ => rfl)) pa_nil)) (pv 1)) rfl)
        (pss_one (ps_ret (pv 4))))) pss_nil)
        (pss_cons (ps_set (i := 5) sc_law_draw.nd rfl (Or.inl rfl) (pe_dget (hu_of hr) (pv 0) pe_str (fun _ _ => rfl)))
        (Evl.pss_cut (ps_set (i := 6) sc_law_draw.nd rfl (Or.inl rfl) (pe_ifExp (pt_truth (pv 3) (by intro _; rfl)) (pe_ix ix_list (pv 3) (pe_op op_modN (pe_callTy call_int1 (by rfl) T.b_int (by decide +kernel) (pa_cons (pv 5) pa_nil)) (pe_callB call_len_seq (by rfl) T.b_len (by decide +kernel) (pa_cons (pv 3) pa_nil))) (fun _ _ => rfl)) pe_int))
        (pss_cons (ps_set (i := 7) sc_law_draw.nd rfl (Or.inl rfl) (pe_op op_modN (pe_callTy call_int1 (by rfl) T.b_int (by decide +kernel) (pa_cons (pe_op op_add (pe_op op_add (pe_op op_add (pe_op op_mul (pe_dget (hu_of hr) (pv 0) pe_str (fun _ _ => rfl)) pe_int) (pv 6)) (pe_op op_mul (pv 5) (pv 5))) pe_int) pa_nil)) pe_int))
        (pss_cons (ps_dput (hu_of hr) (pv 0) pe_str (pe_op op_add (pv 5) pe_int) rfl)
        (pss_cons (ps_dput (hu_of hr) (pv 0) pe_str (pv 7) rfl)
        (pss_one (ps_ret (pe_op op_modN (pe_op op_modN (pe_callTy call_int1 (by rfl) T.b_int (by decide +kernel) (pa_cons (pe_op op_add (pe_op op_mul (pe_op op_fdivN (pv 7) pe_int) pe_int) (pv 7)) pa_nil)) pe_int) (pv 1))))))))))))), ?_⟩
    refine ⟨_, rfl, x.b, _, rfl, box_great h1, _, rfl, x.b, _, rfl, box_small h1, ?_⟩
    refine ⟨fun σ' H' => ∃ (r : Int) (ns : List Int), σ' = [some (.ref x.b), some (.int size), some (.ref x.g), some (.ref x.s), none, none, none, none] ∧ Kp x H H' ∧ H' x.b = some (.dK (boxK x r e t)) ∧ 0 ≤ r ∧ H' x.g = some (.lst (ns.map V.int)) ∧ (∀ n ∈ ns, 0 < n) ∧ H' x.s = some (.lst (ms.map V.int)), ?_, ?_⟩
    · have fin : ∃ (r' : Int) (ns' : List Int), [some (V.ref x.b), some (V.int size), some (.ref x.g), some (.ref x.s), none, none, none, none] = [some (V.ref x.b), some (.int size), some (.ref x.g), some (.ref x.s), none, none, none, none] ∧ Kp x H H ∧ H x.b = some (.dK (boxK x r' e t)) ∧ 0 ≤ r' ∧ H x.g = some (.lst (ns'.map V.int)) ∧ (∀ n ∈ ns', 0 < n) ∧ H x.s = some (.lst (ms.map V.int)) := ⟨r, ns, rfl, Kp.refl _ _, h1, r0, hg, gp, hs⟩
      refine ⟨_, rfl, x.b, _, rfl, box_rest h1, rfl, _, rfl, ?_⟩
      refine ite2 (fun g1 => ?_) (fun g1 => iteF fin)
      refine ⟨_, rfl, _, .inl ⟨_, SqL.of hg, rfl⟩, ?_⟩
      cases ns with
      | nil => exact iteF fin
      | cons m ns =>
        refine iteT ⟨_, rfl, .inl ⟨rfl, _, SqL.of hg⟩, x.g, _, 0, 0, .int m, rfl, rfl, hg, by decide, by decide, PySem.StrLaws.seqIndex_nonneg (by decide) (by simp), rfl, _, rfl, ?_⟩
        have hb2 : (upd H x.g (.lst (ns.map V.int))) x.b = some (.dK (boxK x r e t)) := by rw [upd_ne nbg]; exact h1
        refine ⟨_, _, rfl, put_rest hb2 m, m, ns, rfl, ⟨fun a o n1 n2 h => by rw [upd_ne n1, upd_ne n2]; exact h⟩, upd_same, by have := gp m List.mem_cons_self; omega, by rw [upd_ne nbg.symm]; exact upd_same, fun k hk => gp k (List.mem_cons_of_mem _ hk), by rw [upd_ne nbs.symm, upd_ne ngs.symm]; exact hs⟩
    · rintro σ' H1 ⟨r, ns, rfl, k1, h1, r0, hg, gp, hs⟩
      refine ⟨_, rfl, x.b, _, rfl, box_rest h1, _, _, rfl, rfl, _, rfl, ?_⟩
      refine ite2 (fun g1 => ?_) (fun g1 => ?_)
      · refine ⟨_, rfl, x.b, _, rfl, box_rest h1, .inl ⟨_, rfl, _, rfl, _, _, rfl, rfl, by omega, ?_⟩⟩
        dsimp only
        refine ⟨_, rfl, x.b, _, rfl, box_rest h1, .inl ⟨_, rfl, _, rfl, _, _, rfl, rfl, ⟨by omega, by omega⟩, ?_⟩⟩
        have fd : 0 ≤ Int.fdiv r size := by
          rw [Int.fdiv_eq_ediv_of_nonneg _ (by omega)]
          exact Int.ediv_nonneg r0 (by omega)
        refine ⟨_, rfl, _, _, rfl, put_rest h1 _, _, rfl, ?_⟩
        refine q _ _ (k1.trans ⟨fun a o n1 n2 h => by rw [upd_ne n1]; exact h⟩) ⟨⟨_, e, t, upd_same, fd, t0, by omega⟩, ⟨ns, by rw [upd_ne nbg.symm]; exact hg, gp⟩, ⟨ms, by rw [upd_ne nbs.symm]; exact hs⟩, nbg, nbs, ngs⟩ (rng _).1 (rng _).2
      · refine ⟨_, rfl, x.b, _, rfl, box_turn h1, ?_⟩
        have tb : t ≤ 1000000 := by omega
        refine ⟨fun σ' H' => ∃ c : Int, σ' = [some (.ref x.b), some (.int size), some (.ref x.g), some (.ref x.s), none, some (.int t), some (.int c), none] ∧ H' = H1, ?_, ?_⟩
        · refine ⟨_, rfl, _, .inl ⟨_, SqL.of hs, rfl⟩, ?_⟩
          cases ms with
          | nil => exact iteF ⟨0, rfl, rfl⟩
          | cons m ms =>
            refine iteT ⟨_, rfl, _, rfl, .inl ⟨_, rfl, _, rfl, x.s, _, rfl, .inl (SqL.of hs), _, _, rfl, rfl, ?_, ?_⟩⟩
            · rw [List.length_map, List.length_cons]
              omega
            · dsimp only
              have i0 : 0 ≤ Int.fmod t (((m :: ms).map V.int).length : Nat) ∧ Int.fmod t (((m :: ms).map V.int).length : Nat) < (((m :: ms).map V.int).length : Nat) := by
                have l0 : 0 < ((m :: ms).map V.int).length := by simp
                rw [Int.fmod_eq_emod_of_nonneg _ (by omega)]
                exact ⟨Int.emod_nonneg _ (by omega), Int.emod_lt_of_pos _ (by omega)⟩
              generalize Int.fmod t (((m :: ms).map V.int).length : Nat) = i at i0
              generalize m :: ms = zs at *
              rw [List.length_map] at i0
              have hz : i.toNat < zs.length := by omega
              exact ⟨x.s, _, i, .int (zs[i.toNat]'hz), rfl, rfl, SqL.of hs, at_lit (n := i.toNat) (by omega) (by rw [List.getElem?_map, List.getElem?_eq_getElem hz]; rfl), _, rfl, rfl⟩
        · rintro σ' H' ⟨c, rfl, rfl⟩
          refine ⟨_, rfl, x.b, _, rfl, box_seed h1, _, _, rfl, rfl, .inr (by decide), _, rfl, _, _, rfl, rfl, _, rfl, _, rfl, _, _, rfl, rfl, .inl (by constructor <;> omega), _, _, rfl, rfl, _, _, rfl, rfl, .inl ⟨_, rfl, _, _, rfl, rfl, (by show (2147483647 : Int) ≠ 0; decide), ?_⟩⟩
          dsimp only
          generalize Int.fmod _ 2147483647 = z
          refine ⟨_, rfl, _, _, rfl, rfl, _, rfl, _, _, rfl, put_turn h1 _, ?_⟩
          have h2 : (upd H' x.b (.dK (boxK x r e (t + 1)))) x.b = some (.dK (boxK x r e (t + 1))) := upd_same
          refine ⟨_, rfl, _, rfl, _, _, rfl, put_seed h2 _, ?_⟩
          refine ⟨_, rfl, _, _, rfl, rfl, ⟨by decide, by decide⟩, _, _, rfl, rfl, .inr (by decide), _, rfl, _, _, rfl, rfl, .inl ⟨_, rfl, _, _, rfl, rfl, (by show (2147483629 : Int) ≠ 0; decide), _, rfl, _, _, rfl, rfl, (by omega), ?_⟩⟩
          refine q _ _ (k1.trans ⟨fun a o n1 n2 h => by rw [upd_ne n1, upd_ne n1]; exact h⟩) ⟨⟨r, z, t + 1, upd_same, r0, by omega, by omega⟩, ⟨ns, by rw [upd_ne nbg.symm, upd_ne nbg.symm]; exact hg, gp⟩, ⟨ms, by rw [upd_ne nbs.symm, upd_ne nbs.symm]; exact hs⟩, nbg, nbs, ngs⟩ (rng _).1 (rng _).2
end
end B3
set_option maxRecDepth 100000
set_option maxHeartbeats 8000000
namespace B3
open PySem L2 Evl GP
theorem cut_map {α : Type} (f : α → V) (xs : List α) (lo hi : Option Int) : ∃ zs : List α, cutV (xs.map f) lo hi = zs.map f ∧ zs.Sublist xs ∧ zs.length ≤ HT.sIx xs.length xs.length hi - HT.sIx xs.length 0 lo := by
  refine ⟨(xs.drop (HT.sIx xs.length 0 lo)).take (HT.sIx xs.length xs.length hi - HT.sIx xs.length 0 lo), ?_, ?_, ?_⟩
  · unfold cutV
    rw [List.length_map, List.map_take, List.map_drop]
  · exact (List.take_sublist _ _).trans (List.drop_sublist _ _)
  · rw [List.length_take]
    omega
theorem box_disp (x : Box) (e : Int) : mergeK [] (boxK x 0 e 0) = boxK x 0 e 0 := rfl
def spOpen (K : PySem.W.Frag) : Sp := fun vs H Q _ => ∃ (a : Addr) (ns : List Int), vs = [.ref a] ∧ SqL K H a (ns.map V.int) ∧ ∀ (x : Box) H', Ex H H' → H x.b = none → H x.g = none → H x.s = none → Bx x 0 H' → Q (.ref x.b) H'
section
variable {P : Program} {w : World} {K : PySem.W.Frag} {mg : Str → Option Value} {base : Heap} {a : Ad} {d : Fd}
theorem ok_law_open (T : TX K mg a) (D : FDS K a d) : FnOk P w K mg base CX0 1 a.a_law_open d.a_law_open ["script"] (spOpen K) := by
  refine D.F__law_open.ok sc_law_open (fun vs H Q E h => ?_) (fun cdv A outer s H vs Q E hr h => ?_)
  · obtain ⟨a, ns, rfl, _⟩ := h
    rfl
  · obtain ⟨a, ns, rfl, ha, q⟩ := h
    refine ⟨_, (pss_cons (ps_set (i := 1) sc_law_open.nd rfl (Or.inl rfl) (pe_lst pa_nil))
        (pss_cons (ps_set (i := 2) sc_law_open.nd rfl (Or.inl rfl) (pe_lst pa_nil))
        (pss_cons (ps_set (i := 3) sc_law_open.nd rfl (Or.inl rfl) pe_int)
        (pss_cons (ps_for PassesOwn.never rfl (pi_list (pe_slice sl_list (pv 0) po_none (po_some pe_int))) (pg_name (i := 4) sc_law_open.nd rfl (Or.inl rfl)) (pss_cons (ps_set (i := 3) sc_law_open.nd rfl (Or.inl rfl) (pe_op op_modN (pe_callTy call_int1 (by rfl) T.b_int (by decide +kernel) (pa_cons (pe_op op_add (pe_op op_add (pe_op op_mul (pv 3) pe_int) (pv 4)) pe_int) pa_nil)) pe_int))
        (pss_one (ps_if (pt_cmpR op_ge (pe_callB call_abs (by rfl) T.b_abs (by decide +kernel) (pa_cons (pv 4) pa_nil)) (pe_op op_pow pe_int pe_int) (nomark _)) (pss_one (ps_expr (pe_bm PySem.F.plainAttrs_list PySem.F.slot_list_append PySem.F.type_list_append mt_append (pv 1) (pa_cons (pe_callB call_abs (by rfl) T.b_abs (by decide +kernel) (pa_cons (pv 4) pa_nil)) pa_nil)))) (pss_one (ps_expr (pe_bm PySem.F.plainAttrs_list PySem.F.slot_list_append PySem.F.type_list_append mt_append (pv 2) (pa_cons (pv 4) pa_nil))))))))
        (pss_one (ps_ret (pe_disp (pps_cons pe_str (pv 1) (pps_cons pe_str (pv 2) (pps_cons pe_str pe_int (pps_cons pe_str (pv 3) (pps_cons pe_str pe_int pps_nil))))) rfl rfl (List.cons_ne_nil _ _) (by decide)))))))), ?_⟩
    refine ⟨(by show 0 ≤ sizeLine; decide), fun g hg => ⟨(by show 0 ≤ sizeLine; decide), fun z hz => ?_⟩⟩
    have xg := Ex.new (o := .lst []) hg
    have xz := Ex.new (o := .lst []) hz
    have nz : H z = none := fresh_back xg hz
    have ngz : g ≠ z := fun e => by rw [e, upd_same] at hz; cases hz
    have e0 := xg.trans xz
    have g0 : (upd (upd H g (.lst [])) z (.lst [])) g = some (.lst []) := by rw [upd_ne ngz, upd_same]
    have z0 : (upd (upd H g (.lst [])) z (.lst [])) z = some (.lst []) := upd_same
    generalize upd (upd H g (.lst [])) z (.lst []) = H0 at *
    obtain ⟨cs, hcs, _, lcs⟩ := cut_map V.int ns none (some 63)
    have l63 : cs.length ≤ 63 := by
      refine Nat.le_trans lcs (Nat.le_trans (Nat.sub_le _ _) ?_)
      rw [show (63 : Int) = ((63 : Nat) : Int) from rfl, HT.sIx_nat]
      exact Nat.min_le_left _ _
    refine ⟨_, rfl, 63, rfl, a, _, rfl, ex_l e0 ha, fun p hp => ?_⟩
    rw [hcs]
    have xp := Ex.new (o := .lst (cs.map V.int)) hp
    have big : 100 ≤ sizeLine := by decide
    refine ⟨p, rfl, ⟨_, SqL.of upd_same⟩, for_it (walk_list (xs := cs.map V.int)) (fun i σ H' => ∃ (gs ss : List Int) (e : Int) (o4 : Option V), σ = [some (.ref a), some (.ref g), some (.ref z), some (.int e), o4] ∧ Ex H H' ∧ H' p = some (.lst (cs.map V.int)) ∧ H' g = some (.lst (gs.map V.int)) ∧ H' z = some (.lst (ss.map V.int)) ∧ gs.length ≤ i ∧ ss.length ≤ i ∧ ∀ n ∈ gs, 0 < n)
      ⟨[], [], _, none, rfl, e0.trans xp, upd_same, xp _ _ g0, xp _ _ z0, Nat.le_refl _, Nat.le_refl _, fun _ h => absurd h List.not_mem_nil⟩ (fun i σ H' _ ⟨_, _, _, _, _, _, h, _⟩ => SqL.of h) ?_ ?_⟩
    · rintro i v σ H1 H1' hi ⟨gs, ss, e, o4, rfl, e1, p1, g1, z1, lg, ls, pos⟩ ⟨rfl, hv⟩
      rw [List.length_map] at hi
      obtain ⟨c, rfl⟩ : ∃ c : Int, v = .int c := by
        rw [List.getElem?_map] at hv
        obtain ⟨c, _, rfl⟩ := Option.map_eq_some_iff.mp hv
        exact ⟨c, rfl⟩
      have npg : p ≠ g := (ne_of_none g0 hp).symm
      have npz : p ≠ z := (ne_of_none z0 hp).symm
      refine ⟨_, rfl, _, _, rfl, rfl, .inr (by decide), _, rfl, _, _, rfl, rfl, _, _, rfl, rfl, .inl ⟨_, rfl, _, _, rfl, rfl, (by show (2147483647 : Int) ≠ 0; decide), ?_⟩⟩
      refine ⟨_, rfl, _, rfl, _, _, rfl, rfl, ⟨by decide, by decide, by decide⟩, _, _, rfl, rfl, _, rfl, ?_⟩
      refine ite2 (fun g2 => ?_) (fun g2 => ?_)
      · refine ⟨_, rfl, .inl ⟨rfl, _, SqL.of g1⟩, _, rfl, _, rfl, g, _, _, rfl, rfl, g1, by rw [List.length_map]; omega, gs ++ [if c < 0 then -c else c], ss, _, _, rfl, Ex.mut e1 hg, by rw [upd_ne npg]; exact p1, by rw [upd_same, List.map_append]; rfl, by rw [upd_ne ngz.symm]; exact z1, by simp; omega, by omega, fun n hn => ?_⟩
        rcases List.mem_append.mp hn with hn | hn
        · exact pos n hn
        · rw [List.mem_singleton.mp hn]
          have := of_decide_eq_true g2
          have q18 : (0 : Int) < 10 ^ (18 : Int).toNat := by decide
          omega
      · refine ⟨_, rfl, .inl ⟨rfl, _, SqL.of z1⟩, _, rfl, z, _, _, rfl, rfl, z1, by rw [List.length_map]; omega, gs, ss ++ [c], _, _, rfl, Ex.mut e1 nz, by rw [upd_ne npz]; exact p1, by rw [upd_ne ngz]; exact g1, by rw [upd_same, List.map_append]; rfl, by omega, by simp; omega, pos⟩
    · rintro σ H1 ⟨gs, ss, e, o4, rfl, e1, p1, g1, z1, lg, ls, pos⟩
      intro b hb
      have xb := Ex.new (o := .dK []) hb
      have nb := fresh_back e1 hb
      have xb2 := Ex.new (o := .dK (boxK ⟨b, g, z⟩ 0 e 0)) hb
      refine ⟨_, rfl, _, rfl, _, rfl, upd_same, boxK ⟨b, g, z⟩ 0 e 0, rfl, (by show 5 ≤ 15; decide), ?_⟩
      rw [box_disp]
      have uu : upd (upd H1 b (.dK [])) b (.dK (boxK ⟨b, g, z⟩ 0 e 0)) = upd H1 b (.dK (boxK ⟨b, g, z⟩ 0 e 0)) := by
        funext l
        unfold upd
        split <;> rfl
      rw [uu]
      exact q ⟨b, g, z⟩ _ (e1.trans xb2) nb hg nz ⟨⟨0, e, 0, upd_same, by decide, by decide, by decide⟩, ⟨gs, xb2 _ _ g1, pos⟩, ⟨ss, xb2 _ _ z1⟩, (ne_of_none g1 hb).symm, (ne_of_none z1 hb).symm, ngz⟩
end
end B3
set_option maxRecDepth 100000
set_option maxHeartbeats 8000000
namespace B3
open PySem L2 Evl GP
theorem str_len (z : Str) : z.cps.toList.length = z.length := by show _ = z.cps.size; simp
theorem str_app (x y : Str) : (x ++ y).cps.toList = x.cps.toList ++ y.cps.toList := by
  show (x.cps ++ y.cps).toList = _
  simp
theorem app_len (x y : Str) : (x ++ y).length = x.length + y.length := by
  show (x.cps ++ y.cps).size = _
  simp
  rfl
theorem lett_sign : ∀ c ∈ letters.cps.toList, c ∈ signs.cps.toList := by decide +kernel
theorem nameS_iff (z : Str) : isNameS z = true ↔ (1 ≤ z.length ∧ z.length ≤ 8) ∧ z.cps.toList.headD 0 ∈ letters.cps.toList ∧ ∀ c ∈ z.cps.toList, c ∈ signs.cps.toList := by
  unfold isNameS
  simp only [Bool.and_eq_true, decide_eq_true_eq, List.all_eq_true]
theorem name_of {z : Str} {l : List Nat} (h : z.cps.toList = l) (h1 : 1 ≤ l.length ∧ l.length ≤ 8) (h2 : l.headD 0 ∈ letters.cps.toList) (h3 : ∀ c ∈ l, c ∈ signs.cps.toList) : isNameS z = true := by
  rw [nameS_iff, h]
  have := str_len z
  rw [h] at this
  exact ⟨by omega, h2, h3⟩
theorem join_txt (s : Str) (ws : List Str) : Txt.join s ws = Str.join s ws := StrLaws.glued_eq_join s ws
def oneS (c : Nat) : Str := ⟨#[c]⟩
theorem join_one (cs : List Nat) : (Txt.join "" (cs.map oneS)).cps.toList = cs := by
  rw [join_txt]
  induction cs with
  | nil => rfl
  | cons c r ih =>
    cases r with
    | nil => rfl
    | cons d r =>
      have e : Str.join "" ((c :: d :: r).map oneS) = oneS c ++ "" ++ Str.join "" ((d :: r).map oneS) := rfl
      rw [e, str_app, ih]
      rfl
theorem sum_one (cs : List Nat) : ((cs.map oneS).map (·.length)).sum = cs.length := by
  induction cs with
  | nil => rfl
  | cons c r ih =>
    rw [List.map_cons, List.map_cons, List.sum_cons, ih, List.length_cons]
    show 1 + _ = _
    omega
theorem sign_low {k : Nat} (h : k < 26) : ∃ c, signs.cps.toList[k]? = some c ∧ c ∈ letters.cps.toList := by
  have t : signs.cps.toList.take 26 = letters.cps.toList := by decide +kernel
  have l : letters.cps.toList.length = 26 := by decide +kernel
  refine ⟨letters.cps.toList[k]'(by omega), ?_, List.getElem_mem _⟩
  rw [← List.getElem?_eq_getElem (show k < letters.cps.toList.length by omega), ← t, List.getElem?_take_of_lt h]
theorem sign_at {k : Nat} (h : k < 36) : ∃ c, signs.cps.toList[k]? = some c ∧ c ∈ signs.cps.toList := by
  have l : signs.cps.toList.length = 36 := by decide +kernel
  exact ⟨signs.cps.toList[k]'(by omega), by simp, List.getElem_mem _⟩
theorem inV_strs (z : Str) (xs : List Str) : inV (.str z) (xs.map V.str) = decide (z ∈ xs) := by
  induction xs with
  | nil => rfl
  | cons a r ih =>
    show (eqV (.str a) (.str z) || inV (.str z) (r.map V.str)) = _
    rw [ih]
    show ((a == z) || decide (z ∈ r)) = _
    by_cases h : a = z
    · subst h
      simp
    · have h2 : ¬ z = a := fun q => h q.symm
      simp [h, h2]
theorem flat_strs (xs : List Str) : (xs.map V.str).all flatV = true := by
  rw [List.all_map]
  exact List.all_eq_true.mpr fun _ _ => rfl
theorem Kp.back {x : Box} {n : Nat} {H H1 : Hp} {l : Addr} (k : Kp x H H1) (X : Bx x n H1) (h : H1 l = none) : H l = none := by
  cases e : H l with
  | none => rfl
  | some o =>
    have := k.k l o (X.neb h) (X.neg h) e
    rw [h] at this
    cases this
/-- a text of so many signs, each of l -/
def Wd (l : List Nat) (i : Nat) (z : Str) : Prop := z.length = i ∧ ∀ c ∈ z.cps.toList, c ∈ l
theorem name_one {c : Nat} (hc : c ∈ letters.cps.toList) : isNameS (oneS c) = true := name_of (l := [c]) rfl ⟨Nat.le_refl 1, by show 1 ≤ 8; decide⟩ hc fun d hd => by rw [List.mem_singleton.mp hd]; exact lett_sign c hc
theorem name_cat {c : Nat} {z : Str} {i : Nat} (hc : c ∈ letters.cps.toList) (h : Wd signs.cps.toList i z) (hi : i ≤ 7) : isNameS (oneS c ++ z) = true := by
  have := str_len z
  refine name_of (l := c :: z.cps.toList) (by rw [str_app]; rfl) ⟨by simp, by rw [List.length_cons, this, h.1]; omega⟩ hc fun d hd => ?_
  rcases List.mem_cons.mp hd with e | hd
  · rw [e]; exact lett_sign c hc
  · exact h.2 d hd
theorem name_end {c : Nat} {z : Str} {i : Nat} (hc : c ∈ signs.cps.toList) (h : Wd letters.cps.toList i z) (h1 : 1 ≤ i) (hi : i ≤ 7) : isNameS (z ++ oneS c) = true := by
  have l := str_len z
  obtain ⟨d, r, e⟩ : ∃ d r, z.cps.toList = d :: r := by
    cases e : z.cps.toList with
    | nil => rw [e, h.1] at l; simp at l; omega
    | cons d r => exact ⟨d, r, rfl⟩
  have h2 := h.2
  rw [e] at l h2
  refine name_of (l := (d :: r) ++ [c]) (by rw [str_app, e]; rfl) ⟨by simp, by rw [List.length_append, l, h.1]; simp; omega⟩ (h2 d List.mem_cons_self) fun x hx => ?_
  rcases List.mem_append.mp hx with hx | hx
  · exact lett_sign x (h2 x hx)
  · rw [List.mem_singleton.mp hx]; exact hc
theorem wd_sign {i : Nat} {z : Str} (h : Wd letters.cps.toList i z) : Wd signs.cps.toList i z := ⟨h.1, fun c hc => lett_sign c (h.2 c hc)⟩
theorem wd_join {l : List Nat} {cs : List Nat} (h : ∀ c ∈ cs, c ∈ l) : Wd l cs.length (Txt.join "" (cs.map oneS)) := ⟨by rw [← str_len, join_one], fun c hc => h c (by rwa [join_one] at hc)⟩
def spNames : Sp := fun vs H Q _ => ∃ (x : Box) (n k : Nat), vs = [.ref x.b, .int (k : Int)] ∧ Bx x n H ∧ n ≤ 800000 ∧ 1 ≤ k ∧ k ≤ 24 ∧ ∀ (l : Addr) (xs : List Str) H', H l = none → H' l = some (.lst (xs.map V.str)) → (∀ z ∈ xs, isNameS z = true) → xs.Nodup → 1 ≤ xs.length → xs.length ≤ k → Kp x H H' → Bx x (n + 400) H' → Q (.ref l) H'
section
variable {P : Program} {w : World} {K : PySem.W.Frag} {mg : Str → Option Value} {base : Heap} {a : Ad} {d : Fd}
theorem ok_law_names (T : TX K mg a) (D : FDS K a d) : FnOk P w K mg base CX0 2 a.a_law_names d.a_law_names ["box", "count"] spNames := by
  have G__law_draw : FnOk P w K mg base CX0 1 a.a_law_draw d.a_law_draw ["box", "size"] spDraw := ok_law_draw T D
  refine D.F__law_names.ok sc_law_names (fun vs H Q E h => ?_) (fun cdv A outer s H vs Q E hr h => ?_)
  · obtain ⟨x, n, k, rfl, _⟩ := h
    rfl
  · obtain ⟨x, n, k, rfl, X, hn, k1, k24, q⟩ := h
    refine ⟨_, (pss_cons (ps_set (i := 2) sc_law_names.nd rfl (Or.inr rfl) pe_str)
        (pss_cons (ps_set (i := 3) sc_law_names.nd rfl (Or.inl rfl) (pe_call G__law_draw (hr.mono (by decide)) rfl T.f__law_draw T.k__law_draw D.B__law_draw .nil pass0 (pa_cons (pv 0) (pa_cons pe_int pa_nil))))
        (pss_cons (ps_set (i := 5) sc_law_names.nd rfl (Or.inl rfl) (pe_join pe_str (pe_lc (own := [("k", 4)]) (g := gName 4) (tt := tYes) rfl sc_law_names.nd (pi_range1 rfl T.b_range (pa_cons (pe_op op_add pe_int (pe_call G__law_draw (hr.mono (by decide)) rfl T.f__law_draw T.k__law_draw D.B__law_draw .nil pass0 (pa_cons (pv 0) (pa_cons pe_int pa_nil)))) pa_nil)) (blkOk_by (N := ["box", "count", "signs", "shape", "k", "stem", "names", "name", "j"]) (sc := defScope s_law_names) (by decide +kernel)) (fun _ _ _ _ _ => (pg_name (i := 4) sc_law_names.nd rfl (Or.inl rfl))) (fun _ _ _ _ _ => pts_nil) (fun _ _ _ _ _ => (pe_ix ix_str (pv 2) (pe_call G__law_draw (hr.mono (by decide)) rfl T.f__law_draw T.k__law_draw D.B__law_draw .nil pass0 (pa_cons (pv 0) (pa_cons pe_int pa_nil))) (fun _ _ => rfl))))))
        (pss_cons (ps_set (i := 6) sc_law_names.nd rfl (Or.inl rfl) (pe_lst pa_nil))
        (pss_cons (ps_for PassesOwn.never rfl (pi_range1 rfl T.b_range (pa_cons (pv 1) pa_nil)) (pg_name (i := 4) sc_law_names.nd rfl (Or.inl rfl)) (pss_cons (ps_set (i := 7) sc_law_names.nd rfl (Or.inl rfl) (pe_ix ix_str (pv 2) (pe_call G__law_draw (hr.mono (by decide)) rfl T.f__law_draw T.k__law_draw D.B__law_draw .nil pass0 (pa_cons (pv 0) (pa_cons pe_int pa_nil))) (fun _ _ => rfl)))
        (Evl.pss_cut (ps_if (pt_cmpR op_eq (pv 3) pe_int (nomark _)) (pss_one (ps_set (i := 7) sc_law_names.nd rfl (Or.inl rfl) (pe_op op_add_str (pv 7) (pe_join pe_str (pe_lc (own := [("j", 8)]) (g := gName 8) (tt := tYes) rfl sc_law_names.nd (pi_range1 rfl T.b_range (pa_cons (pe_call G__law_draw (hr.mono (by decide)) rfl T.f__law_draw T.k__law_draw D.B__law_draw .nil pass0 (pa_cons (pv 0) (pa_cons pe_int pa_nil))) pa_nil)) (blkOk_by (N := ["box", "count", "signs", "shape", "k", "stem", "names", "name", "j"]) (sc := defScope s_law_names) (by decide +kernel)) (fun _ _ _ _ _ => (pg_name (i := 8) sc_law_names.nd rfl (Or.inl rfl))) (fun _ _ _ _ _ => pts_nil) (fun _ _ _ _ _ => (pe_ix ix_str (pv 2) (pe_call G__law_draw (hr.mono (by decide)) rfl T.f__law_draw T.k__law_draw D.B__law_draw .nil pass0 (pa_cons (pv 0) (pa_cons pe_int pa_nil))) (fun _ _ => rfl)))))))) pss_nil)
        (Evl.pss_cut (ps_if (pt_cmpR op_eq (pv 3) pe_int (nomark _)) (pss_one (ps_set (i := 7) sc_law_names.nd rfl (Or.inl rfl) (pe_op op_add_str (pv 7) (pv 5)))) pss_nil)
        (Evl.pss_cut (ps_if (pt_cmpR op_eq (pv 3) pe_int (nomark _)) (pss_one (ps_set (i := 7) sc_law_names.nd rfl (Or.inl rfl) (pe_op op_add_str (pv 5) (pe_ix ix_str (pv 2) (pe_call G__law_draw (hr.mono (by decide)) rfl T.f__law_draw T.k__law_draw D.B__law_draw .nil pass0 (pa_cons (pv 0) (pa_cons pe_int pa_nil))) (fun _ _ => rfl))))) pss_nil)
        (pss_one (ps_if (pt_cmpR op_notIn_seq (pv 7) (pv 6) rfl) (pss_one (ps_expr (pe_bm PySem.F.plainAttrs_list PySem.F.slot_list_append PySem.F.type_list_append mt_append (pv 6) (pa_cons (pv 7) pa_nil)))) pss_nil)))))))
        (pss_one (ps_ret (pv 6)))))))), ?_⟩
    have ssz : signs.length ≤ sizeLine := by decide +kernel
    have big : 100 ≤ sizeLine := by decide
    refine ⟨_, rfl, x, 3, n, rfl, X, by omega, by decide, by decide, fun shape H1 c1 X1 s0 s1 => ?_⟩
    refine ⟨⟨_, rfl⟩, _, rfl, x, 7, n + 1, rfl, X1, by omega, by decide, by decide, fun d7 H2 c2 X2 e0 e1 => ⟨_, _, rfl, rfl, 1 + d7, rfl, by omega, by omega, fun D1 hD1 => lc_range (lo := 0) (n := (1 + d7).toNat)
      (fun i H' => Kp x H2 H' ∧ Bx x (n + 2 + i) H' ∧ ∃ cs : List Nat, H' D1 = some (.lst (cs.map fun c => V.str (oneS c))) ∧ cs.length = i ∧ ∀ c ∈ cs, c ∈ letters.cps.toList)
      ⟨Kp.mut (Kp.refl _ _) hD1, Bx.mut X2 hD1 (X2.mono (Nat.le_refl _)), [], upd_same, rfl, fun _ h => absurd h List.not_mem_nil⟩ ?_ ?_⟩⟩
    · rintro i H3 hi ⟨k3, X3, cs, h3, l3, m3⟩
      unfold gName tYes
      dsimp only
      refine ⟨rfl, ?_⟩
      rw [if_pos rfl]
      refine ⟨_, rfl, _, rfl, x, 26, n + 2 + i, rfl, X3, by omega, by decide, by decide, fun c5 H5 k5 X5 c0 c1 => ?_⟩
      obtain ⟨c, hc, hcl⟩ := sign_low (k := c5.toNat) (by omega)
      have h5 := k5.at X2 hD1 h3
      refine ⟨signs, _, c, rfl, rfl, ssz, at_lit (n := c5.toNat) (by omega) hc, _, h5, by rw [List.length_map]; omega, (k3.trans k5).mut hD1, Bx.mut X2 hD1 (X5.mono (by omega)), cs ++ [c], by rw [upd_same, List.map_append]; rfl, by simp; omega, fun y hy => ?_⟩
      rcases List.mem_append.mp hy with hy | hy
      · exact m3 y hy
      · rw [List.mem_singleton.mp hy]; exact hcl
    · rintro H3 ⟨k3, X3, cs, h3, l3, m3⟩
      refine ⟨_, D1, cs.map oneS, rfl, rfl, .inl (SqL.of (by rw [h3, List.map_map]; rfl)), by rw [sum_one]; exact Nat.le_trans (by show _ + _ * 0 ≤ 100; omega) (by decide : 100 ≤ 16777216), ?_⟩
      have st : Wd letters.cps.toList (1 + d7).toNat (Txt.join "" (cs.map oneS)) := l3 ▸ wd_join m3
      generalize Txt.join "" (cs.map oneS) = stem at st
      have c3 := (c1.trans c2).trans k3
      refine ⟨(by show 0 ≤ sizeLine; decide), fun l hl => ?_⟩
      have hl0 := c3.back X3 hl
      refine ⟨_, rfl, (k : Int), rfl, by omega, by omega, for_range (lo := 0) (n := (k : Int).toNat) (fun i σ H' => ∃ xs : List Str, (∃ (o4 o7 : Option V), σ = [some (.ref x.b), some (.int (k : Int)), some (.str signs), some (.int shape), o4, some (.str stem), some (.ref l), o7, none]) ∧ H' l = some (.lst (xs.map V.str)) ∧ (∀ z ∈ xs, isNameS z = true) ∧ xs.Nodup ∧ xs.length ≤ i ∧ (1 ≤ i → 1 ≤ xs.length) ∧ Kp x H H' ∧ Bx x (n + 10 + 10 * i) H')
        ⟨[], ⟨_, _, rfl⟩, upd_same, fun _ h => absurd h List.not_mem_nil, List.nodup_nil, Nat.le_refl _, fun h => absurd h (by omega), c3.mut hl0, Bx.mut X3 hl (X3.mono (by omega))⟩ ?_ ?_⟩
      · rintro i σ H4 hi ⟨xs, ⟨o4, o7, rfl⟩, h4, nm, nd, li, l1, c4, X4⟩
        refine ⟨_, rfl, _, rfl, x, 26, n + 10 + 10 * i, rfl, X4, by omega, by decide, by decide, fun c5 H5 k5 X5 f0 f1 => ?_⟩
        obtain ⟨c, hc, hcl⟩ := sign_low (k := c5.toNat) (by omega)
        refine ⟨signs, _, c, rfl, rfl, ssz, at_lit (n := c5.toNat) (by omega) hc, ?_⟩
        have h5 := k5.at X hl0 h4
        have c45 := c4.trans k5
        refine ⟨fun σ' H' => ∃ y : Str, ((shape = 0 → isNameS y = true) ∧ (shape ≠ 0 → y = oneS c)) ∧ (∃ o4 : Option V, σ' = [some (.ref x.b), some (.int (k : Int)), some (.str signs), some (.int shape), o4, some (.str stem), some (.ref l), some (.str y), none]) ∧ H' l = some (.lst (xs.map V.str)) ∧ Kp x H H' ∧ Bx x (n + 10 + 10 * i + 4) H', ?_, ?_⟩
        · refine ⟨_, rfl, rfl, _, rfl, ite2 (fun g => ?_) (fun g => ⟨oneS c, ⟨fun e => absurd (decide_eq_true (by rw [e])) g, fun _ => rfl⟩, ⟨_, rfl⟩, h5, c45, X5.mono (by omega)⟩)⟩
          have sh0 : shape = 0 := by
            have := of_decide_eq_true g
            exact V.int.inj this
          refine ⟨_, rfl, ⟨_, rfl⟩, _, rfl, x, 3, n + 10 + 10 * i + 1, rfl, X5, by omega, by decide, by decide, fun d7 H6 k6 X6 e0 e1 => ⟨d7, rfl, by omega, by omega, fun D2 hD2 => lc_range (lo := 0) (n := d7.toNat)
            (fun j H' => Kp x H6 H' ∧ Bx x (n + 10 + 10 * i + 2 + j) H' ∧ ∃ cs : List Nat, H' D2 = some (.lst (cs.map fun c => V.str (oneS c))) ∧ cs.length = j ∧ ∀ c ∈ cs, c ∈ signs.cps.toList)
            ⟨Kp.mut (Kp.refl _ _) hD2, Bx.mut X6 hD2 (X6.mono (Nat.le_refl _)), [], upd_same, rfl, fun _ h => absurd h List.not_mem_nil⟩ ?_ ?_⟩⟩
          · rintro j H7 hj ⟨k7, X7, cs, h7, l7, m7⟩
            unfold gName tYes
            dsimp only
            refine ⟨rfl, ?_⟩
            rw [if_pos rfl]
            refine ⟨_, rfl, _, rfl, x, 36, n + 10 + 10 * i + 2 + j, rfl, X7, by omega, by decide, by decide, fun c8 H8 k8 X8 f0 f1 => ?_⟩
            obtain ⟨c', hc', hcl'⟩ := sign_at (k := c8.toNat) (by omega)
            have h8 := k8.at X6 hD2 h7
            refine ⟨signs, _, c', rfl, rfl, ssz, at_lit (n := c8.toNat) (by omega) hc', _, h8, by rw [List.length_map]; omega, (k7.trans k8).mut hD2, Bx.mut X6 hD2 (X8.mono (by omega)), cs ++ [c'], by rw [upd_same, List.map_append]; rfl, by simp; omega, fun y hy => ?_⟩
            rcases List.mem_append.mp hy with hy | hy
            · exact m7 y hy
            · rw [List.mem_singleton.mp hy]; exact hcl'
          · rintro H7 ⟨k7, X7, cs, h7, l7, m7⟩
            refine ⟨_, D2, cs.map oneS, rfl, rfl, .inl (SqL.of (by rw [h7, List.map_map]; rfl)), by rw [sum_one]; exact Nat.le_trans (by show _ + _ * 0 ≤ 100; omega) (by decide : 100 ≤ 16777216), ?_⟩
            have wj : Wd signs.cps.toList cs.length (Txt.join "" (cs.map oneS)) := wd_join m7
            generalize Txt.join "" (cs.map oneS) = more at wj
            have k67 := k6.trans k7
            refine ⟨_, _, rfl, rfl, Nat.le_trans (by show 1 + more.length ≤ 100; rw [wj.1]; omega) big, oneS c ++ more, ⟨fun _ => name_cat hcl wj (by omega), fun e => absurd sh0 e⟩, ⟨_, rfl⟩, k67.at X hl0 h5, c45.trans k67, X7.mono (by omega)⟩
        · rintro σ' H6 ⟨y, ⟨p1, p2⟩, ⟨o4, rfl⟩, h6, c6, X6⟩
          refine ⟨fun σ' H' => ∃ y : Str, (shape ≠ 2 → isNameS y = true) ∧ (∃ o4 : Option V, σ' = [some (.ref x.b), some (.int (k : Int)), some (.str signs), some (.int shape), o4, some (.str stem), some (.ref l), some (.str y), none]) ∧ H' l = some (.lst (xs.map V.str)) ∧ Kp x H H' ∧ Bx x (n + 10 + 10 * i + 4) H', ?_, ?_⟩
          · refine ⟨_, rfl, rfl, _, rfl, ite2 (fun g => ?_) (fun g => ⟨y, fun e => p1 ?_, ⟨_, rfl⟩, h6, c6, X6⟩)⟩
            · have sh1 : shape = 1 := V.int.inj (of_decide_eq_true g)
              have ey := p2 (by omega)
              rw [ey]
              exact ⟨_, rfl, _, rfl, _, _, rfl, rfl, Nat.le_trans (by show 1 + stem.length ≤ 100; rw [st.1]; omega) big, oneS c ++ stem, fun _ => name_cat hcl (wd_sign st) (by omega), ⟨_, rfl⟩, h6, c6, X6⟩
            · have : shape ≠ 1 := fun e => g (decide_eq_true (by rw [e]))
              omega
          · rintro σ' H7 ⟨y, p1, ⟨o4, rfl⟩, h7, c7, X7⟩
            refine ⟨fun σ' H' => ∃ y : Str, isNameS y = true ∧ (∃ o4 : Option V, σ' = [some (.ref x.b), some (.int (k : Int)), some (.str signs), some (.int shape), o4, some (.str stem), some (.ref l), some (.str y), none]) ∧ H' l = some (.lst (xs.map V.str)) ∧ Kp x H H' ∧ Bx x (n + 10 + 10 * i + 5) H', ?_, ?_⟩
            · refine ⟨_, rfl, rfl, _, rfl, ite2 (fun g => ?_) (fun g => ⟨y, p1 fun e => g (decide_eq_true (by rw [e])), ⟨_, rfl⟩, h7, c7, X7.mono (by omega)⟩)⟩
              refine ⟨_, rfl, _, rfl, _, rfl, x, 36, n + 10 + 10 * i + 4, rfl, X7, by omega, by decide, by decide, fun c8 H8 k8 X8 f0 f1 => ?_⟩
              obtain ⟨c', hc', hcl'⟩ := sign_at (k := c8.toNat) (by omega)
              exact ⟨signs, _, c', rfl, rfl, ssz, at_lit (n := c8.toNat) (by omega) hc', _, _, rfl, rfl, Nat.le_trans (by show stem.length + 1 ≤ 100; rw [st.1]; omega) big, stem ++ oneS c', name_end hcl' st (by omega) (by omega), ⟨_, rfl⟩, k8.at X hl0 h7, c7.trans k8, X8.mono (by omega)⟩
            · rintro σ' H8 ⟨y, ny, ⟨o4, rfl⟩, h8, c8, X8⟩
              refine ⟨_, rfl, _, rfl, l, _, rfl, .inl (SqL.of h8), rfl, flat_strs xs, _, rfl, ?_⟩
              rw [show (if true = true then !inV (.str y) (xs.map V.str) else inV (.str y) (xs.map V.str)) = !decide (y ∈ xs) from congrArg (!·) (inV_strs y xs)]
              by_cases g : y ∈ xs
              · rw [decide_eq_true g]
                exact iteF ⟨xs, ⟨_, _, rfl⟩, h8, nm, nd, by omega, fun _ => List.length_pos_of_mem g, c8, X8.mono (by omega)⟩
              · rw [decide_eq_false g]
                refine iteT ⟨_, rfl, .inl ⟨rfl, _, SqL.of h8⟩, _, rfl, l, _, _, rfl, rfl, h8, by rw [List.length_map]; omega, xs ++ [y], ⟨_, _, rfl⟩, by rw [upd_same, List.map_append]; rfl, fun z hz => ?_, ?_, by simp; omega, fun _ => by simp, c8.mut hl0, Bx.mut X hl0 (X8.mono (by omega))⟩
                · rcases List.mem_append.mp hz with hz | hz
                  · exact nm z hz
                  · rw [List.mem_singleton.mp hz]; exact ny
                · exact List.nodup_append.mpr ⟨nd, List.pairwise_singleton _ _, fun a ha b hb e => by
                    rw [List.mem_singleton.mp hb] at e
                    rw [e] at ha
                    exact g ha⟩
      · rintro σ H4 ⟨xs, ⟨o4, o7, rfl⟩, h4, nm, nd, li, l1, c4, X4⟩
        exact ⟨_, rfl, q l xs H4 hl0 h4 nm nd (l1 (by omega)) (by omega) c4 (X4.mono (by omega))⟩
end
end B3
set_option maxRecDepth 100000
set_option maxHeartbeats 8000000
namespace B3
open PySem L2 Evl GP
theorem Lits.take {H : Hp} {us : List V} {ls : List Lit} (A : Lits H us ls) (k : Nat) : Lits H (us.take k) (ls.take k) := ⟨by rw [List.length_take, List.length_take, A.len], fun i q h => by
  have hk : i < k := by
    by_cases g : i < k
    · exact g
    · rw [List.getElem?_eq_none (by rw [List.length_take]; omega)] at h
      cases h
  rw [List.getElem?_take_of_lt hk] at h
  obtain ⟨t, h1, h2⟩ := A.at_ i q h
  exact ⟨t, by rw [List.getElem?_take_of_lt hk]; exact h1, h2⟩⟩
theorem cutV_30 (xs : List V) : cutV xs none (some 30) = xs.take 30 := by
  unfold cutV
  rw [HT.sIx_none, show (30 : Int) = ((30 : Nat) : Int) from rfl, HT.sIx_nat, Nat.sub_zero, List.drop_zero]
  by_cases h : 30 ≤ xs.length
  · rw [Nat.min_eq_left h]
  · rw [Nat.min_eq_right (by omega), List.take_length, List.take_of_length_le (by omega)]
theorem app_lit {x : Box} {n k : Nat} {H0 H : Hp} {lp t : Addr} {us : List V} {ls : List Lit} {l : Lit} {vs : List V} (X : Bx x n H0) (hlp : H0 lp = none) (c : Kp x H0 H) (XH : Bx x k H) (h : H lp = some (.lst us)) (L : Lits H us ls) (ht : H t = none) (hv : vs = litV l) :
    (upd (upd H t (.tup vs)) lp (.lst (us ++ [V.ref t]))) lp = some (.lst (us ++ [V.ref t])) ∧ Lits (upd (upd H t (.tup vs)) lp (.lst (us ++ [V.ref t]))) (us ++ [V.ref t]) (ls ++ [l]) ∧ Kp x H0 (upd (upd H t (.tup vs)) lp (.lst (us ++ [V.ref t]))) ∧ Bx x k (upd (upd H t (.tup vs)) lp (.lst (us ++ [V.ref t]))) ∧
      ∀ a o, a ≠ lp → H a = some o → (upd (upd H t (.tup vs)) lp (.lst (us ++ [V.ref t]))) a = some o := by
  subst hv
  have xt := Ex.new (o := .tup (litV l)) ht
  exact ⟨upd_same, ((L.ex xt).snoc upd_same).upd (xt _ _ h), (c.trans (Kp.ex xt)).mut hlp, Bx.mut X hlp (XH.ex xt), fun a o n g => by rw [upd_ne n]; exact xt _ _ g⟩
theorem nd_ne {ys : List Str} (nd : ys.Nodup) {i j : Nat} {y z : Str} (hy : ys[i]? = some y) (hz : ys[j]? = some z) (n : i ≠ j) : y ≠ z := by
  obtain ⟨hi, rfl⟩ := List.getElem?_eq_some_iff.mp hy
  obtain ⟨hj, rfl⟩ := List.getElem?_eq_some_iff.mp hz
  rcases Nat.lt_or_gt_of_ne n with h | h
  · exact List.pairwise_iff_getElem.mp nd i j hi hj h
  · exact (List.pairwise_iff_getElem.mp nd j i hj hi h).symm
def spPool : Sp := fun vs H Q _ => ∃ (x : Box) (n : Nat), vs = [.ref x.b] ∧ Bx x n H ∧ n ≤ 100000 ∧ ∀ (p : Addr) (us : List V) (ls : List Lit) H', H p = none → H' p = some (.lst us) → Lits H' us ls → (∀ l ∈ ls, LitOk l) → ls.length ≤ 30 → Kp x H H' → Bx x (n + 1000) H' → Q (.ref p) H'
section
variable {P : Program} {w : World} {K : PySem.W.Frag} {mg : Str → Option Value} {base : Heap} {a : Ad} {d : Fd}
theorem ok_law_pool (T : TX K mg a) (D : FDS K a d) : FnOk P w K mg base CX0 3 a.a_law_pool d.a_law_pool ["box"] spPool := by
  have G__law_draw : FnOk P w K mg base CX0 1 a.a_law_draw d.a_law_draw ["box", "size"] spDraw := ok_law_draw T D
  have G__law_names : FnOk P w K mg base CX0 2 a.a_law_names d.a_law_names ["box", "count"] spNames := ok_law_names T D
  have G__law_integer : FnOk P w K mg base CX0 2 a.a_law_integer d.a_law_integer ["box"] spInteger := ok_law_integer T D G__law_draw
  refine D.F__law_pool.ok sc_law_pool (fun vs H Q E h => ?_) (fun cdv A outer s H vs Q E hr h => ?_)
  · obtain ⟨x, n, rfl, _⟩ := h
    rfl
  · obtain ⟨x, n, rfl, X, hn, q⟩ := h
    refine ⟨_, (pss_cons (ps_set (i := 1) sc_law_pool.nd rfl (Or.inl rfl) (pe_cmpR op_eq (pe_call G__law_draw (hr.mono (by decide)) rfl T.f__law_draw T.k__law_draw D.B__law_draw .nil pass0 (pa_cons (pv 0) (pa_cons pe_int pa_nil))) pe_int (nomark _)))
        (Evl.pss_cut (ps_set (i := 2) sc_law_pool.nd rfl (Or.inl rfl) (pe_call G__law_names (hr.mono (by decide)) rfl T.f__law_names T.k__law_names D.B__law_names .nil pass0 (pa_cons (pv 0) (pa_cons (pe_ifExp (pt_val (pv 1)) (pe_op op_add pe_int (pe_call G__law_draw (hr.mono (by decide)) rfl T.f__law_draw T.k__law_draw D.B__law_draw .nil pass0 (pa_cons (pv 0) (pa_cons pe_int pa_nil)))) (pe_op op_add pe_int (pe_call G__law_draw (hr.mono (by decide)) rfl T.f__law_draw T.k__law_draw D.B__law_draw .nil pass0 (pa_cons (pv 0) (pa_cons pe_int pa_nil))))) pa_nil))))
        (Evl.pss_cut (ps_setLc (i := 3) (own := [("name", 10)]) (g := gName 10) (tt := tYes) rfl sc_law_pool.nd rfl rfl (sw_true rfl rfl rfl (by decide +kernel)) (pi_list (pe_slice sl_list (pv 2) po_none (po_some (pe_call G__law_draw (hr.mono (by decide)) rfl T.f__law_draw T.k__law_draw D.B__law_draw .nil pass0 (pa_cons (pv 0) (pa_cons (pe_ix ix_list (pe_lst (pa_cons pe_int (pa_cons pe_int pa_nil))) (pe_callTy call_int1 (by rfl) T.b_int (by decide +kernel) (pa_cons (pv 1) pa_nil)) (fun _ _ => rfl)) pa_nil)))))) (blkOk_by (N := ["box", "large", "names", "pool", "last", "k", "at", "to", "number", "bend", "name"]) (sc := defScope s_law_pool) (by decide +kernel)) (fun _ _ _ _ _ => (pg_name (i := 10) sc_law_pool.nd rfl (Or.inl rfl))) (fun _ _ _ _ _ => pts_nil) (fun _ _ _ _ _ => (pe_tup (pa_cons pe_str (pa_cons (pv 10) pa_nil)))))
        (Evl.pss_cut (ps_set (i := 4) sc_law_pool.nd rfl (Or.inl rfl) (pe_slice sl_list (pv 2) (po_some (pe_callB (call_max2 rfl) (by rfl) T.b_max (by decide +kernel) (pa_cons pe_int (pa_cons (pe_op op_sub (pe_callB call_len_seq (by rfl) T.b_len (by decide +kernel) (pa_cons (pv 2) pa_nil)) (pe_ix ix_list (pe_lst (pa_cons pe_int (pa_cons pe_int (pa_cons pe_int (pa_cons pe_int (pa_cons pe_int pa_nil)))))) (pe_call G__law_draw (hr.mono (by decide)) rfl T.f__law_draw T.k__law_draw D.B__law_draw .nil pass0 (pa_cons (pv 0) (pa_cons pe_int pa_nil))) (fun _ _ => rfl))) pa_nil)))) po_none))
        (pss_cons (ps_if (pt_cmpR op_lt (pe_callB call_len_seq (by rfl) T.b_len (by decide +kernel) (pa_cons (pv 4) pa_nil)) pe_int (nomark _)) (pss_one (ps_ret (pv 3))) pss_nil)
        (pss_cons (ps_for PassesOwn.never rfl (pi_range1 rfl T.b_range (pa_cons (pe_op op_add pe_int (pe_call G__law_draw (hr.mono (by decide)) rfl T.f__law_draw T.k__law_draw D.B__law_draw .nil pass0 (pa_cons (pv 0) (pa_cons (pe_ix ix_list (pe_lst (pa_cons pe_int (pa_cons pe_int pa_nil))) (pe_callTy call_int1 (by rfl) T.b_int (by decide +kernel) (pa_cons (pv 1) pa_nil)) (fun _ _ => rfl)) pa_nil)))) pa_nil)) (pg_name (i := 5) sc_law_pool.nd rfl (Or.inl rfl)) (pss_cons (ps_set (i := 6) sc_law_pool.nd rfl (Or.inl rfl) (pe_call G__law_draw (hr.mono (by decide)) rfl T.f__law_draw T.k__law_draw D.B__law_draw .nil pass0 (pa_cons (pv 0) (pa_cons (pe_callB call_len_seq (by rfl) T.b_len (by decide +kernel) (pa_cons (pv 4) pa_nil)) pa_nil))))
        (pss_cons (ps_set (i := 7) sc_law_pool.nd rfl (Or.inl rfl) (pe_op op_modN (pe_callTy call_int1 (by rfl) T.b_int (by decide +kernel) (pa_cons (pe_op op_add (pe_op op_add (pv 6) pe_int) (pe_call G__law_draw (hr.mono (by decide)) rfl T.f__law_draw T.k__law_draw D.B__law_draw .nil pass0 (pa_cons (pv 0) (pa_cons (pe_op op_sub (pe_callB call_len_seq (by rfl) T.b_len (by decide +kernel) (pa_cons (pv 4) pa_nil)) pe_int) pa_nil)))) pa_nil)) (pe_callB call_len_seq (by rfl) T.b_len (by decide +kernel) (pa_cons (pv 4) pa_nil))))
        (pss_cons (ps_set (i := 8) sc_law_pool.nd rfl (Or.inl rfl) (pe_call G__law_integer (hr.mono (by decide)) rfl T.f__law_integer T.k__law_integer D.B__law_integer .nil pass0 (pa_cons (pv 0) pa_nil)))
        (pss_cons (ps_expr (pe_bm PySem.F.plainAttrs_list PySem.F.slot_list_append PySem.F.type_list_append mt_append (pv 3) (pa_cons (pe_tup (pa_cons pe_str (pa_cons (pe_ix ix_list (pv 4) (pv 6) (fun _ _ => rfl)) (pa_cons (pe_ix ix_list (pv 4) (pv 7) (fun _ _ => rfl)) (pa_cons (pv 8) pa_nil))))) pa_nil)))
        (pss_cons (ps_set (i := 9) sc_law_pool.nd rfl (Or.inl rfl) (pe_call G__law_draw (hr.mono (by decide)) rfl T.f__law_draw T.k__law_draw D.B__law_draw .nil pass0 (pa_cons (pv 0) (pa_cons pe_int pa_nil))))
        (Evl.pss_cut (ps_if (pt_cmpR op_eq (pv 9) pe_int (nomark _)) (pss_one (ps_expr (pe_bm PySem.F.plainAttrs_list PySem.F.slot_list_append PySem.F.type_list_append mt_append (pv 3) (pa_cons (pe_tup (pa_cons pe_str (pa_cons (pe_ix ix_list (pv 4) (pv 7) (fun _ _ => rfl)) (pa_cons (pe_ix ix_list (pv 4) (pv 6) (fun _ _ => rfl)) (pa_cons (pv 8) pa_nil))))) pa_nil)))) pss_nil)
        (pss_one (ps_if (pt_cmpR op_eq (pv 9) pe_int (nomark _)) (pss_one (ps_expr (pe_bm PySem.F.plainAttrs_list PySem.F.slot_list_append PySem.F.type_list_append mt_append (pv 3) (pa_cons (pe_tup (pa_cons pe_str (pa_cons (pe_ix ix_list (pv 4) (pv 6) (fun _ _ => rfl)) (pa_cons (pe_ix ix_list (pv 4) (pv 7) (fun _ _ => rfl)) (pa_cons (pe_op op_add (pv 8) pe_int) pa_nil))))) pa_nil)))) pss_nil)))))))))
        (pss_one (ps_ret (pe_slice sl_list (pv 3) po_none (po_some pe_int)))))))))), ?_⟩
    have big : 100 ≤ sizeLine := by decide
    have xs0 : 2 ≤ sizeLine := by decide
    have xs4 : 4 ≤ sizeLine := by decide
    refine ⟨_, rfl, x, 8, n, rfl, X, by omega, by decide, by decide, fun d8 H1 c1 X1 s0 s1 => ⟨rfl, ?_⟩⟩
    generalize decide (V.int d8 = V.int 1) = large
    refine ⟨fun σ' H' => ∃ (ln : Addr) (xs : List Str), σ' = [some (.ref x.b), some (.bl large), some (.ref ln), none, none, none, none, none, none, none, none] ∧ H ln = none ∧ H' ln = some (.lst (xs.map V.str)) ∧ (∀ z ∈ xs, isNameS z = true) ∧ xs.Nodup ∧ xs.length ≤ 24 ∧ Kp x H H' ∧ Bx x (n + 402) H', ?_, ?_⟩
    · have fin : ∀ (k : Nat) (H2 : Hp), 1 ≤ k → k ≤ 24 → Kp x H H2 → Bx x (n + 2) H2 → spNames [.ref x.b, .int (k : Int)] H2 (fun v H' => ∃ (ln : Addr) (xs : List Str), [some (V.ref x.b), some (.bl large), some v, none, none, none, none, none, none, none, none] = [some (V.ref x.b), some (.bl large), some (.ref ln), none, none, none, none, none, none, none, none] ∧ H ln = none ∧ H' ln = some (.lst (xs.map V.str)) ∧ (∀ z ∈ xs, isNameS z = true) ∧ xs.Nodup ∧ xs.length ≤ 24 ∧ Kp x H H' ∧ Bx x (n + 402) H') E0 :=
        fun k H2 k1 k24 c2 X2 => ⟨x, n + 2, k, rfl, X2, by omega, k1, k24, fun l xs H' hl h' nm nd _ lk c' X' => ⟨l, xs, rfl, c2.back X2 hl, h', nm, nd, by omega, c2.trans c', X'.mono (by omega)⟩⟩
      refine ⟨_, rfl, _, rfl, large, rfl, ?_⟩
      cases large with
      | true =>
        refine iteT ⟨_, rfl, x, 13, n + 1, rfl, X1, by omega, by decide, by decide, fun d H2 c2 X2 e0 e1 => ⟨_, _, rfl, rfl, ?_⟩⟩
        obtain ⟨m, rfl⟩ : ∃ m : Nat, d = (m : Int) := ⟨d.toNat, by omega⟩
        exact fin (12 + m) H2 (by omega) (by omega) (c1.trans c2) X2
      | false =>
        refine iteF ⟨_, rfl, x, 5, n + 1, rfl, X1, by omega, by decide, by decide, fun d H2 c2 X2 e0 e1 => ⟨_, _, rfl, rfl, ?_⟩⟩
        obtain ⟨m, rfl⟩ : ∃ m : Nat, d = (m : Int) := ⟨d.toNat, by omega⟩
        exact fin (2 + m) H2 (by omega) (by omega) (c1.trans c2) X2
    · rintro σ' H2 ⟨ln, xs, rfl, hln, h2, nm, nd, l24, c2, X2⟩
      refine ⟨fun σ' H' => ∃ (lp : Addr) (us : List V) (ls : List Lit), σ' = [some (.ref x.b), some (.bl large), some (.ref ln), some (.ref lp), none, none, none, none, none, none, none] ∧ H lp = none ∧ H' lp = some (.lst us) ∧ H' ln = some (.lst (xs.map V.str)) ∧ Lits H' us ls ∧ (∀ l ∈ ls, LitOk l) ∧ ls.length ≤ 24 ∧ Kp x H H' ∧ Bx x (n + 403) H', ?_, ?_⟩
      · refine ⟨_, rfl, _, rfl, xs0, fun p hp => ⟨_, rfl, .inr ⟨large, rfl, p, _, (if large = true then 1 else 0), .int (if large = true then 21 else 5), rfl, rfl, SqL.of upd_same, (by cases large <;> rfl), x, _, n + 402, rfl, X2.ex (Ex.new hp), by omega, (by cases large <;> decide), (by cases large <;> decide), fun d H3 c3 X3 e0 e1 => ⟨d, rfl, ?_⟩⟩⟩⟩
        have xp := Ex.new (o := .lst [.int 5, .int 21]) hp
        have c23 := (Kp.ex xp).trans c3
        have h3 := c23.at X hln h2
        obtain ⟨zs, hzs, zsub, _⟩ := cut_map V.str xs none (some d)
        refine ⟨ln, _, rfl, SqL.of h3, fun p2 hp2 => ?_⟩
        rw [hzs]
        have xp2 := Ex.new (o := .lst (zs.map V.str)) hp2
        have zl : zs.length ≤ 24 := Nat.le_trans zsub.length_le l24
        have hlen : (zs.map V.str).length = zs.length := List.length_map _
        generalize hH4 : upd H3 p2 (.lst (zs.map V.str)) = H4 at *
        have p24 : H4 p2 = some (.lst (zs.map V.str)) := by rw [← hH4]; exact upd_same
        have X4 := X3.ex xp2
        have c4 := (c2.trans c23).trans (Kp.ex xp2)
        refine ⟨p2, rfl, ⟨_, SqL.of p24⟩, fun D1 hD1 => lc_it (H1 := H4) (walk_list (xs := zs.map V.str)) (fun i H' => Ex H4 H' ∧ ∃ ws, H' D1 = some (.lst ws) ∧ ws.length ≤ i ∧ Lits H' ws ((zs.take i).map fun z => Lit.yn true z))
          ⟨Ex.new hD1, [], upd_same, Nat.le_refl _, Lits.nil⟩ (fun i H' _ z => SqL.of (z.1 _ _ p24)) ?_ ?_⟩
        · rintro i v H5 H5' hi ⟨e5, ws, hw, wl, W⟩ ⟨rfl, hv⟩
          rw [List.getElem?_map] at hv
          obtain ⟨y, hy, rfl⟩ := Option.map_eq_some_iff.mp hv
          have tk : zs.take (i + 1) = zs.take i ++ [y] := by rw [List.take_add_one, hy]; rfl
          rw [tk, List.map_append]
          unfold gName tYes
          dsimp only
          refine ⟨rfl, ?_⟩
          rw [if_pos rfl]
          refine ⟨_, rfl, xs0, fun t ht => ?_⟩
          have xt := Ex.new (o := .tup (litV (.yn true y))) ht
          have hw2 := xt _ _ hw
          have W2 : Lits (upd (upd H5' t (.tup (litV (.yn true y)))) D1 (.lst (ws ++ [.ref t]))) (ws ++ [.ref t]) ((zs.take i).map (fun z => Lit.yn true z) ++ [Lit.yn true y]) := ((W.ex xt).snoc upd_same).upd hw2
          exact ⟨ws, hw2, by omega, Ex.mut (e5.trans xt) hD1, ws ++ [V.ref t], upd_same, by simp; omega, W2⟩
        · rintro H5 ⟨e5, ws, hw, wl, W⟩
          rw [hlen, List.take_length] at W
          have lW := W.len
          rw [List.length_map] at lW
          refine ⟨D1, ws, _, rfl, c4.back X4 hD1, hw, (e5.trans (Ex.refl _)) _ _ ((by rw [← hH4]; rw [upd_ne (ne_of_none h3 hp2)]; exact h3 : H4 ln = _)), W, fun l hl => ?_, by rw [List.length_map]; omega, c4.trans (Kp.ex e5), (X4.ex e5).mono (by omega)⟩
          obtain ⟨z, hz, rfl⟩ := List.mem_map.mp hl
          exact nm z (zsub.subset hz)
      · rintro σ' H3 ⟨lp, us, ls, rfl, hlp, h3, g3, L3, ok3, m3, c3, X3⟩
        refine ⟨fun σ' H' => ∃ (ll : Addr) (ys : List Str), σ' = [some (.ref x.b), some (.bl large), some (.ref ln), some (.ref lp), some (.ref ll), none, none, none, none, none, none] ∧ H ll = none ∧ ll ≠ lp ∧ H' lp = some (.lst us) ∧ H' ll = some (.lst (ys.map V.str)) ∧ (∀ z ∈ ys, isNameS z = true) ∧ ys.Nodup ∧ ys.length ≤ 24 ∧ Lits H' us ls ∧ Kp x H H' ∧ Bx x (n + 404) H', ?_, ?_⟩
        · refine ⟨_, rfl, _, rfl, ln, _, rfl, .inl (SqL.of g3), (by show 5 ≤ sizeLine; omega), fun p hp => ⟨_, rfl, x, 5, n + 403, rfl, X3.ex (Ex.new hp), by omega, by decide, by decide, fun d H4 c4 X4 e0 e1 => ?_⟩⟩
          have xp := Ex.new (o := .lst [.int 0, .int 2, .int 3, .int 4, .int 4]) hp
          have hp4 := c4.at X3 hp (show (upd H3 p _) p = some (.lst [.int 0, .int 2, .int 3, .int 4, .int 4]) from upd_same)
          have c34 := (Kp.ex xp).trans c4
          obtain ⟨m, hm⟩ : ∃ m : Int, [V.int 0, .int 2, .int 3, .int 4, .int 4][d.toNat]? = some (.int m) := by
            obtain ⟨k, rfl⟩ : ∃ k : Nat, d = (k : Int) := ⟨d.toNat, by omega⟩
            have : k = 0 ∨ k = 1 ∨ k = 2 ∨ k = 3 ∨ k = 4 := by omega
            rcases this with rfl | rfl | rfl | rfl | rfl <;> exact ⟨_, rfl⟩
          refine ⟨p, _, d, .int m, rfl, rfl, SqL.of hp4, at_lit (n := d.toNat) (by omega) hm, _, _, rfl, rfl, _, _, rfl, ?_⟩
          generalize (if _ > (0 : Int) then _ else (0 : Int)) = lo
          have h4 := c34.at X hlp h3
          have g4 := c34.at X hln g3
          have L4 := L3.kp X3 c34
          obtain ⟨ys, hys, ysub, _⟩ := cut_map V.str xs (some lo) none
          refine ⟨lo, rfl, ln, _, rfl, SqL.of g4, fun ll hll => ?_⟩
          rw [hys]
          have xl := Ex.new (o := .lst (ys.map V.str)) hll
          exact ⟨ll, ys, rfl, (c3.trans c34).back X4 hll, (ne_of_none h4 hll).symm, xl _ _ h4, upd_same, fun z hz => nm z (ysub.subset hz), nd.sublist ysub, Nat.le_trans ysub.length_le l24, L4.ex xl, (c3.trans c34).trans (Kp.ex xl), (X4.ex xl).mono (by omega)⟩
        · rintro σ' H4 ⟨ll, ys, rfl, hll, nlp, h4, g4, nm4, nd4, l4, L4, c4, X4⟩
          have ly : (ys.map V.str).length = ys.length := List.length_map _
          refine ⟨_, rfl, ll, _, rfl, .inl (SqL.of g4), _, _, rfl, rfl, _, rfl, ite2 (fun g => ⟨_, rfl, q lp us ls H4 hlp h4 L4 ok3 (by omega) c4 (X4.mono (by omega))⟩) (fun g => ?_)⟩
          have two : 2 ≤ ys.length := by
            have : ¬ (((ys.map V.str).length : Nat) : Int) < 2 := fun e => g (decide_eq_true e)
            omega
          have sr : 0 < (if large = true then (9 : Int) else 4) ∧ (if large = true then (9 : Int) else 4) ≤ 9 := by cases large <;> decide
          refine ⟨_, rfl, xs0, fun p hp => ⟨_, rfl, .inr ⟨large, rfl, p, _, (if large = true then 1 else 0), .int (if large = true then 9 else 4), rfl, rfl, SqL.of upd_same, (by cases large <;> rfl), x, _, n + 404, rfl, X4.ex (Ex.new hp), by omega, sr.1, by omega, fun d H5 c5 X5 e0 e1 => ⟨_, _, rfl, rfl, ?_⟩⟩⟩⟩
          have xp := Ex.new (o := .lst [.int 4, .int 9]) hp
          have c45 := (Kp.ex xp).trans c5
          have h5 := c45.at X hlp h4
          have g5 := c45.at X hll g4
          have L5 := L4.kp X4 c45
          refine ⟨1 + d, rfl, by omega, by omega, for_range (lo := 0) (n := (1 + d).toNat) (fun i σ H' => ∃ (us : List V) (ls : List Lit) (o5 o6 o7 o8 o9 : Option V), σ = [some (.ref x.b), some (.bl large), some (.ref ln), some (.ref lp), some (.ref ll), o5, o6, o7, o8, o9, none] ∧ H' lp = some (.lst us) ∧ H' ll = some (.lst (ys.map V.str)) ∧ Lits H' us ls ∧ (∀ l ∈ ls, LitOk l) ∧ ls.length ≤ 24 + 2 * i ∧ Kp x H H' ∧ Bx x (n + 410 + 20 * i) H')
            ⟨us, ls, none, none, none, none, none, rfl, h5, g5, L5, ok3, by omega, c4.trans c45, X5.mono (by omega)⟩ ?_ ?_⟩
          · rintro i σ H6 hi ⟨us, ls, o5, o6, o7, o8, o9, rfl, h6, g6, L6, ok6, m6, c6, X6⟩
            refine ⟨_, rfl, _, rfl, ll, _, rfl, .inl (SqL.of g6), x, _, n + 410 + 20 * i, rfl, X6, by omega, by omega, by omega, fun at_ H7 c7 X7 a0 a1 => ?_⟩
            have g7 := c7.at X hll g6
            refine ⟨_, rfl, _, _, rfl, rfl, _, rfl, _, rfl, ll, _, rfl, .inl (SqL.of g7), _, _, rfl, rfl, x, _, n + 410 + 20 * i + 1, rfl, X7, by omega, by omega, by omega, fun e H8 c8 X8 b0 b1 => ?_⟩
            have g8 := c8.at X hll g7
            refine ⟨_, _, rfl, rfl, .inl ⟨_, rfl, _, rfl, ll, _, rfl, .inl (SqL.of g8), _, _, rfl, rfl, by omega, ?_⟩⟩
            rw [ly]
            dsimp only
            have to0 : 0 ≤ Int.fmod (at_ + 1 + e) (ys.length : Nat) ∧ Int.fmod (at_ + 1 + e) (ys.length : Nat) < (ys.length : Nat) ∧ Int.fmod (at_ + 1 + e) (ys.length : Nat) ≠ at_ := by
              rw [Int.fmod_eq_emod_of_nonneg _ (by omega)]
              refine ⟨Int.emod_nonneg _ (by omega), Int.emod_lt_of_pos _ (by omega), ?_⟩
              by_cases hs : at_ + 1 + e < (ys.length : Nat)
              · rw [Int.emod_eq_of_lt (by omega) hs]
                omega
              · have : (at_ + 1 + e) % (ys.length : Int) = at_ + 1 + e - (ys.length : Nat) := by
                  rw [← Int.sub_emod_right, Int.emod_eq_of_lt (by omega) (by omega)]
                rw [this]
                omega
            generalize Int.fmod (at_ + 1 + e) (ys.length : Nat) = to_ at to0
            obtain ⟨t0, t1, tn⟩ := to0
            have hya : at_.toNat < ys.length := by omega
            have hyb : to_.toNat < ys.length := by omega
            obtain ⟨ya, ea⟩ : ∃ y, ys[at_.toNat]? = some y := ⟨_, List.getElem?_eq_getElem hya⟩
            obtain ⟨yb, eb⟩ : ∃ y, ys[to_.toNat]? = some y := ⟨_, List.getElem?_eq_getElem hyb⟩
            have na := nm4 ya (List.mem_of_getElem? ea)
            have nb := nm4 yb (List.mem_of_getElem? eb)
            have nab : ya ≠ yb := nd_ne nd4 ea eb (by omega)
            have ea' : (ys.map V.str)[at_.toNat]? = some (.str ya) := by rw [List.getElem?_map, ea]; rfl
            have eb' : (ys.map V.str)[to_.toNat]? = some (.str yb) := by rw [List.getElem?_map, eb]; rfl
            refine ⟨_, rfl, x, n + 410 + 20 * i + 2, rfl, X8, by omega, fun k H9 c9 X9 kb => ?_⟩
            have g9 := c9.at X hll g8
            have c69 := ((c7.trans c8).trans c9)
            have h9 := c69.at X hlp h6
            have L9 := L6.kp X6 c69
            have lu := L9.len
            have p290 : (2 : Int) ^ 290 < 2 ^ 300 := by decide +kernel
            have okk : LitOk (.most ya yb k) := ⟨na, nb, nab, by omega, by omega⟩
            refine ⟨_, rfl, .inl ⟨rfl, _, SqL.of h9⟩, _, rfl, _, rfl, ll, _, at_, .str ya, rfl, rfl, SqL.of g9, at_lit (n := at_.toNat) (by omega) ea', _, rfl, _, rfl, ll, _, to_, .str yb, rfl, rfl, SqL.of g9, at_lit (n := to_.toNat) (by omega) eb', _, rfl, xs4, fun t ht => ?_⟩
            obtain ⟨hA, LA, cA, XA, keepA⟩ := app_lit (l := .most ya yb k) (vs := [.str "most", .str ya, .str yb, .int k]) X hlp (c6.trans c69) X9 h9 L9 ht rfl
            refine ⟨lp, _, _, rfl, rfl, Ex.new ht _ _ h9, by omega, ?_⟩
            have gA := keepA _ _ nlp g9
            generalize upd (upd H9 t _) lp _ = HA at hA LA cA XA keepA gA
            refine ⟨_, rfl, x, 4, _, rfl, XA, by omega, by decide, by decide, fun bd H11 c11 X11 b0 b1 => ?_⟩
            have h11 := c11.at X hlp hA
            have g11 := c11.at X hll gA
            have L11 := LA.kp XA c11
            have ok11 : ∀ l ∈ ls ++ [Lit.most ya yb k], LitOk l := fun l hl => by
              rcases List.mem_append.mp hl with hl | hl
              · exact ok6 l hl
              · rw [List.mem_singleton.mp hl]; exact okk
            have m11 : (ls ++ [Lit.most ya yb k]).length ≤ 24 + 2 * i + 1 := by simp; omega
            have c011 := cA.trans c11
            have X11' := X11.mono (k := n + 410 + 20 * i + 12) (by omega)
            generalize us ++ [V.ref t] = us2 at h11 L11
            generalize ls ++ [Lit.most ya yb k] = ls2 at L11 ok11 m11
            have lu2 := L11.len
            refine ⟨fun σ' H' => ∃ (us : List V) (ls : List Lit), σ' = [some (.ref x.b), some (.bl large), some (.ref ln), some (.ref lp), some (.ref ll), some (.int (0 + (i : Int))), some (.int at_), some (.int to_), some (.int k), some (.int bd), none] ∧ H' lp = some (.lst us) ∧ H' ll = some (.lst (ys.map V.str)) ∧ Lits H' us ls ∧ (∀ l ∈ ls, LitOk l) ∧ ls.length ≤ 24 + 2 * i + (if bd = 1 then 2 else 1) ∧ Kp x H H' ∧ Bx x (n + 410 + 20 * i + 12) H', ?_, ?_⟩
            · refine ⟨_, rfl, rfl, _, rfl, ite2 (fun g => ?_) (fun g => ⟨us2, ls2, rfl, h11, g11, L11, ok11, Nat.le_trans m11 (by split <;> omega), c011, X11'⟩)⟩
              have bd1 : bd = 1 := V.int.inj (of_decide_eq_true g)
              have okk2 : LitOk (.most yb ya k) := ⟨nb, na, nab.symm, by omega, by omega⟩
              refine ⟨_, rfl, .inl ⟨rfl, _, SqL.of h11⟩, _, rfl, _, rfl, ll, _, to_, .str yb, rfl, rfl, SqL.of g11, at_lit (n := to_.toNat) (by omega) eb', _, rfl, _, rfl, ll, _, at_, .str ya, rfl, rfl, SqL.of g11, at_lit (n := at_.toNat) (by omega) ea', _, rfl, xs4, fun t ht => ?_⟩
              obtain ⟨hA, LA, cA, XA, keepA⟩ := app_lit (l := .most yb ya k) (vs := [.str "most", .str yb, .str ya, .int k]) X hlp c011 X11' h11 L11 ht rfl
              refine ⟨lp, _, _, rfl, rfl, Ex.new ht _ _ h11, by omega, us2 ++ [V.ref t], ls2 ++ [.most yb ya k], rfl, hA, keepA _ _ nlp g11, LA, fun l hl => ?_, by rw [if_pos bd1]; simp; omega, cA, XA⟩
              rcases List.mem_append.mp hl with hl | hl
              · exact ok11 l hl
              · rw [List.mem_singleton.mp hl]; exact okk2
            · rintro σ' H12 ⟨us, ls, rfl, h12, g12, L12, ok12, m12, c12, X12⟩
              have lu3 := L12.len
              have m13 : ls.length ≤ 24 + 2 * i + 2 := Nat.le_trans m12 (by split <;> omega)
              refine ⟨_, rfl, rfl, _, rfl, ite2 (fun g => ?_) (fun g => ⟨us, ls, _, _, _, _, _, rfl, h12, g12, L12, ok12, by omega, c12, X12.mono (by omega)⟩)⟩
              have bd2 : bd = 2 := V.int.inj (of_decide_eq_true g)
              rw [if_neg (by omega)] at m12
              have okk2 : LitOk (.most ya yb (k + 1)) := ⟨na, nb, nab, by omega, by omega⟩
              refine ⟨_, rfl, .inl ⟨rfl, _, SqL.of h12⟩, _, rfl, _, rfl, ll, _, at_, .str ya, rfl, rfl, SqL.of g12, at_lit (n := at_.toNat) (by omega) ea', _, rfl, _, rfl, ll, _, to_, .str yb, rfl, rfl, SqL.of g12, at_lit (n := to_.toNat) (by omega) eb', _, rfl, _, _, rfl, rfl, xs4, fun t ht => ?_⟩
              obtain ⟨hA, LA, cA, XA, keepA⟩ := app_lit (l := .most ya yb (k + 1)) (vs := [.str "most", .str ya, .str yb, .int (k + 1)]) X hlp c12 X12 h12 L12 ht rfl
              refine ⟨lp, _, _, rfl, rfl, Ex.new ht _ _ h12, by omega, us ++ [V.ref t], ls ++ [.most ya yb (k + 1)], _, _, _, _, _, rfl, hA, keepA _ _ nlp g12, LA, fun l hl => ?_, by simp; omega, cA, XA.mono (by omega)⟩
              rcases List.mem_append.mp hl with hl | hl
              · exact ok12 l hl
              · rw [List.mem_singleton.mp hl]; exact okk2
          · rintro σ H6 ⟨us, ls, o5, o6, o7, o8, o9, rfl, h6, g6, L6, ok6, m6, c6, X6⟩
            refine ⟨_, rfl, 30, rfl, lp, _, rfl, SqL.of h6, fun p3 hp3 => ?_⟩
            rw [cutV_30]
            have x3 := Ex.new (o := .lst (us.take 30)) hp3
            exact q p3 _ (ls.take 30) _ (c6.back X6 hp3) upd_same ((L6.take 30).ex x3) (fun l hl => ok6 l (List.mem_of_mem_take hl)) (by rw [List.length_take]; omega) (c6.trans (Kp.ex x3)) ((X6.ex x3).mono (by omega))
end
end B3
set_option maxRecDepth 100000
set_option maxHeartbeats 8000000
namespace B3
open PySem L2 Evl GP
def keyL : Lit → List L2.Key
  | .yn b x => [.inr (ynS b), .inr x]
  | .most x y k => [.inr "most", .inr x, .inr y, .inl k]
theorem key_lit (l : Lit) : litV l = (keyL l).map kV := by cases l <;> rfl
theorem key_inj {l m : Lit} (h : keyL l = keyL m) : l = m := by
  cases l with
  | yn b x =>
    cases m with
    | yn c y =>
      simp only [keyL, List.cons.injEq, Sum.inr.injEq, and_true] at h
      rw [yn_inj.mp h.1, h.2]
    | most x y k => simp [keyL] at h
  | most x y k =>
    cases m with
    | yn c z => simp [keyL] at h
    | most x2 y2 k2 =>
      simp only [keyL, List.cons.injEq, Sum.inr.injEq, Sum.inl.injEq, and_true, true_and] at h
      rw [h.1, h.2.1, h.2.2]
/-- the dict of the atoms that are seen -/
def dctL (as : List Lit) (vs : List V) : List (List L2.Key × V) := List.zipWith (fun a v => (keyL a, v)) as vs
theorem val_dct (a : Lit) : ∀ (as : List Lit) (vs : List V), vs.length = as.length → (valV (dctL as vs) (keyL a) = none ↔ a ∉ as)
  | [], _, _ => ⟨fun _ => List.not_mem_nil, fun _ => rfl⟩
  | b :: as, [], h => by simp at h
  | b :: as, v :: vs, h => by
    have ih := val_dct a as vs (by simpa using h)
    show valV ((keyL b, v) :: dctL as vs) (keyL a) = none ↔ _
    by_cases g : b = a
    · rw [valV_pos (by rw [g])]
      simp [g]
    · rw [valV_neg (fun e => g (key_inj e)), ih]
      exact ⟨fun h m => (List.mem_cons.mp m).elim (fun e => g e.symm) h, fun h m => h (List.mem_cons_of_mem _ m)⟩
theorem dct_snoc (b : Lit) (v : V) : ∀ (as : List Lit) (vs : List V), vs.length = as.length → dctL (as ++ [b]) (vs ++ [v]) = dctL as vs ++ [(keyL b, v)]
  | [], [], _ => rfl
  | [], _ :: _, h => by simp at h
  | _ :: _, [], h => by simp at h
  | a :: as, w :: vs, h => by
    show (keyL a, w) :: dctL (as ++ [b]) (vs ++ [v]) = _
    rw [dct_snoc b v as vs (by simpa using h)]
    rfl
theorem dct_vals : ∀ (as : List Lit) (vs : List V), vs.length = as.length → (dctL as vs).map (·.2) = vs
  | [], [], _ => rfl
  | [], _ :: _, h => by simp at h
  | _ :: _, [], h => by simp at h
  | a :: as, w :: vs, h => by
    show w :: (dctL as vs).map (·.2) = _
    rw [dct_vals as vs (by simpa using h)]
theorem dct_len (as : List Lit) (vs : List V) (h : vs.length = as.length) : (dctL as vs).length = as.length := by
  unfold dctL
  rw [List.length_zipWith, h, Nat.min_self]
theorem prefP_len (ls : List Lit) : (prefP ls).2.length = (prefP ls).1.length ∧ (prefP ls).1.length ≤ ls.length := by
  have gen : ∀ (ls : List Lit) (st : List Lit × List Lit), st.2.length = st.1.length → (ls.foldl prefS st).2.length = (ls.foldl prefS st).1.length ∧ (ls.foldl prefS st).1.length ≤ st.1.length + ls.length := by
    intro ls
    induction ls with
    | nil => exact fun st h => ⟨h, Nat.le_refl _⟩
    | cons l r ih =>
      intro st h
      rw [List.foldl_cons]
      by_cases g : atomL l ∈ st.2
      · rw [show prefS st l = st from if_pos g]
        obtain ⟨i1, i2⟩ := ih st h
        exact ⟨i1, by rw [List.length_cons]; omega⟩
      · rw [show prefS st l = (st.1 ++ [l], st.2 ++ [atomL l]) from if_neg g]
        obtain ⟨i1, i2⟩ := ih (st.1 ++ [l], st.2 ++ [atomL l]) (by simp [h])
        refine ⟨i1, ?_⟩
        rw [List.length_append, List.length_singleton] at i2
        rw [List.length_cons]
        omega
  obtain ⟨i1, i2⟩ := gen ls ([], []) rfl
  exact ⟨i1, Nat.le_trans i2 (by simp)⟩
theorem Lits.put {H : Hp} {vs : List V} {ls : List Lit} {l : Addr} {kvs kvs' : List (List L2.Key × V)} (A : Lits H vs ls) (h : H l = some (.dT kvs)) : Lits (L2.upd H l (.dT kvs')) vs ls := ⟨A.len, fun i q g => by
  obtain ⟨t, h1, h2⟩ := A.at_ i q g
  have : t ≠ l := fun e => by rw [e, h] at h2; cases h2
  exact ⟨t, h1, by rw [upd_ne this]; exact h2⟩⟩
def spPreferred : Sp := fun vs H Q _ => ∃ p q us ws as ls, vs = [.ref p, .ref q] ∧ H p = some (.tup us) ∧ (H q = some (.lst ws) ∨ H q = some (.tup ws)) ∧ Lits H us as ∧ Lits H ws ls ∧ (∀ l ∈ as, LitOk l) ∧ (∀ l ∈ ls, LitOk l) ∧ as.length ≤ 500 ∧ ls.length ≤ 500 ∧
  ∀ u vs H', Ex H H' → H' u = some (.tup vs) → Lits H' vs (prefP (ls ++ as)).1 → Q (.ref u) H'
section
variable {P : Program} {w : World} {K : PySem.W.Frag} {mg : Str → Option Value} {base : Heap} {a : Ad} {d : Fd}
theorem ok_preferred (T : TX K mg a) (D : FDS K a d) : FnOk P w K mg base CX0 6 a.a_preferred d.a_preferred ["atoms", "order"] spPreferred := by
  have G_atom_of : FnOk P w K mg base CX0 5 a.a_atom_of d.a_atom_of ["literal"] (spLitTo atomL) := ok_atom_of T D
  refine D.F_preferred.ok sc_preferred (fun vs H Q E h => ?_) (fun cdv A outer s H vs Q E hr h => ?_)
  · obtain ⟨p, q, us, ws, as, ls, rfl, _⟩ := h
    rfl
  · obtain ⟨p, q, us, ws, as, ls, rfl, hp, hq, A1, A2, ok1, ok2, s1, s2, fin⟩ := h
    refine ⟨_, (pss_cons (ps_set (i := 2) sc_preferred.nd rfl (Or.inl rfl) pe_dnewT)
        (pss_cons (ps_for PassesOwn.never rfl (pi_list (pe_lst (StX.pa_star (pv 1) (StX.pa_star (pv 0) pa_nil)))) (pg_name (i := 3) sc_preferred.nd rfl (Or.inl rfl)) (pss_one (ps_expr (pe_bm PySem.F.plainAttrs_dict PySem.F.slot_dict_setdefault PySem.F.type_dict_setdefault (SDF.mt_setdefT (hu_of hr)) (pv 2) (pa_cons (pe_call G_atom_of (hr.mono (by decide)) rfl T.f_atom_of T.k_atom_of D.B_atom_of .nil pass0 (pa_cons (pv 3) pa_nil)) (pa_cons (pv 3) pa_nil))))))
        (pss_one (ps_ret (pe_callTy (TV.cr_tupVals rfl) (by rfl) T.b_tuple (by decide +kernel) (pa_cons (TV.pe_valsT (pv 2)) pa_nil)))))), ?_⟩
    have l1 := A1.len
    have l2 := A2.len
    have big : 2000 ≤ sizeLine := by decide
    intro c hc
    have xc := Ex.new (o := .dT []) hc
    have c0 : (upd H c (.dT [])) c = some (.dT []) := upd_same
    generalize upd H c (.dT []) = H0 at *
    have q0 : SqT K H0 q ws ∨ SqL K H0 q ws := hq.elim (fun h => .inr (SqL.of (xc _ _ h))) (fun h => .inl (SqT.of (xc _ _ h)))
    refine ⟨_, rfl, q, _, rfl, q0, _, rfl, p, _, rfl, .inl (SqT.of (xc _ _ hp)), ?_⟩
    have AM : Lits H (ws ++ (us ++ [])) (ls ++ as) := by rw [List.append_nil]; exact A2.app A1
    have okm : ∀ l ∈ ls ++ as, LitOk l := fun l hl => (List.mem_append.mp hl).elim (ok2 l) (ok1 l)
    have lm : (ls ++ as).length ≤ 1000 := by rw [List.length_append]; omega
    have fin2 : ∀ u vs H', Ex H H' → H' u = some (.tup vs) → Lits H' vs (prefP (ls ++ as)).1 → Q (.ref u) H' := fin
    have lz := AM.len
    refine ⟨(by show (ws ++ (us ++ [])).length ≤ sizeLine; omega), fun t ht => ?_⟩
    have xt := Ex.new (o := .lst (ws ++ (us ++ []))) ht
    have t1 : (upd H0 t (.lst (ws ++ (us ++ [])))) t = some (.lst (ws ++ (us ++ []))) := upd_same
    have c1 := xt _ _ c0
    have nct : c ≠ t := ne_of_none c0 ht
    have e1 := xc.trans xt
    clear fin q0 A1 A2 ok1 ok2
    generalize ls ++ as = ms at *
    generalize hzs : ws ++ (us ++ []) = zs at *
    generalize upd H0 t (.lst zs) = H1 at *
    refine ⟨t, rfl, ⟨_, SqL.of t1⟩, for_it (walk_list (xs := zs)) (fun i σ H' => ∃ (vs : List V) (o4 : Option V), σ = [some (.ref p), some (.ref q), some (.ref c), o4] ∧ Ex H H' ∧ H' t = some (.lst zs) ∧ H' c = some (.dT (dctL (prefP (ms.take i)).2 vs)) ∧ Lits H' vs (prefP (ms.take i)).1)
      ⟨[], none, rfl, e1, t1, c1, Lits.nil⟩ (fun i σ H' _ ⟨_, _, _, _, h, _⟩ => SqL.of h) ?_ ?_⟩
    · rintro i v σ H2 H2' hi ⟨vs, o4, rfl, e2, t2, c2, B⟩ ⟨rfl, hv⟩
      obtain ⟨t0, l, rfl, hl, hlt⟩ := AM.get hv
      have okl := okm l (List.mem_of_getElem? hl)
      have tk : ms.take (i + 1) = ms.take i ++ [l] := by rw [List.take_add_one, hl]; rfl
      rw [tk, prefP_snoc]
      obtain ⟨pl1, pl2⟩ := prefP_len (ms.take i)
      rw [List.length_take] at pl2
      generalize prefP (ms.take i) = st at *
      have lb := B.len
      refine ⟨_, rfl, .inr (.inr (.inl ⟨rfl, .inr ⟨_, c2⟩⟩)), _, rfl, t0, l, rfl, e2 _ _ hlt, okl, fun u H3 e3 hu => ⟨_, rfl, c, _, keyL (atomL l), u, .ref t0, rfl, rfl, e3 _ _ c2, by rw [← key_lit]; exact hu, by rw [dct_len _ _ (by omega)]; omega, fun w hw => ?_, fun hw => ?_⟩⟩
      · have g : atomL l ∈ st.2 := by
          by_cases g : atomL l ∈ st.2
          · exact g
          · rw [(val_dct (atomL l) st.2 vs (by omega)).mpr g] at hw
            cases hw
        rw [show prefS st l = st from if_pos g]
        exact ⟨vs, _, rfl, e2.trans e3, e3 _ _ t2, e3 _ _ c2, B.ex e3⟩
      · have g : atomL l ∉ st.2 := (val_dct (atomL l) st.2 vs (by omega)).mp hw
        rw [show prefS st l = (st.1 ++ [l], st.2 ++ [atomL l]) from if_neg g, putK_new _ hw, ← dct_snoc _ _ _ _ (by omega)]
        refine ⟨vs ++ [.ref t0], _, rfl, (e2.trans e3).mut hc, by rw [upd_ne nct.symm]; exact e3 _ _ t2, upd_same, ?_⟩
        exact ((B.ex e3).snoc (e3 _ _ (e2 _ _ hlt))).put (e3 _ _ c2)
    · rintro σ H2 ⟨vs, o4, rfl, e2, t2, c2, B⟩
      rw [lz, List.take_length] at c2 B
      obtain ⟨pl1, pl2⟩ := prefP_len ms
      have lb := B.len
      refine ⟨_, rfl, c, rfl, ⟨_, c2⟩, fun p2 hp2 => ⟨p2, c, _, rfl, upd_same, Ex.new hp2 _ _ c2, fun u hu => ?_⟩⟩
      have xu := (Ex.new (o := viewO "dict_values" p2 c) hp2).trans (Ex.new (o := .tup ((dctL (prefP ms).2 vs).map (·.2))) hu)
      refine fin2 u vs _ (e2.trans xu) ?_ (B.ex xu)
      rw [dct_vals _ _ (by omega)]
      exact upd_same
end
end B3
set_option maxRecDepth 100000
set_option maxHeartbeats 4000000
namespace B3
open PySem L2 Evl GP
/-! ### what the preferred list is -/
theorem pref_gen : ∀ (ls : List Lit) (st : List Lit × List Lit), st.2 = st.1.map atomL → st.2.Nodup →
    (ls.foldl prefS st).2 = (ls.foldl prefS st).1.map atomL ∧ (ls.foldl prefS st).2.Nodup ∧ (∀ a, a ∈ (ls.foldl prefS st).2 ↔ a ∈ st.2 ∨ ∃ l ∈ ls, atomL l = a) ∧ ∀ l ∈ (ls.foldl prefS st).1, l ∈ st.1 ∨ l ∈ ls
  | [], st, h1, h2 => ⟨h1, h2, fun a => by simp, fun l h => .inl h⟩
  | l :: r, st, h1, h2 => by
    rw [List.foldl_cons]
    by_cases g : atomL l ∈ st.2
    · rw [show prefS st l = st from if_pos g]
      obtain ⟨i1, i2, i3, i4⟩ := pref_gen r st h1 h2
      refine ⟨i1, i2, fun a => ?_, fun m hm => (i4 m hm).imp id (List.mem_cons_of_mem _)⟩
      rw [i3]
      constructor
      · rintro (h | ⟨m, hm, e⟩)
        · exact .inl h
        · exact .inr ⟨m, List.mem_cons_of_mem _ hm, e⟩
      · rintro (h | ⟨m, hm, e⟩)
        · exact .inl h
        · rcases List.mem_cons.mp hm with rfl | hm
          · exact .inl (e ▸ g)
          · exact .inr ⟨m, hm, e⟩
    · rw [show prefS st l = (st.1 ++ [l], st.2 ++ [atomL l]) from if_neg g]
      have nd : (st.2 ++ [atomL l]).Nodup := List.nodup_append.mpr ⟨h2, List.pairwise_singleton _ _, fun a ha b hb e => by
        rw [List.mem_singleton.mp hb] at e
        rw [e] at ha
        exact g ha⟩
      obtain ⟨i1, i2, i3, i4⟩ := pref_gen r (st.1 ++ [l], st.2 ++ [atomL l]) (by show st.2 ++ [atomL l] = (st.1 ++ [l]).map atomL; rw [List.map_append, ← h1]; rfl) nd
      refine ⟨i1, i2, fun a => ?_, fun m hm => ?_⟩
      · rw [i3]
        show (a ∈ st.2 ++ [atomL l] ∨ _) ↔ _
        rw [List.mem_append, List.mem_singleton]
        constructor
        · rintro ((h | h) | ⟨m, hm, e⟩)
          · exact .inl h
          · exact .inr ⟨l, List.mem_cons_self, h.symm⟩
          · exact .inr ⟨m, List.mem_cons_of_mem _ hm, e⟩
        · rintro (h | ⟨m, hm, e⟩)
          · exact .inl (.inl h)
          · rcases List.mem_cons.mp hm with rfl | hm
            · exact .inl (.inr e.symm)
            · exact .inr ⟨m, hm, e⟩
      · rcases i4 m hm with h | h
        · rcases List.mem_append.mp h with h | h
          · exact .inl h
          · rw [List.mem_singleton.mp h]
            exact .inr List.mem_cons_self
        · exact .inr (List.mem_cons_of_mem _ h)
theorem pref_facts (ls : List Lit) : ((prefP ls).1.map atomL).Nodup ∧ (∀ a, a ∈ (prefP ls).1.map atomL ↔ ∃ l ∈ ls, atomL l = a) ∧ ∀ l ∈ (prefP ls).1, l ∈ ls := by
  obtain ⟨h1, h2, h3, h4⟩ := pref_gen ls ([], []) rfl List.nodup_nil
  refine ⟨h1 ▸ h2, fun a => ?_, fun l hl => (h4 l hl).elim (fun h => absurd h List.not_mem_nil) id⟩
  have := h3 a
  rw [h1] at this
  exact this.trans ⟨fun h => h.elim (fun h => absurd h List.not_mem_nil) id, .inr⟩
theorem pref_more : ∀ (as : List Lit) (st : List Lit × List Lit), as.Nodup → (∀ a ∈ as, atomL a = a) → (as.foldl prefS st).1 = st.1 ++ as.filter fun a => decide (a ∉ st.2)
  | [], st, _, _ => by simp
  | a :: r, st, nd, ow => by
    have e := ow a List.mem_cons_self
    have nd' := List.nodup_cons.mp nd
    rw [List.foldl_cons]
    by_cases g : a ∈ st.2
    · rw [show prefS st a = st from if_pos (by rw [e]; exact g), pref_more r st nd'.2 fun b hb => ow b (List.mem_cons_of_mem _ hb), List.filter_cons_of_neg (by simpa using g)]
    · rw [show prefS st a = (st.1 ++ [a], st.2 ++ [a]) from by unfold prefS; rw [e, if_neg g], pref_more r _ nd'.2 fun b hb => ow b (List.mem_cons_of_mem _ hb), List.filter_cons_of_pos (by simpa using g)]
      show st.1 ++ [a] ++ _ = _
      rw [List.append_assoc, List.singleton_append]
      congr 2
      apply List.filter_congr
      intro b hb
      have nb : b ≠ a := fun z => nd'.1 (z ▸ hb)
      simp [nb]
theorem pref_app (ls as : List Lit) : prefP (ls ++ as) = as.foldl prefS (prefP ls) := by
  unfold prefP
  rw [List.foldl_append]
/-- the atoms that a law hands in: each once, each its own atom -/
def Own (as : List Lit) : Prop := as.Nodup ∧ ∀ a ∈ as, atomL a = a
theorem pref_due {as ls : List Lit} (o : Own as) : (prefP (ls ++ as)).1 = prefL as ls := by
  rw [pref_app, pref_more as _ o.1 o.2]
  rfl
theorem pref_dist : ∀ (ls : List Lit) (st : List Lit × List Lit), (ls.map atomL).Nodup → (∀ l ∈ ls, atomL l ∉ st.2) → ls.foldl prefS st = (st.1 ++ ls, st.2 ++ ls.map atomL)
  | [], st, _, _ => by simp
  | l :: r, st, nd, no => by
    rw [List.map_cons] at nd
    have nd' := List.nodup_cons.mp nd
    rw [List.foldl_cons, show prefS st l = (st.1 ++ [l], st.2 ++ [atomL l]) from if_neg (no l List.mem_cons_self), pref_dist r _ nd'.2 fun m hm h => ?_]
    · simp
    · rcases List.mem_append.mp h with h | h
      · exact no m (List.mem_cons_of_mem _ hm) h
      · exact nd'.1 (List.mem_map.mpr ⟨m, hm, List.mem_singleton.mp h⟩)
theorem pref_same {as ts : List Lit} (o : Own as) (nd : (ts.map atomL).Nodup) (cov : ∀ a ∈ as, a ∈ ts.map atomL) : (prefP (ts ++ as)).1 = ts := by
  have e : prefP ts = (ts, ts.map atomL) := by
    have := pref_dist ts ([], []) nd fun _ _ => List.not_mem_nil
    simpa [prefP] using this
  rw [pref_due o]
  unfold prefL
  rw [e]
  show ts ++ as.filter (fun a => decide (a ∉ ts.map atomL)) = ts
  rw [List.filter_eq_nil_iff.mpr fun a ha => by simpa using cov a ha, List.append_nil]
theorem own_nil : Own [] := ⟨List.nodup_nil, fun _ h => absurd h List.not_mem_nil⟩
theorem pref_none (as : List Lit) (o : Own as) : (prefP ([] ++ as)).1 = as := by
  rw [pref_due o]
  show [] ++ as.filter (fun a => decide (a ∉ ([] : List Lit))) = as
  simp
theorem pref_first {as ls : List Lit} : (prefL as ls).take (prefL [] ls).length = prefL [] ls := by
  show ((prefP ls).1 ++ _).take ((prefP ls).1 ++ [].filter _).length = (prefP ls).1 ++ [].filter _
  rw [List.filter_nil, List.append_nil, List.take_left]
theorem atom_opp {l : Lit} (h : LitOk l) : atomL (oppL l) = atomL l := by
  cases l with
  | yn b x => rfl
  | most x y k =>
    have t := ltS_total h.2.2.1
    show (if ltS y x = true then Lit.most y x (-k - 1) else Lit.most x y (-(-k - 1) - 1)) = if ltS x y = true then Lit.most x y k else Lit.most y x (-k - 1)
    rw [t, show -(-k - 1) - 1 = k by omega]
    cases ltS x y <;> rfl
theorem atom_atom {l : Lit} (h : LitOk l) : atomL (atomL l) = atomL l := by
  cases l with
  | yn b x => rfl
  | most x y k =>
    have e := atom_opp h
    show atomL (if ltS x y = true then Lit.most x y k else Lit.most y x (-k - 1)) = _
    split
    · rfl
    · exact e
theorem opp_atoms {ls : List Lit} (h : ∀ l ∈ ls, LitOk l) : (ls.map oppL).map atomL = ls.map atomL := by
  rw [List.map_map]
  exact List.map_congr_left fun l hl => atom_opp (h l hl)
theorem one_of : ∀ {ls : List Lit} {m : Lit}, (ls.map atomL).Nodup → m ∈ ls.map atomL → (ls.filter fun l => decide (atomL l = m)).length = 1
  | l :: r, m, nd, h => by
    rw [List.map_cons] at nd h
    have nd' := List.nodup_cons.mp nd
    by_cases g : atomL l = m
    · rw [List.filter_cons_of_pos (by simpa using g), List.length_cons]
      have : r.filter (fun l => decide (atomL l = m)) = [] := List.filter_eq_nil_iff.mpr fun x hx e => nd'.1 (by
        rw [g, ← of_decide_eq_true e]
        exact List.mem_map_of_mem hx)
      rw [this]
      rfl
    · rw [List.filter_cons_of_neg (by simpa using g)]
      exact one_of nd'.2 ((List.mem_cons.mp h).resolve_left fun e => g e.symm)
end B3
set_option maxRecDepth 100000
set_option maxHeartbeats 16000000
namespace B3
open PySem L2 Evl GP
def spLaw (K : PySem.W.Frag) : Sp := fun vs H Q _ => ∃ (a : Addr) (ns : List Int), vs = [.ref a] ∧ SqL K H a (ns.map V.int) ∧ ∀ H', Q (.bl true) H'
section
variable {P : Program} {w : World} {K : PySem.W.Frag} {mg : Str → Option Value} {base : Heap} {a : Ad} {d : Fd}
theorem ok_law (T : TX K mg a) (D : FDS K a d) : FnG P w K mg base 7 a.a_law d.a_law ["script"] (spLaw K) := by
  have G__law_open : FnOk P w K mg base CX0 1 a.a_law_open d.a_law_open ["script"] (spOpen K) := ok_law_open T D
  have G__law_draw : FnOk P w K mg base CX0 1 a.a_law_draw d.a_law_draw ["box", "size"] spDraw := ok_law_draw T D
  have G__law_pool : FnOk P w K mg base CX0 3 a.a_law_pool d.a_law_pool ["box"] spPool := ok_law_pool T D
  have G__law_atoms : FnOk P w K mg base CX0 3 a.a_law_atoms d.a_law_atoms ["literals"] spAtoms := ok_law_atoms T D
  have G__law_pick : FnOk P w K mg base CX0 2 a.a_law_pick d.a_law_pick ["box", "pool"] spPick := ok_law_pick T D G__law_draw
  have G__law_preferred : FnOk P w K mg base CX0 3 a.a_law_preferred d.a_law_preferred ["atoms", "listed"] spPref := ok_law_preferred T D
  have G__law_is : FnG P w K mg base 1 a.a_law_is d.a_law_is ["actual", "due"] spIs := ok_law_is T D
  have G__law_other : FnOk P w K mg base CX0 1 a.a_law_other d.a_law_other ["literal"] (spLitTo oppL) := ok_law_other T D
  have G__law_atom : FnOk P w K mg base CX0 2 a.a_law_atom d.a_law_atom ["literal"] (spLitTo atomL) := ok_law_atom T D
  have G_preferred : FnOk P w K mg base CX0 6 a.a_preferred d.a_preferred ["atoms", "order"] spPreferred := ok_preferred T D
  refine okG D.F_law sc_law (fun vs H Q E h => ?_) (fun cdv A outer s H vs Q E hr gd h => ?_)
  · obtain ⟨a, ns, rfl, _⟩ := h
    rfl
  · obtain ⟨a, ns, rfl, hsq, q⟩ := h
    refine ⟨_, (pss_cons (ps_set (i := 1) sc_law.nd rfl (Or.inl rfl) (pe_call G__law_open (hr.mono (by decide)) rfl T.f__law_open T.k__law_open D.B__law_open .nil pass0 (pa_cons (pv 0) pa_nil)))
        (pss_cons (ps_set (i := 2) sc_law.nd rfl (Or.inl rfl) (pe_call G__law_pool (hr.mono (by decide)) rfl T.f__law_pool T.k__law_pool D.B__law_pool .nil pass0 (pa_cons (pv 1) pa_nil)))
        (pss_cons (ps_set (i := 3) sc_law.nd rfl (Or.inl rfl) (pe_lst pa_nil))
        (pss_cons (ps_for PassesOwn.never rfl (pi_list (pv 2)) (pg_name (i := 4) sc_law.nd rfl (Or.inl rfl)) (pss_one (ps_if (pt_cmpR op_gt (pe_call G__law_draw (hr.mono (by decide)) rfl T.f__law_draw T.k__law_draw D.B__law_draw .nil pass0 (pa_cons (pv 1) (pa_cons pe_int pa_nil))) pe_int (nomark _)) (pss_one (ps_expr (pe_bm PySem.F.plainAttrs_list PySem.F.slot_list_append PySem.F.type_list_append mt_append (pv 3) (pa_cons (pv 4) pa_nil)))) pss_nil)))
        (pss_cons (ps_set (i := 5) sc_law.nd rfl (Or.inl rfl) (pe_call G__law_atoms (hr.mono (by decide)) rfl T.f__law_atoms T.k__law_atoms D.B__law_atoms .nil pass0 (pa_cons (pv 3) pa_nil)))
        (pss_cons (ps_set (i := 6) sc_law.nd rfl (Or.inr rfl) (pe_lst pa_nil))
        (Evl.pss_cut (ps_if (pt_truth (pv 2) (by intro _; rfl)) (pss_one (ps_for PassesOwn.never rfl (pi_range1 rfl T.b_range (pa_cons (pe_call G__law_draw (hr.mono (by decide)) rfl T.f__law_draw T.k__law_draw D.B__law_draw .nil pass0 (pa_cons (pv 1) (pa_cons (pe_ix ix_list (pe_lst (pa_cons pe_int (pa_cons pe_int (pa_cons pe_int (pa_cons pe_int pa_nil))))) (pe_call G__law_draw (hr.mono (by decide)) rfl T.f__law_draw T.k__law_draw D.B__law_draw .nil pass0 (pa_cons (pv 1) (pa_cons pe_int pa_nil))) (fun _ _ => rfl)) pa_nil))) pa_nil)) (pg_name (i := 7) sc_law.nd rfl (Or.inl rfl)) (pss_one (ps_expr (pe_bm PySem.F.plainAttrs_list PySem.F.slot_list_append PySem.F.type_list_append mt_append (pv 6) (pa_cons (pe_call G__law_pick (hr.mono (by decide)) rfl T.f__law_pick T.k__law_pick D.B__law_pick .nil pass0 (pa_cons (pv 1) (pa_cons (pv 2) pa_nil))) pa_nil)))))) pss_nil)
        (pss_cons (ps_set (i := 8) sc_law.nd rfl (Or.inl rfl) (pe_call G__law_preferred (hr.mono (by decide)) rfl T.f__law_preferred T.k__law_preferred D.B__law_preferred .nil pass0 (pa_cons (pv 5) (pa_cons (pv 6) pa_nil))))
        (pss_cons (ps_set (i := 9) sc_law.nd rfl (Or.inl rfl) (pe_callTy call_list_of (by rfl) T.b_list (by decide +kernel) (pa_cons (pv 6) pa_nil)))
        (pss_cons (ps_if (PW.pt (pw_or (pt_not (pt_val (pe_callG G__law_is (hr.mono (by decide)) gd rfl T.f__law_is T.k__law_is D.B__law_is pass0 (pa_cons (pe_call G_preferred (hr.mono (by decide)) rfl T.f_preferred T.k_preferred D.B_preferred .nil pass0 (pa_cons (pv 5) (pa_cons (pv 9) pa_nil))) (pa_cons (pv 8) pa_nil))))) (pw_or1 (pt_cmpR op_ne (pe_callB (call_reprR gd (hu70 hr)) (by rfl) T.b_repr (by decide +kernel) (pa_cons (pv 9) pa_nil)) (pe_callB (call_reprR gd (hu70 hr)) (by rfl) T.b_repr (by decide +kernel) (pa_cons (pv 6) pa_nil)) (nomark _))))) (pss_one (ps_ret pe_bl)) pss_nil)
        (pss_cons (ps_if (pt_not (pt_val (pe_callG G__law_is (hr.mono (by decide)) gd rfl T.f__law_is T.k__law_is D.B__law_is pass0 (pa_cons (pe_call G_preferred (hr.mono (by decide)) rfl T.f_preferred T.k_preferred D.B_preferred .nil pass0 (pa_cons (pv 5) (pa_cons (pe_callTy call_tuple_of (by rfl) T.b_tuple (by decide +kernel) (pa_cons (pv 6) pa_nil)) pa_nil))) (pa_cons (pv 8) pa_nil))))) (pss_one (ps_ret pe_bl)) pss_nil)
        (pss_cons (ps_if (PW.pt (pw_or (pt_not (pt_val (pe_callG G__law_is (hr.mono (by decide)) gd rfl T.f__law_is T.k__law_is D.B__law_is pass0 (pa_cons (pe_call G_preferred (hr.mono (by decide)) rfl T.f_preferred T.k_preferred D.B_preferred .nil pass0 (pa_cons (pv 5) (pa_cons (pv 8) pa_nil))) (pa_cons (pv 8) pa_nil))))) (pw_or1 (pt_not (pt_val (pe_callG G__law_is (hr.mono (by decide)) gd rfl T.f__law_is T.k__law_is D.B__law_is pass0 (pa_cons (pe_call G_preferred (hr.mono (by decide)) rfl T.f_preferred T.k_preferred D.B_preferred .nil pass0 (pa_cons (pv 5) (pa_cons (pe_callTy call_list_of (by rfl) T.b_list (by decide +kernel) (pa_cons (pv 8) pa_nil)) pa_nil))) (pa_cons (pv 8) pa_nil)))))))) (pss_one (ps_ret pe_bl)) pss_nil)
        (pss_cons (ps_set (i := 10) sc_law.nd rfl (Or.inl rfl) (pe_callTy call_tuple_of (by rfl) T.b_tuple (by decide +kernel) (pa_cons (pe_lc (own := [("literal", 4)]) (g := gName 4) (tt := tYes) rfl sc_law.nd (pi_tup (pv 8)) (blkOk_by (N := ["script", "box", "pool", "some", "literal", "atoms", "listed", "k", "due", "handed", "turned", "first", "back", "atom", "many"]) (sc := defScope s_law) (by decide +kernel)) (fun _ _ _ _ _ => (pg_name (i := 4) sc_law.nd rfl (Or.inl rfl))) (fun _ _ _ _ _ => pts_nil) (fun _ _ _ _ _ => (pe_call G__law_other (hr.mono (by decide)) rfl T.f__law_other T.k__law_other D.B__law_other .nil pass0 (pa_cons (pv 4) pa_nil)))) pa_nil)))
        (pss_cons (ps_if (pt_not (pt_val (pe_callG G__law_is (hr.mono (by decide)) gd rfl T.f__law_is T.k__law_is D.B__law_is pass0 (pa_cons (pe_call G_preferred (hr.mono (by decide)) rfl T.f_preferred T.k_preferred D.B_preferred .nil pass0 (pa_cons (pv 5) (pa_cons (pv 10) pa_nil))) (pa_cons (pv 10) pa_nil))))) (pss_one (ps_ret pe_bl)) pss_nil)
        (pss_cons (ps_set (i := 11) sc_law.nd rfl (Or.inl rfl) (pe_call G__law_preferred (hr.mono (by decide)) rfl T.f__law_preferred T.k__law_preferred D.B__law_preferred .nil pass0 (pa_cons (pe_tup pa_nil) (pa_cons (pv 6) pa_nil))))
        (Evl.pss_cut (ps_if (PW.pt (pw_or (pt_not (pt_val (pe_callG G__law_is (hr.mono (by decide)) gd rfl T.f__law_is T.k__law_is D.B__law_is pass0 (pa_cons (pe_call G_preferred (hr.mono (by decide)) rfl T.f_preferred T.k_preferred D.B_preferred .nil pass0 (pa_cons (pe_tup pa_nil) (pa_cons (pv 9) pa_nil))) (pa_cons (pv 11) pa_nil))))) (pw_or1 (pt_cmpR (op_neD hr.units) (pe_slice sl_tupA (pv 8) po_none (po_some (pe_callB call_len_seq (by rfl) T.b_len (by decide +kernel) (pa_cons (pv 11) pa_nil)))) (pv 11) (nomark _))))) (pss_one (ps_ret pe_bl)) pss_nil)
        (pss_cons (ps_if (PW.pt (pw_or (pt_not (pt_val (pe_callG G__law_is (hr.mono (by decide)) gd rfl T.f__law_is T.k__law_is D.B__law_is pass0 (pa_cons (pe_call G_preferred (hr.mono (by decide)) rfl T.f_preferred T.k_preferred D.B_preferred .nil pass0 (pa_cons (pv 5) (pa_cons (pe_tup pa_nil) pa_nil))) (pa_cons (pv 5) pa_nil))))) (pw_or1 (pt_not (pt_val (pe_callG G__law_is (hr.mono (by decide)) gd rfl T.f__law_is T.k__law_is D.B__law_is pass0 (pa_cons (pe_call G_preferred (hr.mono (by decide)) rfl T.f_preferred T.k_preferred D.B_preferred .nil pass0 (pa_cons (pe_tup pa_nil) (pa_cons (pe_lst pa_nil) pa_nil))) (pa_cons (pe_tup pa_nil) pa_nil)))))))) (pss_one (ps_ret pe_bl)) pss_nil)
        (pss_cons (ps_setLc (i := 12) (own := [("k", 7)]) (g := gName 7) (tt := tYes) (te := tOp (rIxL K) (tVar 6) (tOp (rI0 fun i j => V.int (i - j)) (tOp (rI0 fun i j => V.int (i - j)) (tCB (fun xs H Q => ∃ p ys, xs = [V.ref p] ∧ (SqL K H p ys ∨ SqT K H p ys) ∧ Q (V.int (ys.length : Nat)) H) (tCons (tVar 6) tNil)) (tC (V.int 1))) (tVar 7))) rfl sc_law.nd rfl rfl (sw_true rfl rfl rfl (by decide +kernel)) (pi_range1 rfl T.b_range (pa_cons (pe_callB call_len_seq (by rfl) T.b_len (by decide +kernel) (pa_cons (pv 6) pa_nil)) pa_nil)) (blkOk_by (N := ["script", "box", "pool", "some", "literal", "atoms", "listed", "k", "due", "handed", "turned", "first", "back", "atom", "many"]) (sc := defScope s_law) (by decide +kernel)) (fun _ _ _ _ _ => (pg_name (i := 7) sc_law.nd rfl (Or.inl rfl))) (fun _ _ _ _ _ => pts_nil) (fun _ _ _ _ _ => (pe_ix ix_list (pv 6) (pe_op op_sub (pe_op op_sub (pe_callB call_len_seq (by rfl) T.b_len (by decide +kernel) (pa_cons (pv 6) pa_nil)) pe_int) (pv 7)) (fun _ _ => rfl))))
        (pss_cons (ps_if (pt_not (pt_val (pe_callG G__law_is (hr.mono (by decide)) gd rfl T.f__law_is T.k__law_is D.B__law_is pass0 (pa_cons (pe_call G_preferred (hr.mono (by decide)) rfl T.f_preferred T.k_preferred D.B_preferred .nil pass0 (pa_cons (pv 5) (pa_cons (pv 12) pa_nil))) (pa_cons (pe_call G__law_preferred (hr.mono (by decide)) rfl T.f__law_preferred T.k__law_preferred D.B__law_preferred .nil pass0 (pa_cons (pv 5) (pa_cons (pv 12) pa_nil))) pa_nil))))) (pss_one (ps_ret pe_bl)) pss_nil)
        (pss_cons (ps_for PassesOwn.never rfl (pi_tup (pe_call G__law_atoms (hr.mono (by decide)) rfl T.f__law_atoms T.k__law_atoms D.B__law_atoms .nil pass0 (pa_cons (pe_op op_cat (pv 6) (pe_callTy call_list_of (by rfl) T.b_list (by decide +kernel) (pa_cons (pv 5) pa_nil))) pa_nil))) (pg_name (i := 13) sc_law.nd rfl (Or.inr rfl)) (pss_cons (ps_setLc (i := 14) (own := [("literal", 4)]) (g := gName 4) (tt := tTest (tOp (rEqD K) (tCall (spLitTo atomL) [] E0 (tCons (tVar 4) tNil)) (tVar 13))) rfl sc_law.nd rfl rfl (sw_true rfl rfl rfl (by decide +kernel)) (pi_tup (pv 8)) (blkOk_by (N := ["script", "box", "pool", "some", "literal", "atoms", "listed", "k", "due", "handed", "turned", "first", "back", "atom", "many"]) (sc := defScope s_law) (by decide +kernel)) (fun _ _ _ _ _ => (pg_name (i := 4) sc_law.nd rfl (Or.inl rfl))) (fun _ _ _ _ _ => (pts_one (pt_cmpR (op_eqD (by exact hr.units)) (pe_call G__law_atom (hr.mono (by decide)) rfl T.f__law_atom T.k__law_atom D.B__law_atom .nil pass0 (pa_cons (pv 4) pa_nil)) (pv 13) (nomark _)))) (fun _ _ _ _ _ => (pv 4)))
        (pss_one (ps_if (pt_cmpR op_ne (pe_callB call_len_seq (by rfl) T.b_len (by decide +kernel) (pa_cons (pv 14) pa_nil)) pe_int (nomark _)) (pss_one (ps_ret pe_bl)) pss_nil))))
        (pss_one (ps_ret (pe_cmpR op_eq (pe_callB (call_reprR gd (hu70 hr)) (by rfl) T.b_repr (by decide +kernel) (pa_cons (pv 9) pa_nil)) (pe_callB (call_reprR gd (hu70 hr)) (by rfl) T.b_repr (by decide +kernel) (pa_cons (pv 6) pa_nil)) (nomark _)))))))))))))))))))))))), ?_⟩
    have big : 1000 ≤ sizeLine := by decide
    refine ⟨_, rfl, a, ns, rfl, hsq, fun x H1 e1 _ _ _ X1 => ?_⟩
    refine ⟨_, rfl, x, 0, rfl, X1, by decide, fun p us ps H2 hp h2 L2 ok2 l30 k2 X2 => ?_⟩
    have npb := X1.neb hp
    have npg := X1.neg hp
    have lu := L2.len
    refine ⟨(by show 0 ≤ sizeLine; decide), fun sm hsm => ?_⟩
    have xs := Ex.new (o := .lst []) hsm
    have nps : p ≠ sm := ne_of_none h2 hsm
    refine ⟨_, rfl, p, rfl, ⟨_, SqL.of (xs _ _ h2)⟩, for_it (walk_list (xs := us)) (fun i σ H' => ∃ (ws : List V) (ss : List Lit) (o4 : Option V), σ = [some (.ref a), some (.ref x.b), some (.ref p), some (.ref sm), o4, none, none, none, none, none, none, none, none, none, none] ∧ H' p = some (.lst us) ∧ Lits H' us ps ∧ H' sm = some (.lst ws) ∧ Lits H' ws ss ∧ (∀ l ∈ ss, LitOk l) ∧ ss.length ≤ i ∧ Kp x H2 H' ∧ Bx x (1000 + i) H')
      ⟨[], [], none, rfl, xs _ _ h2, L2.ex xs, upd_same, Lits.nil, fun _ h => absurd h List.not_mem_nil, Nat.le_refl _, Kp.ex xs, X2.ex xs⟩ (fun i σ H' _ ⟨_, _, _, _, h, _⟩ => SqL.of h) ?_ ?_⟩
    · rintro i v σ H3 H3' hi ⟨ws, ss, o4, rfl, h3, L3, g3, W3, ok3, l3, k3, X3⟩ ⟨rfl, hv⟩
      obtain ⟨t, l, rfl, hl, ht⟩ := L3.get hv
      have lw := W3.len
      refine ⟨_, rfl, x, 4, 1000 + i, rfl, X3, by omega, by decide, by decide, fun d4 H4 k4 X4 d0 d1 => ?_⟩
      have h4 := k4.at X1 hp h3
      have g4 := k4.at X2 hsm g3
      have L4 := L3.kp X3 k4
      have W4 := W3.kp X3 k4
      have t4 := X3.tup k4 ht
      refine ⟨_, _, rfl, rfl, _, rfl, ite2 (fun g => ?_) (fun g => ⟨ws, ss, _, rfl, h4, L4, g4, W4, ok3, by omega, k3.trans k4, X4⟩)⟩
      refine ⟨_, rfl, .inl ⟨rfl, _, SqL.of g4⟩, _, rfl, sm, _, _, rfl, rfl, g4, by omega, ws ++ [V.ref t], ss ++ [l], _, rfl, by rw [upd_ne nps]; exact h4, L4.upd g4, upd_same, (W4.snoc t4).upd g4, fun m hm => ?_, by simp; omega, (k3.trans k4).mut hsm, Bx.mut X2 hsm X4⟩
      rcases List.mem_append.mp hm with hm | hm
      · exact ok3 m hm
      · rw [List.mem_singleton.mp hm]
        exact ok2 l (List.mem_of_getElem? hl)
    · rintro σ H3 ⟨ws, ss, o4, rfl, h3, L3, g3, W3, ok3, l3, k3, X3⟩
      refine ⟨_, rfl, sm, ws, ss, rfl, g3, W3, ok3, by omega, fun pa vs as H4 e4 ha V4 nd4 mem4 len4 => ?_⟩
      have own : Own as := ⟨nd4, fun b hb => by
        obtain ⟨l, hl, rfl⟩ := (mem4 b).mp hb
        exact atom_atom (ok3 l hl)⟩
      have oka : ∀ l ∈ as, LitOk l := fun b hb => by
        obtain ⟨l, hl, rfl⟩ := (mem4 b).mp hb
        exact atom_ok (ok3 l hl)
      refine ⟨(by show 0 ≤ sizeLine; decide), fun pl hpl => ?_⟩
      have xl := Ex.new (o := .lst []) hpl
      have e5 := e4.trans xl
      have h5 := e5 _ _ h3
      have L5 := L3.ex e5
      have ha5 := xl _ _ ha
      have V5 := V4.ex xl
      have X5 := X3.ex e5
      have g5 : (upd H4 pl (.lst [])) pl = some (.lst []) := upd_same
      have hpl3 := fresh_back e4 hpl
      have nap : pa ≠ pl := ne_of_none ha hpl
      generalize upd H4 pl (.lst []) = H5 at *
      refine ⟨fun σ' H' => ∃ (ws : List V) (ls : List Lit) (o4 o7 : Option V), σ' = [some (.ref a), some (.ref x.b), some (.ref p), some (.ref sm), o4, some (.ref pa), some (.ref pl), o7, none, none, none, none, none, none, none] ∧ H' pa = some (.tup vs) ∧ H' pl = some (.lst ws) ∧ Lits H' vs as ∧ Lits H' ws ls ∧ (∀ l ∈ ls, LitOk l) ∧ ls.length ≤ 31, ?_, ?_⟩
      · refine ⟨_, rfl, _, .inl ⟨_, SqL.of h5, rfl⟩, ?_⟩
        refine ite2 (fun g => ?_) (fun g => ⟨[], [], _, _, rfl, ha5, g5, V5, Lits.nil, fun _ h => absurd h List.not_mem_nil, by decide⟩)
        have l0 : 0 < ps.length := by
          rw [← lu]
          cases us with
          | nil => cases g
          | cons _ _ => exact Nat.succ_pos _
        have X5' : Bx x 1100 H5 := X5.mono (by omega)
        refine ⟨_, rfl, (by show 4 ≤ sizeLine; omega), fun p3 hp3 => ⟨_, rfl, x, 4, 1100, rfl, X5'.ex (Ex.new hp3), by decide, by decide, by decide, fun d H6 k6 X6 d0 d1 => ?_⟩⟩
        have x3 := Ex.new (o := .lst [.int 6, .int 6, .int 6, .int 31]) hp3
        have hp6 := k6.at X5' hp3 (show (upd H5 p3 _) p3 = some (.lst [.int 6, .int 6, .int 6, .int 31]) from upd_same)
        obtain ⟨m, hm, m0, m1⟩ : ∃ m : Int, [V.int 6, .int 6, .int 6, .int 31][d.toNat]? = some (.int m) ∧ 0 < m ∧ m ≤ 31 := by
          obtain ⟨k, rfl⟩ : ∃ k : Nat, d = (k : Int) := ⟨d.toNat, by omega⟩
          have : k = 0 ∨ k = 1 ∨ k = 2 ∨ k = 3 := by omega
          rcases this with rfl | rfl | rfl | rfl <;> exact ⟨_, rfl, by decide, by decide⟩
        refine ⟨p3, _, d, .int m, rfl, rfl, SqL.of hp6, at_lit (n := d.toNat) (by omega) hm, x, m, 1101, rfl, X6, by decide, m0, by omega, fun d2 H7 k7 X7 f0 f1 => ?_⟩
        have k57 := ((Kp.ex x3).trans k6).trans k7
        have h7 := k57.at X1 hp h5
        have L7 := L5.kp X5' k57
        have a7 := X5'.tup k57 ha5
        have V7 := V5.kp X5' k57
        have g7 := k57.at X3 hpl3 g5
        refine ⟨d2, rfl, by omega, by omega, for_range (lo := 0) (n := d2.toNat) (fun i σ H' => ∃ (ws : List V) (ls : List Lit) (o4 o7 : Option V), σ = [some (.ref a), some (.ref x.b), some (.ref p), some (.ref sm), o4, some (.ref pa), some (.ref pl), o7, none, none, none, none, none, none, none] ∧ H' pa = some (.tup vs) ∧ H' pl = some (.lst ws) ∧ Lits H' vs as ∧ Lits H' ws ls ∧ (∀ l ∈ ls, LitOk l) ∧ ls.length ≤ i ∧ H' p = some (.lst us) ∧ Lits H' us ps ∧ Kp x H3 H' ∧ Bx x (1102 + 2 * i) H')
          ⟨[], [], _, _, rfl, a7, g7, V7, Lits.nil, fun _ h => absurd h List.not_mem_nil, Nat.le_refl _, h7, L7, (Kp.ex e5).trans k57, X7⟩ ?_ ?_⟩
        · rintro i σ H8 hi ⟨ws, ls, o4, o7, rfl, a8, g8, V8, W8, ok8, l8, h8, L8, k8, X8⟩
          have lw := W8.len
          have npl : p ≠ pl := ne_of_none h3 hpl3
          refine ⟨_, rfl, .inl ⟨rfl, _, SqL.of g8⟩, _, rfl, _, rfl, x, 1102 + 2 * i, p, us, ps, rfl, X8, by omega, h8, npb, npg, L8, ok2, l0, by omega, fun u l H9 k9 X9 hu okl => ?_⟩
          have a9 := X8.tup k9 a8
          have g9 := k9.at X3 hpl3 g8
          have V9 := V8.kp X8 k9
          have W9 := W8.kp X8 k9
          have L9 := L8.kp X8 k9
          have h9 := k9.at X1 hp h8
          refine ⟨pl, _, _, rfl, rfl, g9, by omega, ws ++ [V.ref u], ls ++ [l], _, _, rfl, by rw [upd_ne nap]; exact a9, upd_same, V9.upd g9, (W9.snoc hu).upd g9, fun m hm => ?_, by simp; omega, by rw [upd_ne npl]; exact h9, L9.upd g9, (k8.trans k9).mut hpl3, Bx.mut X3 hpl3 (X9.mono (by omega))⟩
          rcases List.mem_append.mp hm with hm | hm
          · exact ok8 m hm
          · rw [List.mem_singleton.mp hm]; exact okl
        · rintro σ H8 ⟨ws, ls, o4, o7, rfl, a8, g8, V8, W8, ok8, l8, h8, L8, k8, X8⟩
          exact ⟨ws, ls, _, _, rfl, a8, g8, V8, W8, ok8, by omega⟩
      · rintro σ' H6 ⟨ws, ls, o4, o7, rfl, a6, p6, A6, L6, ok6, l31⟩
        have la : as.length ≤ 30 := by omega
        have lA := A6.len
        have lL := L6.len
        have eD := pref_due (ls := ls) own
        have dok : ∀ l ∈ prefL as ls, LitOk l := fun l hl => by
          rw [← eD] at hl
          exact (List.mem_append.mp ((pref_facts (ls ++ as)).2.2 l hl)).elim (ok6 l) (oka l)
        have dlen : (prefL as ls).length ≤ 61 := by
          rw [← eD]
          have := (prefP_len (ls ++ as)).2
          rw [List.length_append] at this
          omega
        refine ⟨_, rfl, _, rfl, pa, pl, vs, ws, as, ls, rfl, a6, p6, A6, L6, oka, ok6, by omega, by omega, fun du dv H7 e7 hd DL => ?_⟩
        have lD := DL.len
        refine ⟨_, rfl, pl, ws, rfl, .inl (SqL.of (e7 _ _ p6)), fun ph hph => ?_⟩
        have xh := Ex.new (o := .lst ws) hph
        have e8 := e7.trans xh
        have h8 : (upd H7 ph (.lst ws)) ph = some (.lst ws) := upd_same
        have hd8 := xh _ _ hd
        have DL8 := DL.ex xh
        generalize upd H7 ph (.lst ws) = H8 at *
        have eS := pref_same (ts := prefL as ls) own (by rw [← eD]; exact (pref_facts (ls ++ as)).1) (fun b hb => by
          rw [← eD]
          exact ((pref_facts (ls ++ as)).2.1 b).mpr ⟨b, List.mem_append_right _ hb, own.2 b hb⟩)
        have a8 := e8 _ _ a6
        have p8 := e8 _ _ p6
        have A8 := A6.ex e8
        have L8 := L6.ex e8
        clear e8 a6 p6 A6 L6 e7 xh DL
        generalize hdue : prefL as ls = due at *
        -- preferred(atoms, handed)
        refine ⟨_, rfl, _, rfl, pa, ph, vs, ws, as, ls, rfl, a8, .inl h8, A8, L8, oka, ok6, by omega, by omega, fun u1 v1 H9 e9 hu1 V1 => ?_⟩
        rw [eD] at V1
        refine ⟨_, rfl, u1, du, v1, dv, due, rfl, hu1, e9 _ _ hd8, V1, DL8.ex e9, dok, by omega, fun H10 e10 => ?_⟩
        refine ⟨_, rfl, iteF' rfl ?_⟩
        have e010 := e9.trans e10
        have rpL := (rp_lits ok6 (by omega)).2
        have dH : ∀ H', Ex H8 H' → Dp K H' (.ref ph) (.list (ls.map litD)) := fun H' e => .lst (SqL.of (e _ _ h8)) (L8.ex e).dp
        have dP : ∀ H', Ex H8 H' → Dp K H' (.ref pl) (.list (ls.map litD)) := fun H' e => .lst (SqL.of (e _ _ p8)) (L8.ex e).dp
        refine ⟨_, rfl, ph, _, _, _, rfl, dH _ e010, rpL, by decide, by decide, _, rfl, pl, _, _, _, rfl, dP _ e010, rpL, by decide, by decide, rfl, ?_⟩
        refine ⟨_, rfl, iteF' (by rw [decide_eq_true rfl]; rfl) ?_⟩
        -- preferred(atoms, tuple(listed))
        refine ⟨_, rfl, _, rfl, pl, ws, rfl, .inl ⟨SqL.of (e010 _ _ p8), fun pt hpt => ?_⟩⟩
        have e11 := e010.trans (Ex.new (o := .tup ws) hpt)
        refine ⟨pa, pt, vs, ws, as, ls, rfl, e11 _ _ a8, .inr upd_same, A8.ex e11, L8.ex e11, oka, ok6, by omega, by omega, fun u2 v2 H12 x12 hu2 V2 => ?_⟩
        rw [eD] at V2
        have e12 := e11.trans x12
        refine ⟨_, rfl, u2, du, v2, dv, due, rfl, hu2, e12 _ _ hd8, V2, DL8.ex e12, dok, by omega, fun H13 x13 => ⟨_, rfl, iteF' rfl ?_⟩⟩
        have e13 := e12.trans x13
        clear e12 e11 e010 x12 x13 hu2 V2 hu1 V1 e9 e10
        -- preferred(atoms, due), preferred(atoms, list(due))
        refine ⟨_, rfl, _, rfl, pa, du, vs, dv, as, due, rfl, e13 _ _ a8, .inr (e13 _ _ hd8), A8.ex e13, DL8.ex e13, oka, dok, by omega, by omega, fun u3 v3 H14 x14 hu3 V3 => ?_⟩
        rw [eS] at V3
        have e14 := e13.trans x14
        refine ⟨_, rfl, u3, du, v3, dv, due, rfl, hu3, e14 _ _ hd8, V3, DL8.ex e14, dok, by omega, fun H15 x15 => ⟨_, rfl, iteF' rfl ?_⟩⟩
        have e15 := e14.trans x15
        refine ⟨_, rfl, _, rfl, du, dv, rfl, .inr (SqT.of (e15 _ _ hd8)), fun pd hpd => ?_⟩
        have e16 := e15.trans (Ex.new (o := .lst dv) hpd)
        refine ⟨pa, pd, vs, dv, as, due, rfl, e16 _ _ a8, .inl upd_same, A8.ex e16, DL8.ex e16, oka, dok, by omega, by omega, fun u4 v4 H17 x17 hu4 V4 => ?_⟩
        rw [eS] at V4
        have e17 := e16.trans x17
        refine ⟨_, rfl, u4, du, v4, dv, due, rfl, hu4, e17 _ _ hd8, V4, DL8.ex e17, dok, by omega, fun H18 x18 => ⟨_, rfl, iteF' rfl ?_⟩⟩
        have e18 := e17.trans x18
        clear e13 e14 e15 e16 e17 x14 x15 x17 x18 hu3 hu4 V3 V4
        -- turned
        refine ⟨_, rfl, du, rfl, ⟨_, SqT.of (e18 _ _ hd8)⟩, fun D1 hD1 => lc_it (H1 := H18) (walk_tup (xs := dv)) (fun i H' => Ex H18 H' ∧ ∃ us, H' D1 = some (.lst us) ∧ us.length ≤ i ∧ Lits H' us ((due.take i).map oppL))
          ⟨Ex.new hD1, [], upd_same, Nat.le_refl _, Lits.nil⟩ (fun i H' _ z => SqT.of (z.1 _ _ (e18 _ _ hd8))) ?_ ?_⟩
        · rintro i v H19 H19' hi ⟨x19, us, hus, ul, W⟩ ⟨rfl, hv⟩
          obtain ⟨t, l, rfl, hl, ht⟩ := (DL8.ex e18).get hv
          have tk : due.take (i + 1) = due.take i ++ [l] := by rw [List.take_add_one, hl]; rfl
          rw [tk, List.map_append]
          have okl := dok l (List.mem_of_getElem? hl)
          unfold gName tYes
          dsimp only
          refine ⟨rfl, ?_⟩
          rw [if_pos rfl]
          refine ⟨_, rfl, t, l, rfl, x19 _ _ ht, okl, fun u H20 x20 hu => ⟨us, x20 _ _ hus, by omega, Ex.mut (x19.trans x20) hD1, us ++ [V.ref u], upd_same, by simp; omega, ((W.ex x20).snoc hu).upd (x20 _ _ hus)⟩⟩
        · rintro H19 ⟨x19, us, hus, ul, W⟩
          rw [lD, List.take_length] at W
          refine ⟨D1, us, rfl, .inl ⟨SqL.of hus, fun tu htu => ?_⟩⟩
          have x20 := Ex.new (o := .tup us) htu
          have e20 := (e18.trans x19).trans x20
          have htu0 : (upd H19 tu (.tup us)) tu = some (.tup us) := upd_same
          have W20 := W.ex x20
          have oko : ∀ l ∈ due.map oppL, LitOk l := fun l hl => by
            obtain ⟨m, hm, rfl⟩ := List.mem_map.mp hl
            exact opp_ok (dok m hm)
          have lO : (due.map oppL).length = due.length := List.length_map _
          have eO := opp_atoms dok
          have eT := pref_same (ts := due.map oppL) own (by rw [eO, ← eD]; exact (pref_facts (ls ++ as)).1) (fun b hb => by
            rw [eO, ← eD]
            exact ((pref_facts (ls ++ as)).2.1 b).mpr ⟨b, List.mem_append_right _ hb, own.2 b hb⟩)
          generalize upd H19 tu (.tup us) = H20 at *
          refine ⟨_, rfl, _, rfl, pa, tu, vs, us, as, due.map oppL, rfl, e20 _ _ a8, .inr htu0, A8.ex e20, W20, oka, oko, by omega, by omega, fun u5 v5 H21 x21 hu5 V5 => ?_⟩
          rw [eT] at V5
          refine ⟨_, rfl, u5, tu, v5, us, due.map oppL, rfl, hu5, x21 _ _ htu0, V5, W20.ex x21, oko, by omega, fun H22 x22 => ⟨_, rfl, iteF' rfl ?_⟩⟩
          have e22 := (e20.trans x21).trans x22
          clear e20 x21 x22 hu5 V5 W20 W htu0 x19 x20 e18 hus
          -- first
          refine ⟨(by show 0 ≤ sizeLine; decide), fun pe hpe => ?_⟩
          have e23 := e22.trans (Ex.new (o := .tup []) hpe)
          refine ⟨_, rfl, pe, pl, [], ws, [], ls, rfl, upd_same, e23 _ _ p8, Lits.nil, L8.ex e23, (fun _ h => absurd h List.not_mem_nil), ok6, by decide, by omega, fun fu fv H24 x24 hf FL => ?_⟩
          have e24 := e23.trans x24
          have okf : ∀ l ∈ prefL [] ls, LitOk l := fun l hl => by
            rw [← pref_due own_nil, List.append_nil] at hl
            exact ok6 l ((pref_facts ls).2.2 l hl)
          have eF := pref_due (ls := ls) own_nil
          have fT : due.take (prefL [] ls).length = prefL [] ls := by rw [← hdue]; exact pref_first
          have lF : (prefL [] ls).length ≤ 61 := by
            have := congrArg List.length fT
            rw [List.length_take] at this
            omega
          generalize prefL [] ls = first at *
          have lf := FL.len
          clear e23 x24 e22
          refine ⟨fun σ' H' => σ' = [some (.ref a), some (.ref x.b), some (.ref p), some (.ref sm), o4, some (.ref pa), some (.ref pl), o7, some (.ref du), some (.ref ph), some (.ref tu), some (.ref fu), none, none, none] ∧ Ex H8 H', ?_, ?_⟩
          -- preferred((), handed)
          refine ⟨(by show 0 ≤ sizeLine; decide), fun pe2 hpe2 => ?_⟩
          have e25 := e24.trans (Ex.new (o := .tup []) hpe2)
          have f25 := (Ex.new (o := .tup []) hpe2) _ _ hf
          have FL25 := FL.ex (Ex.new (o := .tup []) hpe2)
          refine ⟨_, rfl, pe2, ph, [], ws, [], ls, rfl, upd_same, .inl (e25 _ _ h8), Lits.nil, L8.ex e25, (fun _ h => absurd h List.not_mem_nil), ok6, by decide, by omega, fun u6 v6 H26 x26 hu6 V6 => ?_⟩
          rw [eF] at V6
          have e26 := e25.trans x26
          refine ⟨_, rfl, u6, fu, v6, fv, first, rfl, hu6, x26 _ _ f25, V6, FL25.ex x26, okf, by omega, fun H27 x27 => ⟨_, rfl, iteF' rfl ?_⟩⟩
          have e27 := e26.trans x27
          have f27 := x27 _ _ (x26 _ _ f25)
          have FL27 := (FL25.ex x26).ex x27
          clear e25 e26 hu6 V6
          have shF := (Sh.tuple (sh_lits okf)).sh (by decide)
          have eqF : PyData.eqv (.tuple (first.map litD)) (.tuple (first.map litD)) = true := PySem.SeqAt.eqv_refl _ (Sh.tuple (sh_lits okf)).1
          have DL27 := DL8.ex e27
          refine ⟨_, rfl, _, rfl, fu, fv, rfl, .inr (SqT.of f27), (fv.length : Nat), rfl, du, dv, rfl, SqT.of (e27 _ _ hd8), fun hw => ?_, fun hw ps hps => ?_⟩
          · rw [HT.sIx_nat] at hw
            have hk : due.length ≤ fv.length := by have := hw.2; omega
            have ed : due = first := by rw [← fT, List.take_of_length_le (by omega)]
            refine ⟨_, rfl, .tuple (first.map litD), .tuple (first.map litD), .tup (SqT.of (e27 _ _ hd8)) (by rw [← ed]; exact DL27.dp), .tup (SqT.of f27) FL27.dp, shF, shF, ⟨_, rfl, iteF' (by rw [eqF]; rfl) ⟨rfl, e27⟩⟩⟩
          · have xs := Ex.new (o := .tup (cutV dv none (some (fv.length : Nat)))) hps
            have ec : cutV dv none (some ((fv.length : Nat) : Int)) = dv.take fv.length := by
              unfold cutV
              rw [HT.sIx_none, HT.sIx_nat, Nat.sub_zero, List.drop_zero]
              by_cases hk : fv.length ≤ dv.length
              · rw [Nat.min_eq_left hk]
              · rw [Nat.min_eq_right (by omega), List.take_length, List.take_of_length_le (by omega)]
            have tk : Lits (upd H27 ps (.tup (cutV dv none (some (fv.length : Nat))))) (dv.take fv.length) first := by
              have z := (DL27.ex xs).take fv.length
              rwa [show due.take fv.length = first from by rw [lf]; exact fT] at z
            refine ⟨_, rfl, .tuple (first.map litD), .tuple (first.map litD), .tup (SqT.of upd_same) (by rw [ec] at tk ⊢; exact tk.dp), .tup (SqT.of (xs _ _ f27)) (FL27.ex xs).dp, shF, shF, ⟨_, rfl, iteF' (by rw [eqF]; rfl) ⟨rfl, e27.trans xs⟩⟩⟩
          · rintro σ' H28 ⟨rfl, e28⟩
            clear e24 FL hf
            -- preferred(atoms, ()), preferred((), [])
            refine ⟨_, rfl, (by show 0 ≤ sizeLine; decide), fun pe hpe => ?_⟩
            have e29 := e28.trans (Ex.new (o := .tup []) hpe)
            refine ⟨pa, pe, vs, [], as, [], rfl, e29 _ _ a8, .inr upd_same, A8.ex e29, Lits.nil, oka, (fun _ h => absurd h List.not_mem_nil), by omega, by decide, fun u7 v7 H30 x30 hu7 V7 => ?_⟩
            rw [pref_none as own] at V7
            have e30 := e29.trans x30
            refine ⟨_, rfl, u7, pa, v7, vs, as, rfl, hu7, e30 _ _ a8, V7, A8.ex e30, oka, by omega, fun H31 x31 => ⟨_, rfl, iteF' rfl ?_⟩⟩
            have e31 := e30.trans x31
            refine ⟨(by show 0 ≤ sizeLine; decide), fun q1 hq1 => ⟨(by show 0 ≤ sizeLine; decide), fun q2 hq2 => ?_⟩⟩
            have x32 := Ex.new (o := .tup []) hq1
            have x33 := Ex.new (o := .lst []) hq2
            have e33 := (e31.trans x32).trans x33
            refine ⟨q1, q2, [], [], [], [], rfl, x33 _ _ upd_same, .inl upd_same, Lits.nil, Lits.nil, (fun _ h => absurd h List.not_mem_nil), (fun _ h => absurd h List.not_mem_nil), by decide, by decide, fun u8 v8 H34 x34 hu8 V8 => ?_⟩
            refine ⟨(by show 0 ≤ sizeLine; decide), fun q3 hq3 => ?_⟩
            have x35 := Ex.new (o := .tup []) hq3
            have e35 := (e33.trans x34).trans x35
            refine ⟨u8, q3, v8, [], [], rfl, x35 _ _ hu8, upd_same, V8.ex x35, Lits.nil, (fun _ h => absurd h List.not_mem_nil), by decide, fun H36 x36 => ⟨_, rfl, iteF' rfl ?_⟩⟩
            have e36 := e35.trans x36
            clear e28 e29 e30 e31 e33 e35 x30 x31 x32 x33 x34 x35 x36 V7 V8 hu7 hu8
            -- back
            refine ⟨_, rfl, pl, ws, rfl, .inl (SqL.of (e36 _ _ p8)), (ws.length : Nat), rfl, by omega, by omega, fun D2 hD2 => lc_range (lo := 0) (n := ((ws.length : Nat) : Int).toNat) (fun i H' => Ex H36 H' ∧ ∃ us bs, H' D2 = some (.lst us) ∧ Lits H' us bs ∧ bs.length = i ∧ ∀ l ∈ bs, l ∈ ls)
              ⟨Ex.new hD2, [], [], upd_same, Lits.nil, rfl, fun _ h => absurd h List.not_mem_nil⟩ ?_ ?_⟩
            · rintro i H37 hi ⟨x37, us, bs, hus, B, lb, sub⟩
              have e37 := e36.trans x37
              obtain ⟨l, hl⟩ : ∃ l, ls[ws.length - 1 - i]? = some l := ⟨_, List.getElem?_eq_getElem (show ws.length - 1 - i < ls.length by omega)⟩
              obtain ⟨t, ht1, ht2⟩ := (L8.ex e37).at_ _ l hl
              unfold gName tYes
              dsimp only
              refine ⟨rfl, ?_⟩
              rw [if_pos rfl]
              have lu2 := B.len
              refine ⟨_, rfl, _, rfl, pl, ws, rfl, .inl (SqL.of (e37 _ _ p8)), _, _, rfl, rfl, _, rfl, _, _, rfl, rfl, pl, ws, _, .ref t, rfl, rfl, SqL.of (e37 _ _ p8), at_lit (n := ws.length - 1 - i) (by omega) ht1, us, hus, by omega, Ex.mut x37 hD2, us ++ [V.ref t], bs ++ [l], upd_same, (B.snoc ht2).upd hus, by simp; omega, fun m hm => ?_⟩
              rcases List.mem_append.mp hm with hm | hm
              · exact sub m hm
              · rw [List.mem_singleton.mp hm]; exact List.mem_of_getElem? hl
            · rintro H37 ⟨x37, us, bs, hus, B, lb, sub⟩
              have e37 := e36.trans x37
              have okb : ∀ l ∈ bs, LitOk l := fun l hl => ok6 l (sub l hl)
              have eB := pref_due (ls := bs) own
              have bok : ∀ l ∈ prefL as bs, LitOk l := fun l hl => by
                rw [← eB] at hl
                exact (List.mem_append.mp ((pref_facts (bs ++ as)).2.2 l hl)).elim (okb l) (oka l)
              have blen : (prefL as bs).length ≤ 61 := by
                rw [← eB]
                have := (prefP_len (bs ++ as)).2
                rw [List.length_append] at this
                omega
              refine ⟨_, rfl, _, rfl, pa, D2, vs, us, as, bs, rfl, e37 _ _ a8, .inl hus, A8.ex e37, B, oka, okb, by omega, by omega, fun u9 v9 H38 x38 hu9 V9 => ?_⟩
              rw [eB] at V9
              have e38 := e37.trans x38
              refine ⟨_, rfl, _, rfl, pa, D2, vs, us, as, bs, rfl, e38 _ _ a8, x38 _ _ hus, A8.ex e38, B.ex x38, oka, okb, by omega, by omega, fun u10 v10 H39 x39 hu10 V10 => ?_⟩
              have e39 := e38.trans x39
              refine ⟨u9, u10, v9, v10, prefL as bs, rfl, x39 _ _ hu9, hu10, V9.ex x39, V10, bok, by omega, fun H40 x40 => ⟨_, rfl, iteF' rfl ?_⟩⟩
              have e40 := e39.trans x40
              clear e36 e37 e38 e39 x37 x38 x39 x40 hu9 V9 hu10 V10 eB bok blen okb hus B
              -- each atom once
              refine ⟨_, rfl, _, rfl, pa, vs, rfl, .inr (SqT.of (e40 _ _ a8)), fun pq hpq => ?_⟩
              have x41 := Ex.new (o := .lst vs) hpq
              have e41 := e40.trans x41
              refine ⟨pl, pq, ws, vs, rfl, rfl, e41 _ _ p8, upd_same, by omega, fun pr hpr => ?_⟩
              have x42 := Ex.new (o := .lst (ws ++ vs)) hpr
              have e42 := e41.trans x42
              refine ⟨pr, ws ++ vs, ls ++ as, rfl, upd_same, (L8.ex e42).app (A8.ex e42), fun l hl => (List.mem_append.mp hl).elim (ok6 l) (oka l), by rw [List.length_append]; omega, fun at_ av ms H43 x43 hat AV nd5 mem5 len5 => ?_⟩
              have e43 := e42.trans x43
              refine ⟨at_, rfl, ⟨_, SqT.of hat⟩, for_it (walk_tup (xs := av)) (fun i σ H' => (∃ o4 o7 o12 o13 o14 : Option V, σ = [some (.ref a), some (.ref x.b), some (.ref p), some (.ref sm), o4, some (.ref pa), some (.ref pl), o7, some (.ref du), some (.ref ph), some (.ref tu), some (.ref fu), o12, o13, o14]) ∧ Ex H43 H')
                ⟨⟨_, _, _, _, _, rfl⟩, Ex.refl _⟩ (fun i σ H' _ ⟨_, e⟩ => SqT.of (e _ _ hat)) ?_ ?_⟩
              · rintro i v σ H44 H44' hi ⟨⟨o4, o7, o12, o13, o14, rfl⟩, x44⟩ ⟨rfl, hv⟩
                obtain ⟨tm, m, rfl, hm, htm⟩ := AV.get hv
                have e44 := e43.trans x44
                have okm : LitOk m := by
                  obtain ⟨l, hl, rfl⟩ := (mem5 m).mp (List.mem_of_getElem? hm)
                  exact atom_ok ((List.mem_append.mp hl).elim (ok6 l) (oka l))
                have inm : m ∈ due.map atomL := by
                  rw [← eD]
                  exact ((pref_facts (ls ++ as)).2.1 m).mpr ((mem5 m).mp (List.mem_of_getElem? hm))
                have ndd : (due.map atomL).Nodup := by rw [← eD]; exact (pref_facts (ls ++ as)).1
                refine ⟨_, rfl, du, rfl, ⟨_, SqT.of (e44 _ _ hd8)⟩, fun D3 hD3 => lc_it (H1 := H44') (walk_tup (xs := dv)) (fun i H' => Ex H44' H' ∧ ∃ us, H' D3 = some (.lst us) ∧ us.length = ((due.take i).filter fun l => decide (atomL l = m)).length)
                  ⟨Ex.new hD3, [], upd_same, rfl⟩ (fun i H' _ z => SqT.of (z.1 _ _ (e44 _ _ hd8))) ?_ ?_⟩
                · rintro j v H45 H45' hj ⟨x45, us, hus, ul⟩ ⟨rfl, hv2⟩
                  have e45 := e44.trans x45
                  obtain ⟨t, l, rfl, hl, ht⟩ := (DL8.ex e45).get hv2
                  have tk : due.take (j + 1) = due.take j ++ [l] := by rw [List.take_add_one, hl]; rfl
                  rw [tk, List.filter_append, List.length_append]
                  have okl := dok l (List.mem_of_getElem? hl)
                  have fl : ((due.take j).filter fun l => decide (atomL l = m)).length ≤ 61 := Nat.le_trans (List.length_filter_le _ _) (by rw [List.length_take]; omega)
                  unfold gName
                  dsimp only
                  refine ⟨rfl, ?_⟩
                  refine ⟨_, rfl, t, l, rfl, ht, okl, fun u H46 x46 hu => ?_⟩
                  have tm46 := x46 _ _ (x45 _ _ (x44 _ _ htm))
                  refine ⟨_, rfl, litD (atomL l), litD m, lit_dp (SqT.of hu), lit_dp (SqT.of tm46), (sh_lit (atom_ok okl)).sh (by decide), (sh_lit okm).sh (by decide), ?_⟩
                  rw [eqv_lit]
                  by_cases g : atomL l = m
                  · rw [decide_eq_true g]
                    refine ⟨_, rfl, iteT ⟨_, rfl, us, x46 _ _ hus, by omega, Ex.mut (x45.trans x46) hD3, us ++ [V.ref t], upd_same, ?_⟩⟩
                    simp [g, ul]
                  · rw [decide_eq_false g]
                    refine ⟨_, rfl, iteF ⟨x45.trans x46, us, x46 _ _ hus, ?_⟩⟩
                    simp [g, ul]
                · rintro H45 ⟨x45, us, hus, ul⟩
                  rw [lD, List.take_length, one_of ndd inm] at ul
                  refine ⟨_, rfl, D3, us, rfl, .inl (SqL.of hus), rfl, _, rfl, iteF' (by rw [ul]; rfl) ⟨⟨_, _, _, _, _, rfl⟩, x44.trans x45⟩⟩
              · rintro σ H44 ⟨⟨o4, o7, o12, o13, o14, rfl⟩, x44⟩
                have e44 := e43.trans x44
                have dH : Dp K H44 (.ref ph) (.list (ls.map litD)) := .lst (SqL.of (e44 _ _ h8)) (L8.ex e44).dp
                have dP : Dp K H44 (.ref pl) (.list (ls.map litD)) := .lst (SqL.of (e44 _ _ p8)) (L8.ex e44).dp
                have rpL := (rp_lits ok6 (by omega)).2
                refine ⟨_, rfl, ph, _, _, _, rfl, dH, rpL, by decide, by decide, _, rfl, pl, _, _, _, rfl, dP, rpL, by decide, by decide, rfl, ?_⟩
                rw [decide_eq_true rfl]
                exact q _
end
end B3
set_option maxRecDepth 100000
set_option maxHeartbeats 4000000
namespace B3
open PySem L2 Evl GP
theorem all_mk {l : PySem.W.OpenLaw} {w : World} {K : PySem.W.Frag} {h : Heap} {mg : Str → Option Value} {fa f1 f2 f3 f4 f5 f6 f7 f8 f9 f10 f11 f12 f13 f14 f15 f16 f17 f18 f19 f20 : Addr} (X : K.In h) (G : h.Ns mainGlobals mg) (hfa : mg "law" = some (.ref fa))
    {od1 an1 od2 an2 od3 an3 od4 an4 od5 an5 od6 an6 od7 an7 od8 an8 od9 an9 od10 an10 od11 an11 od12 an12 od13 an13 od14 an14 od15 an15 od16 an16 od17 an17 od18 an18 od19 an19 od20 an20 : Option Addr} {sl1 sl2 sl3 sl4 sl5 sl6 sl7 sl8 sl9 sl10 sl11 sl12 sl13 sl14 sl15 sl16 sl17 sl18 sl19 sl20 : Array (Option Value)} {oc1 kV1 dc1 pm1 cd1 ct1 oc2 kV2 dc2 pm2 cd2 ct2 oc3 kV3 dc3 pm3 cd3 ct3 oc4 kV4 dc4 pm4 cd4 ct4 oc5 kV5 dc5 pm5 cd5 ct5 oc6 kV6 dc6 pm6 cd6 ct6 oc7 kV7 dc7 pm7 cd7 ct7 oc8 kV8 dc8 pm8 cd8 ct8 oc9 kV9 dc9 pm9 cd9 ct9 oc10 kV10 dc10 pm10 cd10 ct10 oc11 kV11 dc11 pm11 cd11 ct11 oc12 kV12 dc12 pm12 cd12 ct12 oc13 kV13 dc13 pm13 cd13 ct13 oc14 kV14 dc14 pm14 cd14 ct14 oc15 kV15 dc15 pm15 cd15 ct15 oc16 kV16 dc16 pm16 cd16 ct16 oc17 kV17 dc17 pm17 cd17 ct17 oc18 kV18 dc18 pm18 cd18 ct18 oc19 kV19 dc19 pm19 cd19 ct19 oc20 kV20 dc20 pm20 cd20 ct20 : Value}
    {t1 t2 t3 : Tok}
    (a1 : PySem.W.nsIn K mainGlobals "is_name" = some (some (.ref f1)))
    (l1 : K.lookup f1 = some ⟨oc1, od1, .func (PySem.W.fnOf "is_name" "is_name" (defArgs s_is_name) (defBody s_is_name) (defScope s_is_name) .none kV1 dc1 pm1 an1 cd1 ct1), sl1⟩)
    (c1 : PySem.W.codeIn K cd1 "is_name" = true)
    (k1 : PySem.W.keepIn K (.ref f1) = true)
    (a2 : PySem.W.nsIn K mainGlobals "is_integer" = some (some (.ref f2)))
    (l2 : K.lookup f2 = some ⟨oc2, od2, .func (PySem.W.fnOf "is_integer" "is_integer" (defArgs s_is_integer) (defBody s_is_integer) (defScope s_is_integer) .none kV2 dc2 pm2 an2 cd2 ct2), sl2⟩)
    (c2 : PySem.W.codeIn K cd2 "is_integer" = true)
    (k2 : PySem.W.keepIn K (.ref f2) = true)
    (a3 : PySem.W.nsIn K mainGlobals "is_bound" = some (some (.ref f3)))
    (l3 : K.lookup f3 = some ⟨oc3, od3, .func (PySem.W.fnOf "is_bound" "is_bound" (defArgs s_is_bound) (defBody s_is_bound) (defScope s_is_bound) .none kV3 dc3 pm3 an3 cd3 ct3), sl3⟩)
    (c3 : PySem.W.codeIn K cd3 "is_bound" = true)
    (k3 : PySem.W.keepIn K (.ref f3) = true)
    (a4 : PySem.W.nsIn K mainGlobals "is_literal" = some (some (.ref f4)))
    (l4 : K.lookup f4 = some ⟨oc4, od4, .func (PySem.W.fnOf "is_literal" "is_literal" (defArgs s_is_literal) (defBody s_is_literal) (defScope s_is_literal) .none kV4 dc4 pm4 an4 cd4 ct4), sl4⟩)
    (c4 : PySem.W.codeIn K cd4 "is_literal" = true)
    (k4 : PySem.W.keepIn K (.ref f4) = true)
    (a5 : PySem.W.nsIn K mainGlobals "check_literal" = some (some (.ref f5)))
    (l5 : K.lookup f5 = some ⟨oc5, od5, .func (PySem.W.fnOf "check_literal" "check_literal" (defArgs s_check_literal) (defBody s_check_literal) (defScope s_check_literal) .none kV5 dc5 pm5 an5 cd5 ct5), sl5⟩)
    (c5 : PySem.W.codeIn K cd5 "check_literal" = true)
    (k5 : PySem.W.keepIn K (.ref f5) = true)
    (a6 : PySem.W.nsIn K mainGlobals "opposite" = some (some (.ref f6)))
    (l6 : K.lookup f6 = some ⟨oc6, od6, .func (PySem.W.fnOf "opposite" "opposite" (defArgs s_opposite) (defBody s_opposite) (defScope s_opposite) .none kV6 dc6 pm6 an6 cd6 ct6), sl6⟩)
    (c6 : PySem.W.codeIn K cd6 "opposite" = true)
    (k6 : PySem.W.keepIn K (.ref f6) = true)
    (a7 : PySem.W.nsIn K mainGlobals "atom_of" = some (some (.ref f7)))
    (l7 : K.lookup f7 = some ⟨oc7, od7, .func (PySem.W.fnOf "atom_of" "atom_of" (defArgs s_atom_of) (defBody s_atom_of) (defScope s_atom_of) .none kV7 dc7 pm7 an7 cd7 ct7), sl7⟩)
    (c7 : PySem.W.codeIn K cd7 "atom_of" = true)
    (k7 : PySem.W.keepIn K (.ref f7) = true)
    (a8 : PySem.W.nsIn K mainGlobals "preferred" = some (some (.ref f8)))
    (l8 : K.lookup f8 = some ⟨oc8, od8, .func (PySem.W.fnOf "preferred" "preferred" (defArgs s_preferred) (defBody s_preferred) (defScope s_preferred) .none kV8 dc8 pm8 an8 cd8 ct8), sl8⟩)
    (c8 : PySem.W.codeIn K cd8 "preferred" = true)
    (k8 : PySem.W.keepIn K (.ref f8) = true)
    (a9 : PySem.W.nsIn K mainGlobals "_law_open" = some (some (.ref f9)))
    (l9 : K.lookup f9 = some ⟨oc9, od9, .func (PySem.W.fnOf "_law_open" "_law_open" (defArgs s_law_open) (defBody s_law_open) (defScope s_law_open) .none kV9 dc9 pm9 an9 cd9 ct9), sl9⟩)
    (c9 : PySem.W.codeIn K cd9 "_law_open" = true)
    (k9 : PySem.W.keepIn K (.ref f9) = true)
    (a10 : PySem.W.nsIn K mainGlobals "_law_draw" = some (some (.ref f10)))
    (l10 : K.lookup f10 = some ⟨oc10, od10, .func (PySem.W.fnOf "_law_draw" "_law_draw" (defArgs s_law_draw) (defBody s_law_draw) (defScope s_law_draw) .none kV10 dc10 pm10 an10 cd10 ct10), sl10⟩)
    (c10 : PySem.W.codeIn K cd10 "_law_draw" = true)
    (k10 : PySem.W.keepIn K (.ref f10) = true)
    (a11 : PySem.W.nsIn K mainGlobals "_law_other" = some (some (.ref f11)))
    (l11 : K.lookup f11 = some ⟨oc11, od11, .func (PySem.W.fnOf "_law_other" "_law_other" (defArgs s_law_other) (defBody s_law_other) (defScope s_law_other) .none kV11 dc11 pm11 an11 cd11 ct11), sl11⟩)
    (c11 : PySem.W.codeIn K cd11 "_law_other" = true)
    (k11 : PySem.W.keepIn K (.ref f11) = true)
    (a12 : PySem.W.nsIn K mainGlobals "_law_atom" = some (some (.ref f12)))
    (l12 : K.lookup f12 = some ⟨oc12, od12, .func (PySem.W.fnOf "_law_atom" "_law_atom" (defArgs s_law_atom) (defBody s_law_atom) (defScope s_law_atom) .none kV12 dc12 pm12 an12 cd12 ct12), sl12⟩)
    (c12 : PySem.W.codeIn K cd12 "_law_atom" = true)
    (k12 : PySem.W.keepIn K (.ref f12) = true)
    (a13 : PySem.W.nsIn K mainGlobals "_law_atoms" = some (some (.ref f13)))
    (l13 : K.lookup f13 = some ⟨oc13, od13, .func (PySem.W.fnOf "_law_atoms" "_law_atoms" (defArgs s_law_atoms) (defBody s_law_atoms) (defScope s_law_atoms) .none kV13 dc13 pm13 an13 cd13 ct13), sl13⟩)
    (c13 : PySem.W.codeIn K cd13 "_law_atoms" = true)
    (k13 : PySem.W.keepIn K (.ref f13) = true)
    (a14 : PySem.W.nsIn K mainGlobals "_law_names" = some (some (.ref f14)))
    (l14 : K.lookup f14 = some ⟨oc14, od14, .func (PySem.W.fnOf "_law_names" "_law_names" (defArgs s_law_names) (defBody s_law_names) (defScope s_law_names) .none kV14 dc14 pm14 an14 cd14 ct14), sl14⟩)
    (c14 : PySem.W.codeIn K cd14 "_law_names" = true)
    (k14 : PySem.W.keepIn K (.ref f14) = true)
    (a15 : PySem.W.nsIn K mainGlobals "_law_integer" = some (some (.ref f15)))
    (l15 : K.lookup f15 = some ⟨oc15, od15, .func (PySem.W.fnOf "_law_integer" "_law_integer" (defArgs s_law_integer) (defBody s_law_integer) (defScope s_law_integer) .none kV15 dc15 pm15 an15 cd15 ct15), sl15⟩)
    (c15 : PySem.W.codeIn K cd15 "_law_integer" = true)
    (k15 : PySem.W.keepIn K (.ref f15) = true)
    (a16 : PySem.W.nsIn K mainGlobals "_law_pick" = some (some (.ref f16)))
    (l16 : K.lookup f16 = some ⟨oc16, od16, .func (PySem.W.fnOf "_law_pick" "_law_pick" (defArgs s_law_pick) (defBody s_law_pick) (defScope s_law_pick) .none kV16 dc16 pm16 an16 cd16 ct16), sl16⟩)
    (c16 : PySem.W.codeIn K cd16 "_law_pick" = true)
    (k16 : PySem.W.keepIn K (.ref f16) = true)
    (a17 : PySem.W.nsIn K mainGlobals "_law_pool" = some (some (.ref f17)))
    (l17 : K.lookup f17 = some ⟨oc17, od17, .func (PySem.W.fnOf "_law_pool" "_law_pool" (defArgs s_law_pool) (defBody s_law_pool) (defScope s_law_pool) .none kV17 dc17 pm17 an17 cd17 ct17), sl17⟩)
    (c17 : PySem.W.codeIn K cd17 "_law_pool" = true)
    (k17 : PySem.W.keepIn K (.ref f17) = true)
    (a18 : PySem.W.nsIn K mainGlobals "_law_preferred" = some (some (.ref f18)))
    (l18 : K.lookup f18 = some ⟨oc18, od18, .func (PySem.W.fnOf "_law_preferred" "_law_preferred" (defArgs s_law_preferred) (defBody s_law_preferred) (defScope s_law_preferred) .none kV18 dc18 pm18 an18 cd18 ct18), sl18⟩)
    (c18 : PySem.W.codeIn K cd18 "_law_preferred" = true)
    (k18 : PySem.W.keepIn K (.ref f18) = true)
    (a19 : PySem.W.nsIn K mainGlobals "_law_is" = some (some (.ref f19)))
    (l19 : K.lookup f19 = some ⟨oc19, od19, .func (PySem.W.fnOf "_law_is" "_law_is" (defArgs s_law_is) (defBody s_law_is) (defScope s_law_is) .none kV19 dc19 pm19 an19 cd19 ct19), sl19⟩)
    (c19 : PySem.W.codeIn K cd19 "_law_is" = true)
    (k19 : PySem.W.keepIn K (.ref f19) = true)
    (a20 : PySem.W.nsIn K mainGlobals "law" = some (some (.ref f20)))
    (l20 : K.lookup f20 = some ⟨oc20, od20, .func (PySem.W.fnOf "law" "law" (defArgs s_law) (defBody s_law) (defScope s_law) .none kV20 dc20 pm20 an20 cd20 ct20), sl20⟩)
    (c20 : PySem.W.codeIn K cd20 "law" = true)
    (k20 : PySem.W.keepIn K (.ref f20) = true)
    (z_isinstance : PySem.W.nsIn K mainGlobals "isinstance" = some none)
    (z_str : PySem.W.nsIn K mainGlobals "str" = some none)
    (z_int : PySem.W.nsIn K mainGlobals "int" = some none)
    (z_bool : PySem.W.nsIn K mainGlobals "bool" = some none)
    (z_tuple : PySem.W.nsIn K mainGlobals "tuple" = some none)
    (z_list : PySem.W.nsIn K mainGlobals "list" = some none)
    (z_len : PySem.W.nsIn K mainGlobals "len" = some none)
    (z_range : PySem.W.nsIn K mainGlobals "range" = some none)
    (z_sorted : PySem.W.nsIn K mainGlobals "sorted" = some none)
    (z_abs : PySem.W.nsIn K mainGlobals "abs" = some none)
    (z_max : PySem.W.nsIn K mainGlobals "max" = some none)
    (z_repr : PySem.W.nsIn K mainGlobals "repr" = some none)
    (aLt : PySem.W.nsIn K mainGlobals "LETTERS" = some (some (.str letters t1)))
    (aSg : PySem.W.nsIn K mainGlobals "SIGNS" = some (some (.str signs t2)))
    (aLn : PySem.W.nsIn K mainGlobals "LONGEST_NAME" = some (some (.int 8 t3))) :
    ∃ fd : FuncData, (∀ (s : Shared) (v : Value), BindsTo s fd ⟨[v], []⟩ [("script", v)]) ∧ ∀ base : Heap, K.In base → base.Ns mainGlobals mg → FnG l.prog w K mg base 7 fa fd ["script"] (spLaw K) := by
  have e := hfa.symm.trans (PySem.W.mg_of X G a20)
  cases e
  have g1 := PySem.W.mg_of X G a1
  have F1 := fun_mk (st := s_is_name) l1 c1 k1
  have b1 := F1.binds (ps := ["value"]) fun _ _ _ _ _ _ us hl => match us, hl with | [_], _ => rfl
  have g2 := PySem.W.mg_of X G a2
  have F2 := fun_mk (st := s_is_integer) l2 c2 k2
  have b2 := F2.binds (ps := ["value"]) fun _ _ _ _ _ _ us hl => match us, hl with | [_], _ => rfl
  have g3 := PySem.W.mg_of X G a3
  have F3 := fun_mk (st := s_is_bound) l3 c3 k3
  have b3 := F3.binds (ps := ["value"]) fun _ _ _ _ _ _ us hl => match us, hl with | [_], _ => rfl
  have g4 := PySem.W.mg_of X G a4
  have F4 := fun_mk (st := s_is_literal) l4 c4 k4
  have b4 := F4.binds (ps := ["value"]) fun _ _ _ _ _ _ us hl => match us, hl with | [_], _ => rfl
  have g5 := PySem.W.mg_of X G a5
  have F5 := fun_mk (st := s_check_literal) l5 c5 k5
  have b5 := F5.binds (ps := ["value"]) fun _ _ _ _ _ _ us hl => match us, hl with | [_], _ => rfl
  have g6 := PySem.W.mg_of X G a6
  have F6 := fun_mk (st := s_opposite) l6 c6 k6
  have b6 := F6.binds (ps := ["literal"]) fun _ _ _ _ _ _ us hl => match us, hl with | [_], _ => rfl
  have g7 := PySem.W.mg_of X G a7
  have F7 := fun_mk (st := s_atom_of) l7 c7 k7
  have b7 := F7.binds (ps := ["literal"]) fun _ _ _ _ _ _ us hl => match us, hl with | [_], _ => rfl
  have g8 := PySem.W.mg_of X G a8
  have F8 := fun_mk (st := s_preferred) l8 c8 k8
  have b8 := F8.binds (ps := ["atoms", "order"]) fun _ _ _ _ _ _ us hl => match us, hl with | [_, _], _ => rfl
  have g9 := PySem.W.mg_of X G a9
  have F9 := fun_mk (st := s_law_open) l9 c9 k9
  have b9 := F9.binds (ps := ["script"]) fun _ _ _ _ _ _ us hl => match us, hl with | [_], _ => rfl
  have g10 := PySem.W.mg_of X G a10
  have F10 := fun_mk (st := s_law_draw) l10 c10 k10
  have b10 := F10.binds (ps := ["box", "size"]) fun _ _ _ _ _ _ us hl => match us, hl with | [_, _], _ => rfl
  have g11 := PySem.W.mg_of X G a11
  have F11 := fun_mk (st := s_law_other) l11 c11 k11
  have b11 := F11.binds (ps := ["literal"]) fun _ _ _ _ _ _ us hl => match us, hl with | [_], _ => rfl
  have g12 := PySem.W.mg_of X G a12
  have F12 := fun_mk (st := s_law_atom) l12 c12 k12
  have b12 := F12.binds (ps := ["literal"]) fun _ _ _ _ _ _ us hl => match us, hl with | [_], _ => rfl
  have g13 := PySem.W.mg_of X G a13
  have F13 := fun_mk (st := s_law_atoms) l13 c13 k13
  have b13 := F13.binds (ps := ["literals"]) fun _ _ _ _ _ _ us hl => match us, hl with | [_], _ => rfl
  have g14 := PySem.W.mg_of X G a14
  have F14 := fun_mk (st := s_law_names) l14 c14 k14
  have b14 := F14.binds (ps := ["box", "count"]) fun _ _ _ _ _ _ us hl => match us, hl with | [_, _], _ => rfl
  have g15 := PySem.W.mg_of X G a15
  have F15 := fun_mk (st := s_law_integer) l15 c15 k15
  have b15 := F15.binds (ps := ["box"]) fun _ _ _ _ _ _ us hl => match us, hl with | [_], _ => rfl
  have g16 := PySem.W.mg_of X G a16
  have F16 := fun_mk (st := s_law_pick) l16 c16 k16
  have b16 := F16.binds (ps := ["box", "pool"]) fun _ _ _ _ _ _ us hl => match us, hl with | [_, _], _ => rfl
  have g17 := PySem.W.mg_of X G a17
  have F17 := fun_mk (st := s_law_pool) l17 c17 k17
  have b17 := F17.binds (ps := ["box"]) fun _ _ _ _ _ _ us hl => match us, hl with | [_], _ => rfl
  have g18 := PySem.W.mg_of X G a18
  have F18 := fun_mk (st := s_law_preferred) l18 c18 k18
  have b18 := F18.binds (ps := ["atoms", "listed"]) fun _ _ _ _ _ _ us hl => match us, hl with | [_, _], _ => rfl
  have g19 := PySem.W.mg_of X G a19
  have F19 := fun_mk (st := s_law_is) l19 c19 k19
  have b19 := F19.binds (ps := ["actual", "due"]) fun _ _ _ _ _ _ us hl => match us, hl with | [_, _], _ => rfl
  have g20 := PySem.W.mg_of X G a20
  have F20 := fun_mk (st := s_law) l20 c20 k20
  have b20 := F20.binds (ps := ["script"]) fun _ _ _ _ _ _ us hl => match us, hl with | [_], _ => rfl
  have n_isinstance := PySem.W.mg_none_of X G z_isinstance
  have n_str := PySem.W.mg_none_of X G z_str
  have n_int := PySem.W.mg_none_of X G z_int
  have n_bool := PySem.W.mg_none_of X G z_bool
  have n_tuple := PySem.W.mg_none_of X G z_tuple
  have n_list := PySem.W.mg_none_of X G z_list
  have n_len := PySem.W.mg_none_of X G z_len
  have n_range := PySem.W.mg_none_of X G z_range
  have n_sorted := PySem.W.mg_none_of X G z_sorted
  have n_abs := PySem.W.mg_none_of X G z_abs
  have n_max := PySem.W.mg_none_of X G z_max
  have n_repr := PySem.W.mg_none_of X G z_repr
  let a : Ad := { a_is_name := f1, a_is_integer := f2, a_is_bound := f3, a_is_literal := f4, a_check_literal := f5, a_opposite := f6, a_atom_of := f7, a_preferred := f8, a_law_open := f9, a_law_draw := f10, a_law_other := f11, a_law_atom := f12, a_law_atoms := f13, a_law_names := f14, a_law_integer := f15, a_law_pick := f16, a_law_pool := f17, a_law_preferred := f18, a_law_is := f19, a_law := fa, tL := t1, tS := t2, tN := t3 }
  let d : Fd := { a_is_name := PySem.W.fnOf "is_name" "is_name" (defArgs s_is_name) (defBody s_is_name) (defScope s_is_name) .none kV1 dc1 pm1 an1 cd1 ct1, a_is_integer := PySem.W.fnOf "is_integer" "is_integer" (defArgs s_is_integer) (defBody s_is_integer) (defScope s_is_integer) .none kV2 dc2 pm2 an2 cd2 ct2, a_is_bound := PySem.W.fnOf "is_bound" "is_bound" (defArgs s_is_bound) (defBody s_is_bound) (defScope s_is_bound) .none kV3 dc3 pm3 an3 cd3 ct3, a_is_literal := PySem.W.fnOf "is_literal" "is_literal" (defArgs s_is_literal) (defBody s_is_literal) (defScope s_is_literal) .none kV4 dc4 pm4 an4 cd4 ct4, a_check_literal := PySem.W.fnOf "check_literal" "check_literal" (defArgs s_check_literal) (defBody s_check_literal) (defScope s_check_literal) .none kV5 dc5 pm5 an5 cd5 ct5, a_opposite := PySem.W.fnOf "opposite" "opposite" (defArgs s_opposite) (defBody s_opposite) (defScope s_opposite) .none kV6 dc6 pm6 an6 cd6 ct6, a_atom_of := PySem.W.fnOf "atom_of" "atom_of" (defArgs s_atom_of) (defBody s_atom_of) (defScope s_atom_of) .none kV7 dc7 pm7 an7 cd7 ct7, a_preferred := PySem.W.fnOf "preferred" "preferred" (defArgs s_preferred) (defBody s_preferred) (defScope s_preferred) .none kV8 dc8 pm8 an8 cd8 ct8, a_law_open := PySem.W.fnOf "_law_open" "_law_open" (defArgs s_law_open) (defBody s_law_open) (defScope s_law_open) .none kV9 dc9 pm9 an9 cd9 ct9, a_law_draw := PySem.W.fnOf "_law_draw" "_law_draw" (defArgs s_law_draw) (defBody s_law_draw) (defScope s_law_draw) .none kV10 dc10 pm10 an10 cd10 ct10, a_law_other := PySem.W.fnOf "_law_other" "_law_other" (defArgs s_law_other) (defBody s_law_other) (defScope s_law_other) .none kV11 dc11 pm11 an11 cd11 ct11, a_law_atom := PySem.W.fnOf "_law_atom" "_law_atom" (defArgs s_law_atom) (defBody s_law_atom) (defScope s_law_atom) .none kV12 dc12 pm12 an12 cd12 ct12, a_law_atoms := PySem.W.fnOf "_law_atoms" "_law_atoms" (defArgs s_law_atoms) (defBody s_law_atoms) (defScope s_law_atoms) .none kV13 dc13 pm13 an13 cd13 ct13, a_law_names := PySem.W.fnOf "_law_names" "_law_names" (defArgs s_law_names) (defBody s_law_names) (defScope s_law_names) .none kV14 dc14 pm14 an14 cd14 ct14, a_law_integer := PySem.W.fnOf "_law_integer" "_law_integer" (defArgs s_law_integer) (defBody s_law_integer) (defScope s_law_integer) .none kV15 dc15 pm15 an15 cd15 ct15, a_law_pick := PySem.W.fnOf "_law_pick" "_law_pick" (defArgs s_law_pick) (defBody s_law_pick) (defScope s_law_pick) .none kV16 dc16 pm16 an16 cd16 ct16, a_law_pool := PySem.W.fnOf "_law_pool" "_law_pool" (defArgs s_law_pool) (defBody s_law_pool) (defScope s_law_pool) .none kV17 dc17 pm17 an17 cd17 ct17, a_law_preferred := PySem.W.fnOf "_law_preferred" "_law_preferred" (defArgs s_law_preferred) (defBody s_law_preferred) (defScope s_law_preferred) .none kV18 dc18 pm18 an18 cd18 ct18, a_law_is := PySem.W.fnOf "_law_is" "_law_is" (defArgs s_law_is) (defBody s_law_is) (defScope s_law_is) .none kV19 dc19 pm19 an19 cd19 ct19, a_law := PySem.W.fnOf "law" "law" (defArgs s_law) (defBody s_law) (defScope s_law) .none kV20 dc20 pm20 an20 cd20 ct20 }
  have T : TX K mg a := { b_isinstance := n_isinstance, b_str := n_str, b_int := n_int, b_bool := n_bool, b_tuple := n_tuple, b_list := n_list, b_len := n_len, b_range := n_range, b_sorted := n_sorted, b_abs := n_abs, b_max := n_max, b_repr := n_repr, g_LETTERS := PySem.W.mg_of X G aLt, g_SIGNS := PySem.W.mg_of X G aSg, g_LONGEST_NAME := PySem.W.mg_of X G aLn, f_is_name := g1, k_is_name := k1, f_is_integer := g2, k_is_integer := k2, f_is_bound := g3, k_is_bound := k3, f_is_literal := g4, k_is_literal := k4, f_check_literal := g5, k_check_literal := k5, f_opposite := g6, k_opposite := k6, f_atom_of := g7, k_atom_of := k7, f_preferred := g8, k_preferred := k8, f__law_open := g9, k__law_open := k9, f__law_draw := g10, k__law_draw := k10, f__law_other := g11, k__law_other := k11, f__law_atom := g12, k__law_atom := k12, f__law_atoms := g13, k__law_atoms := k13, f__law_names := g14, k__law_names := k14, f__law_integer := g15, k__law_integer := k15, f__law_pick := g16, k__law_pick := k16, f__law_pool := g17, k__law_pool := k17, f__law_preferred := g18, k__law_preferred := k18, f__law_is := g19, k__law_is := k19, f_law := g20, k_law := k20 }
  have D : FDS K a d := { F_is_name := F1, B_is_name := b1, F_is_integer := F2, B_is_integer := b2, F_is_bound := F3, B_is_bound := b3, F_is_literal := F4, B_is_literal := b4, F_check_literal := F5, B_check_literal := b5, F_opposite := F6, B_opposite := b6, F_atom_of := F7, B_atom_of := b7, F_preferred := F8, B_preferred := b8, F__law_open := F9, B__law_open := b9, F__law_draw := F10, B__law_draw := b10, F__law_other := F11, B__law_other := b11, F__law_atom := F12, B__law_atom := b12, F__law_atoms := F13, B__law_atoms := b13, F__law_names := F14, B__law_names := b14, F__law_integer := F15, B__law_integer := b15, F__law_pick := F16, B__law_pick := b16, F__law_pool := F17, B__law_pool := b17, F__law_preferred := F18, B__law_preferred := b18, F__law_is := F19, B__law_is := b19, F_law := F20, B_law := b20 }
  exact ⟨d.a_law, fun s v => .of_eq rfl, fun base _ _ => ok_law (P := l.prog) (w := w) (base := base) T D⟩
theorem walk {l : PySem.W.OpenLaw} {q : Program} {loose : List Str} {XP : (Str → Option Value) → Heap → Prop} {YP : World → Heap → Prop} {d : DefRec} {K : Params → PySem.W.Frag} (hn : l.most = some 63) (hdf : d.params.defaults = [])
    (hY : ∀ (w : World) (h : Heap), YP w h → (K w.params).In h)
    (H : ∀ (w : World) (mg : Str → Option Value) (fa : Addr) (h : Heap), (K w.params).In h → h.Ns mainGlobals mg → mg d.name = some (.ref fa) →
      ∃ fd : FuncData, (∀ (s : Shared) (u : Value), BindsTo s fd ⟨[u], []⟩ [("script", u)]) ∧ ∀ base : Heap, (K w.params).In base → base.Ns mainGlobals mg → FnG l.prog w (K w.params) mg base 7 fa fd ["script"] (spLaw (K w.params))) :
    PySem.W.WalkO q loose XP YP l.row.toRowW d [] (fun f vs => PySem.call f vs) :=
  walk_ofG (n := 63) (k := 7) (x := "script") (sp := fun w => spLaw (K w.params)) hn (by decide) hdf ⟨rfl, by decide, by decide⟩ hY H (fun _ _ a ns hl _ hS => ⟨a, ns, rfl, hS, fun _ => rfl⟩)
end B3
set_option maxRecDepth 100000
open PySem PySem.W PyProof.Rows in
set_option maxRecDepth 100000 in
set_option maxHeartbeats 0 in
theorem PySem.Challenge.cw_ringclause_k33_preferred_list_holds : PySem.Challenge.rw_ringclause_k33_preferred_list.Holds := by
  w_on; o_law; k_head; (case hw => w_witness2)
  k_fill
  refine B3.walk (l := PySem.Challenge.rw_ringclause_k33_preferred_list) rfl rfl (fun w h Y => PySem.W.kIn_of Y) ?F
  case F =>
    intro w mg fa h KX G hmg
    refine' B3.all_mk KX G hmg ?a1 ?l1 ?c1 ?k1 ?a2 ?l2 ?c2 ?k2 ?a3 ?l3 ?c3 ?k3 ?a4 ?l4 ?c4 ?k4 ?a5 ?l5 ?c5 ?k5 ?a6 ?l6 ?c6 ?k6 ?a7 ?l7 ?c7 ?k7 ?a8 ?l8 ?c8 ?k8 ?a9 ?l9 ?c9 ?k9 ?a10 ?l10 ?c10 ?k10 ?a11 ?l11 ?c11 ?k11 ?a12 ?l12 ?c12 ?k12 ?a13 ?l13 ?c13 ?k13 ?a14 ?l14 ?c14 ?k14 ?a15 ?l15 ?c15 ?k15 ?a16 ?l16 ?c16 ?k16 ?a17 ?l17 ?c17 ?k17 ?a18 ?l18 ?c18 ?k18 ?a19 ?l19 ?c19 ?k19 ?a20 ?l20 ?c20 ?k20 ?z_isinstance ?z_str ?z_int ?z_bool ?z_tuple ?z_list ?z_len ?z_range ?z_sorted ?z_abs ?z_max ?z_repr ?aLt ?aSg ?aLn
    (case a1 => k_is)
    (case l1 => k_is)
    (case c1 => k_is)
    (case k1 => k_is)
    (case a2 => k_is)
    (case l2 => k_is)
    (case c2 => k_is)
    (case k2 => k_is)
    (case a3 => k_is)
    (case l3 => k_is)
    (case c3 => k_is)
    (case k3 => k_is)
    (case a4 => k_is)
    (case l4 => k_is)
    (case c4 => k_is)
    (case k4 => k_is)
    (case a5 => k_is)
    (case l5 => k_is)
    (case c5 => k_is)
    (case k5 => k_is)
    (case a6 => k_is)
    (case l6 => k_is)
    (case c6 => k_is)
    (case k6 => k_is)
    (case a7 => k_is)
    (case l7 => k_is)
    (case c7 => k_is)
    (case k7 => k_is)
    (case a8 => k_is)
    (case l8 => k_is)
    (case c8 => k_is)
    (case k8 => k_is)
    (case a9 => k_is)
    (case l9 => k_is)
    (case c9 => k_is)
    (case k9 => k_is)
    (case a10 => k_is)
    (case l10 => k_is)
    (case c10 => k_is)
    (case k10 => k_is)
    (case a11 => k_is)
    (case l11 => k_is)
    (case c11 => k_is)
    (case k11 => k_is)
    (case a12 => k_is)
    (case l12 => k_is)
    (case c12 => k_is)
    (case k12 => k_is)
    (case a13 => k_is)
    (case l13 => k_is)
    (case c13 => k_is)
    (case k13 => k_is)
    (case a14 => k_is)
    (case l14 => k_is)
    (case c14 => k_is)
    (case k14 => k_is)
    (case a15 => k_is)
    (case l15 => k_is)
    (case c15 => k_is)
    (case k15 => k_is)
    (case a16 => k_is)
    (case l16 => k_is)
    (case c16 => k_is)
    (case k16 => k_is)
    (case a17 => k_is)
    (case l17 => k_is)
    (case c17 => k_is)
    (case k17 => k_is)
    (case a18 => k_is)
    (case l18 => k_is)
    (case c18 => k_is)
    (case k18 => k_is)
    (case a19 => k_is)
    (case l19 => k_is)
    (case c19 => k_is)
    (case k19 => k_is)
    (case a20 => k_is)
    (case l20 => k_is)
    (case c20 => k_is)
    (case k20 => k_is)
    (case z_isinstance => k_is)
    (case z_str => k_is)
    (case z_int => k_is)
    (case z_bool => k_is)
    (case z_tuple => k_is)
    (case z_list => k_is)
    (case z_len => k_is)
    (case z_range => k_is)
    (case z_sorted => k_is)
    (case z_abs => k_is)
    (case z_max => k_is)
    (case z_repr => k_is)
    (case aLt => k_is)
    (case aSg => k_is)
    (case aLn => k_is)
