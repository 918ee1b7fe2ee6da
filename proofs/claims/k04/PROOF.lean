import PyProof.Rows.All
import Wide.All
import OpenK.AllK
import Wide.FinOn
import KE.KExcSuper
import HandS.ForExc
import HandS.SetTxt0
import HandS.ForMost
import HandS.Set
import HandS.SetFor
import HandS.Strs
import PyProof.Rows.SortStr
import PyProof.Rows.SortShellK
import HandS.HotCalls
import HandS.ExcIs
import KE.KExcIs
import HandS.IsInst
import HandS.ExcField
import HandS.Wide
import HandS.Walk
import HandS.Evl
import HandS.Zip
import HandS.StrMore
import PyProof.Rows.StrCut
import PySem.Challenge.RW_ringclause_k04_texts_of_values
import HandS.FStr
import HandS.Deep
import HandS.NoneIn
import HandS.Star
import HandS.StrSplit
import KE.IntTextLaws
import PyProof.StrBlock2
import PyProof.Rows.StrSplitCount
import PyProof.Rows.ReprOcc
import KE.RegKSuper
set_option Elab.async false
set_option linter.all false
set_option maxRecDepth 100000
set_option maxHeartbeats 4000000
/-! An own exception over ValueError whose __init__ is: super().__init__('..'); self.f = f -/
namespace PySem
namespace Sup
open PySem.W PySem.Calls PyProof.Rows PySem.HandSPX

def sArgs (fld : Str) (p1 p2 : Pos) : Arguments :=
  { posonlyargs := [], args := [{ arg := "self", annotation := none, pos := p1 }, { arg := fld, annotation := none, pos := p2 }], vararg := none, kwonlyargs := [], kw_defaults := [], kwarg := none, defaults := [] }
def sBody (fld msg : Str) (a1 a2 a3 a4 a5 a6 b1 b2 b3 b4 : Pos) : List Stmt :=
  [.Expr (.Call (.Attribute (.Call (.Name "super" a1) [] [] a2) "__init__" a3) [.Constant (.str msg) 0 a4] [] a5) a6,
   .Assign [.Attribute (.Name "self" b1) fld b2] (.Name fld b3) b4]
def sScope (fld : Str) : Scope :=
  { kind := .function, names := [(PySem.Str.ofString "self", .local), (fld, .local), (PySem.Str.ofString "__class__", .free), (PySem.Str.ofString "super", .globalImplicit)], isGenerator := false, isCoroutine := false, more := [] }

abbrev sFn (fld msg qual : Str) (p1 p2 a1 a2 a3 a4 a5 a6 b1 b2 b3 b4 : Pos) (doc pm : Value) (an : Option Addr) (cda cc : Addr) (ct : Value) : FuncData :=
  fnX "__init__" qual (sArgs fld p1 p2) (sBody fld msg a1 a2 a3 a4 a5 a6 b1 b2 b3 b4) (sScope fld) [("__class__", cc)] .none .none doc pm an (.ref cda) ct
/-- the field's name is none of the other names; what follows from it, each by rfl -/
structure FldOk (fld : Str) : Prop where
  bd : ∀ (msg qual : Str) (p1 p2 a1 a2 a3 a4 a5 a6 b1 b2 b3 b4 : Pos) (doc pm : Value) (an : Option Addr) (cda cc : Addr) (ct u v : Value),
    bindArgs (sFn fld msg qual p1 p2 a1 a2 a3 a4 a5 a6 b1 b2 b3 b4 doc pm an cda cc ct) ⟨[u, v], []⟩ = pure [(("self" : Str), u), (fld, v)]
  lf : (sScope fld).names.lookup fld = some .local
  lc : (sScope fld).names.lookup ("__class__" : Str) = some .free
  ls : (sScope fld).names.lookup ("super" : Str) = some .globalImplicit
  nd : (fld == ("__debug__" : Str)) = false
  ns : ("self" : Str) ≠ fld

/-- super().__init__('..') is a method's call on one row of the text: by ⟨_, rfl⟩ where the places are written -/
def EvOk (fld msg qual : Str) (p1 p2 a1 a2 a3 a4 a5 a6 b1 b2 b3 b4 : Pos) (doc pm : Value) (an : Option Addr) (cda cc : Addr) (ct : Value) : Prop := ∀ (L a : Addr), ∃ pl : Sem Bool,
    eval (.Call (.Attribute (.Call (.Name "super" a1) [] [] a2) "__init__" a3) [.Constant (.str msg) 0 a4] [] a5) (callEnv (sFn fld msg qual p1 p2 a1 a2 a3 a4 a5 a6 b1 b2 b3 b4 doc pm an cda cc ct) L a) = (do
      let ov ← attributeBase (.Call (.Name "super" a1) [] [] a2) "__init__" (callEnv (sFn fld msg qual p1 p2 a1 a2 a3 a4 a5 a6 b1 b2 b3 b4 doc pm an cda cc ct) L a)
        (eval (.Call (.Name "super" a1) [] [] a2) (callEnv (sFn fld msg qual p1 p2 a1 a2 a3 a4 a5 a6 b1 b2 b3 b4 doc pm an cda cc ct) L a))
      standAt a3.atName
      let (f, first) ← holding [ov] (getMethod ov "__init__" pl)
      callWith a5 f first (backTo a5 (starEach [.Constant (.str msg) 0 a4] (callEnv (sFn fld msg qual p1 p2 a1 a2 a3 a4 a5 a6 b1 b2 b3 b4 doc pm an cda cc ct) L a))) [])
/-- what the written part says of such a class at C, its __init__ at fI, the cell at cc that holds C, the code record at cda -/
structure SupTxt (K : Frag) (mg : Str → Option Value) (prog : Program) (cn fld msg : Str) (C fI : Addr) : Prop where
  gC : mg cn = some (.ref C)
  ok : FldOk fld
  cls : ∃ nm q N bs bm sn sub ab col dd k0 k1 k2 k3 k5, K.lookup C = some (excClassObj nm q C N bs bm true sn sub ab col dd k0 k1 k2 k3 k5 "ValueError.__new__") ∧ refsVE bm = true
  sa : findIn K (.ref C) "__setattr__" = some (some (.builtin "object.__setattr__"))
  ga : findIn K (.ref C) "__getattribute__" = some (some (.builtin "BaseException.__getattribute__"))
  gg : findIn K (.ref C) "__getattr__" = some none
  noF : findIn K (.ref C) fld = some none
  iC : findIn K (.ref C) "__init__" = some (some (.ref fI))
  tF : typeIn K (.ref fI) = some (.type "function")
  kC : keepIn K (.ref C) = true
  exC : subIn K (.ref C) (.type "BaseException") = some true
  veC : subIn K (.ref C) (.type "ValueError") = some true
  tyC : typeIn K (.ref C) = some (.type "type")
  hdC : hasDictIn K C = true
  mC : mroIn K C (.ref C) = some true
  opq : nsIn K cStatics "thirdparty.any" = some none
  sup : ks_superIn K C C "__init__" = some (some (.builtin "ValueError.__init__"))
  htop : (prog.main.scope.names.lookup ("super" : Str)).isSome = false
  mgS : mg "super" = none
  fn : ∃ (oc : Value) (od : Option Addr) (qual : Str) (doc pm : Value) (an : Option Addr) (cda cc : Addr) (ct : Value) (osl : Array (Option Value)) (p1 p2 a1 a2 a3 a4 a5 a6 b1 b2 b3 b4 : Pos),
    K.lookup fI = some ⟨oc, od, .func (sFn fld msg qual p1 p2 a1 a2 a3 a4 a5 a6 b1 b2 b3 b4 doc pm an cda cc ct), osl⟩ ∧ EvOk fld msg qual p1 p2 a1 a2 a3 a4 a5 a6 b1 b2 b3 b4 doc pm an cda cc ct ∧
    codeIn K (.ref cda) qual = true ∧
    (∃ cl cld csl, K.lookup cc = some ⟨cl, cld, .cell (some (.ref C)), csl⟩) ∧
    (∃ ccl cdd vs ccs file tf, K.lookup cda = some ⟨ccl, cdd, .fields vs, ccs⟩ ∧ vs[2]? = some (.str file tf) ∧ ((prog.main.file : Str) == file) = true)

theorem line1 (v : Value) : [v].length ≤ sizeLine := by
  rw [sizeLine_eq]
  exact (by decide : 1 ≤ 16777216)

/-- what __init__ leaves of a fresh exception at x -/
structure SupEnd (h h' : Heap) (x C dx : Addr) (fld : Str) (v : Value) : Prop where
  keep : ∀ b o, b ≠ x → h.get? b = some o → h'.get? b = some o
  obj : ∃ t1 : Addr, h'.get? x = some { cls := .ref C, dict := some dx, data := .fields #[.ref t1, .none, .none, .none, .bool false, .none] }
  dbig : h.objs.size ≤ dx
  dne : dx ≠ x
  ns : h'.Ns1 dx (fun y => if y = fld then some v else none)

section
variable {prog : Program} {w : World} {A : Around} {E : Value → Shared → Prop} {R : Result → Shared → Prop} {s : Shared} {K : Frag} {mg mb : Str → Option Value} {cn fld msg : Str} {C fI : Addr}

/-- the bound ValueError.__init__ called with one argument -/
theorem base_init {u x t0 : Addr} {a : Value} {Q : Value → Shared → Prop} (T : SupTxt K mg prog cn fld msg C fI) (X : K.In s.heap)
    (hu : s.heap.get? u = some (kxs_mw "ValueError.__init__" x)) (hx : s.heap.get? x = some (excO C t0))
    (hq : ∀ h' t1, (∀ b o, b ≠ x → s.heap.get? b = some o → h'.get? b = some o) → h'.get? x = some (excO C t1) → Q .none { s with heap := h' }) :
    wpAny (model prog w) A (call (.ref u) [a]) Q E s := by
  obtain ⟨nm, q, N, bs, bm, sn, sub, ab, col, dd, k0, k1, k2, k3, k5, hC, hbm⟩ := T.cls
  obtain ⟨hh, g, d, tk, os⟩ := s
  have hC' := X _ _ hC
  refine wpAny_call (codeAny_of_tree ?_)
  show wpAny (model prog w) A.in1 (callAny (.ref u) ⟨[a], []⟩) _ _ _
  unfold callAny
  refine wpAny_bind (wpAny_load hu ?_)
  have m1 : (Value.type "method-wrapper" == Value.type "method") = false := by decide
  have m2 : (Value.type "method-wrapper" == Value.type "builtin_function_or_method") = false := by decide
  have m3 : (Value.type "method-wrapper" == Value.type "method-wrapper") = true := by decide
  simp only [kxs_mw, m1, m2, m3, Bool.or_true, Bool.false_or, if_true]
  refine KFB.if_so (by decide) ?_
  refine wpAny_bind (check_bound_init PySem.F.excBase_ValueError.toExcCallFacts hC' hx rfl ?_)
  refine wpAny_bind (wpAny_pure (wpAny_pure ?_))
  refine ⟨plainId_quiet PySem.F.excBase_ValueError.init.plain _, codeAny_builtin PySem.F.excBase_ValueError.initEntry ?_⟩
  exact exc_init_tree (cls := .ref C) (t0 := t0) (dv := none) (c2 := .none) (c3 := .none) (b4 := .bool false) hx (line1 a) fun h' k e _ => hq h' _ k e

theorem sup_init (T : SupTxt K mg prog cn fld msg C fI) {x t0 : Addr} {v : Value} (X : K.In s.heap) (hlim : s.heap.NoLimit) (hG : s.heap.Ns mainGlobals mg) (hB : s.heap.Ns builtinsNs mb) (hmb : mb "super" = some (.type "super"))
    (hx : s.heap.get? x = some (excO C t0)) (hnx : K.lookup x = none) (hroom : A.depth < recursionLimit)
    (hq : ∀ h' tk dx, SupEnd s.heap h' x C dx fld v → R (.ok (.ret .none)) { s with heap := h', toks := tk }) :
    codeAny (model prog w) A (.call (.ref fI) ⟨[.ref x, v], []⟩) R s := by
  obtain ⟨oc, od, qual, doc, pm, an, cda, cc, ct, osl, p1, p2, a1, a2, a3, a4, a5, a6, b1, b2, b3, b4, ho, hevO, hcd, ⟨cl, cld, csl, hcell⟩, ⟨ccl, cdd, vs, ccs, file, tf, hcda, hvs, hfile⟩⟩ := T.fn
  obtain ⟨nm, q, N, bs, bm, sn, sub, ab, col, dd, k0, k1, k2, k3, k5, hC, hbm⟩ := T.cls
  have O := T.ok
  refine ks_codeAny_call_defAt (fd := fnX "__init__" qual (sArgs fld p1 p2) (sBody fld msg a1 a2 a3 a4 a5 a6 b1 b2 b3 b4) (sScope fld) [("__class__", cc)] .none .none doc pm an (.ref cda) ct) (binds := [("self", .ref x), (fld, v)])
    hroom (X _ _ ho) rfl hlim (codeRec_of X hcd) rfl (BindsTo.of_eq (O.bd _ _ _ _ _ _ _ _ _ _ _ _ _ _ _ _ _ _ _ _ _ _)) (by
      intro y hy
      simp only [sScope, List.mem_cons, List.not_mem_nil, or_false] at hy
      rcases hy with rfl | rfl | rfl | rfl <;> (intro z; cases z)) (by
      intro y hy
      simp only [List.mem_cons, List.not_mem_nil, or_false] at hy
      rcases hy with rfl | rfl
      · rfl
      · exact O.lf) (fun h₁ hns k => ?_) rfl rfl rfl
  have X₁ : K.In h₁ := X.keeps k
  have hx₁ := k _ _ hx
  have hvf : ([(("self" : Str), Value.ref x), (fld, v)].reverse).lookup fld = some v := by
    show List.lookup fld [(fld, v), (("self" : Str), Value.ref x)] = some v
    simp [List.lookup]
  have hvs' : ([(("self" : Str), Value.ref x), (fld, v)].reverse).lookup ("self" : Str) = some (.ref x) := by
    show List.lookup ("self" : Str) [(fld, v), (("self" : Str), Value.ref x)] = some (.ref x)
    have e : (("self" : Str) == fld) = false := by simpa using O.ns
    simp [List.lookup, e]
  have hcls : clsIn K C = some { name := nm, bases := bs, mro := .ref C :: bm, ns := N, qualname := q, hasDict := true, slotNames := sn, subclasses := sub, abstract := ab, collection := col, hasDel := false } := by unfold clsIn; rw [hC] <;> rfl
  have hsc : (sScope fld).names.lookup ("self" : Str) = some .local := rfl
  show wpAt (model prog w) _ _ (execs (sBody fld msg a1 a2 a3 a4 a5 a6 b1 b2 b3 b4) _) _ _ _
  obtain ⟨pl, hev⟩ := hevO s.heap.objs.size fI
  refine ks_wpAt_execs_cons (ks_wpAt_Expr_any (ks_wpAt_MethodCall (pl := pl) (he := hev) (ks_wpAt_super_base O.ls O.lc (by decide) rfl (X₁ _ _ ho) rfl rfl rfl (X₁ _ _ hcda) rfl hvs hfile T.htop ?_)))
  refine ks_loadName_global rfl O.ls (loadGlobal_builtin (hG.keeps k) T.mgS (hB.keeps k) hmb ⟨rfl, ?_⟩)
  refine wpAny_loadName_free rfl O.lc rfl ⟨_, X₁ _ _ hcell, rfl⟩ ?_
  refine wpAny_loadName_local rfl hsc hns hvs' ?_
  refine ks_wpAny_isType_cls (X₁ _ _ hC) rfl ⟨rfl, ?_⟩
  refine ks_wpAny_call_super (X₁ _ _ hC) rfl hx₁ rfl (fun c e => by cases e) (looks_mroIn X₁ T.mC) (fun h₂ e₂ k₂ => ?_)
  have X₂ : K.In h₂ := X₁.keeps k₂
  have hx₂ := k₂ _ _ hx₁
  have I₂ : InstAt h₂ x (excO C t0) C none := ⟨hx₂, rfl, rfl, trivial⟩
  have xC : x ≠ C := ks_ne X₂ I₂ hcls
  have hsup : alongIn K "__init__" ((_root_.List.dropWhile (· != Value.ref C) (.ref C :: bm)).drop 1) = some (some (.builtin "ValueError.__init__")) := by
    have z := T.sup
    unfold ks_superIn at z
    rw [hcls] at z
    exact z
  refine kxs_getMethod kxs_ValueError e₂ (looks_opaque X₂ T.opq) (l₀ := .ref C :: bm) (fun A Q E s k q => wpAny_bind ((looks_clsIn X₂ hcls) A _ E s k (wpAny_pure q))) rfl X₂ hsup (I₂.type.andThen (looks_subIn X₂ T.veC)) xC (by decide) ?_
  refine kxs_callWith (i := "ValueError.__init__") (x := x) rfl (evalArgs_plain ?_)
  refine spliced_cons (Constant_str (k := 0) (pos := a4) (spliced_nil ?_))
  have hu₃ : (h₂.push (kxs_mw "ValueError.__init__" x)).get? h₂.objs.size = some (kxs_mw "ValueError.__init__" x) := Heap.get?_push_at rfl rfl
  have k₃ : ∀ b o, h₂.get? b = some o → (h₂.push (kxs_mw "ValueError.__init__" x)).get? b = some o := fun b o e => Heap.get?_push_of_some _ e
  refine ⟨hu₃, base_init T (X₂.keeps k₃) hu₃ (k₃ _ _ hx₂) (fun h₄ t4 k₄ hx₄ => ?_)⟩
  have kx : ∀ b o, b ≠ x → s.heap.get? b = some o → h₄.get? b = some o := fun b o hb e => k₄ b o hb (k₃ _ _ (k₂ _ _ (k _ _ e)))
  have X₄ : K.In h₄ := fun a o e => kx a o (fun z => by rw [z, hnx] at e; cases e) (X a o e)
  have nL : s.heap.objs.size ≠ x := Nat.ne_of_gt (Heap.lt_size hx)
  have hns₄ : h₄.Ns s.heap.objs.size (fun y => ([(("self" : Str), Value.ref x), (fld, v)].reverse).lookup y) := by
    obtain ⟨oL, es, ep, hL, r⟩ := hns
    exact ⟨oL, es, ep, k₄ _ _ nL (k₃ _ _ (k₂ _ _ hL)), r⟩
  show wpAt (model prog w) _ _ (execs [.Assign [.Attribute (.Name "self" b1) fld b2] (.Name fld b3) b4] _) _ _ _
  refine wpAt_of_wpAny (wpAny_execs_cons (plainObj_wpAny_Assign_Attribute ?_))
  refine wpAny_Name (wpAny_loadName_local rfl O.lf hns₄ hvf ?_) O.nd
  refine wpAny_Name (wpAny_loadName_local rfl hsc hns₄ hvs' ?_) (by decide)
  refine set_plain X₄ (ox := excO C t4) (od := none) ⟨hx₄, rfl, rfl, trivial⟩ T.sa ?_
  refine exc_osa X₄ hx₄ hcls (show refsVE (.ref C :: bm) = true from hbm) rfl T.noF (fun h₅ tk₅ dx k₅ dn dne hx₅ hn₅ => ?_)
  have le1 : s.heap.objs.size < h₄.objs.size := by
    obtain ⟨oL, es, ep, hL, r⟩ := hns₄
    exact Heap.lt_size hL
  refine wpAny_execs_nil (hq h₅ tk₅ dx ⟨fun b o hb e => k₅ b o hb (kx b o hb e), ⟨t4, hx₅⟩, Nat.le_of_lt (Nat.lt_of_lt_of_le le1 dn), dne, hn₅⟩)
end

/-- C(v): the exception at e, its own dict at d -/
structure SupMade (h h' : Heap) (e C d : Addr) (fld : Str) (v : Value) : Prop where
  keep : ∀ b o, h.get? b = some o → h'.get? b = some o
  new : h.objs.size ≤ e
  obj : ∃ oe vs, h'.get? e = some oe ∧ oe.cls = .ref C ∧ oe.dict = some d ∧ oe.data = .fields vs ∧ vs[1]? = some .none
  dbig : h.objs.size ≤ d
  dne : d ≠ e
  ns : h'.Ns1 d (fun y => if y = fld then some v else none)
section
variable {prog : Program} {w : World} {A : Around} {E : Value → Shared → Prop} {R : Result → Shared → Prop} {s : Shared} {K : Frag} {mg mb : Str → Option Value} {cn fld msg : Str} {C fI : Addr}
theorem sup_made (T : SupTxt K mg prog cn fld msg C fI) {v : Value} (X : K.In s.heap) (hlim : s.heap.NoLimit) (hG : s.heap.Ns mainGlobals mg) (hB : s.heap.Ns builtinsNs mb) (hmb : mb "super" = some (.type "super")) (hroom : A.depth + 1 < recursionLimit)
    (hq : ∀ h' tk e d, SupMade s.heap h' e C d fld v → R (.ok (.ret (.ref e))) { s with heap := h', toks := tk }) :
    codeAny (model prog w) A (.call (.ref C) ⟨[v], []⟩) R s := by
  obtain ⟨nm, q, N, bs, bm, sn, sub, ab, col, dd, k0, k1, k2, k3, k5, hC, hbm⟩ := T.cls
  obtain ⟨hp, g, dr, tk, os⟩ := s
  have k : ∀ b o, hp.get? b = some o → ((hp.push (kdv_tup [v])).push (excO C hp.objs.size)).get? b = some o := fun b o e => Heap.get?_push_of_some _ (Heap.get?_push_of_some _ e)
  have hget : ((hp.push (kdv_tup [v])).push (excO C hp.objs.size)).get? (hp.objs.size + 1) = some (excO C hp.objs.size) := by heap_get
  have hnx : K.lookup (hp.objs.size + 1) = none := by
    cases e : K.lookup (hp.objs.size + 1) with
    | none => rfl
    | some o =>
      have z : hp.get? (hp.objs.size + 1) = some o := X _ _ e
      have z2 : hp.objs.size + 1 < hp.objs.size := Heap.lt_size z
      omega
  refine call_own PySem.F.excBase_ValueError (fun Y => refsVE_contains Y bm hbm) (X _ _ hC) (looks_findIn X T.iC) (fun self => bind_fn X self T.tF) (line1 v) ?_
  refine sup_init (s := ⟨(hp.push (kdv_tup [v])).push (excO C hp.objs.size), g, dr, tk, os⟩) T (X.keeps k) (hlim.keeps k) (hG.keeps k) (hB.keeps k) hmb hget hnx hroom fun h' tk' dx M => ?_
  obtain ⟨kp, ⟨t1, hob⟩, hd, hne, hns⟩ := M
  have sz : ((hp.push (kdv_tup [v])).push (excO C hp.objs.size)).objs.size = hp.objs.size + 1 + 1 := by simp only [Heap.size_push]
  have hd' : hp.objs.size + 2 ≤ dx := by
    have z : ((hp.push (kdv_tup [v])).push (excO C hp.objs.size)).objs.size ≤ dx := hd
    omega
  have old : ∀ b o, hp.get? b = some o → h'.get? b = some o := fun b o e => kp b o (Nat.ne_of_lt (Nat.lt_succ_of_lt (Heap.lt_size e))) (k b o e)
  exact ⟨rfl, hq h' tk' (hp.objs.size + 1) dx ⟨old, Nat.le_succ _, ⟨_, _, hob, rfl, rfl, rfl, rfl⟩, (by show hp.objs.size ≤ dx; omega), hne, hns⟩⟩
end
theorem fld_value : FldOk "value" := ⟨fun _ _ _ _ _ _ _ _ _ _ _ _ _ _ _ _ _ _ _ _ _ _ => rfl, rfl, rfl, rfl, by decide, by decide +kernel⟩
theorem ev_test (doc pm : Value) (an : Option Addr) (cda cc : Addr) (ct : Value) : EvOk "bounds" "abc" "q" ⟨6, 17, 6, 21⟩ ⟨6, 23, 6, 28⟩ ⟨7, 8, 7, 13⟩ ⟨7, 8, 7, 15⟩ ⟨7, 8, 7, 24⟩ ⟨7, 25, 7, 40⟩ ⟨7, 8, 7, 41⟩ ⟨7, 8, 7, 41⟩ ⟨8, 8, 8, 12⟩ ⟨8, 8, 8, 18⟩ ⟨8, 21, 8, 26⟩ ⟨8, 8, 8, 26⟩ doc pm an cda cc ct := fun _ _ => ⟨_, rfl⟩
end Sup
end PySem
namespace L2
open PySem PySem.Spec PyProof.Rows
theorem relO_one {fld : Str} {v : V} {v' : Value} (r : RelV v v') (f : Str) : RelO (List.lookup f [(fld, v)]) (if f = fld then some v' else none) := by
  by_cases hw : f = fld
  · have q : List.lookup f [(fld, v)] = some v := by simp [List.lookup, hw]
    rw [q, if_pos hw]
    exact r
  · have qw : (f == fld) = false := by simpa using hw
    have q2 : List.lookup f [(fld, v)] = none := by simp [List.lookup, qw]
    rw [q2, if_neg hw]
    trivial
section
variable {X : Cx} {C fI : Addr} {cn fld msg : Str}
/-- X(e), an own error whose __init__ is super().__init__('..'); self.f = f -/
def tMkSup (C : Addr) (fld : Str) (ta : TA) : St → Hp → XK → Prop := fun σ H Q => ta σ H fun vs H1 => ∃ v, vs = [v] ∧ ∀ d, H1 d = none → Q (.ref C) (some d) (upd H1 d (.xd [(fld, v)]))
theorem pmk_sup {a : Expr} {ta : TA} {p pos : Pos} {k : Nat} (T : PySem.Sup.SupTxt X.K X.mg X.prog cn fld msg C fI) (hr : Room k X.A) (ha : PA X [a] ta) (hg : Gl X cn := by rfl) (nd : (cn == ("__debug__" : Str)) = false := by decide)
    (he : starEach (a :: []) X.env = (false, eval a X.env) :: starEach [] X.env := by rfl) (hpl : (backTo pos (starEach [] X.env)).any (·.1) = false := by rfl) :
    PMk X (.Call (.Name cn p) [a] [] pos) (tMkSup C fld ta) := by
  intro pins s σ H Q I h
  refine wpAny_Call_Name_kw (ld_glob I hg T.gC ?_ nd)
  refine PySem.W.callWith_K (h₀ := X.base) I.ok.mod.kin T.kC (thn (ha.run pos pins s σ H _ I h) fun us s1 hh => ?_) he hpl
  obtain ⟨vs, H1, I1, r1, v, ev, q1⟩ := hh
  subst ev
  refine ⟨I1.kIn, ?_⟩
  cases r1 with
  | cons rv rn =>
    rename_i v' us'
    cases rn
    show wpAny _ _ (call (.ref C) [v']) _ _ _
    have hlim := I1.nolimit
    obtain ⟨mb, hb1, hb2⟩ := I1.mod.blt
    have hmb : mb "super" = some (.type "super") := (hb2 "super" (by decide)).trans (by decide +kernel)
    have hGl : s1.heap.Ns mainGlobals X.mg := I1.mod.glob.keeps I1.bk
    have hBl : s1.heap.Ns builtinsNs mb := hb1.keeps I1.bk
    obtain ⟨hp, g, dr, tk, os⟩ := s1
    refine wpAny_call (PySem.Sup.sup_made T I1.kIn hlim hGl hBl hmb (by have := hr.dp; omega) fun h' tk' e d M => ?_)
    show MkP X pins σ Q (.ref e) ⟨h', g, dr, tk', os⟩
    obtain ⟨kp, nw, ⟨oe, fv, hoe, hc, hd, hdat, h1⟩, dbig, dne, hns⟩ := M
    obtain ⟨G', g1, g2⟩ := restrict h' fun b => decide (b ≠ e)
    have gk : ∀ b, b ≠ e → G'.get? b = h'.get? b := fun b hb => g1 b (decide_eq_true hb)
    have ge : G'.get? e = none := g2 e (by simp)
    have old : ∀ b o, hp.get? b = some o → G'.get? b = some o := fun b o q => (gk b (Nat.ne_of_lt (Nat.lt_of_lt_of_le (Heap.lt_size q) nw))).trans (kp b o q)
    have ob : ObjOk X.prog X.w (upd H1 d (.xd [(fld, v)])) G' d (.xd [(fld, v)]) :=
      ⟨_, hns.at (fun o q => (gk d dne).trans q), fun f => relO_one rv f⟩
    have J : Inv X pins σ (upd H1 d (.xd [(fld, v)])) ⟨G', g, dr, tk', os⟩ := I1.laid (t' := tk') old dbig ob
    refine ⟨e, oe, fv, ⟨G', g, dr, tk', os⟩, _, .ref C, some d, rfl, J, fun b o q => ?_, ge, hoe, ⟨hc, hd⟩, hdat, h1, ?_, rfl, I1.bare, raises_own T.exC T.tyC, q1 d (I1.hok.fresh dbig)⟩
    · by_cases hb : b = e
      · have q' : G'.get? b = some o := q
        rw [hb, ge] at q'; cases q'
      · exact (gk b hb).symm.trans q
    · rw [upd_ne (Ne.symm dne)]
      exact I1.hok.fresh nw
/-- raise X(e) -/
def tRaiseSup (C : Addr) (fld : Str) (W : WX) (ta : TA) : TS := fun _ σ H => tMkSup C fld ta σ H fun cls d H' => W cls d σ H'
theorem ps_raiseSup {a : Expr} {ta : TA} {W : WX} {p pos pos2 : Pos} {k : Nat} (hc : X.calm = true) (T : PySem.Sup.SupTxt X.K X.mg X.prog cn fld msg C fI) (hr : Room k X.A) (tk : Takes X W) (ha : PA X [a] ta) (hg : Gl X cn := by rfl) (nd : (cn == ("__debug__" : Str)) = false := by decide)
    (he : starEach (a :: []) X.env = (false, eval a X.env) :: starEach [] X.env := by rfl) (hpl : (backTo pos (starEach [] X.env)).any (·.1) = false := by rfl) :
    PS X (.Raise (some (.Call (.Name cn p) [a] [] pos)) none pos2) (tRaiseSup C fld W ta) := ps_raise hc tk (pmk_sup T hr ha hg nd he hpl)
end
end L2
set_option maxRecDepth 100000
set_option maxHeartbeats 3200000
/-! set(texts) and sorted of it -/
namespace TSet
open PySem PySem.Spec PyProof.Rows L2 Froz
def txtOf : Int × Value → Str | (_, .str x _) => x | _ => Str.empty
/-- the payload D of a set holds exactly the texts l, and can be walked -/
structure Txs (P : Program) (w : World) (D : SD) (l : List Str) : Prop where
  ok : TxOk P w D l
  pm : (D.1.toList.map txtOf).Perm l
  all : ∀ e ∈ D.1.toList, ∃ x t, e.2 = Value.str x t
  nd : l.Nodup
  ris : Ris D.2.2.place.toList
  led : w.params.followText "set-order" = true ∨ D.2.2.led = true
section
variable {P : Program} {w : World} {A : Around} {E : Value → Shared → Prop} {s : Shared}
theorem tail_perm (ep : Nat) (es : Array (Int × Value)) (t : SetTable) (b : Bool) : (tailTx ep es t b).1.toList.Perm es.toList := by
  unfold tailTx
  split
  · exact relayAll_perm _ _ _
  · exact List.Perm.refl _
theorem tail_ris (ep : Nat) (es : Array (Int × Value)) (t : SetTable) (b : Bool) (r : Ris t.place.toList) : Ris (tailTx ep es t b).2.2.place.toList := by
  unfold tailTx
  split
  · exact relayAll_ris _ _ _
  · exact r
theorem tail_led (ep : Nat) (es : Array (Int × Value)) (t : SetTable) (b : Bool) : (tailTx ep es t b).2.2.led = t.led := by
  unfold tailTx
  split
  · exact relayAll_led _ _ _
  · rfl
theorem Txs.add {D : SD} {l : List Str} {k : Str} (u : Tok) (F : Txs P w D l) (hk : k ∉ l) : Txs P w (addTx (hashStr w k) (.str k u) D) (k :: l) := by
  have hp : (addTx (hashStr w k) (.str k u) D).1.toList.Perm ((hashStr w k, Value.str k u) :: D.1.toList) := by
    refine (tail_perm _ _ _ _).trans ((layNew_perm _ _ _ _).trans ?_)
    rw [Array.toList_push]
    exact List.perm_append_singleton _ _
  refine ⟨add_ok u F.ok, ?_, fun e he => ?_, List.nodup_cons.mpr ⟨hk, F.nd⟩, tail_ris _ _ _ _ ?_, ?_⟩
  · exact (hp.map txtOf).trans (List.Perm.cons _ F.pm)
  · rcases List.mem_cons.mp (hp.mem_iff.mp he) with z | z
    · exact ⟨k, u, by rw [z]⟩
    · exact F.all e z
  · have r := layNew_ris D.2.2 D.1 (hashStr w k) (.str k u) F.ris
    split <;> exact r
  · refine F.led.imp id fun z => ?_
    refine (tail_led _ _ _ _).trans ?_
    have q := (layNew_led D.2.2 D.1 (hashStr w k) (.str k u)).trans z
    split <;> exact q
/-- a text that is there already -/
theorem add_old {a : Addr} {T : String} {D : SD} {l : List Str} {k : Str} {u : Tok} {Q : Bool → Shared → Prop} (at_ : s.heap.get? a = some (sObj T D)) (F : TxOk P w D l) (hk : k ∈ l) (few : l.length + 1 < scanBound) (h : Q false s) :
    wpAny (model P w) A (setAddHashed a (.str k u) (hashStr w k)) Q E s := by
  obtain ⟨es, ep, t⟩ := D
  have dt : (sObj T (es, ep, t)).data = .set es ep t := rfl
  have el : ElemsOf (strKind P w) es.toList := F.el
  have sz : es.size < scanBound := by have : es.size = l.length := F.sz; omega
  obtain ⟨j, hj⟩ : ∃ j, List.findIdx? (fun e => (strKind P w).is k e.2) es.toList = some j := by
    obtain ⟨e, he, q⟩ := (F.mem k).mp hk
    cases hr : List.findIdx? (fun e => (strKind P w).is k e.2) es.toList with
    | some j => exact ⟨j, rfl⟩
    | none =>
      have c := List.findIdx?_eq_none_iff.mp hr e he
      rw [q] at c
      cases c
  unfold setAddHashed
  unfold setAddHashedIn
  refine wpAny_holding (wpAny_bind (wpAny_setState_of at_ dt F.fit ?_))
  dsimp only
  rw [byScan_of rfl sz el]
  simp only [↓reduceIte]
  unfold setAddByScan
  refine wpAny_bind (wpAny_bind (wpAny_rule (wpAny_bind (wpAny_setScan_of (knd := strKind P w) (k := k) (is_str k u) at_ dt F.fit el ?_))))
  rw [hj]
  dsimp only
  exact wpAny_pure (wpAny_pure h)
theorem add_any {a : Addr} {D : SD} {l : List Str} {k : Str} {u : Tok} {Q : Bool → Shared → Prop} (at_ : s.heap.get? a = some (sObj "set" D)) (F : Txs P w D l) (few : l.length + 1 < scanBound)
    (h : ∀ b h' D' l', Heap.SameBut a s.heap h' → h'.get? a = some (sObj "set" D') → Txs P w D' l' → (∀ z, z ∈ l' ↔ z = k ∨ z ∈ l) → l'.length ≤ l.length + 1 → Q b { s with heap := h' }) :
    wpAny (model P w) A (setAddHashed a (.str k u) (hashStr w k)) Q E s := by
  by_cases hk : k ∈ l
  · exact add_old at_ F.ok hk few (h false s.heap D l (Heap.SameBut.refl a _) at_ F (fun z => ⟨.inr, fun q => q.elim (fun e => e ▸ hk) id⟩) (by omega))
  · refine add_x at_ F.ok hk few (h true _ _ _ ?_ (get_upd _ at_ rfl) (F.add u hk) (fun z => List.mem_cons) (Nat.le_refl _))
    exact ⟨Heap.size_after_update _ _ _, fun b hb => Heap.get?_update_ne _ _ _ _ hb⟩
end
section
variable {P : Program} {w : World} {A : Around} {E : Value → Shared → Prop} {s : Shared}
/-- the loop of set's making, for any way of adding: T i h says what the set is behind i items -/
theorem loop_any {I : Addr} {fp wr : List Addr} {G : Array GenState → Array GenState → Prop} {n : Nat} {Pv : Nat → Value → Prop} {St : Nat → Shared → Prop} {R : Result → Shared → Prop} (W : WalksS P w A.in1 I fp wr G n Pv St)
    {S : Addr} (out : S ∉ fp) (T : Nat → Heap → Prop) (fr : ∀ i h h', T i h → (∀ b o, b ∉ wr → h.get? b = some o → h'.get? b = some o) → T i h')
    (add : ∀ i v (s : Shared) (E : Value → Shared → Prop) (Q : Bool → Shared → Prop), i < n → Pv i v → T i s.heap → (∀ b h' tk, s.toks ≤ tk → Heap.SameBut S s.heap h' → T (i + 1) h' → Q b { s with heap := h', toks := tk }) → wpAny (model P w) A.in1 (setAdd S v) Q E s) :
    ∀ (k i : Nat) (s : Shared), n - i = k → i ≤ n → St i s → T i s.heap → (∀ s', Moved (S :: wr) G s s' → T n s'.heap → R (.ok (.ret .none)) s') → codeAny (model P w) A (.builtin "set.update.loop" ⟨[.ref S, .ref I], []⟩) R s := by
  intro k
  induction k with
  | zero =>
    intro i s ek ei st t r
    obtain rfl : i = n := by omega
    refine codeAny_builtin F.entry_set_update_loop ?_
    rw [Around.under_plainId F.plain_set_update_loop _]
    show wpAny (model P w) A.in1 (pyNext (.ref I) >>= _) _ _ s
    refine wpAny_bind (W.done s _ _ st fun s1 m => ?_)
    show wpAny (model P w) A.in1 (ret Value.none) _ _ s1
    exact wpAny_pure (r s1 ⟨fun b o nb => m.heap b o fun z => nb (List.mem_cons_of_mem _ z), m.gens, m.drawn, m.os, m.toks⟩ (fr i _ _ t m.heap))
  | succ k ih =>
    intro i s ek ei st t r
    have lt : i < n := by omega
    refine codeAny_builtin F.entry_set_update_loop ?_
    rw [Around.under_plainId F.plain_set_update_loop _]
    show wpAny (model P w) A.in1 (pyNext (.ref I) >>= _) _ _ s
    refine wpAny_bind (W.item i s _ _ lt st fun v s1 pv st1 m => ?_)
    show wpAny (model P w) A.in1 (holding [v] (setAdd S v) >>= _) _ _ s1
    refine wpAny_bind (wpAny_holding (add i v s1 _ _ lt pv (fr i _ _ t m.heap) fun b h' tk tk' same t' => ?_))
    refine wpAny_pure ⟨plainId_quiet F.plain_set_update_loop _, ih (i + 1) _ (by omega) lt (W.frame _ s1 _ _ st1 tk' fun c hc o e => ?_) t' fun s2 m2 t2 => r s2 ⟨fun c o nc e => ?_, W.gtrans _ _ _ m.gens m2.gens, m2.drawn.trans m.drawn, m2.os.trans m.os, ?_⟩ t2⟩
    · rw [same.2 c fun z : c = S => out (z ▸ hc)]
      exact e
    · refine m2.heap c o nc ?_
      show h'.get? c = some o
      rw [same.2 c fun z : c = S => nc (by rw [z]; exact List.mem_cons_self)]
      exact m.heap c o (fun z => nc (List.mem_cons_of_mem _ z)) e
    · exact Nat.le_trans m.toks (Nat.le_trans tk' m2.toks)
def freshSet (w : World) : Obj := { cls := .type "set", dict := none, data := .set #[] 0 (.fresh 0 0 (!w.params.followText "set-order")) }
def listIt (l : Addr) : Obj := { cls := .type "list_iterator", data := .fields #[.ref l, .int 0 0] }
/-- set(a list), for any way of adding -/
theorem made_any {l : Addr} {items : Array Value} {Q : Value → Shared → Prop} (hh : A.handled = none) (hl : s.heap.IsList l items) (T : Nat → Heap → Prop)
    (fr : ∀ i h h', T i h → (∀ b o, b ≠ s.heap.objs.size + 1 → h.get? b = some o → h'.get? b = some o) → T i h')
    (zero : ∀ h, h.get? s.heap.objs.size = some (freshSet w) → (∀ b o, s.heap.get? b = some o → h.get? b = some o) → T 0 h)
    (add : ∀ (B : Around) i v (s1 : Shared) (E : Value → Shared → Prop) (Q : Bool → Shared → Prop), B.units ≤ A.units + 3 → items[i]? = some v → T i s1.heap →
      (∀ b h' tk, s1.toks ≤ tk → Heap.SameBut s.heap.objs.size s1.heap h' → T (i + 1) h' → Q b { s1 with heap := h', toks := tk }) → wpAny (model P w) B (setAdd s.heap.objs.size v) Q E s1)
    (k : ∀ (h' : Heap) (tk : Nat), T items.size h' → (∀ b o, s.heap.get? b = some o → h'.get? b = some o) → Q (.ref s.heap.objs.size) { s with heap := h', toks := tk }) :
    wpAny (model P w) A (call (.type "set") [.ref l]) Q E s := by
  obtain ⟨_, _, hmro⟩ := PySem.F.called_set.mro
  have made_ := PySem.F.called_set.made
  have sub_ := PySem.F.called_set.sub
  refine wpAny_call (codeAny_of_tree ?_)
  show wpAny (model P w) _ (callAny (.type "set") _) _ _ _
  refine wpAny_pure ⟨Code.quiet_builtin _ (by decide +kernel), codeAny_builtin PySem.F.entry_type_call ?_⟩
  rw [Around.under_plain (weight_type_call_type "set" [.ref l] []) rfl]
  have notT := PySem.F.called_set.notType
  have canC := PySem.F.called_set.canCreate
  have typC := PySem.F.typeCall_set_1 (.ref l)
  repeat (any_goals (first | assumption | wp_step))
  let S := s.heap.objs.size
  let hp1 := s.heap.push (freshSet w)
  refine codeAny_mono (code_set_led1 (.ref l) (E := E) (Q₁ := fun obj s1 => obj = .ref S ∧ s1 = { s with heap := hp1 }) ⟨rfl, rfl⟩) fun r s1 hr => ?_
  rcases r with _ | e
  case error => exact hr
  cases e with
  | ret obj =>
    obtain ⟨rfl, rfl⟩ := hr
    have atS : hp1.get? S = some (freshSet w) := Heap.get?_push_size _ rfl
    have tyS : Shared.TypeIs { s with heap := hp1 } (.ref S) "set" := ⟨_, atS, rfl⟩
    have iLook := PySem.F.called_set.init.lookup
    have iBind := PySem.F.called_set.init.bind (.ref S)
    repeat (any_goals (first | assumption | wp_step))
    refine codeAny_mono (codeAny_call_builtin (R := wants (fun r s2 => r = .none ∧ ∃ h' tk, s2 = { s with heap := h', toks := tk } ∧ T items.size h' ∧ (∀ b o, s.heap.get? b = some o → h'.get? b = some o)) E)
      PySem.F.called_set.init.plain PySem.F.entry_set_init (check_set_init_1 tyS ?_)) fun r2 s2 hr2 => ?_
    · obtain ⟨ol, hol, cl, nl, dl⟩ := hl
      obtain ⟨ocl, odi, oda, osl⟩ := ol
      simp only at cl dl
      subst cl
      subst dl
      have ltl : l < S := Heap.lt_size hol
      have atl : hp1.get? l = some { cls := .type "list", dict := odi, data := .seq items nl, slots := osl } := Heap.get?_push_of_some _ hol
      have ls1 := PySem.F.sub_list_set
      have ls2 := PySem.F.sub_list_frozenset
      have nd1 : (Value.type "list" == Value.type "dict") = false := by decide
      have isl : hp1.IsList l items := ⟨_, atl, rfl, nl, rfl⟩
      have szI : hp1.objs.size = S + 1 := Heap.size_push ..
      unfold Builtin.«set.__init__» noKeywords Builtin.Frozenset.updateFrom
      generalize ePI : pyIter = PI
      wp_walk
      subst ePI
      refine wpAny_pyIter_list isl (wpAny_bind (wpAny_runValue ?_))
      have h3 : A.in1.in1.in1.handled = none := by simp [hh]
      have nI : l ≠ hp1.objs.size := by rw [szI]; exact Nat.ne_of_lt (Nat.lt_succ_of_lt ltl)
      have nS : S ∉ [hp1.objs.size, l] := by
        rw [szI]
        intro z
        rcases List.mem_cons.mp z with z | z
        · exact absurd z (Nat.ne_of_lt (Nat.lt_succ_self _))
        · exact absurd (List.mem_singleton.mp z) (Nat.ne_of_gt ltl)
      refine loop_any ((Walks.list h3 _ l nI items).toS) nS T (fun i h h' t e => fr i h h' t fun b o nb => e b o (by rw [szI]; simpa using nb)) (fun i v s1 E1 Q1 _ pv t q => add _ i v s1 E1 Q1 (Nat.le_refl _) pv t q)
        (items.size - 0) 0 _ (by omega) (Nat.zero_le _) ⟨⟨_, Heap.get?_push_size _ rfl, rfl, rfl⟩, isl.push _⟩ (zero _ (Heap.get?_push_of_some _ atS) fun b o e => Heap.get?_push_of_some _ (Heap.get?_push_of_some _ e)) ?_
      intro s' m t'
      obtain ⟨h', g', d', tk', os'⟩ := s'
      obtain rfl : g' = s.gens := m.gens
      obtain rfl : d' = s.drawn := m.drawn
      obtain rfl : os' = s.os := m.os
      show wpAny _ _ _ _ _ _
      refine wpAny_pure ?_
      show wpAny _ _ (ret Value.none) _ _ _
      refine wpAny_pure ⟨rfl, h', tk', rfl, t', fun b o e => ?_⟩
      have ltb : b < S := Heap.lt_size e
      refine m.heap b o (fun z => ?_) (Heap.get?_push_of_some _ (Heap.get?_push_of_some _ e))
      rcases List.mem_cons.mp z with z | z
      · exact absurd z (Nat.ne_of_lt ltb)
      · have z2 := List.mem_singleton.mp z
        rw [szI] at z2
        exact absurd z2 (Nat.ne_of_lt (Nat.lt_succ_of_lt ltb))
    · rcases r2 with _ | e2
      case error => exact hr2
      cases e2 with
      | ret r =>
        obtain ⟨rfl, h', tk, rfl, t', keep⟩ := hr2
        repeat (any_goals (first | assumption | wp_step))
        exact k _ _ t' keep
      | _ => exact hr2.elim
  | _ => exact hr.elim
end
section
variable {P : Program} {w : World} {A : Around} {E : Value → Shared → Prop} {s : Shared}
theorem Txs.fresh : Txs P w (#[], 0, .fresh 0 0 (!w.params.followText "set-order")) [] where
  ok := TxOk.nil rfl
  pm := List.Perm.refl _
  all := fun e he => by simp at he
  nd := List.nodup_nil
  ris := List.Pairwise.nil
  led := by
    show _ ∨ (!w.params.followText "set-order") = true
    cases w.params.followText "set-order"
    · exact .inr rfl
    · exact .inl rfl
theorem strs_get : ∀ {vs : List Value} {xs : List Str}, StrsAre vs xs → ∀ {i : Nat} {v : Value}, vs[i]? = some v → ∃ z t, xs[i]? = some z ∧ v = .str z t
  | _, _, .nil, _, _, h => by simp at h
  | _, _, .cons y t r, 0, v, h => ⟨y, t, rfl, (Option.some.inj h).symm⟩
  | _, _, .cons y t r, i + 1, v, h => strs_get r (by simpa using h)
/-- set(a list of texts) -/
theorem set_txt {l : Addr} {items : Array Value} {xs : List Str} {Q : Value → Shared → Prop} (hh : A.handled = none) (hl : s.heap.IsList l items) (hi : StrsAre items.toList xs) (few : xs.length + 1 < scanBound)
    (k : ∀ (h' : Heap) (tk : Nat) D l', h'.get? s.heap.objs.size = some (sObj "set" D) → Txs P w D l' → (∀ z, z ∈ l' ↔ z ∈ xs) → l'.length ≤ xs.length → (∀ b o, s.heap.get? b = some o → h'.get? b = some o) → Q (.ref s.heap.objs.size) { s with heap := h', toks := tk }) :
    wpAny (model P w) A (call (.type "set") [.ref l]) Q E s := by
  have len : items.size = xs.length := by
    have : ∀ {vs : List Value} {ys : List Str}, StrsAre vs ys → vs.length = ys.length := by
      intro vs ys h
      induction h with
      | nil => rfl
      | cons y t r ih => simp [ih]
    rw [← this hi, Array.length_toList]
  refine made_any hh hl (fun i h => ∃ D l', h.get? s.heap.objs.size = some (sObj "set" D) ∧ Txs P w D l' ∧ (∀ z, z ∈ l' ↔ z ∈ xs.take i) ∧ l'.length ≤ i) ?_ ?_ ?_ ?_
  · rintro i h h' ⟨D, l', a, f, m, n⟩ e
    exact ⟨D, l', e _ _ (Nat.ne_of_lt (Nat.lt_succ_self _)) a, f, m, n⟩
  · intro h a _
    exact ⟨(#[], 0, .fresh 0 0 (!w.params.followText "set-order")), [], a, Txs.fresh, fun z => by simp, Nat.le_refl _⟩
  · rintro B i v s1 E1 Q1 _ hv ⟨D, l', a, f, m, n⟩ q
    obtain ⟨z, t, hz, rfl⟩ := strs_get hi (i := i) (v := v) (by rw [Array.getElem?_toList]; exact hv)
    have li : i < xs.length := (List.getElem?_eq_some_iff.mp hz).1
    unfold setAdd
    refine wpAny_holding (wpAny_bind ((strKind P w).pyHash (k := z) (is_str z t) ?_))
    refine add_any (s := { s1 with toks := s1.toks + 1 }) a f (by omega) fun b h' D' l2 same a2 f2 m2 n2 => q b h' (s1.toks + 1) (Nat.le_succ _) same ⟨D', l2, a2, f2, fun y => ?_, by omega⟩
    rw [m2 y, m y, List.take_add_one, hz]
    simp only [Option.toList_some, List.mem_append, List.mem_singleton]
    exact Or.comm
  · rintro h' tk ⟨D, l', a, f, m, n⟩ keep
    exact k h' tk D l' a f (fun z => by rw [m z, List.take_of_length_le (by omega)]) (by omega) keep
/-- sorted(a set of texts) -/
theorem sorted_txt {a : Addr} {D : SD} {l : List Str} {Q : Value → Shared → Prop} (at_ : s.heap.get? a = some (sObj "set" D)) (F : Txs P w D l) (hh : A.handled = none) (few : l.length < 64)
    (k : ∀ s' p (out : Array Value) (c : Nat) (ys : List Str), (∀ b o, s.heap.get? b = some o → s'.heap.get? b = some o) → s'.gens = s.gens → s'.os = s.os → s.heap.objs.size ≤ p →
      s'.heap.get? p = some (seqObj "list" out c) → StrsAre out.toList ys → ys.Perm l → sortedS ys = true → Q (.ref p) s') : wpAny (model P w) A (call (.builtin "sorted") [.ref a]) Q E s := by
  obtain ⟨es, ep, t⟩ := D
  have sz : es.size = l.length := F.ok.sz
  have sc : es.size < scanBound := by unfold scanBound; omega
  refine Calls.call_function_entry kind_sorted plain_sorted entry_sorted (args_sorted1 _) ?_
  unfold Builtin.«sorted»
  refine wpAny_bind (m := checkCount "sorted" 1 1 _) (wpAny_pure (wpAny_bind ?_))
  refine collect_set (A := A.in1) hh ⟨_, at_, rfl, rfl⟩ F.ok.fit sc F.ris F.led fun s1 vs k1 z1 g1 o1 pm => ?_
  have lv : vs.length = l.length := by rw [pm.length_eq, List.length_map, Array.length_toList, sz]
  have sv : ∀ us : List Value, (∀ u ∈ us, ∃ x t, u = Value.str x t) → StrsAre us (us.map fun u => txtOf (0, u)) := by
    intro us
    induction us with
    | nil => exact fun _ => .nil
    | cons u us ih =>
      intro h
      obtain ⟨x, t, rfl⟩ := h u List.mem_cons_self
      exact .cons x t (ih fun v hv => h v (List.mem_cons_of_mem _ hv))
  have hS := sv vs fun u hu => by
    obtain ⟨e, he, rfl⟩ := List.mem_map.mp (pm.mem_iff.mp hu)
    exact F.all e he
  have pl : (vs.map fun u => txtOf (0, u)).Perm l := by
    refine (pm.map _).trans ?_
    rw [List.map_map]
    refine List.Perm.trans (List.Perm.of_eq ?_) F.pm
    exact List.map_congr_left fun e _ => by obtain ⟨h, v⟩ := e; cases v <;> rfl
  refine wpAny_bind (wpAny_newList ?_ (by rw [lv, sizeLine_eq]; omega))
  have oL : (s1.heap.push (seqObj "list" vs.toArray 0)).get? s1.heap.objs.size = some (seqObj "list" vs.toArray 0) := Heap.get?_push_size _ rfl
  refine wpAny_bind (wpAny_holding (wpAny_call_entry slot_list_sort ⟨_, oL, rfl⟩ entry_list_sort
    (list_sort_treeK strKind_oneLt oL hS.keysOf (fun v1 v2 rest e => keyKind_strs (by rw [← e]; exact hS)) (by rw [lv]; exact few) fun st h1 h2 => ⟨_, rfl, ?_⟩) (args_list_sort _)))
  obtain ⟨ys, a1, a2, a3⟩ := sorted_out_str hS h1 h2
  obtain ⟨c, hc⟩ := sortedHeap_at (vs := vs) (out := (arrOf st).map (·.2)) oL
  refine wpAny_pure ⟨_, rfl, k _ s1.heap.objs.size _ c ys (fun b u e => ?_) g1 o1 z1 hc a1 (a2.trans pl) a3⟩
  have q := k1 b u e
  have lt := Heap.lt_size q
  refine (sortedHeap_old (Nat.ne_of_lt lt) (by rw [size_push']; exact Nat.lt_succ_of_lt lt)).trans ?_
  exact Heap.get?_push_of_some _ q
end
/-! ### as calls -/
/-- at a a set of just the texts l -/
def SetX (P : Program) (w : World) (a : Addr) (l : List Str) : HO := .ext fun h => ∃ D, h.get? a = some (sObj "set" D) ∧ Txs P w D l
section
variable {X : Cx}
theorem setX_new {w : World} {P : Program} {H : Hp} {h : Heap} {a : Addr} {l : List Str} (R : ∃ D, h.get? a = some (sObj "set" D) ∧ Txs P w D l) : ObjOk P w H h a (SetX P w a l) := by
  obtain ⟨D, e, F⟩ := id R
  exact ⟨R, ⟨_, e⟩, fun h1 h2 ⟨D2, e2, F2⟩ keep => ⟨D2, keep _ e2, F2⟩⟩
def rSetX (K : PySem.W.Frag) (P : Program) (w : World) : List V → Hp → VK → Prop := fun vs H Q => ∃ (a : Addr) (xs : List Str), vs = [V.ref a] ∧ SqL K H a (xs.map V.str) ∧ xs.length < 64 ∧
  ∀ (l : List Str) (p : Addr), l.Nodup → (∀ z, z ∈ l ↔ z ∈ xs) → l.length ≤ xs.length → H p = none → Q (.ref p) (upd H p (SetX P w p l))
theorem cr_setX (hc : X.calm = true) : CallR X (.type "set") (rSetX X.K X.prog X.w) := by
  intro pins s σ H vs us Q I r h
  obtain ⟨a, xs, rfl, hs, few, q⟩ := h
  obtain ⟨its, rv, hl, _⟩ := I.list hs
  rw [Vals.ref1 r]
  refine set_txt (I.ok.hd hc) hl.isList rv.strs (by unfold scanBound; omega) fun h' tk D l' e F m ll keep => ?_
  exact ⟨.ref _, upd H s.heap.objs.size (SetX X.prog X.w s.heap.objs.size l'), I.laid (t' := tk) keep (Nat.le_refl _) (setX_new ⟨D, e, F⟩), rfl, q l' _ F.nd m ll (I.hok.fresh (Nat.le_refl _))⟩
def rSortedX (P : Program) (w : World) : List V → Hp → VK → Prop := fun vs H Q => ∃ (a : Addr) (l : List Str), vs = [V.ref a] ∧ H a = some (SetX P w a l) ∧ l.length < 64 ∧
  ∀ (ys : List Str) (p : Addr), ys.Perm l → sortedS ys = true → H p = none → Q (.ref p) (upd H p (.lst (ys.map V.str)))
theorem cr_sortedX (hc : X.calm = true) : CallR X (.builtin "sorted") (rSortedX X.prog X.w) := by
  intro pins s σ H vs us Q I r h
  obtain ⟨a, l, rfl, at_, few, q⟩ := h
  obtain ⟨D, e, F⟩ := (I.hok a _ at_).1
  rw [Vals.ref1 r]
  refine sorted_txt e F (I.ok.hd hc) few fun s' p out c ys keep g o hp he hy pm so => ?_
  have hn : H p = none := I.hok.fresh hp
  have hlen : (ys.map V.str).length ≤ sizeLine := by rw [List.length_map, pm.length_eq]; exact small64 few
  have J : Inv X pins σ (upd H p (.lst (ys.map V.str))) { s with heap := s'.heap, gens := s'.gens, drawn := s'.drawn, toks := s'.toks } :=
    I.call (ch := []) (Un.laid keep hp hn) (I.hok.laid keep hp ⟨hlen, out.toList, c, vals_of_strs hy, he⟩) (by rw [g]; exact I.bare) (fun _ z => nomatch z)
  have es : s' = { s with heap := s'.heap, gens := s'.gens, drawn := s'.drawn, toks := s'.toks } := by
    cases s'
    cases s
    cases o
    rfl
  rw [es]
  exact ⟨.ref p, _, J, rfl, q ys p pm so hn⟩
end
end TSet
set_option maxRecDepth 100000
set_option maxHeartbeats 4000000
/-! defs that are called within an except suite and are handed the caught error; they raise nothing -/
namespace XP
open PySem PySem.Spec PyProof.Rows L2 L2H
/-- what a def promises that is called while p's object is the error that is handled; p in the promise -/
structure FnP (P : Program) (w : World) (K : PySem.W.Frag) (mg : Str → Option Value) (base : Heap) (k : Nat) (f : Addr) (fd : FuncData) (ps : List Str) (sp : Addr × Obj → Sp) : Prop where
  len : ∀ p vs H Q E, sp p vs H Q E → vs.length = ps.length
  run : ∀ (A : Around) (outer : List Env) (s : Shared) (H : Hp) (args : Args) (us : List Value) (vs : List V) (Q : VK) (p : Addr × Obj), RoomH k A → PinOk outer H s p → Env0 P w K mg base A outer s H → BindsTo s fd args (ps.zip us) → Vals vs us →
    sp p vs H Q (fun _ _ _ => False) → codeAny (model P w) A (.call (.ref f) args) (CR CX0 outer P w H s Q fun _ _ _ => False) s
section
variable {P : Program} {w : World} {K : PySem.W.Frag} {mg : Str → Option Value} {base : Heap}
/-- such a def by its body -/
theorem okP {x qual : Str} {st : Stmt} {f : Addr} {fd : FuncData} {N ps : List Str} {k : Nat} {sp : Addr × Obj → Sp} (F : Fun K x qual st f fd) (S : FnScope N ps (defScope st)) (len : ∀ p vs H Q E, sp p vs H Q E → vs.length = ps.length)
    (body : ∀ (cdv : Value) (A : Around) (outer : List Env) (s : Shared) (H : Hp) (vs : List V) (Q : VK) (p : Addr × Obj), RoomH k (A.deeper (envOfC qual (defScope st) s.heap.objs.size f cdv)) → sp p vs H Q (fun _ _ _ => False) →
      ∃ t, PSs (cxH CX0 P w K mg base N qual (defScope st) f cdv A outer s H (fun _ _ _ => False) p) (defBody st) t ∧ t { nx := fun _ H' => Q .non H', rt := Q } (L2.start N vs) H) : FnP P w K mg base (k + 1) f fd ps sp := by
  obtain ⟨oc, od, kV, doc, pm, an, cdv, ct, osl, rfl, lk, hcd⟩ := F.ex
  refine ⟨len, fun A outer s H args us vs Q p room pin e0 bind r h => ?_⟩
  have lenV := len _ _ _ _ _ h
  have inS : K.In s.heap := e0.mod.kin.keeps fun b o e => (e0.bs b o e).1
  have noLim : s.heap.NoLimit := e0.mod.nolimit.keeps fun b o e => (e0.bs b o e).1
  have kinds : ∀ y ∈ ps.zip us, (defScope st).names.lookup y.1 = some .local ∨ ((defScope st).names.lookup y.1 = some .cell ∧ ((cellsFrom (s.heap.objs.size + 1) (defScope st).names []).lookup y.1).isSome = true) := by
    rintro ⟨n, v⟩ hy
    cases S.par n (List.of_mem_zip hy).1 with
    | inl q => exact .inl q
    | inr q => exact .inr ⟨q, PySem.W.cellsFrom_some _ _ _ (.inl q)⟩
  refine codeAny_call_function room.depth (inS _ _ lk) rfl S.co S.gen rfl (PySem.W.codeRec_of inS hcd) (bind _ _ _ _ (wpAny_newFunctionEnv_cells S.kind kinds fun env he s1 y => ?_))
  subst he
  refine ⟨noLim.keeps y.toInCall.keep, codeAny_func ?_⟩
  obtain ⟨t, ht, hq⟩ := body cdv A outer s H vs Q p (room.deeper _) h
  have I0 := inv_startH (CX := CX0) (E := fun _ _ _ => False) S pin e0 lenV r y
  refine wpAny_mono (ht.run [] s1 (L2.start N vs) H _ I0 hq) (fun fl s' hs => ?_) fun e s' hs => hs
  cases fl with
  | ret u => obtain ⟨v, σ', H', J, rv, q⟩ := hs; exact ⟨v, H', J.os, J.bare, J.base, J.hok, rv, q⟩
  | next => obtain ⟨σ', H', J, q⟩ := hs; exact ⟨V.non, H', J.os, J.bare, J.base, J.hok, rfl, q⟩
  | brk => obtain ⟨_, _, _, q⟩ := hs; exact q.elim
  | cont => obtain ⟨_, _, _, q⟩ := hs; exact q.elim
end
def tCallI (sp : List V → Hp → VK → Prop) (t : TA) : TE := fun σ H Q => t σ H fun vs H1 => sp vs H1 Q
section
variable {X : Cx} {k : Nat} {f : Addr} {fd : FuncData} {ps : List Str} {sp : Addr × Obj → Sp} {x : Str} {q pos : Pos} {e : Expr} {es : List Expr} {t : TA} {p : Addr × Obj}
/-- the call, within the suite -/
theorem pe_callI (F : FnP X.prog X.w X.K X.mg X.base k f fd ps sp) {sp' : List V → Hp → VK → Prop} (hi : ∀ vs H Q, sp' vs H Q → sp p vs H Q fun _ _ _ => False) (hr : RoomH k X.A) (hp : p ∈ X.pn) (hg : Gl X x) (hm : X.mg x = some (.ref f)) (hk : PySem.W.keepIn X.K (.ref f) = true) (hb : Binds X.K fd ps [])
    (ha : PA X (e :: es) t) (hdb : (x == ("__debug__" : Str)) = false := by decide) (he : starEach (e :: es) X.env = (false, eval e X.env) :: starEach es X.env := by rfl) (hpl : (backTo pos (starEach es X.env)).any (·.1) = false := by rfl) :
    PE X (.Call (.Name x q) (e :: es) [] pos) (tCallI sp' t) := by
  refine ⟨fun pins s σ H Q I h => wpAny_Call_Name_kw (ld_glob I hg hm ?_ hdb)⟩
  refine PySem.W.callWith_K (h₀ := X.base) I.ok.mod.kin hk (thn (ha.run pos pins s σ H _ I h) fun us s1 ⟨vs, H1, I1, r, w0⟩ => ⟨I1.kIn, ?_⟩) he hpl
  have w1 := hi _ _ _ w0
  have lenU : us.length = ps.length := by rw [← r.length]; exact F.len _ _ _ _ _ w1
  have bd := hb s1 us I1.kIn (by rw [List.append_nil]; exact lenU)
  rw [List.append_nil] at bd
  have P1 := I1.pin p (List.mem_append_left _ hp)
  have pin : PinOk X.stack H1 s1 p := ⟨P1.1, P1.2.1, fun z => (List.mem_cons.mp (I1.stkSub p.1 z)).elim P1.2.2.1 P1.2.2.2.1, P1.2.2.2.2⟩
  refine wpAny_call (codeAny_mono (F.run X.A X.stack s1 H1 ⟨us, []⟩ us vs Q p hr pin I1.env0 bd r w1) fun r s' hq => ?_)
  cases r with
  | error e => exact hq.elim
  | ok fl =>
    cases fl with
    | ret u => exact I1.after hq
    | next => exact hq.elim
    | brk => exact hq.elim
    | cont => exact hq.elim
end
/-- the call, within the suite of the error at a; its object is not named -/
def tCallZ (sp : Addr × Obj → Sp) (a : Addr) (cls : Value) (d : Option Addr) (t : TA) : TE := tCallI (fun vs H Q => ∀ oe : Obj, Zc cls d oe → (∃ fs, oe.data = .fields fs) → sp (a, oe) vs H Q fun _ _ _ => False) t
theorem pe_callZ {X : Cx} {k : Nat} {f : Addr} {fd : FuncData} {ps : List Str} {sp : Addr × Obj → Sp} {x : Str} {q pos : Pos} {e : Expr} {es : List Expr} {t : TA} {a : Addr} {oe : Obj} {cls : Value} {d : Option Addr} {pn : List (Addr × Obj)}
    (hz : Zc cls d oe) (hf : ∃ fs, oe.data = .fields fs) (F : FnP X.prog X.w X.K X.mg X.base k f fd ps sp) (hr : RoomH k X.A) (hg : Gl (X.suite a ((a, oe) :: pn)) x) (hm : X.mg x = some (.ref f)) (hk : PySem.W.keepIn X.K (.ref f) = true) (hb : Binds X.K fd ps [])
    (ha : PA (X.suite a ((a, oe) :: pn)) (e :: es) t) (hdb : (x == ("__debug__" : Str)) = false := by decide) (he : starEach (e :: es) X.env = (false, eval e X.env) :: starEach es X.env := by rfl) (hpl : (backTo pos (starEach es X.env)).any (·.1) = false := by rfl) :
    PE (X.suite a ((a, oe) :: pn)) (.Call (.Name x q) (e :: es) [] pos) (tCallZ sp a cls d t) :=
  pe_callI (X := X.suite a ((a, oe) :: pn)) (p := (a, oe)) F (fun _ _ _ h => h oe hz hf) ⟨hr.dp, hr.un⟩ List.mem_cons_self hg hm hk hb ha hdb he hpl
/-- isinstance(e, c), e the error that p is -/
def rIsP (K : PySem.W.Frag) (p : Addr × Obj) : List V → Hp → VK → Prop := fun xs H Q => ∃ (D dd : Addr) (fs : List (Str × V)) (c : V) (cv : Value) (b : Bool),
  Zc (.ref D) (some dd) p.2 ∧ (∃ vs, p.2.data = .fields vs) ∧ H dd = some (.xd fs) ∧ ExcC K D ∧ xs = [.ref p.1, c] ∧ ClsV c cv ∧ PySem.W.kitOne K (.ref D) cv = some b ∧ Q (.bl b) H
theorem call_isP {X : Cx} {p : Addr × Obj} (hp : p ∈ X.pn) : CallR X (.builtin "isinstance") (rIsP X.K p) := by
  intro pins s σ H xs us Q I r h
  obtain ⟨D, dd, fs, c, cv, b, hz, ⟨vs, hv⟩, hdd, C, rfl, hcv, e, q⟩ := h
  obtain ⟨u1, u2, rfl, r1, r2⟩ := vals2 r
  obtain rfl := hcv.eq r2
  cases (show u1 = Value.ref p.1 from r1)
  obtain ⟨got, _⟩ := I.pin p (List.mem_append_left _ hp)
  have hx : ObjOk X.prog X.w H s.heap dd (.xd fs) := I.hok dd _ hdd
  obtain ⟨mA, hns, _⟩ := hx
  obtain ⟨od, ho, _⟩ := lookIn_ns hns
  have J : PySem.W.InstAt s.heap p.1 p.2 D (some od) := ⟨got, hz.1, by unfold PySem.W.notCls; rw [hv] <;> rfl, by rw [hz.2]; exact ho⟩
  have isC : (PySem.W.clsIn X.K D).isSome = true := by
    obtain ⟨cd, hc, _⟩ := PySem.W.any_some C.hd
    rw [hc]
    rfl
  exact PySem.W.kia_one (PySem.W.kitx_exc isC C.hg C.hk C.hs C.ha C.hn C.ht C.hm) I.kIn J e (fun z => nomatch z) fun tk => ⟨.bl b, H, I.kept (t' := tk) fun _ _ z => z, rfl, q⟩
end XP
set_option maxRecDepth 100000
set_option maxHeartbeats 4000000
namespace A4
open PySem L2 Evl
def top (i : Nat) : Stmt := PySem.Challenge.pw_ringclause_k04_texts_of_values.main.body.getD i (.Pass ⟨0, 0, 0, 0⟩)

/-! ### general -/
section
variable {K : PySem.W.Frag} {σ : L2.St} {H H1 : Hp} {J : It} {G : Hp → Prop} {te : TE}
theorem lcMap {xs : List V} (w : Walk J xs.length G (YAt xs)) (f : V → V) {j : Nat} {vs : List Nat} (hz : xs.length < sizeLine) (hG : ∀ H', Ex H1 H' → G H')
    (hw : ∀ v, wipe ((wipe σ vs).set j (some v)) vs = wipe σ vs) (he : ∀ v ∈ xs, ∀ H', Ex H1 H' → Ev te ((wipe σ vs).set j (some v)) H' (f v)) {Qd : Hp → Prop} {D : Addr} (hD : H1 D = none)
    (k : ∀ H', Ex H1 H' → H' D = some (.lst (xs.map f)) → Qd H') :
    ∃ W : Nat → Nat → Hp → Prop, (∃ m, W 0 m (upd H1 D (.lst []))) ∧ ∀ i m H, W i m H →
      (J.stop i H ∧ Qd H) ∨ (J.go i H ∧ ∃ Nx : Hp → Prop, (∀ H', Nx H' → ∃ m', m' < m ∧ W (i + 1) m' H') ∧ ∀ x H', J.yld i H x H' → gName j x (wipe σ vs) H' fun σ2 H2 => wipe σ2 vs = wipe σ vs ∧ tYes σ2 H2 fun b H3 =>
        if b = true then te σ2 H3 fun y H4 => ∃ acc, H4 D = some (.lst acc) ∧ acc.length < sizeLine ∧ Nx (upd H4 D (.lst (acc ++ [y]))) else Nx H3) := by
  refine lc_it w (fun i H => Ex H1 H ∧ H D = some (.lst ((xs.take i).map f))) ⟨Ex.new hD, upd_same⟩ (fun i H _ p => hG H p.1) ?_ (fun H p => k H p.1 (by have := p.2; rwa [List.take_length] at this))
  rintro i x H H' hi ⟨e, hl⟩ ⟨rfl, hx⟩
  have hm : x ∈ xs := by
    obtain ⟨h, q⟩ := List.getElem?_eq_some_iff.mp hx
    rw [← q]
    exact List.getElem_mem h
  unfold gName tYes
  dsimp only
  refine ⟨hw x, ?_⟩
  rw [if_pos rfl]
  refine he x hm H' e H' (Ex.refl _) _ fun H4 e4 => ⟨_, e4 D _ hl, ?_, Ex.mut (e.trans e4) hD, ?_⟩
  · rw [List.length_map, List.length_take]
    omega
  · rw [upd_same, List.take_add_one, hx]
    simp
theorem walk_signs {z : Str} : Walk (Its z) (z.cps.toList.map fun c => V.str ⟨#[c]⟩).length (fun _ => True) (YAt (z.cps.toList.map fun c => V.str ⟨#[c]⟩)) := by
  have e : (z.cps.toList.map fun c => V.str ⟨#[c]⟩).length = z.cps.size := by simp
  rw [e]
  refine walk_str.mono (fun _ h => h) ?_
  rintro i H x H' hi _ ⟨rfl, c, hc, rfl⟩
  refine ⟨rfl, ?_⟩
  simp [hc]
end

theorem at_lit {α : Type} {l : List α} {n : Nat} {z : Int} {v : α} (e : z = (n : Int)) (h : l[n]? = some v) : atI l z = some v := by
  rw [e]
  exact atI_nat h
/-! ### data by its kind -/
def tyN : PyData → String
  | .none => "NoneType" | .bool _ => "bool" | .int _ => "int" | .str _ => "str" | .list _ => "list" | .tuple _ => "tuple" | .dict _ => "dict"
def isStrD : PyData → Bool | .str _ => true | _ => false
def isIntLikeD : PyData → Bool | .int _ => true | .bool _ => true | _ => false
def isBoolD : PyData → Bool | .bool _ => true | _ => false
def isTupD : PyData → Bool | .tuple _ => true | _ => false
def isListD : PyData → Bool | .list _ => true | _ => false
section
variable {K : PySem.W.Frag} {H H' : Hp} {v : V} {d : PyData}
theorem dp_ty (h : Dp K H v d) : TyX K H v (.type (tyN d)) := by
  cases h with
  | non => exact .base .non
  | bl b => exact .base (.bl b)
  | int i => exact .base (.int i)
  | str x => exact .base (.str x)
  | lst h _ =>
    rcases h with (h | ⟨o, h⟩) | ⟨o, its, n, h1, h2, _⟩
    · exact .base (.lst h)
    · exact .base (.frz h)
    · exact .kList h1 h2
  | tup h _ =>
    rcases h with (h | ⟨o, h⟩) | ⟨o, its, n, h1, h2, _⟩
    · exact .base (.tup h)
    · exact .fTuple h
    · exact .kTuple h1 h2
theorem kit_str (d : PyData) : PySem.W.kitOne K (.type (tyN d)) (.type "str") = some (isStrD d) := by cases d <;> (refine kit_ty ?_; simp only [tyN, isStrD]; decide +kernel)
theorem kit_int (d : PyData) : PySem.W.kitOne K (.type (tyN d)) (.type "int") = some (isIntLikeD d) := by cases d <;> (refine kit_ty ?_; simp only [tyN, isIntLikeD]; decide +kernel)
theorem kit_bool (d : PyData) : PySem.W.kitOne K (.type (tyN d)) (.type "bool") = some (isBoolD d) := by cases d <;> (refine kit_ty ?_; simp only [tyN, isBoolD]; decide +kernel)
theorem kit_tuple (d : PyData) : PySem.W.kitOne K (.type (tyN d)) (.type "tuple") = some (isTupD d) := by cases d <;> (refine kit_ty ?_; simp only [tyN, isTupD]; decide +kernel)
theorem kit_list (d : PyData) : PySem.W.kitOne K (.type (tyN d)) (.type "list") = some (isListD d) := by cases d <;> (refine kit_ty ?_; simp only [tyN, isListD]; decide +kernel)
mutual
theorem Dp.ex (e : Ex H H') {v : V} {d : PyData} : Dp K H v d → Dp K H' v d
  | .non => .non
  | .bl b => .bl b
  | .int i => .int i
  | .str x => .str x
  | .lst h a => .lst (ex_l e h) (DpAll.ex e a)
  | .tup h a => .tup (ex_t e h) (DpAll.ex e a)
theorem DpAll.ex (e : Ex H H') {vs : List V} {ds : List PyData} : DpAll K H vs ds → DpAll K H' vs ds
  | .nil => .nil
  | .cons a b => .cons (Dp.ex e a) (DpAll.ex e b)
end
theorem DpAll.len : ∀ {vs : List V} {ds : List PyData}, DpAll K H vs ds → vs.length = ds.length
  | _, _, .nil => rfl
  | _, _, .cons _ r => by rw [List.length_cons, List.length_cons, DpAll.len r]
theorem DpAll.get : ∀ {vs : List V} {ds : List PyData}, DpAll K H vs ds → ∀ {i : Nat} {v : V}, vs[i]? = some v → ∃ d, ds[i]? = some d ∧ Dp K H v d
  | _, _, .nil, _, _, h => by simp at h
  | _, _, .cons (d := d) a _, 0, v, h => by
    have e : _ = v := Option.some.inj h
    subst e
    exact ⟨d, rfl, a⟩
  | _, _, .cons _ b, i + 1, v, h => DpAll.get b (i := i) (by simpa using h)
end
/-! ### the names and bounds of the program, over data -/
def letters : Str := "abcdefghijklmnopqrstuvwxyz"
def signs : Str := "abcdefghijklmnopqrstuvwxyz0123456789"
def isNameS (z : Str) : Bool := decide (1 ≤ z.length ∧ z.length ≤ 8) && (decide ((z.cps.toList.headD 0) ∈ letters.cps.toList) && z.cps.toList.all fun c => decide (c ∈ signs.cps.toList))
def isNameD : PyData → Bool | .str z => isNameS z | _ => false
def isIntD (d : PyData) : Bool := isIntLikeD d && !isBoolD d
def partsD : PyData → Option (PyData × PyData × PyData × PyData)
  | .tuple [a, b, c, e] => some (a, b, c, e)
  | _ => none
def isMostD : PyData → Bool | .str w => decide (w = ("most" : Str)) | _ => false
def sameD : PyData → PyData → Bool
  | .str x, .str y => decide (x = y)
  | _, _ => false
def isBoundD (d : PyData) : Bool := match partsD d with
  | some (a, b, c, e) => isMostD a && (isNameD b && (isNameD c && (!sameD b c && isIntD e)))
  | none => false
theorem isBound4 {a b c e : PyData} : isBoundD (.tuple [a, b, c, e]) = (isMostD a && (isNameD b && (isNameD c && (!sameD b c && isIntD e)))) := rfl
/-- texts in it, not too long -/
def szS : PyData → Prop | .str z => z.length ≤ sizeLine | _ => True
def szD : PyData → Prop | .tuple ds => ∀ d ∈ ds, szS d | _ => True

/-! ### the text -/
abbrev s_is_name : Stmt := top 11
theorem sc_is_name : FnScope ["value"] ["value"] (defScope s_is_name) := ⟨rfl, rfl, rfl, by decide +kernel, rfl, by decide +kernel, by decide +kernel⟩
abbrev s_write_values : Stmt := top 15
theorem sc_write_values : FnScope ["values", "names", "times", "texts", "name", "integer"] ["values"] (defScope s_write_values) := ⟨rfl, rfl, rfl, by decide +kernel, rfl, by decide +kernel, by decide +kernel⟩
abbrev s_is_number : Stmt := top 16
theorem sc_is_number : FnScope ["text", "most", "sign"] ["text", "most"] (defScope s_is_number) := ⟨rfl, rfl, rfl, by decide +kernel, rfl, by decide +kernel, by decide +kernel⟩
abbrev s_told_integer : Stmt := top 17
theorem sc_told_integer : FnScope ["text", "below", "digits"] ["text"] (defScope s_told_integer) := ⟨rfl, rfl, rfl, by decide +kernel, rfl, by decide +kernel, by decide +kernel⟩
abbrev s_told_time : Stmt := top 18
theorem sc_told_time : FnScope ["text", "name", "_", "written", "integer"] ["text"] (defScope s_told_time) := ⟨rfl, rfl, rfl, by decide +kernel, rfl, by decide +kernel, by decide +kernel⟩
abbrev s_told_values : Stmt := top 19
theorem sc_told_values : FnScope ["text", "words", "names", "times", "moments", "word", "name", "_"] ["text"] (defScope s_told_values) := ⟨rfl, rfl, rfl, by decide +kernel, rfl, by decide +kernel, by decide +kernel⟩
abbrev s_read_values : Stmt := top 20
theorem sc_read_values : FnScope ["text", "values"] ["text"] (defScope s_read_values) := ⟨rfl, rfl, rfl, by decide +kernel, rfl, by decide +kernel, by decide +kernel⟩
abbrev s_law_bag : Stmt := top 22
theorem sc_law_bag : FnScope ["script"] ["script"] (defScope s_law_bag) := ⟨rfl, rfl, rfl, by decide +kernel, rfl, by decide +kernel, by decide +kernel⟩
abbrev s_law_take : Stmt := top 23
theorem sc_law_take : FnScope ["bag", "size", "cell", "draw"] ["bag", "size"] (defScope s_law_take) := ⟨rfl, rfl, rfl, by decide +kernel, rfl, by decide +kernel, by decide +kernel⟩
abbrev s_law_names : Stmt := top 24
theorem sc_law_names : FnScope ["bag", "many", "letters", "signs", "found", "k", "name", "at", "j", "sign"] ["bag", "many"] (defScope s_law_names) := ⟨rfl, rfl, rfl, by decide +kernel, rfl, by decide +kernel, by decide +kernel⟩
abbrev s_law_integer : Stmt := top 25
theorem sc_law_integer : FnScope ["bag", "way", "great"] ["bag"] (defScope s_law_integer) := ⟨rfl, rfl, rfl, by decide +kernel, rfl, by decide +kernel, by decide +kernel⟩
abbrev s_law_same : Stmt := top 26
theorem sc_law_same : FnScope ["actual", "due", "k"] ["actual", "due"] (defScope s_law_same) := ⟨rfl, rfl, rfl, by decide +kernel, rfl, by decide +kernel, by decide +kernel⟩
abbrev s_law_is_name : Stmt := top 27
theorem sc_law_is_name : FnScope ["text", "letters", "sign"] ["text"] (defScope s_law_is_name) := ⟨rfl, rfl, rfl, by decide +kernel, rfl, by decide +kernel, by decide +kernel⟩
abbrev s_law_number : Stmt := top 28
theorem sc_law_number : FnScope ["text", "digits", "sign"] ["text"] (defScope s_law_number) := ⟨rfl, rfl, rfl, by decide +kernel, rfl, by decide +kernel, by decide +kernel⟩
abbrev s_law_values_of : Stmt := top 29
theorem sc_law_values_of : FnScope ["text", "names", "pairs", "word", "parts", "number"] ["text"] (defScope s_law_values_of) := ⟨rfl, rfl, rfl, by decide +kernel, rfl, by decide +kernel, by decide +kernel⟩
abbrev s_law_text : Stmt := top 30
theorem sc_law_text : FnScope ["given", "words", "pair"] ["given"] (defScope s_law_text) := ⟨rfl, rfl, rfl, by decide +kernel, rfl, by decide +kernel, by decide +kernel⟩
abbrev s_law_sign : Stmt := top 31
theorem sc_law_sign : FnScope ["bag", "few", "signs"] ["bag"] (defScope s_law_sign) := ⟨rfl, rfl, rfl, by decide +kernel, rfl, by decide +kernel, by decide +kernel⟩
abbrev s_law_bent : Stmt := top 32
theorem sc_law_bent : FnScope ["bag", "text", "most", "k", "at", "way", "sign"] ["bag", "text", "most"] (defScope s_law_bent) := ⟨rfl, rfl, rfl, by decide +kernel, rfl, by decide +kernel, by decide +kernel⟩
abbrev s_law_free : Stmt := top 33
theorem sc_law_free : FnScope ["bag", "most", "text", "k"] ["bag", "most"] (defScope s_law_free) := ⟨rfl, rfl, rfl, by decide +kernel, rfl, by decide +kernel, by decide +kernel⟩
abbrev s_law_digits : Stmt := top 34
theorem sc_law_digits : FnScope ["bag", "many", "tail"] ["bag"] (defScope s_law_digits) := ⟨rfl, rfl, rfl, by decide +kernel, rfl, by decide +kernel, by decide +kernel⟩
abbrev s_law_own : Stmt := top 35
theorem sc_law_own : FnScope ["e"] ["e"] (defScope s_law_own) := ⟨rfl, rfl, rfl, by decide +kernel, rfl, by decide +kernel, by decide +kernel⟩
abbrev s_law_read : Stmt := top 36
theorem sc_law_read : FnScope ["text", "due", "actual", "e"] ["text"] (defScope s_law_read) := ⟨rfl, rfl, rfl, by decide +kernel, rfl, by decide +kernel, by decide +kernel⟩
abbrev s_law_values : Stmt := top 37
theorem sc_law_values : FnScope ["bag", "names", "pairs", "pool", "name", "way"] ["bag"] (defScope s_law_values) := ⟨rfl, rfl, rfl, by decide +kernel, rfl, by decide +kernel, by decide +kernel⟩
abbrev s_law_exchanged : Stmt := top 38
theorem sc_law_exchanged : FnScope ["bag", "text", "words", "one", "two", "word"] ["bag", "text"] (defScope s_law_exchanged) := ⟨rfl, rfl, rfl, by decide +kernel, rfl, by decide +kernel, by decide +kernel⟩
abbrev s_law_doubled : Stmt := top 39
theorem sc_law_doubled : FnScope ["bag", "text", "words", "word", "at"] ["bag", "text"] (defScope s_law_doubled) := ⟨rfl, rfl, rfl, by decide +kernel, rfl, by decide +kernel, by decide +kernel⟩
abbrev s_law_near : Stmt := top 40
theorem sc_law_near : FnScope ["bag", "text", "pool", "x", "y", "menu"] ["bag", "text"] (defScope s_law_near) := ⟨rfl, rfl, rfl, by decide +kernel, rfl, by decide +kernel, by decide +kernel⟩
abbrev s_law : Stmt := top 41
theorem sc_law : FnScope ["script", "bag", "given", "text", "name"] ["script"] (defScope s_law) := ⟨rfl, rfl, rfl, by decide +kernel, rfl, by decide +kernel, by decide +kernel⟩
/-- where the defs stand -/
structure Ad where
  a_is_name : Addr
  a_write_values : Addr
  a_is_number : Addr
  a_told_integer : Addr
  a_told_time : Addr
  a_told_values : Addr
  a_read_values : Addr
  a_law_bag : Addr
  a_law_take : Addr
  a_law_names : Addr
  a_law_integer : Addr
  a_law_same : Addr
  a_law_is_name : Addr
  a_law_number : Addr
  a_law_values_of : Addr
  a_law_text : Addr
  a_law_sign : Addr
  a_law_bent : Addr
  a_law_free : Addr
  a_law_digits : Addr
  a_law_own : Addr
  a_law_read : Addr
  a_law_values : Addr
  a_law_exchanged : Addr
  a_law_doubled : Addr
  a_law_near : Addr
  a_law : Addr
  cR : Addr
  cN : Addr
  cL : Addr
  cC : Addr
  cT : Addr
  cU : Addr
  fX : Addr
  tL : Tok
  tS : Tok
  tN : Tok
  tD : Tok
  tM : Tok
structure Fd where
  a_is_name : FuncData
  a_write_values : FuncData
  a_is_number : FuncData
  a_told_integer : FuncData
  a_told_time : FuncData
  a_told_values : FuncData
  a_read_values : FuncData
  a_law_bag : FuncData
  a_law_take : FuncData
  a_law_names : FuncData
  a_law_integer : FuncData
  a_law_same : FuncData
  a_law_is_name : FuncData
  a_law_number : FuncData
  a_law_values_of : FuncData
  a_law_text : FuncData
  a_law_sign : FuncData
  a_law_bent : FuncData
  a_law_free : FuncData
  a_law_digits : FuncData
  a_law_own : FuncData
  a_law_read : FuncData
  a_law_values : FuncData
  a_law_exchanged : FuncData
  a_law_doubled : FuncData
  a_law_near : FuncData
  a_law : FuncData
def digits : Str := "0123456789"
structure TX (P : Program) (K : PySem.W.Frag) (mg : Str → Option Value) (a : Ad) : Prop where
  b_isinstance : mg "isinstance" = none
  b_str : mg "str" = none
  b_int : mg "int" = none
  b_bool : mg "bool" = none
  b_tuple : mg "tuple" = none
  b_list : mg "list" = none
  b_len : mg "len" = none
  b_all : mg "all" = none
  b_any : mg "any" = none
  b_sum : mg "sum" = none
  b_zip : mg "zip" = none
  b_range : mg "range" = none
  b_sorted : mg "sorted" = none
  b_set : mg "set" = none
  b_super : mg "super" = none
  b_abs : mg "abs" = none
  b_ValueError : mg "ValueError" = none
  g_LETTERS : mg "LETTERS" = some (.str letters a.tL)
  g_SIGNS : mg "SIGNS" = some (.str signs a.tS)
  g_LONGEST_NAME : mg "LONGEST_NAME" = some (.int 8 a.tN)
  g_DIGITS : mg "DIGITS" = some (.str digits a.tD)
  g_MOST_DIGITS : mg "MOST_DIGITS" = some (.int 200 a.tM)
  f_is_name : mg "is_name" = some (.ref a.a_is_name)
  k_is_name : PySem.W.keepIn K (.ref a.a_is_name) = true
  f_write_values : mg "write_values" = some (.ref a.a_write_values)
  k_write_values : PySem.W.keepIn K (.ref a.a_write_values) = true
  f_is_number : mg "is_number" = some (.ref a.a_is_number)
  k_is_number : PySem.W.keepIn K (.ref a.a_is_number) = true
  f_told_integer : mg "told_integer" = some (.ref a.a_told_integer)
  k_told_integer : PySem.W.keepIn K (.ref a.a_told_integer) = true
  f_told_time : mg "told_time" = some (.ref a.a_told_time)
  k_told_time : PySem.W.keepIn K (.ref a.a_told_time) = true
  f_told_values : mg "told_values" = some (.ref a.a_told_values)
  k_told_values : PySem.W.keepIn K (.ref a.a_told_values) = true
  f_read_values : mg "read_values" = some (.ref a.a_read_values)
  k_read_values : PySem.W.keepIn K (.ref a.a_read_values) = true
  f__law_bag : mg "_law_bag" = some (.ref a.a_law_bag)
  k__law_bag : PySem.W.keepIn K (.ref a.a_law_bag) = true
  f__law_take : mg "_law_take" = some (.ref a.a_law_take)
  k__law_take : PySem.W.keepIn K (.ref a.a_law_take) = true
  f__law_names : mg "_law_names" = some (.ref a.a_law_names)
  k__law_names : PySem.W.keepIn K (.ref a.a_law_names) = true
  f__law_integer : mg "_law_integer" = some (.ref a.a_law_integer)
  k__law_integer : PySem.W.keepIn K (.ref a.a_law_integer) = true
  f__law_same : mg "_law_same" = some (.ref a.a_law_same)
  k__law_same : PySem.W.keepIn K (.ref a.a_law_same) = true
  f__law_is_name : mg "_law_is_name" = some (.ref a.a_law_is_name)
  k__law_is_name : PySem.W.keepIn K (.ref a.a_law_is_name) = true
  f__law_number : mg "_law_number" = some (.ref a.a_law_number)
  k__law_number : PySem.W.keepIn K (.ref a.a_law_number) = true
  f__law_values_of : mg "_law_values_of" = some (.ref a.a_law_values_of)
  k__law_values_of : PySem.W.keepIn K (.ref a.a_law_values_of) = true
  f__law_text : mg "_law_text" = some (.ref a.a_law_text)
  k__law_text : PySem.W.keepIn K (.ref a.a_law_text) = true
  f__law_sign : mg "_law_sign" = some (.ref a.a_law_sign)
  k__law_sign : PySem.W.keepIn K (.ref a.a_law_sign) = true
  f__law_bent : mg "_law_bent" = some (.ref a.a_law_bent)
  k__law_bent : PySem.W.keepIn K (.ref a.a_law_bent) = true
  f__law_free : mg "_law_free" = some (.ref a.a_law_free)
  k__law_free : PySem.W.keepIn K (.ref a.a_law_free) = true
  f__law_digits : mg "_law_digits" = some (.ref a.a_law_digits)
  k__law_digits : PySem.W.keepIn K (.ref a.a_law_digits) = true
  f__law_own : mg "_law_own" = some (.ref a.a_law_own)
  k__law_own : PySem.W.keepIn K (.ref a.a_law_own) = true
  f__law_read : mg "_law_read" = some (.ref a.a_law_read)
  k__law_read : PySem.W.keepIn K (.ref a.a_law_read) = true
  f__law_values : mg "_law_values" = some (.ref a.a_law_values)
  k__law_values : PySem.W.keepIn K (.ref a.a_law_values) = true
  f__law_exchanged : mg "_law_exchanged" = some (.ref a.a_law_exchanged)
  k__law_exchanged : PySem.W.keepIn K (.ref a.a_law_exchanged) = true
  f__law_doubled : mg "_law_doubled" = some (.ref a.a_law_doubled)
  k__law_doubled : PySem.W.keepIn K (.ref a.a_law_doubled) = true
  f__law_near : mg "_law_near" = some (.ref a.a_law_near)
  k__law_near : PySem.W.keepIn K (.ref a.a_law_near) = true
  f_law : mg "law" = some (.ref a.a_law)
  k_law : PySem.W.keepIn K (.ref a.a_law) = true
  c_RingclauseError : mg "RingclauseError" = some (.ref a.cR)
  c_InvalidName : mg "InvalidName" = some (.ref a.cN)
  c_InvalidLiteral : mg "InvalidLiteral" = some (.ref a.cL)
  c_InvalidClause : mg "InvalidClause" = some (.ref a.cC)
  c_InvalidText : mg "InvalidText" = some (.ref a.cT)
  c_UnknownMoment : mg "UnknownMoment" = some (.ref a.cU)
  e_InvalidText : PySem.Sup.SupTxt K mg P "InvalidText" "line" "not a text of this form" a.cT a.fX
  te : PySem.W.exmOne K (.ref a.cT) (.ref a.cT) = some true
  xc : ExcC K a.cT
  xf : XfC K a.cT
  noF : PySem.W.findIn K (.ref a.cT) "line" = some none
  kT : PySem.W.kitOne K (.ref a.cT) (.ref a.cT) = some true
  kN : PySem.W.kitOne K (.ref a.cT) (.ref a.cN) = some false
  kL : PySem.W.kitOne K (.ref a.cT) (.ref a.cL) = some false
  kC : PySem.W.kitOne K (.ref a.cT) (.ref a.cC) = some false
  kU : PySem.W.kitOne K (.ref a.cT) (.ref a.cU) = some false
  kR : PySem.W.kitOne K (.ref a.cT) (.ref a.cR) = some true
  kV : PySem.W.kitOne K (.ref a.cT) (.type "ValueError") = some true
structure FDS (K : PySem.W.Frag) (a : Ad) (d : Fd) : Prop where
  F_is_name : Fun K "is_name" "is_name" s_is_name a.a_is_name d.a_is_name
  B_is_name : Binds K d.a_is_name ["value"] []
  F_write_values : Fun K "write_values" "write_values" s_write_values a.a_write_values d.a_write_values
  B_write_values : Binds K d.a_write_values ["values"] []
  F_is_number : Fun K "is_number" "is_number" s_is_number a.a_is_number d.a_is_number
  B_is_number : Binds K d.a_is_number ["text", "most"] []
  F_told_integer : Fun K "told_integer" "told_integer" s_told_integer a.a_told_integer d.a_told_integer
  B_told_integer : Binds K d.a_told_integer ["text"] []
  F_told_time : Fun K "told_time" "told_time" s_told_time a.a_told_time d.a_told_time
  B_told_time : Binds K d.a_told_time ["text"] []
  F_told_values : Fun K "told_values" "told_values" s_told_values a.a_told_values d.a_told_values
  B_told_values : Binds K d.a_told_values ["text"] []
  F_read_values : Fun K "read_values" "read_values" s_read_values a.a_read_values d.a_read_values
  B_read_values : Binds K d.a_read_values ["text"] []
  F__law_bag : Fun K "_law_bag" "_law_bag" s_law_bag a.a_law_bag d.a_law_bag
  B__law_bag : Binds K d.a_law_bag ["script"] []
  F__law_take : Fun K "_law_take" "_law_take" s_law_take a.a_law_take d.a_law_take
  B__law_take : Binds K d.a_law_take ["bag", "size"] []
  F__law_names : Fun K "_law_names" "_law_names" s_law_names a.a_law_names d.a_law_names
  B__law_names : Binds K d.a_law_names ["bag", "many"] []
  F__law_integer : Fun K "_law_integer" "_law_integer" s_law_integer a.a_law_integer d.a_law_integer
  B__law_integer : Binds K d.a_law_integer ["bag"] []
  F__law_same : Fun K "_law_same" "_law_same" s_law_same a.a_law_same d.a_law_same
  B__law_same : Binds K d.a_law_same ["actual", "due"] []
  F__law_is_name : Fun K "_law_is_name" "_law_is_name" s_law_is_name a.a_law_is_name d.a_law_is_name
  B__law_is_name : Binds K d.a_law_is_name ["text"] []
  F__law_number : Fun K "_law_number" "_law_number" s_law_number a.a_law_number d.a_law_number
  B__law_number : Binds K d.a_law_number ["text"] []
  F__law_values_of : Fun K "_law_values_of" "_law_values_of" s_law_values_of a.a_law_values_of d.a_law_values_of
  B__law_values_of : Binds K d.a_law_values_of ["text"] []
  F__law_text : Fun K "_law_text" "_law_text" s_law_text a.a_law_text d.a_law_text
  B__law_text : Binds K d.a_law_text ["given"] []
  F__law_sign : Fun K "_law_sign" "_law_sign" s_law_sign a.a_law_sign d.a_law_sign
  B__law_sign : Binds K d.a_law_sign ["bag"] []
  F__law_bent : Fun K "_law_bent" "_law_bent" s_law_bent a.a_law_bent d.a_law_bent
  B__law_bent : Binds K d.a_law_bent ["bag", "text", "most"] []
  F__law_free : Fun K "_law_free" "_law_free" s_law_free a.a_law_free d.a_law_free
  B__law_free : Binds K d.a_law_free ["bag", "most"] []
  F__law_digits : Fun K "_law_digits" "_law_digits" s_law_digits a.a_law_digits d.a_law_digits
  B__law_digits : Binds K d.a_law_digits ["bag"] []
  F__law_own : Fun K "_law_own" "_law_own" s_law_own a.a_law_own d.a_law_own
  B__law_own : Binds K d.a_law_own ["e"] []
  F__law_read : Fun K "_law_read" "_law_read" s_law_read a.a_law_read d.a_law_read
  B__law_read : Binds K d.a_law_read ["text"] []
  F__law_values : Fun K "_law_values" "_law_values" s_law_values a.a_law_values d.a_law_values
  B__law_values : Binds K d.a_law_values ["bag"] []
  F__law_exchanged : Fun K "_law_exchanged" "_law_exchanged" s_law_exchanged a.a_law_exchanged d.a_law_exchanged
  B__law_exchanged : Binds K d.a_law_exchanged ["bag", "text"] []
  F__law_doubled : Fun K "_law_doubled" "_law_doubled" s_law_doubled a.a_law_doubled d.a_law_doubled
  B__law_doubled : Binds K d.a_law_doubled ["bag", "text"] []
  F__law_near : Fun K "_law_near" "_law_near" s_law_near a.a_law_near d.a_law_near
  B__law_near : Binds K d.a_law_near ["bag", "text"] []
  F_law : Fun K "law" "law" s_law a.a_law d.a_law
  B_law : Binds K d.a_law ["script"] []

def spD (pre : PyData → Prop) (F : PyData → Bool) (K : PySem.W.Frag) : Sp := fun vs H Q _ => ∃ v d, vs = [v] ∧ Dp K H v d ∧ pre d ∧ ∀ H', Ex H H' → Q (.bl (F d)) H'
def spIsName (K : PySem.W.Frag) : Sp := spD szS isNameD K
theorem iteT' {c : Bool} {A B : Prop} (hc : c = true) (h : A) : if c = true then A else B := by
  rw [if_pos hc]
  exact h
theorem ex_q {H H1 : Hp} {Q : VK} {b : Bool} (q : ∀ H', Ex H H' → Q (.bl b) H') {c : Bool} (e : b = c) (x : Ex H H1) : Q (.bl c) H1 := by
  rw [← e]
  exact q H1 x

section
variable {P : Program} {w : World} {K : PySem.W.Frag} {mg : Str → Option Value} {base : Heap} {a : Ad} {d : Fd}
theorem strip_all (z y : Str) : (Txt.stripChars z y = (⟨#[]⟩ : Str)) ↔ ∀ c ∈ z.cps.toList, c ∈ y.cps.toList := by
  have e0 : Txt.stripChars z y = Builtin.Str.strSub z (stripLo y.cps.contains true z) (stripHi y.cps.contains true z (stripLo y.cps.contains true z)) := PyProof.Rows.stripBy_eq _ _ _ _
  obtain ⟨l1, l2, l3⟩ := PyProof.Rows.lo_facts y.cps.contains z
  rw [e0]
  generalize stripLo y.cps.contains true z = lo at l1 l2 l3
  obtain ⟨h1, h2, h3, _⟩ := PyProof.Rows.hi_facts y.cps.contains z lo l1
  generalize stripHi y.cps.contains true z lo = hi at h1 h2 h3
  have hlen : z.cps.toList.length = z.length := by show _ = z.cps.size; simp
  have hin : ∀ c, y.cps.contains c = true ↔ c ∈ y.cps.toList := fun c => by rw [Array.contains_iff_mem]; simp
  have hk : ∀ k, k < z.length → ∃ c, z.cps.toList[k]? = some c ∧ z.cps.getD k 0 = c := fun k h => by
    have h' : k < z.cps.toList.length := by omega
    refine ⟨z.cps.toList[k], by simp, ?_⟩
    rw [← PyProof.Rows.getD_list]
    rw [List.getD, List.getElem?_eq_getElem h']; rfl
  constructor
  · intro h c hc
    have hd : (Builtin.Str.strSub z lo hi).cps.toList = [] := by rw [h]
    have hl : hi ≤ lo := by
      have := congrArg List.length hd
      rw [PySem.StrLaws.strSub_toList, List.length_take, List.length_drop, List.length_nil] at this
      omega
    obtain ⟨k, hk1, hk2⟩ := List.mem_iff_getElem.mp hc
    rw [hlen] at hk1
    obtain ⟨c', e1, e2⟩ := hk k hk1
    have : c' = c := by
      rw [List.getElem?_eq_getElem (by omega)] at e1
      rw [← hk2]
      exact (Option.some.inj e1).symm
    subst this
    rw [← hin, ← e2]
    by_cases hlo : k < lo
    · exact l2 k hlo
    · exact h3 k (by omega) hk1
  · intro h
    have hlo : lo = z.length := by
      rcases l3 with l3 | l3
      · exact l3
      · by_cases hb : lo < z.length
        · obtain ⟨c, e1, e2⟩ := hk lo hb
          rw [e2] at l3
          have := (hin c).mpr (h c (List.mem_of_getElem? e1))
          rw [this] at l3
          cases l3
        · omega
    have : hi = lo := by omega
    subst this
    have hd : (Builtin.Str.strSub z hi hi).cps.toList = [] := by rw [PySem.StrLaws.strSub_toList]; simp
    have : (Builtin.Str.strSub z hi hi).cps = #[] := by
      apply Array.ext'
      rw [hd]
    show (⟨(Builtin.Str.strSub z hi hi).cps⟩ : Str) = _
    rw [this]
theorem ok_is_name (T : TX P K mg a) (D : FDS K a d) : FnOk P w K mg base CX0 1 a.a_is_name d.a_is_name ["value"] (spIsName K) := by
  refine D.F_is_name.ok sc_is_name (fun vs H Q E h => ?_) (fun cdv A outer s H vs Q E hr h => ?_)
  · obtain ⟨v, d, rfl, _⟩ := h
    rfl
  · obtain ⟨v, d, rfl, hd, hz, q⟩ := h
    refine ⟨_, (pss_cons (ps_if (PW.pt (pw_or (pt_not (pt_val (pe_callB call_isi (by rfl) T.b_isinstance (by decide +kernel) (pa_cons (pv 0) (pa_cons (pe_bltn (v := .ty "str") (by rfl) T.b_str (by decide +kernel) rfl) pa_nil))))) (pw_or1 (pt_not (pt_chain op_le op_le pe_int (pe_callB call_len_str (by rfl) T.b_len (by decide +kernel) (pa_cons (pv 0) pa_nil)) (pe_glob (v := .int 8) rfl T.g_LONGEST_NAME ⟨_, rfl⟩)))))) (pss_one (ps_ret pe_bl)) pss_nil)
        (pss_one (ps_ret (pe_and (pe_cmpR op_in_sign (pe_ix ix_str (pv 0) pe_int (fun _ _ => rfl)) (pe_glob (v := .str letters) rfl T.g_LETTERS ⟨_, rfl⟩) rfl) (pe_one (pe_cmpR op_eq (pe_m1 PySem.F.slot_str_strip PySem.F.type_str_strip mt_stripChars (pv 0) (pe_glob (v := .str signs) rfl T.g_SIGNS ⟨_, rfl⟩)) pe_str (nomark _))))))), ?_⟩
    refine ⟨_, rfl, v, _, _, _, _, rfl, .ty "str", dp_ty hd, kit_str d, _, rfl, ?_⟩
    cases hd with
    | str z =>
      have hz : z.length ≤ sizeLine := hz
      have hlen : z.cps.toList.length = z.length := by show _ = z.cps.size; simp
      refine ⟨_, rfl, z, rfl, hz, 1, _, rfl, rfl, _, rfl, ?_⟩
      by_cases h1 : (1 : Int) ≤ (z.length : Int)
      · rw [decide_eq_true h1]
        refine ⟨_, 8, rfl, rfl, _, rfl, ?_⟩
        by_cases h2 : (z.length : Int) ≤ 8
        · rw [decide_eq_true h2]
          obtain ⟨c, cs, hc⟩ : ∃ c cs, z.cps.toList = c :: cs := by
            cases e : z.cps.toList with
            | nil =>
              rw [e] at hlen
              simp at hlen
              omega
            | cons c cs => exact ⟨c, cs, rfl⟩
          refine ⟨_, rfl, z, 0, c, rfl, rfl, hz, at_lit (n := 0) rfl (show z.cps.toList[0]? = some c by rw [hc]; rfl), c, letters, rfl, rfl, _, rfl, ?_⟩
          have hv : isNameS z = (decide (c ∈ letters.cps.toList) && z.cps.toList.all fun c => decide (c ∈ signs.cps.toList)) := by
            unfold isNameS
            rw [decide_eq_true (show 1 ≤ z.length ∧ z.length ≤ 8 by omega), hc]
            rfl
          by_cases h3 : c ∈ letters.cps.toList
          · rw [decide_eq_true h3]
            refine iteT ⟨_, rfl, ⟨_, rfl⟩, z, signs, rfl, rfl, hz, rfl, ex_q q ?_ (Ex.refl _)⟩
            show isNameS z = decide (V.str (Txt.stripChars z signs) = V.str (⟨#[]⟩ : Str))
            rw [hv, decide_eq_true h3]
            apply Bool.eq_iff_iff.mpr
            rw [Bool.true_and, decide_eq_true_eq, List.all_eq_true]
            refine ⟨fun g => ?_, fun g => ?_⟩
            · rw [(strip_all z signs).mpr fun c h => of_decide_eq_true (g c h)]
            · intro c h
              exact decide_eq_true ((strip_all z signs).mp (V.str.inj g) c h)
          · rw [decide_eq_false h3]
            exact iteF (ex_q q (show isNameS z = false by rw [hv, decide_eq_false h3]; rfl) (Ex.refl _))
        · rw [decide_eq_false h2]
          refine ex_q q (show isNameS z = false from ?_) (Ex.refl _)
          unfold isNameS
          rw [decide_eq_false (show ¬ (1 ≤ z.length ∧ z.length ≤ 8) by omega)]
          rfl
      · rw [decide_eq_false h1]
        refine ⟨false, rfl, ex_q q (show isNameS z = false from ?_) (Ex.refl _)⟩
        unfold isNameS
        rw [decide_eq_false (show ¬ (1 ≤ z.length ∧ z.length ≤ 8) by omega)]
        rfl
    | _ => exact q H (Ex.refl _)
end
end A4
set_option maxRecDepth 100000
set_option maxHeartbeats 4000000
namespace A4
open PySem L2 Evl
/-! ### texts of numbers -/
theorem str_len (z : Str) : z.cps.toList.length = z.length := by show _ = z.cps.size; simp
theorem digit_iff (c : Nat) : c ∈ digits.cps.toList ↔ 48 ≤ c ∧ c ≤ 57 := by
  have e : digits.cps.toList = [48, 49, 50, 51, 52, 53, 54, 55, 56, 57] := by decide +kernel
  rw [e]
  simp only [List.mem_cons, List.not_mem_nil, or_false]
  omega
def isNumL (l : List Nat) : Bool := decide (1 ≤ l.length ∧ l.length ≤ 200) && (!(decide (l.headD 0 = 48) && decide (l ≠ [48])) && l.all fun c => decide (c ∈ digits.cps.toList))
theorem isNumL_iff (l : List Nat) : isNumL l = true ↔ (1 ≤ l.length ∧ l.length ≤ 200) ∧ ¬ (l.headD 0 = 48 ∧ l ≠ [48]) ∧ ∀ c ∈ l, 48 ≤ c ∧ c ≤ 57 := by
  unfold isNumL
  simp only [Bool.and_eq_true, decide_eq_true_eq, Bool.not_eq_true', Bool.and_eq_false_iff, decide_eq_false_iff_not, List.all_eq_true, digit_iff]
  constructor
  · rintro ⟨a, b, c⟩
    exact ⟨a, fun z => b.elim (fun y => y z.1) fun y => y z.2, c⟩
  · rintro ⟨a, b, c⟩
    refine ⟨a, ?_, c⟩
    by_cases h : l.headD 0 = 48
    · exact .inr fun y => b ⟨h, y⟩
    · exact .inl h
/-- the digits of a number's text -/
def numDig (l : List Nat) : List Nat := match l with | 45 :: r => r | _ => l
def numOkL (l : List Nat) : Bool := isNumL (numDig l) && !(decide (l.headD 0 = 45) && decide (numDig l = [48]))
def intS (z : Str) : Option Int := if numOkL z.cps.toList then PySem.intText? z else none
theorem int_ok {z : Str} (h : numOkL z.cps.toList = true) : ∃ n, PySem.intText? z = some n := by
  unfold numOkL at h
  rw [Bool.and_eq_true, isNumL_iff] at h
  obtain ⟨⟨⟨h1, h2⟩, _, h3⟩, _⟩ := h
  have hne : numDig z.cps.toList ≠ [] := fun e => by rw [e] at h1; exact absurd h1 (by decide)
  have hl := str_len z
  by_cases hm : ∃ r, z.cps.toList = 45 :: r
  · obtain ⟨r, e⟩ := hm
    rw [e] at h2 h3 hne hl
    have h2' : r.length ≤ 200 := h2
    rw [List.length_cons] at hl
    exact ⟨_, intText_neg e h3 hne (by omega)⟩
  · have e : numDig z.cps.toList = z.cps.toList := by
      unfold numDig
      split
      · rename_i r e
        exact absurd ⟨r, e⟩ hm
      · rfl
    rw [e] at h2 h3 hne
    exact ⟨_, intText_digits h3 hne (by omega)⟩
theorem intS_some {z : Str} (h : numOkL z.cps.toList = true) : ∃ n, intS z = some n ∧ PySem.intText? z = some n := by
  obtain ⟨n, hn⟩ := int_ok h
  exact ⟨n, by unfold intS; rw [if_pos h, hn], hn⟩
theorem intS_none {z : Str} (h : numOkL z.cps.toList = false) : intS z = none := by
  unfold intS
  rw [if_neg (by rw [h]; decide)]
/-! ### cut at the first sign of a kind -/
theorem eqSign : ("=" : Str).cps.toList = [61] := by decide +kernel
theorem blank : (" " : Str).cps.toList = [32] := by decide +kernel
theorem toList_inj {x y : Str} (h : x.cps.toList = y.cps.toList) : x = y := by
  obtain ⟨a⟩ := x
  obtain ⟨b⟩ := y
  have : a = b := Array.ext' h
  rw [this]
def headS (z : Str) : Str := ⟨(z.cps.toList.takeWhile (· != 61)).toArray⟩
def restS (z : Str) : Str := ⟨(z.cps.toList.dropWhile (· != 61)).tail.toArray⟩
theorem pre61 (r : List Nat) : TL.pre [61] (61 :: r) = true := by simp [TL.pre]
theorem par_cut : ∀ (l acc : List Nat), TL.par [61] acc l = if 61 ∈ l then some (acc ++ l.takeWhile (· != 61), (l.dropWhile (· != 61)).tail) else none
  | [], acc => rfl
  | c :: r, acc => by
    by_cases hc : c = 61
    · subst hc
      rw [TL.par_hit (pre61 r), if_pos List.mem_cons_self]
      simp
    · rw [TL.par_miss (TL.pre_of_head [] r hc), par_cut r (acc ++ [c])]
      have e1 : (61 ∈ c :: r) ↔ 61 ∈ r := by simp only [List.mem_cons]; exact ⟨fun h => h.resolve_left fun e => hc e.symm, .inr⟩
      by_cases hr : 61 ∈ r
      · rw [if_pos hr, if_pos (e1.mpr hr)]
        simp [hc, List.append_assoc]
      · rw [if_neg hr, if_neg fun h => hr (e1.mp h)]
theorem take_all {l : List Nat} (h : 61 ∉ l) : l.takeWhile (· != 61) = l ∧ l.dropWhile (· != 61) = [] := by
  induction l with
  | nil => exact ⟨rfl, rfl⟩
  | cons c r ih =>
    obtain ⟨a, b⟩ := ih fun z => h (List.mem_cons_of_mem _ z)
    have hc : c ≠ 61 := fun e => h (by rw [e]; exact List.mem_cons_self)
    simp [hc, a, b]
theorem part_eq (z : Str) : (Txt.partition z "=").1 = headS z ∧ (Txt.partition z "=").2.2 = restS z := by
  rw [TL.partition_par z _ (by show ("=" : Str).cps.toList ≠ []; rw [eqSign]; decide)]
  show (match TL.par ("=" : Str).cps.toList [] z.cps.toList with | some (a, b) => ((⟨a.toArray⟩, "=", ⟨b.toArray⟩) : Str × Str × Str) | none => (z, Str.empty, Str.empty)).1 = _ ∧ (match TL.par ("=" : Str).cps.toList [] z.cps.toList with | some (a, b) => ((⟨a.toArray⟩, "=", ⟨b.toArray⟩) : Str × Str × Str) | none => (z, Str.empty, Str.empty)).2.2 = _
  rw [eqSign, par_cut]
  unfold headS restS
  by_cases h : 61 ∈ z.cps.toList
  · rw [if_pos h]
    exact ⟨rfl, rfl⟩
  · rw [if_neg h, (take_all h).1, (take_all h).2]
    exact ⟨toList_inj (by simp), toList_inj (by simp [Str.empty])⟩
theorem spl_cut : ∀ (l acc : List Nat), TL.spl [61] 0 acc l = if 61 ∈ l then (acc ++ l.takeWhile (· != 61)) :: TL.spl [61] 0 [] (l.dropWhile (· != 61)).tail else [acc ++ l]
  | [], acc => by rw [TL.spl_nil]; simp
  | c :: r, acc => by
    by_cases hc : c = 61
    · subst hc
      rw [TL.spl_hit (pre61 r), if_pos List.mem_cons_self]
      simp
    · rw [TL.spl_miss (TL.pre_of_head [] r hc), spl_cut r (acc ++ [c])]
      have e1 : (61 ∈ c :: r) ↔ 61 ∈ r := by simp only [List.mem_cons]; exact ⟨fun h => h.resolve_left fun e => hc e.symm, .inr⟩
      by_cases hr : 61 ∈ r
      · rw [if_pos hr, if_pos (e1.mpr hr)]
        simp [hc, List.append_assoc]
      · rw [if_neg hr, if_neg fun h => hr (e1.mp h)]
        simp [List.append_assoc]
theorem kind_low (x : Str) (c : Nat) (h : c < 256) : ¬ Builtin.Str.strKind x < Builtin.Str.strKind ⟨#[c]⟩ := by
  have : Builtin.Str.strKind ⟨#[c]⟩ = 1 := by
    unfold Builtin.Str.strKind
    rw [if_pos]
    simp [h]
  rw [this]
  have := PyProof.Rows.strKind_pos x
  omega
theorem splitE (z : Str) : (Txt.split z "=").map (fun p => p.cps.toList) = TL.spl [61] 0 [] z.cps.toList := by
  have h := TL.split_spl z "=" (by show ("=" : Str).cps.toList ≠ []; rw [eqSign]; decide) (by
    have e : ("=" : Str) = ⟨#[61]⟩ := toList_inj (by rw [eqSign])
    rw [e]
    exact kind_low z 61 (by decide))
  have e2 : TL.tl ("=" : Str) = [61] := eqSign
  rw [e2] at h
  exact h
/-- the parts of a word -/
theorem parts_one {z : Str} (h : 61 ∉ z.cps.toList) : Txt.split z "=" = [z] ∧ headS z = z := by
  have e := splitE z
  rw [spl_cut, if_neg h] at e
  refine ⟨?_, toList_inj (by unfold headS; simp [(take_all h).1])⟩
  cases hs : Txt.split z "=" with
  | nil => rw [hs] at e; cases e
  | cons p r =>
    rw [hs] at e
    simp only [List.map_cons, List.nil_append, List.cons.injEq, List.map_eq_nil_iff] at e
    rw [e.2, toList_inj e.1]
theorem parts_two {z : Str} (h : 61 ∈ z.cps.toList) (h2 : 61 ∉ (restS z).cps.toList) : Txt.split z "=" = [headS z, restS z] := by
  have e := splitE z
  have hr : (restS z).cps.toList = (z.cps.toList.dropWhile (· != 61)).tail := by simp [restS]
  rw [hr] at h2
  rw [spl_cut, if_pos h, spl_cut, if_neg h2] at e
  cases hs : Txt.split z "=" with
  | nil => rw [hs] at e; cases e
  | cons p r =>
    cases r with
    | nil => rw [hs] at e; simp at e
    | cons q r =>
      rw [hs] at e
      simp only [List.map_cons, List.nil_append, List.cons.injEq, List.map_eq_nil_iff] at e
      obtain ⟨e1, e2, e3⟩ := e
      rw [e3, show p = headS z from toList_inj (by rw [e1]; simp [headS]), show q = restS z from toList_inj (by rw [e2]; simp [restS])]
theorem parts_more {z : Str} (h : 61 ∈ z.cps.toList) (h2 : 61 ∈ (restS z).cps.toList) : ∃ q q2 r, Txt.split z "=" = headS z :: q :: q2 :: r := by
  have e := splitE z
  have hr : (restS z).cps.toList = (z.cps.toList.dropWhile (· != 61)).tail := by simp [restS]
  rw [hr] at h2
  rw [spl_cut, if_pos h, spl_cut, if_pos h2, spl_cut] at e
  have go : ∀ {l : List Str} {a b c : List Nat} {r : List (List Nat)}, l.map (fun p => p.cps.toList) = a :: b :: c :: r → a = (headS z).cps.toList → ∃ q q2 r, l = headS z :: q :: q2 :: r := by
    intro l a b c r e ea
    match l, e with
    | p :: q :: q2 :: r', e =>
      simp only [List.map_cons, List.cons.injEq] at e
      exact ⟨q, q2, r', by rw [show p = headS z from toList_inj (e.1.trans ea)]⟩
  by_cases h3 : 61 ∈ ((z.cps.toList.dropWhile (· != 61)).tail.dropWhile (· != 61)).tail
  · rw [if_pos h3] at e
    exact go e (by simp [headS])
  · rw [if_neg h3] at e
    exact go e (by simp [headS])
end A4
set_option maxRecDepth 100000
set_option maxHeartbeats 4000000
namespace A4
open PySem L2 Evl
def optI : Option Int → V | none => .non | some n => .int n
def timeS (z : Str) : Option (Str × Int) := if isNameS (headS z) then (intS (restS z)).map fun n => (headS z, n) else none
def spIsNumber : Sp := fun vs H Q _ => ∃ z : Str, vs = [.str z, .int 200] ∧ z.length ≤ sizeLine ∧ ∀ H', Ex H H' → Q (.bl (isNumL z.cps.toList)) H'
def spToldInteger : Sp := fun vs H Q _ => ∃ z : Str, vs = [.str z] ∧ z.length ≤ sizeLine ∧ ∀ H', Ex H H' → Q (optI (intS z)) H'
def spToldTime : Sp := fun vs H Q _ => ∃ z : Str, vs = [.str z] ∧ z.length ≤ sizeLine ∧ (timeS z = none → ∀ H', Ex H H' → Q .non H') ∧
  ∀ m n, timeS z = some (m, n) → ∀ t H', Ex H H' → H t = none → H' t = some (.tup [.str m, .int n]) → Q (.ref t) H'
theorem ofStr {x y : Str} : decide (V.str x = V.str y) = decide (x.cps.toList = y.cps.toList) := by
  by_cases h : x = y
  · subst h
    simp
  · rw [decide_eq_false (fun z => h (V.str.inj z)), decide_eq_false (fun z => h (toList_inj z))]
theorem cut_from {z : Str} {k : Nat} (h : k ≤ z.length) : (cutS z (some (k : Int)) none).cps.toList = z.cps.toList.drop k := by
  unfold cutS
  rw [HT.sIx_none, HT.sIx_nat, Nat.min_eq_left h]
  show (z.cps.toList.drop k).take (z.length - k) = _
  exact List.take_of_length_le (by rw [List.length_drop, str_len]; exact Nat.le_refl _)
theorem starts (z : Str) : Txt.startswith z "-" = decide (z.cps.toList.headD 0 = 45) := by
  have e1 : ("-" : Str).cps.toList = [45] := by decide +kernel
  have e2 : ("-" : Str).length = 1 := by decide +kernel
  have hl := str_len z
  unfold Txt.startswith
  rw [PySem.StrLaws.subAt_eq, e2]
  show (decide (0 + 1 ≤ z.length) && ((z.cps.toList.drop 0).take 1 == ("-" : Str).cps.toList)) = _
  rw [e1, List.drop_zero, ← hl]
  cases z.cps.toList with
  | nil => decide
  | cons c r =>
    by_cases h : c = 45
    · subst h
      simp
    · simp [h]
theorem numDig_cut {z : Str} (h : z.cps.toList.headD 0 = 45) : (cutS z (some 1) none).cps.toList = numDig z.cps.toList ∧ (cutS z (some 1) none).length ≤ z.length := by
  have hl := str_len z
  cases e : z.cps.toList with
  | nil => rw [e] at h; cases h
  | cons c r =>
    rw [e] at h hl
    obtain rfl : c = 45 := h
    rw [List.length_cons] at hl
    refine ⟨?_, cutS_length z (some 1) none⟩
    have := cut_from (z := z) (k := 1) (by omega)
    rw [show ((1 : Nat) : Int) = 1 from rfl, e] at this
    rw [this]
    rfl
theorem numDigL_same {l : List Nat} (h : l.headD 0 ≠ 45) : l = numDig l := by
  unfold numDig
  split
  · rename_i r
    exact absurd rfl h
  · rfl
theorem numDig_same {z : Str} (h : z.cps.toList.headD 0 ≠ 45) : z.cps.toList = numDig z.cps.toList := numDigL_same h
section
variable {P : Program} {w : World} {K : PySem.W.Frag} {mg : Str → Option Value} {base : Heap} {a : Ad} {d : Fd}
theorem ok_is_number (T : TX P K mg a) (D : FDS K a d) : FnOk P w K mg base CX0 1 a.a_is_number d.a_is_number ["text", "most"] spIsNumber := by
  refine D.F_is_number.ok sc_is_number (fun vs H Q E h => ?_) (fun cdv A outer s H vs Q E hr h => ?_)
  · obtain ⟨z, rfl, _⟩ := h
    rfl
  · obtain ⟨z, rfl, hz, q⟩ := h
    refine ⟨_, (pss_cons (ps_if (PW.pt (pw_or (pt_not (pt_chain op_le op_le pe_int (pe_callB call_len_str (by rfl) T.b_len (by decide +kernel) (pa_cons (pv 0) pa_nil)) (pv 1))) (pw_or1 (PW.pt (pw_and (pt_cmpR op_eq (pe_ix ix_str (pv 0) pe_int (fun _ _ => rfl)) pe_str (nomark _)) (pw_and1 (pt_cmpR op_ne (pv 0) pe_str (nomark _)))))))) (pss_one (ps_ret pe_bl)) pss_nil)
        (pss_one (ps_ret (pe_callB (cr_all rfl) (by rfl) T.b_all (by decide +kernel) (pa_cons (pe_lc (own := [("sign", 2)]) (g := gName 2) (tt := tYes) rfl sc_is_number.nd (pi_str (pv 0)) (blkOk_by (N := ["text", "most", "sign"]) (sc := defScope s_is_number) (by decide +kernel)) (fun _ _ _ _ _ => (pg_name (i := 2) sc_is_number.nd rfl (Or.inl rfl))) (fun _ _ _ _ _ => pts_nil) (fun _ _ _ _ _ => (pe_cmpR op_in_sign (pv 2) (pe_glob (v := .str digits) rfl T.g_DIGITS ⟨_, rfl⟩) rfl))) pa_nil))))), ?_⟩
    have hl := str_len z
    have no : isNumL z.cps.toList = false → ∀ H', Ex H H' → Q (.bl false) H' := fun e H' x => by
      have := q H' x
      rwa [e] at this
    refine ⟨_, rfl, z, rfl, hz, 1, _, rfl, rfl, _, rfl, ?_⟩
    by_cases h1 : (1 : Int) ≤ (z.length : Int)
    · rw [decide_eq_true h1]
      refine ⟨_, rfl, _, _, rfl, rfl, _, rfl, ?_⟩
      by_cases h2 : (z.length : Int) ≤ 200
      · rw [decide_eq_true h2]
        obtain ⟨c, cs, hc⟩ : ∃ c cs, z.cps.toList = c :: cs := by
          cases e : z.cps.toList with
          | nil => rw [e] at hl; simp at hl; omega
          | cons c cs => exact ⟨c, cs, rfl⟩
        have hv : isNumL z.cps.toList = (!(decide (c = 48) && decide (c :: cs ≠ [48])) && (c :: cs).all fun c => decide (c ∈ digits.cps.toList)) := by
          unfold isNumL
          rw [decide_eq_true (show 1 ≤ z.cps.toList.length ∧ z.cps.toList.length ≤ 200 by rw [hl]; omega), hc]
          rfl
        have h0 : z.cps.toList[0]? = some c := by rw [hc]; rfl
        have zero : ("0" : Str).cps.toList = [48] := by decide +kernel
        have e1 : decide (V.str ⟨#[c]⟩ = V.str "0") = decide (c = 48) := by
          rw [ofStr, zero]
          simp
        have e2 : decide (V.str z = V.str "0") = decide (c :: cs = [48]) := by rw [ofStr, zero, hc]
        refine iteF ⟨_, rfl, z, 0, c, rfl, rfl, hz, at_lit (n := 0) rfl h0, rfl, _, rfl, ?_⟩
        rw [e1]
        refine ite2 (fun g => ⟨_, rfl, rfl, _, rfl, ite2 (fun g2 => no ?_ H (Ex.refl _)) (fun g2 =>
            have hcond : (decide (c = 48) && decide (c :: cs ≠ [48])) = false := ?_
            ?_)⟩) (fun g =>
            have hcond : (decide (c = 48) && decide (c :: cs ≠ [48])) = false := by
              rw [show decide (c = 48) = false from by simpa using g]
              rfl
            ?_)
        · rw [hv, g, show decide (c :: cs ≠ [48]) = true from by rw [e2] at g2; simpa using g2]
          rfl
        · rw [g, show decide (c :: cs ≠ [48]) = false from by rw [e2] at g2; simpa using g2]
          rfl
        all_goals
          refine ⟨_, rfl, z, rfl, fun D hD => lcMap walk_signs (fun v => match v with | .str x => .bl (decide ((x.cps.toList.headD 0) ∈ digits.cps.toList)) | _ => .non) (by rw [List.length_map, hl]; exact Nat.lt_of_le_of_lt (by omega : z.length ≤ 200) (by decide)) (fun _ _ => trivial) (fun _ => rfl) ?_ hD ?_⟩
          · intro v hv2 H' _
            obtain ⟨d, _, rfl⟩ := List.mem_map.mp hv2
            intro H1 e1 Q q
            exact ⟨_, rfl, d, digits, rfl, rfl, q _ (Ex.refl _)⟩
          · intro H' e1 hD2
            refine ⟨D, (z.cps.toList.map fun c => decide (c ∈ digits.cps.toList)), rfl, SqL.of (by rw [hD2, List.map_map, List.map_map]; rfl), ?_⟩
            have := q H' e1
            rw [hv, hcond, ← hc] at this
            rw [List.all_map]
            exact this
      · rw [decide_eq_false h2]
        refine no ?_ H (Ex.refl _)
        unfold isNumL
        rw [decide_eq_false (show ¬ (1 ≤ z.cps.toList.length ∧ z.cps.toList.length ≤ 200) by rw [hl]; omega)]
        rfl
    · rw [decide_eq_false h1]
      refine ⟨false, rfl, no ?_ H (Ex.refl _)⟩
      unfold isNumL
      rw [decide_eq_false (show ¬ (1 ≤ z.cps.toList.length ∧ z.cps.toList.length ≤ 200) by rw [hl]; omega)]
      rfl
theorem ok_told_integer (T : TX P K mg a) (D : FDS K a d) : FnOk P w K mg base CX0 2 a.a_told_integer d.a_told_integer ["text"] spToldInteger := by
  have G_is_number : FnOk P w K mg base CX0 1 a.a_is_number d.a_is_number ["text", "most"] spIsNumber := ok_is_number T D
  refine D.F_told_integer.ok sc_told_integer (fun vs H Q E h => ?_) (fun cdv A outer s H vs Q E hr h => ?_)
  · obtain ⟨z, rfl, _⟩ := h
    rfl
  · obtain ⟨z, rfl, hz, q⟩ := h
    refine ⟨_, (pss_cons (ps_set (i := 1) sc_told_integer.nd rfl (Or.inl rfl) (pe_m1 PySem.F.slot_str_startswith PySem.F.type_str_startswith mt_startswith (pv 0) pe_str))
        (pss_cons (ps_set (i := 2) sc_told_integer.nd rfl (Or.inl rfl) (pe_ifExp (pt_val (pv 1)) (pe_slice sl_str (pv 0) (po_some pe_int) po_none) (pv 0)))
        (pss_cons (ps_if (PW.pt (pw_or (pt_not (pt_val (pe_call G_is_number (hr.mono (by decide)) rfl T.f_is_number T.k_is_number D.B_is_number .nil pass0 (pa_cons (pv 2) (pa_cons (pe_glob (v := .int 200) rfl T.g_MOST_DIGITS ⟨_, rfl⟩) pa_nil))))) (pw_or1 (PW.pt (pw_and (pt_val (pv 1)) (pw_and1 (pt_cmpR op_eq (pv 2) pe_str (nomark _)))))))) (pss_one (ps_ret pe_non)) pss_nil)
        (pss_one (ps_ret (pe_callTy call_int_str (by rfl) T.b_int (by decide +kernel) (pa_cons (pv 0) pa_nil))))))), ?_⟩
    refine ⟨_, rfl, ⟨_, rfl⟩, z, _, rfl, rfl, ?_⟩
    rw [starts]
    have zero : ("0" : Str).cps.toList = [48] := by decide +kernel
    have yes : numOkL z.cps.toList = true → ∃ n, intText? z = some n ∧ z.length ≤ 640 ∧ Q (.int n) H ∧ ∀ H', Ex H H' → Q (.int n) H' := fun e => by
      obtain ⟨n, h1, h2⟩ := intS_some e
      have hl := str_len z
      have hn := e
      unfold numOkL at hn
      rw [Bool.and_eq_true, isNumL_iff] at hn
      have hd : z.cps.toList.length ≤ (numDig z.cps.toList).length + 1 := by
        generalize z.cps.toList = l
        unfold numDig
        split
        · exact Nat.le_refl _
        · omega
      have : ∀ H', Ex H H' → Q (.int n) H' := fun H' x => by
        have := q H' x
        rwa [h1] at this
      exact ⟨n, h2, by omega, this H (Ex.refl _), this⟩
    have no : numOkL z.cps.toList = false → ∀ H', Ex H H' → Q .non H' := fun e H' x => by
      have := q H' x
      rwa [intS_none e] at this
    refine ⟨_, rfl, _, rfl, ite2 (fun g => ?_) (fun g => ?_)⟩
    · have g' : z.cps.toList.headD 0 = 45 := of_decide_eq_true g
      obtain ⟨c1, c2⟩ := numDig_cut g'
      refine ⟨_, rfl, _, rfl, z, rfl, hz, _, rfl, _, rfl, Nat.le_trans c2 hz, fun H1 e1 => ⟨_, rfl, ?_⟩⟩
      rw [c1]
      cases hN : isNumL (numDig z.cps.toList) with
      | false => exact iteT (no (by unfold numOkL; rw [hN]; rfl) H1 e1)
      | true =>
        refine iteF ⟨_, rfl, _, rfl, ?_⟩
        rw [g]
        refine iteT ⟨_, rfl, rfl, _, rfl, ?_⟩
        rw [ofStr, zero, c1]
        refine ite2 (fun k => no ?_ H1 e1) (fun k => ?_)
        · unfold numOkL
          rw [hN, g, k]
          rfl
        · obtain ⟨n, n1, n2, n3, n4⟩ := yes (by unfold numOkL; rw [hN, g, show decide (numDig z.cps.toList = [48]) = false by simpa using k]; rfl)
          exact ⟨_, rfl, z, n, rfl, n1, n2, n4 H1 e1⟩
    · have g' : z.cps.toList.headD 0 ≠ 45 := fun e => g (decide_eq_true e)
      have c1 := numDig_same g'
      refine ⟨_, rfl, _, rfl, _, rfl, hz, fun H1 e1 => ⟨_, rfl, ?_⟩⟩
      have gf : decide (z.cps.toList.headD 0 = 45) = false := decide_eq_false g'
      cases hN : isNumL z.cps.toList with
      | false => exact iteT (no (by unfold numOkL; rw [← c1, hN]; rfl) H1 e1)
      | true =>
        refine iteF ⟨_, rfl, _, rfl, ?_⟩
        rw [gf]
        obtain ⟨n, n1, n2, n3, n4⟩ := yes (by unfold numOkL; rw [← c1, hN, gf]; rfl)
        exact iteF ⟨_, rfl, z, n, rfl, n1, n2, n4 H1 e1⟩
theorem ok_told_time (T : TX P K mg a) (D : FDS K a d) : FnOk P w K mg base CX0 3 a.a_told_time d.a_told_time ["text"] spToldTime := by
  have G_is_name : FnOk P w K mg base CX0 1 a.a_is_name d.a_is_name ["value"] (spIsName K) := ok_is_name T D
  have G_told_integer : FnOk P w K mg base CX0 2 a.a_told_integer d.a_told_integer ["text"] spToldInteger := ok_told_integer T D
  refine D.F_told_time.ok sc_told_time (fun vs H Q E h => ?_) (fun cdv A outer s H vs Q E hr h => ?_)
  · obtain ⟨z, rfl, _⟩ := h
    rfl
  · obtain ⟨z, rfl, hz, q1, q2⟩ := h
    refine ⟨_, (pss_cons (ps_asg (pe_partition (pv 0) pe_str) (pg_tup rfl (pgs_cons (pg_name (i := 1) sc_told_time.nd rfl (Or.inl rfl)) (pgs_cons (pg_name (i := 2) sc_told_time.nd rfl (Or.inl rfl)) (pgs_cons (pg_name (i := 3) sc_told_time.nd rfl (Or.inl rfl)) pgs_nil)))))
        (pss_cons (ps_set (i := 4) sc_told_time.nd rfl (Or.inl rfl) (pe_call G_told_integer (hr.mono (by decide)) rfl T.f_told_integer T.k_told_integer D.B_told_integer .nil pass0 (pa_cons (pv 3) pa_nil)))
        (pss_cons (ps_if (PW.pt (pw_or (pt_not (pt_val (pe_call G_is_name (hr.mono (by decide)) rfl T.f_is_name T.k_is_name D.B_is_name .nil pass0 (pa_cons (pv 1) pa_nil)))) (pw_or1 (pt_cmpR op_isN (pv 4) pe_non (nomark _))))) (pss_one (ps_ret pe_non)) pss_nil)
        (pss_one (ps_ret (pe_tup (pa_cons (pv 1) (pa_cons (pv 4) pa_nil)))))))), ?_⟩
    refine ⟨_, rfl, ⟨_, rfl⟩, z, _, rfl, rfl, (by decide +kernel), hz, fun p hp => ?_⟩
    obtain ⟨p1, p2⟩ := part_eq z
    rw [p1, p2]
    have l1 : (headS z).length ≤ sizeLine := Nat.le_trans (by rw [← p1]; exact (PyProof.Rows.fact_partition z "=").1) hz
    have l2 : (restS z).length ≤ sizeLine := Nat.le_trans (by rw [← p2]; exact (PyProof.Rows.fact_partition z "=").2.2) hz
    refine ⟨p, _, rfl, SqT.of upd_same, rfl, _, _, rfl, _, _, rfl, _, _, rfl, rfl, ?_⟩
    refine ⟨_, rfl, _, rfl, l2, fun H1 e1 => ⟨_, rfl, _, .str (headS z), rfl, .str _, l1, fun H2 e2 => ⟨_, rfl, ?_⟩⟩⟩
    have e3 : Ex H H2 := ((Ex.new hp).trans e1).trans e2
    have no : timeS z = none → Q .non H2 := fun e => q1 e H2 e3
    show if (!isNameS (headS z)) = true then _ else _
    cases hn : isNameS (headS z) with
    | false => exact iteT (no (by unfold timeS; rw [hn]; rfl))
    | true =>
      refine iteF ?_
      cases hi : intS (restS z) with
      | none => exact ⟨_, rfl, rfl, _, rfl, iteT (no (by unfold timeS; rw [hn, hi]; rfl))⟩
      | some n =>
        refine ⟨_, rfl, rfl, _, rfl, iteF ⟨_, rfl, _, rfl, (by show 2 ≤ sizeLine; decide), fun t ht => ?_⟩⟩
        exact q2 (headS z) n (by unfold timeS; rw [hn, hi]; rfl) t _ (e3.trans (Ex.new ht)) (fresh_back e3 ht) upd_same
end
end A4
set_option maxRecDepth 100000
set_option maxHeartbeats 4000000
namespace A4
open PySem L2 Evl
/-! ### heaps without an object -/
def rmH (H : Hp) (r : Addr) : Hp := fun a => if a = r then none else H a
theorem rm_ex {H : Hp} {r : Addr} : Ex (rmH H r) H := fun a x h => by
  unfold rmH at h
  by_cases e : a = r
  · rw [if_pos e] at h; cases h
  · rwa [if_neg e] at h
theorem rm_of {H H' : Hp} {r : Addr} (e : Ex H H') (n : H r = none) : Ex H (rmH H' r) := fun a x h => by
  have : a ≠ r := fun z => by rw [z, n] at h; cases h
  unfold rmH
  rw [if_neg this]
  exact e a x h
theorem rm_upd {H : Hp} {r : Addr} {o : HO} : rmH (upd H r o) r = rmH H r := by
  funext a
  unfold rmH
  by_cases e : a = r
  · rw [if_pos e, if_pos e]
  · rw [if_neg e, if_neg e, upd_ne e]
theorem rm_mono {H H' : Hp} {r : Addr} (e : Ex H H') : Ex (rmH H r) (rmH H' r) := fun a x h => by
  unfold rmH at h ⊢
  by_cases z : a = r
  · rw [if_pos z] at h; cases h
  · rw [if_neg z] at h ⊢
    exact e a x h
theorem DpAll.snoc {K : PySem.W.Frag} {H : Hp} : ∀ {vs : List V} {ds : List PyData} {v : V} {d : PyData}, DpAll K H vs ds → Dp K H v d → DpAll K H (vs ++ [v]) (ds ++ [d])
  | _, _, _, _, .nil, h => .cons h .nil
  | _, _, _, _, .cons a r, h => .cons a (DpAll.snoc r h)
/-- a text put together of parts -/
def tJ (ts : List TE) : TE := fun σ H Q => tJs ts Str.empty σ H fun out H1 => Q (.str out) H1
/-! ### comprehensions -/
section
variable {K : PySem.W.Frag} {σ : L2.St} {H1 : Hp} {J : It} {G : Hp → Prop} {te : TE} {tt : TT}
/-- with a condition; the items' values are written -/
theorem lcFil {xs : List V} (w : Walk J xs.length G (YAt xs)) (c : V → Bool) (f : V → V) {j : Nat} {vs : List Nat} (hz : xs.length < sizeLine) (hG : ∀ H', Ex H1 H' → G H') (hw : ∀ v, wipe ((wipe σ vs).set j (some v)) vs = wipe σ vs)
    (ht : ∀ v ∈ xs, ∀ H', Ex H1 H' → ∀ Q : Bool → Hp → Prop, (∀ H'', Ex H' H'' → Q (c v) H'') → tt ((wipe σ vs).set j (some v)) H' Q)
    (he : ∀ v ∈ xs, c v = true → ∀ H', Ex H1 H' → Ev te ((wipe σ vs).set j (some v)) H' (f v)) {Qd : Hp → Prop} {D : Addr} (hD : H1 D = none) (k : ∀ H', Ex H1 H' → H' D = some (.lst ((xs.filter c).map f)) → Qd H') :
    ∃ W : Nat → Nat → Hp → Prop, (∃ m, W 0 m (upd H1 D (.lst []))) ∧ ∀ i m H, W i m H →
      (J.stop i H ∧ Qd H) ∨ (J.go i H ∧ ∃ Nx : Hp → Prop, (∀ H', Nx H' → ∃ m', m' < m ∧ W (i + 1) m' H') ∧ ∀ x H', J.yld i H x H' → gName j x (wipe σ vs) H' fun σ2 H2 => wipe σ2 vs = wipe σ vs ∧ tt σ2 H2 fun b H3 =>
        if b = true then te σ2 H3 fun y H4 => ∃ acc, H4 D = some (.lst acc) ∧ acc.length < sizeLine ∧ Nx (upd H4 D (.lst (acc ++ [y]))) else Nx H3) := by
  refine lc_it w (fun i H => Ex H1 H ∧ H D = some (.lst (((xs.take i).filter c).map f))) ⟨Ex.new hD, upd_same⟩ (fun i H _ p => hG H p.1) ?_ (fun H p => k H p.1 (by have := p.2; rwa [List.take_length] at this))
  rintro i x H H' hi ⟨e, hl⟩ ⟨rfl, hx⟩
  have hm : x ∈ xs := List.mem_of_getElem? hx
  unfold gName
  dsimp only
  refine ⟨hw x, ht x hm H' e _ fun H3 e3 => ?_⟩
  have tk : (xs.take (i + 1)).filter c = (xs.take i).filter c ++ (if c x = true then [x] else []) := by
    rw [List.take_add_one, hx, List.filter_append]
    simp only [Option.toList_some]
    by_cases hc : c x = true
    · rw [if_pos hc]; simp [hc]
    · rw [if_neg hc]; simp [hc]
  cases hc : c x with
  | true =>
    rw [if_pos rfl]
    refine he x hm hc H3 (e.trans e3) H3 (Ex.refl _) _ fun H4 e4 => ⟨_, e4 D _ (e3 D _ hl), ?_, Ex.mut ((e.trans e3).trans e4) hD, ?_⟩
    · have := List.length_filter_le c (xs.take i)
      rw [List.length_map]
      rw [List.length_take] at this
      omega
    · rw [upd_same, tk, hc]
      simp
  | false =>
    refine (if_neg (by decide)).mpr ⟨e.trans e3, ?_⟩
    rw [tk, hc]
    simp only [Bool.false_eq_true, if_false, List.append_nil]
    exact e3 D _ hl
theorem Ex.late {H H' : Hp} {r : Addr} {o o' : HO} (e : Ex H H') (n : H r = none) (h : H' r = some o) : Ex H (upd H' r o') := fun a x ha => by
  have : a ≠ r := fun z => by rw [z, n] at ha; cases ha
  rw [upd_ne this]
  exact e a x ha
/-- the items are told as data -/
theorem lcDat {xs : List V} {ds : List PyData} (hd : ds.length = xs.length) (w : Walk J xs.length G (YAt xs)) {j : Nat} {vs : List Nat} (hz : xs.length < sizeLine) (hG : ∀ H', Ex H1 H' → G H') (hw : ∀ v, wipe ((wipe σ vs).set j (some v)) vs = wipe σ vs)
    (he : ∀ (i : Nat) (v : V) (d : PyData), xs[i]? = some v → ds[i]? = some d → ∀ (H' : Hp) (D : Addr) (u : HO), Ex H1 H' → H1 D = none → H' D = some u → ∀ Q : VK, (∀ y H'', Ex H' H'' → Dp K (rmH H'' D) y d → Q y H'') → te ((wipe σ vs).set j (some v)) H' Q)
    {Qd : Hp → Prop} {D : Addr} (hD : H1 D = none) (k : ∀ H' acc, Ex H1 H' → H' D = some (.lst acc) → DpAll K (rmH H' D) acc ds → Qd H') :
    ∃ W : Nat → Nat → Hp → Prop, (∃ m, W 0 m (upd H1 D (.lst []))) ∧ ∀ i m H, W i m H →
      (J.stop i H ∧ Qd H) ∨ (J.go i H ∧ ∃ Nx : Hp → Prop, (∀ H', Nx H' → ∃ m', m' < m ∧ W (i + 1) m' H') ∧ ∀ x H', J.yld i H x H' → gName j x (wipe σ vs) H' fun σ2 H2 => wipe σ2 vs = wipe σ vs ∧ tYes σ2 H2 fun b H3 =>
        if b = true then te σ2 H3 fun y H4 => ∃ acc, H4 D = some (.lst acc) ∧ acc.length < sizeLine ∧ Nx (upd H4 D (.lst (acc ++ [y]))) else Nx H3) := by
  refine lc_it w (fun i H => Ex H1 H ∧ ∃ acc : List V, H D = some (.lst acc) ∧ DpAll K (rmH H D) acc (ds.take i)) ⟨Ex.new hD, [], upd_same, .nil⟩ (fun i H _ p => hG H p.1) ?_ (fun H p => ?_)
  · rintro i x H H' hi ⟨e, acc, ha, A⟩ ⟨rfl, hx⟩
    obtain ⟨d, hdi⟩ : ∃ d, ds[i]? = some d := ⟨ds[i]'(by omega), by simp⟩
    unfold gName tYes
    dsimp only
    refine ⟨hw _, ?_⟩
    rw [if_pos rfl]
    refine he i x d hx hdi H' D _ e hD ha _ fun y H4 e4 hy => ⟨acc, e4 _ _ ha, ?_, Ex.late (e.trans e4) hD (e4 _ _ ha), _, upd_same, ?_⟩
    · have := DpAll.len A
      rw [List.length_take] at this
      omega
    · rw [rm_upd, List.take_add_one, hdi]
      exact DpAll.snoc (DpAll.ex (rm_mono e4) A) hy
  · obtain ⟨e, acc, ha, A⟩ := p
    rw [← hd, List.take_length] at A
    exact k H acc e ha A
/-- over pairs, both parts named -/
theorem lcPair {xs : List V} (w : Walk J xs.length G (YAt xs)) (f : Nat → V) {j1 j2 : Nat} {vs : List Nat} (hz : xs.length < sizeLine) (hG : ∀ H', Ex H1 H' → G H') (hw : ∀ u v, wipe (((wipe σ vs).set j1 (some u)).set j2 (some v)) vs = wipe σ vs)
    (he : ∀ (i : Nat) (x : V), xs[i]? = some x → ∃ t u v, x = .ref t ∧ SqT K H1 t [u, v] ∧ ∀ H', Ex H1 H' → Ev te (((wipe σ vs).set j1 (some u)).set j2 (some v)) H' (f i))
    {Qd : Hp → Prop} {D : Addr} (hD : H1 D = none) (k : ∀ H', Ex H1 H' → H' D = some (.lst ((List.range xs.length).map f)) → Qd H') :
    ∃ W : Nat → Nat → Hp → Prop, (∃ m, W 0 m (upd H1 D (.lst []))) ∧ ∀ i m H, W i m H →
      (J.stop i H ∧ Qd H) ∨ (J.go i H ∧ ∃ Nx : Hp → Prop, (∀ H', Nx H' → ∃ m', m' < m ∧ W (i + 1) m' H') ∧ ∀ x H', J.yld i H x H' → gTup K 2 (gCons (gName j1) (gCons (gName j2) gNil)) x (wipe σ vs) H' fun σ2 H2 => wipe σ2 vs = wipe σ vs ∧ tYes σ2 H2 fun b H3 =>
        if b = true then te σ2 H3 fun y H4 => ∃ acc, H4 D = some (.lst acc) ∧ acc.length < sizeLine ∧ Nx (upd H4 D (.lst (acc ++ [y]))) else Nx H3) := by
  refine lc_it w (fun i H => Ex H1 H ∧ H D = some (.lst ((List.range i).map f))) ⟨Ex.new hD, upd_same⟩ (fun i H _ p => hG H p.1) ?_ (fun H p => k H p.1 p.2)
  rintro i x H H' hi ⟨e, hl⟩ ⟨rfl, hx⟩
  obtain ⟨t, u, v, rfl, ht, hv⟩ := he i x hx
  refine ⟨t, _, rfl, ex_t e ht, rfl, _, _, rfl, _, _, rfl, rfl, hw u v, ?_⟩
  unfold tYes
  dsimp only
  rw [if_pos rfl]
  refine hv H' e H' (Ex.refl _) _ fun H4 e4 => ⟨_, e4 D _ hl, by rw [List.length_map, List.length_range]; omega, Ex.mut (e.trans e4) hD, ?_⟩
  rw [upd_same, List.range_succ, List.map_append]
  rfl
end
end A4
set_option maxRecDepth 100000
set_option maxHeartbeats 4000000
namespace A4
open PySem L2 Evl
def pairD (p : Str × Int) : PyData := .tuple [.str p.1, .int p.2]
def valD (ns : List Str) (ts : List (Str × Int)) : PyData := .tuple [.tuple (ns.map .str), .tuple (ts.map pairD)]
def pieceS (p : Str × Int) : Str := Str.empty ++ p.1 ++ "=" ++ Str.ofString (toString p.2)
def textOf (ns : List Str) (ts : List (Str × Int)) : Str := Txt.join " " (ns ++ ts.map pieceS)
structure Small (ns : List Str) (ts : List (Str × Int)) : Prop where
  n1 : ns.length ≤ 12
  t1 : ts.length ≤ 12
  n2 : ∀ z ∈ ns, isNameS z = true
  t2 : ∀ p ∈ ts, isNameS p.1 = true ∧ p.2.natAbs.log2 < 1920
def spWriteValues (K : PySem.W.Frag) : Sp := fun vs H Q _ => ∃ v ns ts, vs = [v] ∧ Dp K H v (valD ns ts) ∧ Small ns ts ∧ ∀ H', Ex H H' → Q (.str (textOf ns ts)) H'
theorem dp_strs {K : PySem.W.Frag} {H : Hp} : ∀ {ns : List Str} {vs : List V}, DpAll K H vs (ns.map .str) → vs = ns.map V.str
  | [], _, .nil => rfl
  | n :: ns, _, .cons (.str _) r => by rw [dp_strs r]; rfl
theorem dp_pair {K : PySem.W.Frag} {H : Hp} {v : V} {p : Str × Int} (h : Dp K H v (pairD p)) : ∃ t, v = .ref t ∧ SqT K H t [.str p.1, .int p.2] := by
  unfold pairD at h
  cases h with
  | @tup a xs ds ha hall =>
    cases hall with
    | cons h1 r =>
      cases h1
      cases r with
      | cons h2 r =>
        cases h2
        cases r
        exact ⟨a, rfl, ha⟩
theorem name_len {z : Str} (h : isNameS z = true) : 1 ≤ z.length ∧ z.length ≤ 8 := by
  unfold isNameS at h
  rw [Bool.and_eq_true] at h
  exact of_decide_eq_true h.1
theorem app_len (x y : Str) : (x ++ y).length = x.length + y.length := by
  have h := str_len (x ++ y)
  rw [← h, ← str_len x, ← str_len y]
  show (x.cps ++ y.cps).toList.length = _
  simp
theorem piece_len {p : Str × Int} (h : isNameS p.1 = true ∧ p.2.natAbs.log2 < 1920) : (pieceS p).length ≤ 1930 := by
  unfold pieceS
  rw [app_len, app_len, app_len]
  have := (name_len h.1).2
  have h2 := PyProof.Rows.int_text_len_1921 h.2
  have e1 : Str.empty.length = 0 := by decide +kernel
  have e2 : ("=" : Str).length = 1 := by decide +kernel
  rw [e1, e2]
  omega
theorem sum_le {α : Type} (f : α → Nat) (b : Nat) : ∀ (l : List α), (∀ x ∈ l, f x ≤ b) → (l.map f).sum ≤ l.length * b
  | [], _ => by simp
  | x :: l, h => by
    have h1 := h x List.mem_cons_self
    have h2 := sum_le f b l fun y hy => h y (List.mem_cons_of_mem _ hy)
    simp only [List.map_cons, List.sum_cons, List.length_cons, Nat.add_mul]
    omega
section
variable {P : Program} {w : World} {K : PySem.W.Frag} {mg : Str → Option Value} {base : Heap} {a : Ad} {d : Fd}
theorem ok_write_values (T : TX P K mg a) (D : FDS K a d) : FnOk P w K mg base CX0 1 a.a_write_values d.a_write_values ["values"] (spWriteValues K) := by
  refine D.F_write_values.ok sc_write_values (fun vs H Q E h => ?_) (fun cdv A outer s H vs Q E hr h => ?_)
  · obtain ⟨v, ns, ts, rfl, _⟩ := h
    rfl
  · obtain ⟨v, ns, ts, rfl, hd, sm, q⟩ := h
    refine ⟨_, (pss_cons (ps_asg (pv 0) (pg_tup rfl (pgs_cons (pg_name (i := 1) sc_write_values.nd rfl (Or.inl rfl)) (pgs_cons (pg_name (i := 2) sc_write_values.nd rfl (Or.inl rfl)) pgs_nil))))
        (pss_cons (ps_setLc (i := 3) (own := [("name", 4), ("integer", 5)]) (g := (gTup K 2 (gCons (gName 4) (gCons (gName 5) gNil)))) (tt := tYes) (te := tJ [tFmt (tVar 4), tC (.str "="), tFmt (tVar 5)]) rfl sc_write_values.nd rfl rfl (sw_true rfl rfl rfl (by decide +kernel)) (pi_tup (pv 2)) (blkOk_by (N := ["values", "names", "times", "texts", "name", "integer"]) (sc := defScope s_write_values) (by decide +kernel)) (fun _ _ _ _ _ => (pg_tup rfl (pgs_cons (pg_name (i := 4) sc_write_values.nd rfl (Or.inl rfl)) (pgs_cons (pg_name (i := 5) sc_write_values.nd rfl (Or.inl rfl)) pgs_nil)))) (fun _ _ _ _ _ => pts_nil) (fun _ _ _ _ _ => (pe_joined (.cons (pe_fmt (pv 4)) (.cons pe_str (.cons (pe_fmt (pv 5)) .nil))))))
        (pss_one (ps_ret (pe_join pe_str (pe_lst (StX.pa_star (pv 1) (StX.pa_star (pv 3) pa_nil)))))))), ?_⟩
    unfold valD at hd
    cases hd with
    | @tup p xs ds hp hall =>
    cases hall with
    | cons g1 r1 =>
    cases r1 with
    | cons g2 r2 =>
    cases r2
    cases g1 with
    | @tup p1 xs1 _ hp1 h1 =>
    cases g2 with
    | @tup p2 xs2 _ hp2 h2 =>
    obtain rfl := dp_strs h1
    refine ⟨_, rfl, p, _, rfl, hp, rfl, _, _, rfl, _, _, rfl, rfl, ?_⟩
    have l2 : xs2.length = ts.length := by rw [DpAll.len h2, List.length_map]
    refine ⟨_, rfl, p2, rfl, ⟨_, hp2⟩, fun D hD => lcPair (K := K) (H1 := H) walk_tup (fun i => .str (pieceS (ts.getD i ("", 0)))) (Nat.lt_of_le_of_lt (by have := sm.t1; omega : xs2.length ≤ 12) (by decide)) (fun H' e => ex_t e hp2) (fun _ _ => rfl) ?_ hD ?_⟩
    · intro i x hx
      obtain ⟨dd, hdd, hxd⟩ := DpAll.get h2 hx
      rw [List.getElem?_map] at hdd
      obtain ⟨pr, hpr, rfl⟩ := Option.map_eq_some_iff.mp hdd
      obtain ⟨t, rfl, ht⟩ := dp_pair hxd
      have hm : pr ∈ ts := List.mem_of_getElem? hpr
      have hs := sm.t2 pr hm
      have h8 := (name_len hs.1).2
      have eE : Str.empty.length = 0 := by decide +kernel
      have e1 : ("=" : Str).length = 1 := by decide +kernel
      have pl := piece_len hs
      have h3 := PyProof.Rows.int_text_len_1921 hs.2
      have big : 2000 ≤ sizeLine := by decide
      refine ⟨t, _, _, rfl, ht, fun H1 e H2 e2 Q2 q2 => ?_⟩
      refine ⟨_, rfl, .inl ⟨pr.1, rfl, by omega, pr.1, rfl, by rw [app_len]; omega, _, rfl, by rw [app_len, app_len]; omega, _, rfl, .inr ⟨pr.2, rfl, hs.2, _, rfl, Nat.le_trans pl (by omega), ?_⟩⟩⟩
      have hgd : ts.getD i ("", 0) = pr := by rw [List.getD, hpr]; rfl
      have := q2 _ (Ex.refl _)
      rw [hgd] at this
      exact this
    · intro H1 e hl
      have hmap : (List.range xs2.length).map (fun i => V.str (pieceS (ts.getD i ("", 0)))) = (ts.map pieceS).map V.str := by
        rw [List.map_map, l2]
        refine List.ext_getElem (by simp) fun i h1 h2 => ?_
        simp only [List.getElem_map, List.getElem_range, Function.comp]
        simp only [List.length_map] at h2
        rw [List.getD, List.getElem?_eq_getElem h2]
        rfl
      rw [hmap] at hl
      have hlen : (ns.map V.str ++ (ts.map pieceS).map V.str).length ≤ 24 := by
        simp only [List.length_append, List.length_map]
        have := sm.n1
        have := sm.t1
        omega
      refine ⟨⟨_, rfl⟩, _, rfl, p1, _, rfl, .inl (ex_t e hp1), _, rfl, D, _, rfl, .inr (SqL.of hl), Nat.le_trans (by rw [List.append_nil]; exact hlen) (by decide : 24 ≤ sizeLine), ?_⟩
      refine fun L hL => ⟨_, L, ns ++ ts.map pieceS, rfl, rfl, .inl (SqL.of (by rw [upd_same, List.map_append, List.append_nil])), ?_, q _ (e.trans (Ex.new hL))⟩
      have s1 := sum_le (fun z : Str => z.length) 1930 (ns ++ ts.map pieceS) (fun z hz => by
        rcases List.mem_append.mp hz with hz | hz
        · have := (name_len (sm.n2 z hz)).2
          omega
        · obtain ⟨pr, hpr, rfl⟩ := List.mem_map.mp hz
          exact piece_len (sm.t2 pr hpr))
      have s2 : (ns ++ ts.map pieceS).length ≤ 24 := by rw [← List.map_append] at hlen; simpa using hlen
      have s3 : (" " : Str).length = 1 := by decide +kernel
      rw [s3]
      have := Nat.mul_le_mul_right 1930 s2
      omega
end
end A4
set_option maxRecDepth 100000
set_option maxHeartbeats 4000000
namespace A4
open PySem L2 Evl
/-! ### data that can be compared -/
def Sh (n : Nat) (d : PyData) : Prop := d.canLay0 = true ∧ d.depth ≤ n
theorem Sh.all {n : Nat} : ∀ {ds : List PyData}, (∀ d ∈ ds, Sh n d) → PyData.canLayAll0 ds = true ∧ PyData.depthAll ds ≤ n
  | [], _ => ⟨by simp [PyData.canLayAll0], by simp [PyData.depthAll]⟩
  | d :: ds, h => by
    have a := h d List.mem_cons_self
    have b := Sh.all (ds := ds) fun x hx => h x (List.mem_cons_of_mem _ hx)
    refine ⟨?_, ?_⟩
    · rw [PyData.canLayAll0, a.1, b.1]
      rfl
    · rw [PyData.depthAll]
      exact Nat.max_le.mpr ⟨a.2, b.2⟩
theorem Sh.list {n : Nat} {ds : List PyData} (h : ∀ d ∈ ds, Sh n d) : Sh (n + 1) (.list ds) := ⟨by rw [PyData.canLay0]; exact (Sh.all h).1, by rw [PyData.depth]; exact Nat.succ_le_succ (Sh.all h).2⟩
theorem Sh.tuple {n : Nat} {ds : List PyData} (h : ∀ d ∈ ds, Sh n d) : Sh (n + 1) (.tuple ds) := ⟨by rw [PyData.canLay0]; exact (Sh.all h).1, by rw [PyData.depth]; exact Nat.succ_le_succ (Sh.all h).2⟩
theorem Sh.mono {n m : Nat} {d : PyData} (h : Sh n d) (l : n ≤ m) : Sh m d := ⟨h.1, Nat.le_trans h.2 l⟩
theorem Sh.sh {n : Nat} {d : PyData} (h : Sh n d) (l : n ≤ 64) : PySem.SeqAt.shaped d = true := Bool.and_eq_true_iff.mpr ⟨h.1, decide_eq_true (Nat.le_trans h.2 l)⟩
theorem sh_str {n : Nat} {s : Str} (h : PyData.strOk s = true) : Sh n (.str s) := by simp [Sh, PyData.canLay0, PyData.depth, h]
theorem sh_int {n : Nat} {i : Int} : Sh n (.int i) := by simp [Sh, PyData.canLay0, PyData.depth]
theorem sh_none {n : Nat} : Sh n .none := by simp [Sh, PyData.canLay0, PyData.depth]
theorem sh_pair {n : Nat} {a b : PyData} (h1 : Sh n a) (h2 : Sh n b) : Sh (n + 1) (.tuple [a, b]) := Sh.tuple fun x hx => by
  simp only [List.mem_cons, List.not_mem_nil, or_false] at hx
  rcases hx with rfl | rfl <;> assumption
theorem signs_low : ∀ c ∈ signs.cps.toList, c < 128 := by decide +kernel
theorem name_ok {z : Str} (h : isNameS z = true) : PyData.strOk z = true := by
  unfold isNameS at h
  simp only [Bool.and_eq_true, List.all_eq_true, decide_eq_true_eq] at h
  unfold PyData.strOk
  rw [← Array.all_toList, List.all_eq_true]
  intro c hc
  have := signs_low c (h.2.2 c hc)
  exact decide_eq_true (by omega)
theorem eqv_strs (xs ys : List Str) : PyData.eqv (.list (xs.map .str)) (.list (ys.map .str)) = decide (xs = ys) := by
  rw [PyData.eqv]
  induction xs generalizing ys with
  | nil => cases ys <;> simp [PyData.eqvAll]
  | cons x xs ih =>
    cases ys with
    | nil => simp [PyData.eqvAll]
    | cons y ys =>
      simp only [List.map_cons, PyData.eqvAll, PyData.eqv]
      rw [ih ys]
      by_cases h : x = y <;> by_cases h2 : xs = ys <;> simp [h, h2]
/-! ### ascending texts -/
def Asc (l : List Str) : Prop := l.Pairwise fun a b => a.cps.toList < b.cps.toList
instance (l : List Str) : Decidable (Asc l) := by unfold Asc; infer_instance
theorem lt_irr (a : Str) : ¬ a.cps.toList < a.cps.toList := List.lt_irrefl _
theorem lt_tri {a b : Str} (h1 : ¬ a.cps.toList < b.cps.toList) (h2 : ¬ b.cps.toList < a.cps.toList) : a = b := toList_inj (List.le_antisymm (List.not_lt.mp h2) (List.not_lt.mp h1))
theorem rise_pw : ∀ (l : List Str), PyProof.Rows.sortedS l = true → l.Pairwise fun a b => ¬ b.cps.toList < a.cps.toList
  | [], _ => List.Pairwise.nil
  | x :: l, h => by
    have go : ∀ (l : List Str) (p : Str), PyProof.Rows.risingS p l = true → (p :: l).Pairwise fun a b => ¬ b.cps.toList < a.cps.toList := by
      intro l
      induction l with
      | nil => intro p _; exact List.pairwise_singleton _ _
      | cons y l ih =>
        intro p h
        rw [PyProof.Rows.risingS, Bool.and_eq_true, Bool.not_eq_true', PyProof.Rows.ltCps_eq, decide_eq_false_iff_not] at h
        have hp := ih y h.2
        refine List.pairwise_cons.mpr ⟨fun z hz => ?_, hp⟩
        rcases List.mem_cons.mp hz with e | e
        · rw [e]; exact h.1
        · have hyz := (List.pairwise_cons.mp hp).1 z e
          exact fun q => h.1 (List.lt_of_le_of_lt (List.not_lt.mp hyz) q)
    exact go l x h
theorem asc_of {ys : List Str} (so : PyProof.Rows.sortedS ys = true) (nd : ys.Nodup) : Asc ys := by
  have h := rise_pw ys so
  unfold Asc
  refine List.Pairwise.imp₂ (R := fun a b => ¬ b.cps.toList < a.cps.toList) (S := fun a b => a ≠ b) (fun a b h1 h2 => ?_) h nd
  rcases Classical.em (a.cps.toList < b.cps.toList) with c | c
  · exact c
  · exact absurd (lt_tri c h1) h2
theorem asc_nodup {l : List Str} (h : Asc l) : l.Nodup := List.Pairwise.imp (fun {a b} q e => by rw [e] at q; exact lt_irr _ q) h
theorem asc_same : ∀ {xs ys : List Str}, Asc xs → Asc ys → (∀ z, z ∈ xs ↔ z ∈ ys) → xs = ys
  | [], [], _, _, _ => rfl
  | [], y :: ys, _, _, m => absurd ((m y).mpr List.mem_cons_self) (by simp)
  | x :: xs, [], _, _, m => absurd ((m x).mp List.mem_cons_self) (by simp)
  | x :: xs, y :: ys, hx, hy, m => by
    obtain ⟨x1, x2⟩ := List.pairwise_cons.mp hx
    obtain ⟨y1, y2⟩ := List.pairwise_cons.mp hy
    have e : x = y := by
      rcases List.mem_cons.mp ((m x).mp List.mem_cons_self) with e | e
      · exact e
      · rcases List.mem_cons.mp ((m y).mpr List.mem_cons_self) with e2 | e2
        · exact e2.symm
        · exact absurd (List.lt_trans (x1 y e2) (y1 x e)) (lt_irr _)
    subst e
    rw [asc_same x2 y2 fun z => ?_]
    constructor
    · intro h
      rcases List.mem_cons.mp ((m z).mp (List.mem_cons_of_mem _ h)) with e | e
      · exact absurd (x1 z h) (by rw [e]; exact lt_irr _)
      · exact e
    · intro h
      rcases List.mem_cons.mp ((m z).mpr (List.mem_cons_of_mem _ h)) with e | e
      · exact absurd (y1 z h) (by rw [e]; exact lt_irr _)
      · exact e
theorem asc_eq {ns ys l : List Str} (pm : ys.Perm l) (nd : l.Nodup) (m : ∀ z, z ∈ l ↔ z ∈ ns) (so : PyProof.Rows.sortedS ys = true) : decide (ns = ys) = decide (Asc ns) := by
  have ay := asc_of so (pm.nodup_iff.mpr nd)
  have my : ∀ z, z ∈ ns ↔ z ∈ ys := fun z => by rw [← m z, pm.mem_iff]
  by_cases h : Asc ns
  · rw [decide_eq_true h, decide_eq_true (asc_same h ay my)]
  · rw [decide_eq_false h, decide_eq_false fun e => h (by rw [e]; exact ay)]
end A4
set_option maxRecDepth 100000
set_option maxHeartbeats 4000000
namespace A4
open PySem L2 Evl
theorem hu65 {k : Nat} {A : Around} (r : Room k A) : A.units + 65 < cLine := by have := r.un; omega
def wordsS (z : Str) : List Str := Txt.split z " "
def namesS (z : Str) : List Str := (wordsS z).filter isNameS
def timesS (z : Str) : List (Option (Str × Int)) := ((wordsS z).drop (namesS z).length).map timeS
def progV (z : Str) : Option (List Str × List (Str × Int)) :=
  if z = "" then some ([], []) else
  if (timesS z).all Option.isSome && decide (Asc (namesS z)) && decide (Asc (((timesS z).filterMap id).map (·.1))) then some (namesS z, (timesS z).filterMap id) else none
def spToldValues (K : PySem.W.Frag) : Sp := fun vs H Q _ => ∃ z : Str, vs = [.str z] ∧ z.length ≤ 100000 ∧ (wordsS z).length < 64 ∧ (progV z = none → ∀ H', Ex H H' → Q .non H') ∧
  ∀ ns ts, progV z = some (ns, ts) → ∀ v H', Ex H H' → Dp K H' v (valD ns ts) → Q v H'
def optD : Option (Str × Int) → PyData | none => .none | some p => pairD p
theorem optD_non (o : Option (Str × Int)) : PyData.eqv (optD o) .none = !o.isSome := by
  cases o <;> rfl
theorem strs_dp {K : PySem.W.Frag} {H : Hp} : ∀ (ns : List Str), DpAll K H (ns.map V.str) (ns.map PyData.str)
  | [] => .nil
  | n :: ns => .cons (.str n) (strs_dp ns)
theorem sh_strs {n : Nat} {ns : List Str} (h : ∀ z ∈ ns, isNameS z = true) : Sh (n + 1) (.list (ns.map .str)) := Sh.list fun d hd => by
  obtain ⟨z, hz, rfl⟩ := List.mem_map.mp hd
  exact sh_str (name_ok (h z hz))
theorem time_name {z : Str} {m : Str} {n : Int} (h : timeS z = some (m, n)) : isNameS m = true := by
  unfold timeS at h
  by_cases hn : isNameS (headS z) = true
  · rw [if_pos hn] at h
    obtain ⟨k, _, e⟩ := Option.map_eq_some_iff.mp h
    cases e
    exact hn
  · rw [if_neg hn] at h
    cases h
theorem all_some {α : Type} : ∀ {l : List (Option α)}, l.all Option.isSome = true → (l.filterMap id).map some = l
  | [], _ => rfl
  | none :: l, h => by simp at h
  | some a :: l, h => by
    have h2 : l.all Option.isSome = true := by simpa using h
    have := all_some h2
    simp only [List.filterMap_cons, id, List.map_cons, this]
theorem cutV_from {xs : List V} {k : Nat} (h : k ≤ xs.length) : cutV xs (some (k : Int)) none = xs.drop k := by
  unfold cutV
  rw [HT.sIx_none, HT.sIx_nat, Nat.min_eq_left h]
  exact List.take_of_length_le (by rw [List.length_drop]; exact Nat.le_refl _)
section
variable {P : Program} {w : World} {K : PySem.W.Frag} {mg : Str → Option Value} {base : Heap} {a : Ad} {d : Fd}
theorem ok_told_values (T : TX P K mg a) (D : FDS K a d) : FnOk P w K mg base CX0 4 a.a_told_values d.a_told_values ["text"] (spToldValues K) := by
  have G_is_name : FnOk P w K mg base CX0 1 a.a_is_name d.a_is_name ["value"] (spIsName K) := ok_is_name T D
  have G_told_time : FnOk P w K mg base CX0 3 a.a_told_time d.a_told_time ["text"] spToldTime := ok_told_time T D
  refine D.F_told_values.ok sc_told_values (fun vs H Q E h => ?_) (fun cdv A outer s H vs Q E hr h => ?_)
  · obtain ⟨z, rfl, _⟩ := h
    rfl
  · obtain ⟨z, rfl, hz, hw, q1, q2⟩ := h
    refine ⟨_, (pss_cons (ps_if (pt_cmpR op_eq (pv 0) pe_str (nomark _)) (pss_one (ps_ret (pe_tup (pa_cons (pe_tup pa_nil) (pa_cons (pe_tup pa_nil) pa_nil))))) pss_nil)
        (pss_cons (ps_set (i := 1) sc_told_values.nd rfl (Or.inl rfl) (pe_split (pv 0) pe_str))
        (pss_cons (ps_setLc (i := 2) (own := [("word", 5)]) (g := gName 5) rfl sc_told_values.nd rfl rfl (sw_true rfl rfl rfl (by decide +kernel)) (pi_list (pv 1)) (blkOk_by (N := ["text", "words", "names", "times", "moments", "word", "name", "_"]) (sc := defScope s_told_values) (by decide +kernel)) (fun _ _ _ _ _ => (pg_name (i := 5) sc_told_values.nd rfl (Or.inl rfl))) (fun _ _ _ _ _ => (pts_one (pt_val (pe_call G_is_name (hr.mono (by decide)) rfl T.f_is_name T.k_is_name D.B_is_name .nil pass0 (pa_cons (pv 5) pa_nil))))) (fun _ _ _ _ _ => (pv 5)))
        (pss_cons (ps_setLc (i := 3) (own := [("word", 5)]) (g := gName 5) (tt := tYes) rfl sc_told_values.nd rfl rfl (sw_true rfl rfl rfl (by decide +kernel)) (pi_list (pe_slice sl_list (pv 1) (po_some (pe_callB call_len_seq (by rfl) T.b_len (by decide +kernel) (pa_cons (pv 2) pa_nil))) po_none)) (blkOk_by (N := ["text", "words", "names", "times", "moments", "word", "name", "_"]) (sc := defScope s_told_values) (by decide +kernel)) (fun _ _ _ _ _ => (pg_name (i := 5) sc_told_values.nd rfl (Or.inl rfl))) (fun _ _ _ _ _ => pts_nil) (fun _ _ _ _ _ => (pe_call G_told_time (hr.mono (by decide)) rfl T.f_told_time T.k_told_time D.B_told_time .nil pass0 (pa_cons (pv 5) pa_nil))))
        (pss_cons (ps_if (pt_cmpR (op_inD (hu65 hr)) pe_non (pv 3) rfl) (pss_one (ps_ret pe_non)) pss_nil)
        (pss_cons (ps_setLc (i := 4) (own := [("name", 6), ("_", 7)]) (g := (gTup K 2 (gCons (gName 6) (gCons (gName 7) gNil)))) (tt := tYes) rfl sc_told_values.nd rfl rfl (sw_true rfl rfl rfl (by decide +kernel)) (pi_list (pv 3)) (blkOk_by (N := ["text", "words", "names", "times", "moments", "word", "name", "_"]) (sc := defScope s_told_values) (by decide +kernel)) (fun _ _ _ _ _ => (pg_tup rfl (pgs_cons (pg_name (i := 6) sc_told_values.nd rfl (Or.inl rfl)) (pgs_cons (pg_name (i := 7) sc_told_values.nd rfl (Or.inl rfl)) pgs_nil)))) (fun _ _ _ _ _ => pts_nil) (fun _ _ _ _ _ => (pv 6)))
        (pss_cons (ps_if (PW.pt (pw_or (pt_cmpR (op_neD hr.units) (pv 2) (pe_callB (TSet.cr_sortedX rfl) (by rfl) T.b_sorted (by decide +kernel) (pa_cons (pe_callTy (TSet.cr_setX rfl) (by rfl) T.b_set (by decide +kernel) (pa_cons (pv 2) pa_nil)) pa_nil)) (nomark _)) (pw_or1 (pt_cmpR (op_neD hr.units) (pv 4) (pe_callB (TSet.cr_sortedX rfl) (by rfl) T.b_sorted (by decide +kernel) (pa_cons (pe_callTy (TSet.cr_setX rfl) (by rfl) T.b_set (by decide +kernel) (pa_cons (pv 4) pa_nil)) pa_nil)) (nomark _))))) (pss_one (ps_ret pe_non)) pss_nil)
        (pss_one (ps_ret (pe_tup (pa_cons (pe_callTy call_tuple_of (by rfl) T.b_tuple (by decide +kernel) (pa_cons (pv 2) pa_nil)) (pa_cons (pe_callTy call_tuple_of (by rfl) T.b_tuple (by decide +kernel) (pa_cons (pv 3) pa_nil)) pa_nil)))))))))))), ?_⟩
    have ez : decide (V.str z = V.str "") = decide (z = "") := by
      by_cases h : z = ""
      · subst h; simp
      · rw [decide_eq_false h, decide_eq_false fun e => h (V.str.inj e)]
    refine ⟨_, rfl, rfl, _, rfl, ?_⟩
    rw [ez]
    refine ite2 (fun g => ?_) (fun g => ?_)
    · have hv : progV z = some ([], []) := by unfold progV; rw [if_pos (of_decide_eq_true g)]
      refine ⟨(by show 0 ≤ sizeLine; decide), fun t1 h1 => ⟨(by show 0 ≤ sizeLine; decide), fun t2 h2 => ⟨(by show 2 ≤ sizeLine; decide), fun t3 h3 => ?_⟩⟩⟩
      have x1 := Ex.new (o := .tup []) h1
      have x2 := Ex.new (o := .tup []) h2
      have x3 := Ex.new (o := .tup [.ref t1, .ref t2]) h3
      exact q2 [] [] hv _ _ ((x1.trans x2).trans x3) (.tup (SqT.of upd_same) (.cons (.tup (SqT.of (x3 _ _ (x2 _ _ upd_same))) .nil) (.cons (.tup (SqT.of (x3 _ _ upd_same)) .nil) .nil)))
    · have gz : z ≠ "" := fun e => g (decide_eq_true e)
      refine ⟨_, rfl, ⟨_, rfl⟩, z, _, rfl, rfl, (by decide +kernel), Nat.le_trans (by omega : _ ≤ 100002) (by decide), fun p hp => ?_⟩
      show _
      generalize hws : Txt.split z " " = ws
      have hwl : ws.length < 64 := by rw [← hws]; exact hw
      have hns : namesS z = ws.filter isNameS := by unfold namesS wordsS; rw [hws]
      generalize hH1 : upd H p (.lst (ws.map V.str)) = H1
      have e1 : Ex H H1 := by rw [← hH1]; exact Ex.new hp
      have hp1 : H1 p = some (.lst (ws.map V.str)) := by rw [← hH1]; exact upd_same
      refine ⟨_, rfl, p, rfl, ⟨_, SqL.of hp1⟩, fun D1 hD1 => lcFil (H1 := H1) walk_list (fun v => match v with | .str x => isNameS x | _ => false) id (by rw [List.length_map]; exact Nat.lt_of_lt_of_le hwl (by decide)) (fun H' e => SqL.of (e _ _ hp1)) (fun _ => rfl) ?_ ?_ hD1 ?_⟩
      · intro v hv H' e Q' q'
        obtain ⟨x, hx, rfl⟩ := List.mem_map.mp hv
        have lx : x.length ≤ sizeLine := Nat.le_trans (Nat.le_trans (PyProof.Rows.part_short (by rw [hws]; exact hx)) hz) (by decide)
        exact ⟨_, rfl, .str x, .str x, rfl, .str _, lx, fun H'' e2 => ⟨_, rfl, q' H'' e2⟩⟩
      · exact fun v _ _ H' _ H2 _ Q' q' => ⟨_, rfl, q' H2 (Ex.refl _)⟩
      · intro H2 e2 hD
        have hfil : ((ws.map V.str).filter fun v => match v with | .str x => isNameS x | _ => false).map id = (namesS z).map V.str := by
          rw [hns, List.map_id, List.filter_map]
          rfl
        rw [hfil] at hD
        have hns2 : (namesS z).length ≤ ws.length := by rw [hns]; exact List.length_filter_le _ _
        have hp2 := e2 _ _ hp1
        refine ⟨_, rfl, _, rfl, D1, _, rfl, .inl (SqL.of hD), _, rfl, p, _, rfl, SqL.of hp2, fun c hc => ?_⟩
        rw [List.length_map, cutV_from (by rw [List.length_map]; exact hns2), ← List.map_drop]
        generalize hrs : ws.drop (namesS z).length = rs
        have htm : timesS z = rs.map timeS := by unfold timesS wordsS; rw [hws, hrs]
        have hrl : rs.length < 64 := Nat.lt_of_le_of_lt (by rw [← hrs, List.length_drop]; omega) hwl
        have hrw : ∀ x ∈ rs, x ∈ ws := fun x hx => List.mem_of_mem_drop (by rw [hrs]; exact hx)
        generalize hH3 : upd H2 c (.lst (rs.map V.str)) = H3
        have e3 : Ex H2 H3 := by rw [← hH3]; exact Ex.new hc
        have hc3 : H3 c = some (.lst (rs.map V.str)) := by rw [← hH3]; exact upd_same
        refine ⟨c, rfl, ⟨_, SqL.of hc3⟩, fun D3 hD3 => lcDat (K := K) (H1 := H3) (ds := (timesS z).map optD) (by rw [htm]; simp) walk_list (by rw [List.length_map]; exact Nat.lt_of_lt_of_le hrl (by decide)) (fun H' e => SqL.of (e _ _ hc3)) (fun _ => rfl) ?_ hD3 ?_⟩
        · intro i v dd hv hdd H' D' u e hD' hu Q' q'
          obtain ⟨x, hx, rfl⟩ := List.mem_map.mp (List.mem_of_getElem? hv)
          have hxi : rs[i]? = some x := by
            rw [List.getElem?_map] at hv
            obtain ⟨y, hy, e⟩ := Option.map_eq_some_iff.mp hv
            rw [hy, V.str.inj e]
          have hd2 : dd = optD (timeS x) := by
            rw [htm, List.map_map, List.getElem?_map, hxi] at hdd
            exact (Option.some.inj hdd).symm
          subst hd2
          have lx : x.length ≤ sizeLine := Nat.le_trans (Nat.le_trans (PyProof.Rows.part_short (by rw [hws]; exact hrw x hx)) hz) (by decide)
          refine ⟨_, rfl, x, rfl, lx, fun ht H'' e' => q' _ _ e' (by rw [ht]; exact .non), fun m n ht t H'' e' ht0 ht1 => q' _ _ e' ?_⟩
          rw [ht]
          have ntd : t ≠ D' := fun e => by rw [e, hu] at ht0; cases ht0
          refine .tup (SqT.of ?_) (.cons (.str _) (.cons (.int _) .nil))
          show (if t = D' then none else H'' t) = _
          rw [if_neg ntd, ht1]
        · intro H4 acc e4 hD4 hacc
          have hacc4 := DpAll.ex rm_ex hacc
          have sht : ∀ o ∈ timesS z, Sh 3 (optD o) := by
            intro o ho
            rw [htm] at ho
            obtain ⟨x, _, rfl⟩ := List.mem_map.mp ho
            cases hx : timeS x with
            | none => exact sh_none
            | some q => exact sh_pair (sh_str (name_ok (time_name (m := q.1) (n := q.2) hx))) sh_int
          have shl : Sh 4 (.list ((timesS z).map optD)) := Sh.list fun dd hdd => by
            obtain ⟨o, ho, rfl⟩ := List.mem_map.mp hdd
            exact sht o ho
          have han : ((timesS z).map optD).any (fun q => PyData.eqv q .none) = !(timesS z).all Option.isSome := by
            rw [List.any_map, List.not_all_eq_any_not]
            congr 1
            funext o
            exact optD_non o
          have eH4 : Ex H H4 := ((e1.trans e2).trans e3).trans e4
          refine ⟨_, rfl, .none, _, .non, .lst (SqL.of hD4) hacc4, (sh_none (n := 3)).sh (by decide), shl.sh (by decide), _, rfl, ?_⟩
          rw [han]
          cases hal : (timesS z).all Option.isSome with
          | false => exact iteT (q1 (by unfold progV; rw [if_neg gz, hal]; rfl) H4 eH4)
          | true =>
            refine iteF ?_
            have hps := all_some hal
            generalize hpp : (timesS z).filterMap id = ps at hps
            have hds : (timesS z).map optD = ps.map pairD := by rw [← hps, List.map_map]; rfl
            rw [hds] at hacc4
            have hal2 : acc.length = ps.length := by rw [DpAll.len hacc4, List.length_map]
            have hpl : ps.length < 64 := by
              have : ps.length = rs.length := by rw [← List.length_map (f := some), hps, htm, List.length_map]
              omega
            refine ⟨_, rfl, D3, rfl, ⟨_, SqL.of hD4⟩, fun D5 hD5 => lcPair (K := K) (H1 := H4) walk_list (fun i => .str (ps.getD i ("", 0)).1) (Nat.lt_of_lt_of_le (by omega : acc.length < 64) (by decide)) (fun H' e => SqL.of (e _ _ hD4)) (fun _ _ => rfl) ?_ hD5 ?_⟩
            · intro i x hx
              obtain ⟨dd, hdd, hxd⟩ := DpAll.get hacc4 hx
              rw [List.getElem?_map] at hdd
              obtain ⟨pr, hpr, rfl⟩ := Option.map_eq_some_iff.mp hdd
              obtain ⟨t, rfl, ht⟩ := dp_pair hxd
              refine ⟨t, _, _, rfl, ht, fun H5 _ H6 _ Q' q' => ⟨_, rfl, ?_⟩⟩
              have hgd : ps.getD i ("", 0) = pr := by rw [List.getD, hpr]; rfl
              have := q' H6 (Ex.refl _)
              rwa [hgd] at this
            · intro H5 e5 hD5'
              have hmo : (List.range acc.length).map (fun i => V.str (ps.getD i ("", 0)).1) = (ps.map (·.1)).map V.str := by
                rw [List.map_map, hal2]
                refine List.ext_getElem (by simp) fun i h1 h2 => ?_
                simp only [List.getElem_map, List.getElem_range, Function.comp]
                simp only [List.length_map] at h2
                rw [List.getD, List.getElem?_eq_getElem h2]
                rfl
              rw [hmo] at hD5'
              generalize hms : ps.map (·.1) = ms at hD5'
              have hml : ms.length < 64 := by rw [← hms, List.length_map]; exact hpl
              have nn : ∀ y ∈ namesS z, isNameS y = true := fun y hy => by rw [hns] at hy; exact (List.mem_filter.mp hy).2
              have nm : ∀ y ∈ ms, isNameS y = true := fun y hy => by
                rw [← hms] at hy
                obtain ⟨pr, hpr, rfl⟩ := List.mem_map.mp hy
                have : some pr ∈ timesS z := by rw [← hps]; exact List.mem_map.mpr ⟨pr, hpr, rfl⟩
                rw [htm] at this
                obtain ⟨x, _, hx⟩ := List.mem_map.mp this
                exact time_name (m := pr.1) (n := pr.2) hx
              have eH5 : Ex H H5 := eH4.trans e5
              have no : (decide (Asc (namesS z)) && decide (Asc ms)) = false → progV z = none := fun e => by
                unfold progV
                rw [if_neg gz, hal, hpp, hms, Bool.true_and, e]
                rfl
              have hD5n := e5 _ _ (e4 _ _ (e3 _ _ hD))
              refine ⟨_, rfl, _, rfl, D1, namesS z, rfl, SqL.of hD5n, by omega, fun l6 c6 nd6 m6 ll6 hc6 => ⟨c6, l6, rfl, upd_same, by omega, fun ys6 q6 pm6 so6 hq6 => ?_⟩⟩
              have x6 := (Ex.new (o := TSet.SetX P w c6 l6) hc6).trans (Ex.new (o := .lst (ys6.map V.str)) hq6)
              have sy6 : ∀ y ∈ ys6, isNameS y = true := fun y hy => nn y ((m6 y).mp (pm6.mem_iff.mp hy))
              refine ⟨_, _, .lst (SqL.of (x6 _ _ hD5n)) (strs_dp _), .lst (SqL.of upd_same) (strs_dp _), (sh_strs (n := 3) nn).sh (by decide), (sh_strs (n := 3) sy6).sh (by decide), _, rfl, ?_⟩
              rw [eqv_strs, asc_eq pm6 nd6 m6 so6]
              cases hA : decide (Asc (namesS z)) with
              | false => exact iteT (q1 (no (by rw [hA]; rfl)) _ (eH5.trans x6))
              | true =>
                refine iteF ?_
                have hD6 := x6 _ _ hD5'
                refine ⟨_, rfl, _, rfl, D5, ms, rfl, SqL.of hD6, by omega, fun l7 c7 nd7 m7 ll7 hc7 => ⟨c7, l7, rfl, upd_same, by omega, fun ys7 q7 pm7 so7 hq7 => ?_⟩⟩
                have x7 := (Ex.new (o := TSet.SetX P w c7 l7) hc7).trans (Ex.new (o := .lst (ys7.map V.str)) hq7)
                have sy7 : ∀ y ∈ ys7, isNameS y = true := fun y hy => nm y ((m7 y).mp (pm7.mem_iff.mp hy))
                refine ⟨_, _, .lst (SqL.of (x7 _ _ hD6)) (strs_dp _), .lst (SqL.of upd_same) (strs_dp _), (sh_strs (n := 3) nm).sh (by decide), (sh_strs (n := 3) sy7).sh (by decide), _, rfl, ?_⟩
                rw [eqv_strs, asc_eq pm7 nd7 m7 so7]
                cases hB : decide (Asc ms) with
                | false => exact iteT (q1 (no (by rw [hA, hB]; rfl)) _ ((eH5.trans x6).trans x7))
                | true =>
                  refine iteF ?_
                  have hv : progV z = some (namesS z, ps) := by
                    unfold progV
                    rw [if_neg gz, hal, hpp, hms, hA, hB]
                    rfl
                  have hN := x7 _ _ (x6 _ _ hD5n)
                  refine ⟨_, rfl, D1, _, rfl, .inl ⟨SqL.of hN, fun t8 h8 => ?_⟩⟩
                  have x8 := Ex.new (o := .tup ((namesS z).map V.str)) h8
                  have hT := x8 _ _ (x7 _ _ (x6 _ _ (e5 _ _ hD4)))
                  refine ⟨_, rfl, D3, _, rfl, .inl ⟨SqL.of hT, fun t9 h9 => ⟨(by show 2 ≤ sizeLine; decide), fun t10 h10 => ?_⟩⟩⟩
                  have x9 := Ex.new (o := .tup acc) h9
                  have x10 := Ex.new (o := .tup [.ref t8, .ref t9]) h10
                  have big := (x6.trans x7).trans ((x8.trans x9).trans x10)
                  refine q2 _ _ hv _ _ (eH5.trans big) (.tup (SqT.of upd_same) (.cons (.tup (SqT.of (x10 _ _ (x9 _ _ upd_same))) (strs_dp _)) (.cons (.tup (SqT.of (x10 _ _ upd_same)) (DpAll.ex (e5.trans big) hacc4)) .nil)))
end
end A4
set_option maxRecDepth 100000
set_option maxHeartbeats 4000000
namespace A4
open PySem L2 Evl
def spReadValues (K : PySem.W.Frag) (cT : Addr) : Sp := fun vs H Q E => ∃ z : Str, vs = [.str z] ∧ z.length ≤ 100000 ∧ (wordsS z).length < 64 ∧
  (progV z = none → ∀ dd H', Ex H H' → H dd = none → H' dd = some (.xd [("line", .int 1)]) → E (.ref cT) (some dd) H') ∧
  ∀ ns ts, progV z = some (ns, ts) → ∀ v H', Ex H H' → Dp K H' v (valD ns ts) → Q v H'
def PlainD : Nat → PyData → Prop
  | _, .str _ => True
  | _, .int _ => True
  | n + 1, .tuple ds => ds.length ≤ 1000 ∧ ∀ d ∈ ds, PlainD n d
  | _, _ => False
def spSame (K : PySem.W.Frag) : Nat → Sp
  | 0 => fun _ _ _ _ => False
  | n + 1 => fun vs H Q _ => ∃ x y d, vs = [x, y] ∧ Dp K H x d ∧ Dp K H y d ∧ PlainD n d ∧ ∀ H', Ex H H' → Q (.bl true) H'
theorem iteF' {c : Bool} {A B : Prop} (hc : c = false) (h : B) : if c = true then A else B := by
  rw [hc, if_neg Bool.false_ne_true]
  exact h
section
variable {P : Program} {w : World} {K : PySem.W.Frag} {mg : Str → Option Value} {base : Heap} {a : Ad} {d : Fd}
theorem ok_read_values (T : TX P K mg a) (D : FDS K a d) : FnOk P w K mg base (L2.CX P w) 5 a.a_read_values d.a_read_values ["text"] (spReadValues K a.cT) := by
  have G_told_values : FnOk P w K mg base CX0 4 a.a_told_values d.a_told_values ["text"] (spToldValues K) := ok_told_values T D
  refine D.F_read_values.okX sc_read_values (fun vs H Q E h => ?_) (fun cdv A outer s H vs Q E hr h => ?_)
  · obtain ⟨z, rfl, _⟩ := h
    rfl
  · obtain ⟨z, rfl, hz, hw, q1, q2⟩ := h
    refine ⟨_, (pss_cons (ps_set (i := 1) sc_read_values.nd rfl (Or.inl rfl) (pe_call G_told_values (hr.mono (by decide)) rfl T.f_told_values T.k_told_values D.B_told_values .nil pass0 (pa_cons (pv 0) pa_nil)))
        (pss_cons (ps_if (pt_cmpR op_isN (pv 1) pe_non (nomark _)) (pss_one (ps_raiseSup rfl T.e_InvalidText hr (takes_of rfl rfl rfl rfl) (by exact (pa_cons pe_int pa_nil)))) pss_nil)
        (pss_one (ps_ret (pv 1))))), ?_⟩
    refine ⟨_, rfl, z, rfl, hz, hw, fun hn H' e => ⟨_, rfl, rfl, _, rfl, iteT ⟨_, rfl, fun dd hdd => q1 hn dd _ (e.trans (Ex.new hdd)) (fresh_back e hdd) upd_same⟩⟩, fun ns ts hs v H' e hd => ?_⟩
    have nn : v ≠ .non := fun z => by subst z; unfold valD at hd; cases hd
    refine ⟨_, rfl, rfl, _, rfl, ?_⟩
    rw [decide_eq_false nn]
    exact iteF ⟨_, rfl, q2 ns ts hs v H' e hd⟩
theorem ok_law_same (T : TX P K mg a) (D : FDS K a d) : ∀ n, FnOk P w K mg base CX0 (n + 1) a.a_law_same d.a_law_same ["actual", "due"] (spSame K n)
  | 0 => by
    refine D.F__law_same.ok sc_law_same (fun vs H Q E h => h.elim) (fun cdv A outer s H vs Q E hr h => h.elim)
  | n + 1 => by
    have G__law_same : FnOk P w K mg base CX0 (n + 1) a.a_law_same d.a_law_same ["actual", "due"] (spSame K n) := ok_law_same T D n
    refine D.F__law_same.ok sc_law_same (fun vs H Q E h => ?_) (fun cdv A outer s H vs Q E hr h => ?_)
    · obtain ⟨x, y, dd, rfl, _⟩ := h
      rfl
    · obtain ⟨x, y, dd, rfl, hx, hy, hp, q⟩ := h
      refine ⟨_, (pss_cons (ps_if (pt_val (pe_callB call_isi (by rfl) T.b_isinstance (by decide +kernel) (pa_cons (pv 1) (pa_cons (pe_bltn (v := .ty "tuple") (by rfl) T.b_tuple (by decide +kernel) rfl) pa_nil)))) (pss_cons (ps_if (PW.pt (pw_or (pt_not (pt_val (pe_callB call_isi (by rfl) T.b_isinstance (by decide +kernel) (pa_cons (pv 0) (pa_cons (pe_bltn (v := .ty "tuple") (by rfl) T.b_tuple (by decide +kernel) rfl) pa_nil))))) (pw_or1 (pt_cmpR op_ne (pe_callB call_len (by rfl) T.b_len (by decide +kernel) (pa_cons (pv 0) pa_nil)) (pe_callB call_len (by rfl) T.b_len (by decide +kernel) (pa_cons (pv 1) pa_nil)) (nomark _))))) (pss_one (ps_ret pe_bl)) pss_nil)
        (pss_cons (ps_for PassesOwn.never rfl (pi_range1 rfl T.b_range (pa_cons (pe_callB call_len (by rfl) T.b_len (by decide +kernel) (pa_cons (pv 1) pa_nil)) pa_nil)) (pg_name (i := 2) sc_law_same.nd rfl (Or.inl rfl)) (pss_one (ps_if (pt_not (pt_val (pe_call G__law_same hr rfl T.f__law_same T.k__law_same D.B__law_same .nil pass0 (pa_cons (pe_ix ix_seq (pv 0) (pv 2) (fun _ _ => rfl)) (pa_cons (pe_ix ix_seq (pv 1) (pv 2) (fun _ _ => rfl)) pa_nil))))) (pss_one (ps_ret pe_bl)) pss_nil)))
        (pss_one (ps_ret pe_bl)))) pss_nil)
        (pss_cons (ps_if (pt_val (pe_callB call_isi (by rfl) T.b_isinstance (by decide +kernel) (pa_cons (pv 1) (pa_cons (pe_bltn (v := .ty "str") (by rfl) T.b_str (by decide +kernel) rfl) pa_nil)))) (pss_one (ps_ret (pe_and (pe_callB call_isi (by rfl) T.b_isinstance (by decide +kernel) (pa_cons (pv 0) (pa_cons (pe_bltn (v := .ty "str") (by rfl) T.b_str (by decide +kernel) rfl) pa_nil))) (pe_one (pe_cmpR op_eq (pv 0) (pv 1) (nomark _)))))) pss_nil)
        (pss_one (ps_ret (pe_and (pe_callB call_isi (by rfl) T.b_isinstance (by decide +kernel) (pa_cons (pv 0) (pa_cons (pe_bltn (v := .ty "int") (by rfl) T.b_int (by decide +kernel) rfl) pa_nil))) (pe_and (pe_not (pe_callB call_isi (by rfl) T.b_isinstance (by decide +kernel) (pa_cons (pv 0) (pa_cons (pe_bltn (v := .ty "bool") (by rfl) T.b_bool (by decide +kernel) rfl) pa_nil)))) (pe_one (pe_cmpR op_eq (pv 0) (pv 1) (nomark _))))))))), ?_⟩
      refine ⟨_, rfl, y, _, _, _, _, rfl, .ty "tuple", dp_ty hy, kit_tuple dd, _, rfl, ?_⟩
      cases dd with
      | str z =>
        cases hx
        cases hy
        refine iteF' rfl ⟨_, rfl, _, _, _, _, _, rfl, .ty "str", dp_ty (.str z), kit_str (.str z), _, rfl, iteT' rfl ⟨_, rfl, _, _, _, _, _, rfl, .ty "str", dp_ty (.str z), kit_str (.str z), _, rfl, iteT' rfl ⟨_, rfl, _, rfl, ?_, ?_⟩⟩⟩
        · rfl
        · have := q H (Ex.refl _)
          rwa [show decide (V.str z = V.str z) = true from decide_eq_true rfl]
      | int k =>
        cases hx
        cases hy
        refine iteF' rfl ⟨_, rfl, _, _, _, _, _, rfl, .ty "str", dp_ty (.int k), kit_str (.int k), _, rfl, iteF' rfl ⟨_, rfl, _, _, _, _, _, rfl, .ty "int", dp_ty (.int k), kit_int (.int k), _, rfl, iteT' rfl ⟨_, rfl, _, _, _, _, _, rfl, .ty "bool", dp_ty (.int k), kit_bool (.int k), _, rfl, _, rfl, iteT' rfl ⟨_, rfl, _, rfl, ?_, ?_⟩⟩⟩⟩
        · rfl
        · have := q H (Ex.refl _)
          rwa [show decide (V.int k = V.int k) = true from decide_eq_true rfl]
      | tuple ds =>
        cases hx with
        | @tup px xs _ hpx hax =>
        cases hy with
        | @tup py ys _ hpy hay =>
        have lx := DpAll.len hax
        have ly := DpAll.len hay
        refine iteT' rfl ⟨_, rfl, _, _, _, _, _, rfl, .ty "tuple", dp_ty (.tup hpx hax), kit_tuple (.tuple ds), _, rfl, ?_⟩
        cases n with
        | zero => exact False.elim hp
        | succ n =>
        obtain ⟨hl, hall⟩ : ds.length ≤ 1000 ∧ ∀ d ∈ ds, PlainD n d := hp
        refine iteF' rfl ⟨_, rfl, _, xs.length, rfl, .inr ⟨xs, hpx, rfl⟩, _, rfl, _, ys.length, rfl, .inr ⟨ys, hpy, rfl⟩, rfl, _, rfl, iteF' ?_ ?_⟩
        · show (!decide (V.int (xs.length : Nat) = V.int (ys.length : Nat))) = false
          rw [lx, ly, decide_eq_true rfl]
          rfl
        refine ⟨_, rfl, _, ys.length, rfl, .inr ⟨ys, hpy, rfl⟩, _, rfl, by omega, by omega, for_range (lo := 0) (n := ((ys.length : Nat) : Int).toNat) (fun i σ H' => (∃ v, σ = [some (.ref px), some (.ref py), v]) ∧ Ex H H') ⟨⟨_, rfl⟩, Ex.refl _⟩ ?_ ?_⟩
        · rintro i σ H1 hi ⟨⟨v, rfl⟩, e⟩
          have hi2 : i < ys.length := by omega
          obtain ⟨u, hu⟩ : ∃ u, xs[i]? = some u := ⟨xs[i]'(by omega), by simp⟩
          obtain ⟨u2, hu2⟩ : ∃ u, ys[i]? = some u := ⟨ys[i]'(by omega), by simp⟩
          obtain ⟨d1, h1, k1⟩ := DpAll.get hax hu
          obtain ⟨d2, h2, k2⟩ := DpAll.get hay hu2
          rw [h1] at h2
          cases h2
          refine ⟨_, rfl, _, rfl, .inr (.inl ⟨px, xs, _, u, rfl, rfl, ex_t e hpx, at_lit (n := i) (by omega) hu, _, rfl, _, rfl, .inr (.inl ⟨py, ys, _, u2, rfl, rfl, ex_t e hpy, at_lit (n := i) (by omega) hu2, ?_⟩)⟩)⟩
          refine ⟨_, _, d1, rfl, Dp.ex e k1, Dp.ex e k2, hall _ (List.mem_of_getElem? h1), fun H2 e2 => ⟨_, rfl, iteF ⟨⟨_, rfl⟩, e.trans e2⟩⟩⟩
        · rintro σ H1 ⟨⟨v, rfl⟩, e⟩
          exact q H1 e
      | _ => cases n <;> exact False.elim hp
end
end A4
set_option maxRecDepth 100000
set_option maxHeartbeats 4000000
namespace A4
open PySem L2 Evl
def spNameT : Sp := fun vs H Q _ => ∃ z : Str, vs = [.str z] ∧ z.length ≤ sizeLine ∧ ∀ H', Ex H H' → Q (.bl (isNameS z)) H'
theorem lett_dig : letters ++ ("0123456789" : Str) = signs := toList_inj (by decide +kernel)
theorem nameS_iff (z : Str) : isNameS z = true ↔ (1 ≤ z.length ∧ z.length ≤ 8) ∧ z.cps.toList.headD 0 ∈ letters.cps.toList ∧ ∀ c ∈ z.cps.toList, c ∈ signs.cps.toList := by
  unfold isNameS
  simp only [Bool.and_eq_true, decide_eq_true_eq, List.all_eq_true]
theorem name_not {z : Str} (h : ¬ ((1 ≤ z.length ∧ z.length ≤ 8) ∧ z.cps.toList.headD 0 ∈ letters.cps.toList ∧ ∀ c ∈ z.cps.toList, c ∈ signs.cps.toList)) : isNameS z = false := by
  cases e : isNameS z with
  | false => rfl
  | true => exact absurd ((nameS_iff z).mp e) h
section
variable {P : Program} {w : World} {K : PySem.W.Frag} {mg : Str → Option Value} {base : Heap} {a : Ad} {d : Fd}
theorem ok_law_is_name (T : TX P K mg a) (D : FDS K a d) : FnOk P w K mg base CX0 1 a.a_law_is_name d.a_law_is_name ["text"] spNameT := by
  refine D.F__law_is_name.ok sc_law_is_name (fun vs H Q E h => ?_) (fun cdv A outer s H vs Q E hr h => ?_)
  · obtain ⟨z, rfl, _⟩ := h
    rfl
  · obtain ⟨z, rfl, hz, q⟩ := h
    refine ⟨_, (pss_cons (ps_set (i := 1) sc_law_is_name.nd rfl (Or.inl rfl) pe_str)
        (pss_cons (ps_if (PW.pt (pw_or (pt_cmpR op_lt (pe_callB call_len_str (by rfl) T.b_len (by decide +kernel) (pa_cons (pv 0) pa_nil)) pe_int (nomark _)) (pw_or (pt_cmpR op_gt (pe_callB call_len_str (by rfl) T.b_len (by decide +kernel) (pa_cons (pv 0) pa_nil)) pe_int (nomark _)) (pw_or1 (pt_cmpR op_notIn_sign (pe_ix ix_str (pv 0) pe_int (fun _ _ => rfl)) (pv 1) rfl))))) (pss_one (ps_ret pe_bl)) pss_nil)
        (pss_cons (ps_for PassesOwn.never rfl (pi_str (pv 0)) (pg_name (i := 2) sc_law_is_name.nd rfl (Or.inl rfl)) (pss_one (ps_if (pt_cmpR op_notIn_sign (pv 2) (pe_op op_add_str (pv 1) pe_str) rfl) (pss_one (ps_ret pe_bl)) pss_nil)))
        (pss_one (ps_ret pe_bl))))), ?_⟩
    have hl := str_len z
    have no : ¬ ((1 ≤ z.length ∧ z.length ≤ 8) ∧ z.cps.toList.headD 0 ∈ letters.cps.toList ∧ ∀ c ∈ z.cps.toList, c ∈ signs.cps.toList) → ∀ H', Ex H H' → Q (.bl false) H' := fun n H' e => by
      have := q H' e
      rwa [name_not n] at this
    refine ⟨_, rfl, z, rfl, hz, _, _, rfl, rfl, _, rfl, ite2 (fun g => no (fun ⟨h, _⟩ => ?_) H (Ex.refl _)) (fun g => ?_)⟩
    · have := of_decide_eq_true g
      omega
    refine ⟨_, rfl, z, rfl, hz, _, _, rfl, rfl, _, rfl, ite2 (fun g2 => no (fun ⟨h, _⟩ => ?_) H (Ex.refl _)) (fun g2 => ?_)⟩
    · have := of_decide_eq_true g2
      omega
    have h1 : 1 ≤ z.length ∧ z.length ≤ 8 := ⟨by have : ¬ ((z.length : Int) < 1) := fun e => g (decide_eq_true e); omega, by have : ¬ ((8 : Int) < (z.length : Int)) := fun e => g2 (decide_eq_true e); omega⟩
    obtain ⟨c, cs, hc⟩ : ∃ c cs, z.cps.toList = c :: cs := by
      cases e : z.cps.toList with
      | nil => rw [e] at hl; simp at hl; omega
      | cons c cs => exact ⟨c, cs, rfl⟩
    refine ⟨_, rfl, z, 0, c, rfl, rfl, hz, at_lit (n := 0) rfl (by rw [hc]; rfl), _, rfl, c, letters, rfl, rfl, _, rfl, ite2 (fun g3 => no (fun ⟨_, h, _⟩ => ?_) H (Ex.refl _)) (fun g3 => ?_)⟩
    · rw [hc] at h
      have h' : c ∈ letters.cps.toList := h
      rw [decide_eq_true h'] at g3
      cases g3
    have h3 : z.cps.toList.headD 0 ∈ letters.cps.toList := by
      rw [hc]
      exact of_decide_eq_true (by simpa using g3)
    refine ⟨_, rfl, z, rfl, for_it walk_str (fun i σ H' => (∃ v, σ = [some (.str z), some (.str letters), v]) ∧ Ex H H' ∧ ∀ c ∈ z.cps.toList.take i, c ∈ signs.cps.toList) ⟨⟨_, rfl⟩, Ex.refl _, fun c hc => by simp at hc⟩ (fun _ _ _ _ _ => trivial) ?_ ?_⟩
    · rintro i x σ H1 H2 hi ⟨⟨v, rfl⟩, e, all⟩ ⟨rfl, c2, hc2, rfl⟩
      have hc3 : z.cps.toList[i]? = some c2 := by simpa using hc2
      refine ⟨_, rfl, _, rfl, _, _, rfl, rfl, (by show letters.length + ("0123456789" : Str).length ≤ sizeLine; decide +kernel), c2, _, rfl, rfl, _, rfl, ?_⟩
      rw [lett_dig]
      by_cases hs : c2 ∈ signs.cps.toList
      · rw [decide_eq_true hs]
        refine iteF ⟨⟨_, rfl⟩, e, fun c hc => ?_⟩
        rw [List.take_add_one, hc3] at hc
        rcases List.mem_append.mp hc with hc | hc
        · exact all c hc
        · rw [List.mem_singleton.mp hc]
          exact hs
      · rw [decide_eq_false hs]
        exact iteT (no (fun ⟨_, _, h⟩ => hs (h c2 (List.mem_of_getElem? hc3))) H2 e)
    · rintro σ H1 ⟨⟨v, rfl⟩, e, all⟩
      have hA : isNameS z = true := (nameS_iff z).mpr ⟨h1, h3, fun c hc => all c (by rw [List.take_of_length_le (by rw [hl]; exact Nat.le_refl _)]; exact hc)⟩
      have := q H1 e
      rwa [hA] at this
end
end A4
set_option maxRecDepth 100000
set_option maxHeartbeats 4000000
namespace A4
open PySem L2 Evl
def spNumberT : Sp := spToldInteger
theorem cut_to {z : Str} {k : Nat} (h : k ≤ z.length) : (cutS z none (some (k : Int))).cps.toList = z.cps.toList.take k := by
  unfold cutS
  rw [HT.sIx_none, HT.sIx_nat]
  simp only [Nat.sub_zero, List.drop_zero, Nat.min_eq_left h]
theorem cut_one {z : Str} : decide (V.str (cutS z none (some 1)) = V.str "-") = decide (z.cps.toList.headD 0 = 45) := by
  have e1 : ("-" : Str).cps.toList = [45] := by decide +kernel
  have hl := str_len z
  rw [ofStr, e1]
  by_cases h : 1 ≤ z.length
  · have := cut_to (z := z) (k := 1) h
    rw [show ((1 : Nat) : Int) = 1 from rfl] at this
    rw [this]
    cases hz : z.cps.toList with
    | nil => rw [hz] at hl; simp at hl; omega
    | cons c r => simp
  · have h0 : z.cps.toList = [] := List.eq_nil_of_length_eq_zero (by omega)
    have h1 := cutS_length z none (some 1)
    have h2 : (cutS z none (some 1)).cps.toList = [] := List.eq_nil_of_length_eq_zero (by rw [str_len]; omega)
    rw [h2, h0]
    decide
theorem numOk_iff (l : List Nat) : numOkL l = true ↔ numDig l ≠ [] ∧ (numDig l).length ≤ 200 ∧ ¬ ((numDig l).headD 0 = 48 ∧ l ≠ [48]) ∧ ∀ c ∈ numDig l, 48 ≤ c ∧ c ≤ 57 := by
  unfold numOkL
  rw [Bool.and_eq_true, isNumL_iff]
  have len : ∀ d : List Nat, 1 ≤ d.length ↔ d ≠ [] := fun d => by cases d <;> simp
  by_cases hm : l.headD 0 = 45
  · obtain ⟨r, rfl⟩ : ∃ r, l = 45 :: r := by
      cases l with
      | nil => cases hm
      | cons c r => exact ⟨r, by rw [show c = 45 from hm]⟩
    have hd : numDig (45 :: r) = r := rfl
    rw [hd, show decide ((45 :: r).headD 0 = 45) = true from rfl, Bool.true_and, Bool.not_eq_true', decide_eq_false_iff_not, len]
    constructor
    · rintro ⟨⟨⟨a, b⟩, c, e⟩, f⟩
      exact ⟨a, b, fun g => c ⟨g.1, f⟩, e⟩
    · rintro ⟨a, b, c, e⟩
      have n48 : r.headD 0 ≠ 48 := fun g => c ⟨g, by simp⟩
      exact ⟨⟨⟨a, b⟩, fun g => n48 g.1, e⟩, fun g => n48 (by rw [g]; rfl)⟩
  · have hd : numDig l = l := (numDigL_same hm).symm
    rw [hd, show decide (l.headD 0 = 45) = false from decide_eq_false hm, Bool.false_and, Bool.not_false, len]
    constructor
    · rintro ⟨⟨⟨a, b⟩, c, e⟩, _⟩
      exact ⟨a, b, c, e⟩
    · rintro ⟨a, b, c, e⟩
      exact ⟨⟨⟨a, b⟩, c, e⟩, rfl⟩
section
variable {P : Program} {w : World} {K : PySem.W.Frag} {mg : Str → Option Value} {base : Heap} {a : Ad} {d : Fd}
theorem ok_law_number (T : TX P K mg a) (D : FDS K a d) : FnOk P w K mg base CX0 1 a.a_law_number d.a_law_number ["text"] spNumberT := by
  refine D.F__law_number.ok sc_law_number (fun vs H Q E h => ?_) (fun cdv A outer s H vs Q E hr h => ?_)
  · obtain ⟨z, rfl, _⟩ := h
    rfl
  · obtain ⟨z, rfl, hz, q⟩ := h
    refine ⟨_, (pss_cons (ps_set (i := 1) sc_law_number.nd rfl (Or.inl rfl) (pv 0))
        (Evl.pss_cut (ps_if (pt_cmpR op_eq (pe_slice sl_str (pv 0) po_none (po_some pe_int)) pe_str (nomark _)) (pss_one (ps_set (i := 1) sc_law_number.nd rfl (Or.inl rfl) (pe_slice sl_str (pv 0) (po_some pe_int) po_none))) pss_nil)
        (pss_cons (ps_if (PW.pt (pw_or (pt_cmpR op_eq (pv 1) pe_str (nomark _)) (pw_or (pt_cmpR op_gt (pe_callB call_len_str (by rfl) T.b_len (by decide +kernel) (pa_cons (pv 1) pa_nil)) pe_int (nomark _)) (pw_or1 (PW.pt (pw_and (pt_cmpR op_eq (pe_ix ix_str (pv 1) pe_int (fun _ _ => rfl)) pe_str (nomark _)) (pw_and1 (pt_cmpR op_ne (pv 0) pe_str (nomark _))))))))) (pss_one (ps_ret pe_non)) pss_nil)
        (pss_cons (ps_for PassesOwn.never rfl (pi_str (pv 1)) (pg_name (i := 2) sc_law_number.nd rfl (Or.inl rfl)) (pss_one (ps_if (pt_cmpR op_notIn_sign (pv 2) pe_str rfl) (pss_one (ps_ret pe_non)) pss_nil)))
        (pss_one (ps_ret (pe_callTy call_int_str (by rfl) T.b_int (by decide +kernel) (pa_cons (pv 0) pa_nil)))))))), ?_⟩
    have hl := str_len z
    have zero : ("0" : Str).cps.toList = [48] := by decide +kernel
    have no : numOkL z.cps.toList = false → ∀ H', Ex H H' → Q .non H' := fun e H' x => by
      have := q H' x
      rwa [intS_none e] at this
    refine ⟨_, rfl, fun σ' H' => ∃ y : Str, y.cps.toList = numDig z.cps.toList ∧ y.length ≤ z.length ∧ σ' = [some (.str z), some (.str y), none] ∧ H' = H, ?_, ?_⟩
    · refine ⟨_, rfl, _, rfl, z, rfl, hz, rfl, _, rfl, ?_⟩
      rw [cut_one]
      refine ite2 (fun g => ?_) (fun g => ?_)
      · obtain ⟨c1, c2⟩ := numDig_cut (of_decide_eq_true g)
        exact ⟨_, rfl, _, rfl, z, rfl, hz, _, c1, c2, rfl, rfl⟩
      · exact ⟨z, numDig_same fun e => g (decide_eq_true e), Nat.le_refl _, rfl, rfl⟩
    · rintro σ' H' ⟨y, hy, hyl, rfl, rfl⟩
      have hyn := str_len y
      have nope : ¬ (numDig z.cps.toList ≠ [] ∧ (numDig z.cps.toList).length ≤ 200 ∧ ¬ ((numDig z.cps.toList).headD 0 = 48 ∧ z.cps.toList ≠ [48]) ∧ ∀ c ∈ numDig z.cps.toList, 48 ≤ c ∧ c ≤ 57) → ∀ H2, Ex H' H2 → Q .non H2 := fun n => no (by
        cases e : numOkL z.cps.toList with
        | false => rfl
        | true => exact absurd ((numOk_iff _).mp e) n)
      have e0 : decide (V.str y = V.str "") = decide (numDig z.cps.toList = []) := by
        rw [ofStr, hy]
        rfl
      refine ⟨_, rfl, rfl, _, rfl, ?_⟩
      rw [e0]
      refine ite2 (fun g => nope (fun h => h.1 (of_decide_eq_true g)) H' (Ex.refl _)) (fun g => ?_)
      have n0 : numDig z.cps.toList ≠ [] := fun e => g (decide_eq_true e)
      refine ⟨_, rfl, y, rfl, Nat.le_trans hyl hz, _, _, rfl, rfl, _, rfl, ite2 (fun g2 => nope (fun h => ?_) H' (Ex.refl _)) (fun g2 => ?_)⟩
      · have := of_decide_eq_true g2
        have := h.2.1
        rw [← hy] at this
        omega
      have n1 : (numDig z.cps.toList).length ≤ 200 := by
        have : ¬ ((200 : Int) < (y.length : Int)) := fun e => g2 (decide_eq_true e)
        rw [← hy]
        omega
      obtain ⟨c, cs, hc⟩ : ∃ c cs, numDig z.cps.toList = c :: cs := by
        cases e : numDig z.cps.toList with
        | nil => exact absurd e n0
        | cons c cs => exact ⟨c, cs, rfl⟩
      have e1 : decide (V.str ⟨#[c]⟩ = V.str "0") = decide (c = 48) := by
        rw [ofStr, zero]
        simp
      have e2 : decide (V.str z = V.str "0") = decide (z.cps.toList = [48]) := by rw [ofStr, zero]
      refine ⟨_, rfl, y, 0, c, rfl, rfl, Nat.le_trans hyl hz, at_lit (n := 0) rfl (by rw [hy, hc]; rfl), rfl, _, rfl, ?_⟩
      rw [e1]
      refine ite2 (fun g3 => ⟨_, rfl, rfl, _, rfl, ite2 (fun g4 => nope (fun h => h.2.2.1 ⟨?_, ?_⟩) H' (Ex.refl _)) (fun g4 =>
          have n2 : ¬ ((numDig z.cps.toList).headD 0 = 48 ∧ z.cps.toList ≠ [48]) := ?_
          ?_)⟩) (fun g3 =>
          have n2 : ¬ ((numDig z.cps.toList).headD 0 = 48 ∧ z.cps.toList ≠ [48]) := fun h => g3 (decide_eq_true (by rw [hc] at h; exact h.1))
          ?_)
      · rw [hc]
        exact of_decide_eq_true g3
      · rw [e2] at g4
        simpa using g4
      · rw [e2] at g4
        exact fun h => h.2 (by simpa using g4)
      all_goals
        refine ⟨_, rfl, y, rfl, for_it walk_str (fun i σ H2 => (∃ v, σ = [some (.str z), some (.str y), v]) ∧ Ex H' H2 ∧ ∀ c ∈ y.cps.toList.take i, 48 ≤ c ∧ c ≤ 57) ⟨⟨_, rfl⟩, Ex.refl _, fun c hc => by simp at hc⟩ (fun _ _ _ _ _ => trivial) ?_ ?_⟩
        · rintro i x σ H1 H2 hi ⟨⟨v, rfl⟩, e, all⟩ ⟨rfl, c2, hc2, rfl⟩
          have hc3 : y.cps.toList[i]? = some c2 := by simpa using hc2
          refine ⟨_, rfl, c2, _, rfl, rfl, _, rfl, ?_⟩
          show if (!decide (c2 ∈ digits.cps.toList)) = true then _ else _
          by_cases hs : c2 ∈ digits.cps.toList
          · rw [decide_eq_true hs]
            refine iteF ⟨⟨_, rfl⟩, e, fun c hc => ?_⟩
            rw [List.take_add_one, hc3] at hc
            rcases List.mem_append.mp hc with hc | hc
            · exact all c hc
            · rw [List.mem_singleton.mp hc]
              exact (digit_iff _).mp hs
          · rw [decide_eq_false hs]
            exact iteT (nope (fun h => hs ((digit_iff _).mpr (h.2.2.2 c2 (by rw [← hy]; exact List.mem_of_getElem? hc3)))) H2 e)
        · rintro σ H1 ⟨⟨v, rfl⟩, e, all⟩
          have hA : numOkL z.cps.toList = true := (numOk_iff _).mpr ⟨n0, n1, n2, fun c hc => all c (by rw [List.take_of_length_le (by rw [hyn]; exact Nat.le_refl _), hy]; exact hc)⟩
          obtain ⟨n, h1, h2⟩ := intS_some hA
          have hd : z.cps.toList.length ≤ (numDig z.cps.toList).length + 1 := by
            generalize z.cps.toList = l
            unfold numDig
            split
            · exact Nat.le_refl _
            · omega
          have := q H1 e
          rw [h1] at this
          exact ⟨_, rfl, z, n, rfl, h2, by omega, this⟩
end
end A4
set_option maxRecDepth 100000
set_option maxHeartbeats 4000000
namespace A4
open PySem L2 Evl
abbrev St2 := List Str × List (Str × Int)
def progW (ws : List Str) : Option St2 :=
  let ns := ws.filter isNameS
  let ts := (ws.drop ns.length).map timeS
  if ts.all Option.isSome && decide (Asc ns) && decide (Asc ((ts.filterMap id).map (·.1))) then some (ns, ts.filterMap id) else none
def stepW (st : St2) (x : Str) : Option St2 :=
  if isNameS x then (if st.2.isEmpty && st.1.all fun y => decide (y.cps.toList < x.cps.toList) then some (st.1 ++ [x], st.2) else none)
  else match timeS x with
    | none => none
    | some p => if st.2.all fun q => decide (q.1.cps.toList < p.1.cps.toList) then some (st.1, st.2 ++ [p]) else none
theorem asc_snoc (l : List Str) (x : Str) : decide (Asc (l ++ [x])) = (decide (Asc l) && l.all fun y => decide (y.cps.toList < x.cps.toList)) := by
  apply Bool.eq_iff_iff.mpr
  rw [Bool.and_eq_true, decide_eq_true_eq, decide_eq_true_eq, List.all_eq_true]
  unfold Asc
  rw [List.pairwise_append]
  constructor
  · rintro ⟨a, _, b⟩
    exact ⟨a, fun y hy => decide_eq_true (b y hy x List.mem_cons_self)⟩
  · rintro ⟨a, b⟩
    exact ⟨a, List.pairwise_singleton _ _, fun y hy z hz => by rw [List.mem_singleton.mp hz]; exact of_decide_eq_true (b y hy)⟩
theorem eq_mem {x : Str} (h : isNameS x = true) : 61 ∉ x.cps.toList := fun hm => by
  have := ((nameS_iff x).mp h).2.2 61 hm
  revert this
  decide +kernel
theorem name_head {x : Str} (h : isNameS x = true) : headS x = x := (parts_one (eq_mem h)).2
theorem int_empty {x : Str} (h : x.cps.toList = []) : intS x = none := intS_none (by rw [h]; decide)
theorem rest_empty {x : Str} (h : 61 ∉ x.cps.toList) : (restS x).cps.toList = [] := by
  unfold restS
  rw [(take_all h).2]
  rfl
theorem time_eq {x : Str} (h : 61 ∉ x.cps.toList) : timeS x = none := by
  unfold timeS
  rw [int_empty (rest_empty h)]
  split <;> rfl
theorem name_no_time {x : Str} (h : isNameS x = true) : timeS x = none := time_eq (eq_mem h)
theorem int_eq {x : Str} (h : 61 ∈ x.cps.toList) : intS x = none := by
  refine intS_none ?_
  cases e : numOkL x.cps.toList with
  | false => rfl
  | true =>
    have a := ((numOk_iff _).mp e).2.2.2
    by_cases hm : x.cps.toList.headD 0 = 45
    · cases hx : x.cps.toList with
      | nil => rw [hx] at h; cases h
      | cons c r =>
        rw [hx] at hm h a
        have hc : c = 45 := hm
        subst hc
        rcases List.mem_cons.mp h with q | q
        · cases q
        · have := a 61 q
          omega
    · rw [← numDigL_same hm] at a
      have := a 61 h
      omega
theorem time_more {x : Str} (h : 61 ∈ (restS x).cps.toList) : timeS x = none := by
  unfold timeS
  rw [int_eq h]
  split <;> rfl
theorem drop_snoc {α : Type} {l : List α} {n : Nat} (h : n ≤ l.length) (x : α) : (l ++ [x]).drop n = l.drop n ++ [x] := List.drop_append_of_le_length h
theorem filt_all {l : List Str} (h : (l.filter isNameS).length = l.length) : l.filter isNameS = l := List.filter_eq_self.mpr (List.length_filter_eq_length_iff.mp h)
theorem progW_step (l : List Str) (x : Str) : progW (l ++ [x]) = (progW l).bind fun st => stepW st x := by
  have hle := List.length_filter_le isNameS l
  by_cases hx : isNameS x = true
  · have hf : (l ++ [x]).filter isNameS = l.filter isNameS ++ [x] := by rw [List.filter_append]; simp [hx]
    by_cases hn : (l.filter isNameS).length = l.length
    · have hl := filt_all hn
      have e1 : progW l = if decide (Asc l) then some (l, []) else none := by
        unfold progW
        dsimp only
        rw [hl, List.drop_length]
        have : decide (Asc []) = true := decide_eq_true List.Pairwise.nil
        simp [this]
      have e2 : progW (l ++ [x]) = if decide (Asc (l ++ [x])) then some (l ++ [x], []) else none := by
        unfold progW
        dsimp only
        rw [hf, hl, List.drop_length]
        have : decide (Asc []) = true := decide_eq_true List.Pairwise.nil
        simp [this]
      rw [e1, e2, asc_snoc]
      cases hA : decide (Asc l) with
      | false => rfl
      | true =>
        rw [Bool.true_and, if_pos rfl]
        show _ = stepW (l, []) x
        unfold stepW
        rw [if_pos hx]
        rfl
    · have hlt : (l.filter isNameS).length + 1 ≤ l.length := by omega
      have e2 : progW (l ++ [x]) = none := by
        unfold progW
        dsimp only
        rw [hf, List.length_append, List.length_singleton, drop_snoc hlt, List.map_append, List.all_append]
        simp [name_no_time hx]
      rw [e2]
      cases hp : progW l with
      | none => rfl
      | some st =>
        show none = stepW st x
        have hst : st.2 ≠ [] := by
          unfold progW at hp
          dsimp only at hp
          split at hp
          · rename_i hc
            rw [Bool.and_eq_true, Bool.and_eq_true] at hc
            cases hp
            intro e
            have h1 := all_some hc.1.1
            dsimp only at e
            rw [e] at h1
            have h2 := congrArg List.length h1
            rw [List.length_map, List.length_map, List.length_drop] at h2
            simp only [List.length_nil] at h2
            omega
          · cases hp
        unfold stepW
        rw [if_pos hx, if_neg]
        cases hs : st.2 with
        | nil => exact absurd hs hst
        | cons => simp
  · have hf : (l ++ [x]).filter isNameS = l.filter isNameS := by rw [List.filter_append]; simp [hx]
    unfold progW
    dsimp only
    rw [hf, drop_snoc hle, List.map_append, List.all_append, List.filterMap_append]
    generalize (l.drop (l.filter isNameS).length).map timeS = ts
    generalize l.filter isNameS = ns
    cases ht : timeS x with
    | none =>
      have : (List.map timeS [x]).all Option.isSome = false := by simp [ht]
      rw [this, Bool.and_false, Bool.false_and, Bool.false_and, if_neg Bool.false_ne_true]
      split
      · show none = stepW _ x
        unfold stepW
        rw [if_neg hx, ht]
      · rfl
    | some p =>
      have h1 : (List.map timeS [x]).all Option.isSome = true := by simp [ht]
      have h2 : (List.map timeS [x]).filterMap id = [p] := by simp [ht]
      rw [h1, h2, Bool.and_true, List.map_append]
      show (if _ then _ else _) = _
      rw [show ((ts.filterMap id).map (·.1) ++ List.map (·.1) [p]) = (ts.filterMap id).map (·.1) ++ [p.1] from rfl, asc_snoc]
      cases ha : (ts.all Option.isSome && decide (Asc ns)) with
      | false => rfl
      | true =>
        rw [Bool.true_and, Bool.true_and]
        cases hb : decide (Asc ((ts.filterMap id).map (·.1))) with
        | false => rfl
        | true =>
          rw [Bool.true_and, if_pos rfl]
          show _ = stepW (ns, ts.filterMap id) x
          unfold stepW
          rw [if_neg hx, ht, List.all_map]
          rfl
theorem progW_none {l : List Str} (h : progW l = none) : ∀ r : List Str, progW (l ++ r) = none
  | [] => by rw [List.append_nil]; exact h
  | x :: r => by
    have : progW (l ++ [x]) = none := by rw [progW_step, h]; rfl
    have := progW_none this r
    rwa [List.append_assoc] at this
theorem progV_eq {z : Str} (h : z ≠ "") : progV z = progW (wordsS z) := by
  unfold progV
  rw [if_neg h]
  rfl
theorem progW_asc {l : List Str} {ns : List Str} {ps : List (Str × Int)} (h : progW l = some (ns, ps)) : Asc ns ∧ Asc (ps.map (·.1)) ∧ ns.length + ps.length = l.length ∧ (∀ x ∈ ns, isNameS x = true) ∧ ∀ p ∈ ps, isNameS p.1 = true := by
  unfold progW at h
  dsimp only at h
  split at h
  · rename_i hc
    rw [Bool.and_eq_true, Bool.and_eq_true, decide_eq_true_eq, decide_eq_true_eq] at hc
    cases h
    refine ⟨hc.1.2, hc.2, ?_, fun x hx => (List.mem_filter.mp hx).2, fun p hp => ?_⟩
    · have h1 := congrArg List.length (all_some hc.1.1)
      rw [List.length_map, List.length_map, List.length_drop] at h1
      have := List.length_filter_le isNameS l
      omega
    · obtain ⟨o, ho, e⟩ := List.mem_filterMap.mp hp
      obtain ⟨x, _, hx⟩ := List.mem_map.mp ho
      rw [show o = some p from e] at hx
      exact time_name (m := p.1) (n := p.2) hx
  · cases h
end A4
set_option maxRecDepth 100000
set_option maxHeartbeats 4000000
namespace A4
open PySem L2 Evl
structure PairsAt (H : Hp) (vs : List V) (ps : List (Str × Int)) : Prop where
  len : vs.length = ps.length
  at_ : ∀ (i : Nat) (q : Str × Int), ps[i]? = some q → ∃ t, vs[i]? = some (.ref t) ∧ H t = some (.tup [.str q.1, .int q.2])
theorem PairsAt.nil {H : Hp} : PairsAt H [] [] := ⟨rfl, fun i q h => by simp at h⟩
theorem PairsAt.ex {H H' : Hp} {vs : List V} {ps : List (Str × Int)} (A : PairsAt H vs ps) (e : Ex H H') : PairsAt H' vs ps := ⟨A.len, fun i q h => by
  obtain ⟨t, h1, h2⟩ := A.at_ i q h
  exact ⟨t, h1, e _ _ h2⟩⟩
theorem PairsAt.upd {H : Hp} {vs ys zs : List V} {ps : List (Str × Int)} {l : Addr} (A : PairsAt H vs ps) (h : H l = some (.lst ys)) : PairsAt (upd H l (.lst zs)) vs ps := ⟨A.len, fun i q g => by
  obtain ⟨t, h1, h2⟩ := A.at_ i q g
  have : t ≠ l := fun e => by rw [e, h] at h2; cases h2
  exact ⟨t, h1, by rw [upd_ne this]; exact h2⟩⟩
theorem PairsAt.snoc {H : Hp} {vs : List V} {ps : List (Str × Int)} {q : Str × Int} {t : Addr} (A : PairsAt H vs ps) (h : H t = some (.tup [.str q.1, .int q.2])) : PairsAt H (vs ++ [.ref t]) (ps ++ [q]) := ⟨by simp [A.len], fun i r g => by
  by_cases hi : i < ps.length
  · rw [List.getElem?_append_left hi] at g
    obtain ⟨t2, h1, h2⟩ := A.at_ i r g
    exact ⟨t2, by rw [List.getElem?_append_left (by rw [A.len]; exact hi)]; exact h1, h2⟩
  · rw [List.getElem?_append_right (by omega)] at g
    have h0 : i - ps.length = 0 := by
      have := (List.getElem?_eq_some_iff.mp g).1
      simp at this
      omega
    rw [h0] at g
    obtain rfl : q = r := Option.some.inj g
    exact ⟨t, by rw [List.getElem?_append_right (by rw [A.len]; omega), A.len, h0]; rfl, h⟩⟩
theorem PairsAt.dp {K : PySem.W.Frag} {H : Hp} : ∀ {vs : List V} {ps : List (Str × Int)}, PairsAt H vs ps → DpAll K H vs (ps.map pairD)
  | [], [], _ => .nil
  | [], _ :: _, A => by have := A.len; simp at this
  | _ :: _, [], A => by have := A.len; simp at this
  | v :: vs, q :: ps, A => by
    obtain ⟨t, h1, h2⟩ := A.at_ 0 q rfl
    obtain rfl : v = .ref t := Option.some.inj h1
    exact .cons (.tup (SqT.of h2) (.cons (.str _) (.cons (.int _) .nil))) (PairsAt.dp ⟨by have := A.len; simpa using this, fun i r g => A.at_ (i + 1) r g⟩)
theorem last_lt {l : List Str} {x y : Str} (hA : Asc l) (hy : l[l.length - 1]? = some y) : (l.all fun z => decide (z.cps.toList < x.cps.toList)) = decide (y.cps.toList < x.cps.toList) := by
  have hne : l ≠ [] := fun e => by rw [e] at hy; simp at hy
  have hy2 : l.getLast hne = y := by
    rw [List.getLast_eq_getElem]
    exact (List.getElem?_eq_some_iff.mp hy).2
  have hs : l = l.dropLast ++ [y] := by rw [← hy2]; exact (List.dropLast_concat_getLast hne).symm
  rw [hs] at hA ⊢
  obtain ⟨_, _, h⟩ := List.pairwise_append.mp hA
  rw [List.all_append]
  cases hb : decide (y.cps.toList < x.cps.toList) with
  | false =>
    have : ([y].all fun z => decide (z.cps.toList < x.cps.toList)) = false := by
      show (decide (y.cps.toList < x.cps.toList) && true) = false
      rw [hb]
      rfl
    rw [this, Bool.and_false]
  | true =>
    have : (l.dropLast.all fun z => decide (z.cps.toList < x.cps.toList)) = true := List.all_eq_true.mpr fun z hz => decide_eq_true (List.lt_trans (h z hz y List.mem_cons_self) (of_decide_eq_true hb))
    rw [this]
    simpa using hb
theorem at_last {xs : List V} {v : V} (h : xs[xs.length - 1]? = some v) : atI xs (-1) = some v := by
  have hp : 0 < xs.length := by
    cases xs with
    | nil => simp at h
    | cons _ _ => simp
  unfold atI ixN
  rw [if_neg (by decide), if_pos (by omega)]
  show xs[((-1 : Int) + (xs.length : Int)).toNat]? = some v
  rw [show ((-1 : Int) + (xs.length : Int)).toNat = xs.length - 1 by omega]
  exact h
theorem parts_all (x : Str) : ∃ rest, Txt.split x "=" = headS x :: rest ∧ ((61 ∉ x.cps.toList ∧ rest = [] ∧ headS x = x) ∨ (61 ∈ x.cps.toList ∧ rest = [restS x]) ∨ (61 ∈ (restS x).cps.toList ∧ 61 ∈ x.cps.toList ∧ 2 ≤ rest.length)) := by
  by_cases h : 61 ∈ x.cps.toList
  · by_cases h2 : 61 ∈ (restS x).cps.toList
    · obtain ⟨q, q2, r, e⟩ := parts_more h h2
      exact ⟨_, e, .inr (.inr ⟨h2, h, by simp⟩)⟩
    · exact ⟨_, parts_two h h2, .inr (.inl ⟨h, rfl⟩)⟩
  · obtain ⟨e1, e2⟩ := parts_one h
    exact ⟨[], by rw [e1, e2], .inl ⟨h, rfl, e2⟩⟩
section
variable {P : Program} {w : World} {K : PySem.W.Frag} {mg : Str → Option Value} {base : Heap} {a : Ad} {d : Fd}
theorem ok_law_values_of (T : TX P K mg a) (D : FDS K a d) : FnOk P w K mg base CX0 2 a.a_law_values_of d.a_law_values_of ["text"] (spToldValues K) := by
  have G__law_is_name : FnOk P w K mg base CX0 1 a.a_law_is_name d.a_law_is_name ["text"] spNameT := ok_law_is_name T D
  have G__law_number : FnOk P w K mg base CX0 1 a.a_law_number d.a_law_number ["text"] spNumberT := ok_law_number T D
  refine D.F__law_values_of.ok sc_law_values_of (fun vs H Q E h => ?_) (fun cdv A outer s H vs Q E hr h => ?_)
  · obtain ⟨z, rfl, _⟩ := h
    rfl
  · obtain ⟨z, rfl, hz, hw, q1, q2⟩ := h
    refine ⟨_, (pss_cons (ps_set (i := 1) sc_law_values_of.nd rfl (Or.inl rfl) (pe_lst pa_nil))
        (pss_cons (ps_set (i := 2) sc_law_values_of.nd rfl (Or.inl rfl) (pe_lst pa_nil))
        (pss_cons (ps_if (pt_cmpR op_eq (pv 0) pe_str (nomark _)) (pss_one (ps_ret (pe_tup (pa_cons (pe_tup pa_nil) (pa_cons (pe_tup pa_nil) pa_nil))))) pss_nil)
        (pss_cons (ps_for PassesOwn.never rfl (pi_list (pe_split (pv 0) pe_str)) (pg_name (i := 3) sc_law_values_of.nd rfl (Or.inl rfl)) (pss_cons (ps_set (i := 4) sc_law_values_of.nd rfl (Or.inl rfl) (pe_split (pv 3) pe_str))
        (pss_cons (ps_if (PW.pt (pw_or (pt_not (pt_val (pe_call G__law_is_name (hr.mono (by decide)) rfl T.f__law_is_name T.k__law_is_name D.B__law_is_name .nil pass0 (pa_cons (pe_ix ix_list (pv 4) pe_int (fun _ _ => rfl)) pa_nil)))) (pw_or1 (pt_cmpR op_gt (pe_callB call_len_seq (by rfl) T.b_len (by decide +kernel) (pa_cons (pv 4) pa_nil)) pe_int (nomark _))))) (pss_one (ps_ret pe_non)) pss_nil)
        (pss_one (ps_if (pt_cmpR op_eq (pe_callB call_len_seq (by rfl) T.b_len (by decide +kernel) (pa_cons (pv 4) pa_nil)) pe_int (nomark _)) (pss_cons (ps_if (PW.pt (pw_or (pt_truth (pv 2) (by intro _; rfl)) (pw_or1 (PW.pt (pw_and (pt_truth (pv 1) (by intro _; rfl)) (pw_and1 (pt_cmpR op_le_str (pv 3) (pe_ix ix_list (pv 1) (pe_un un_neg pe_int) (fun _ _ => rfl)) (nomark _)))))))) (pss_one (ps_ret pe_non)) pss_nil)
        (pss_one (ps_expr (pe_bm PySem.F.plainAttrs_list PySem.F.slot_list_append PySem.F.type_list_append mt_append (pv 1) (pa_cons (pv 3) pa_nil))))) (pss_cons (ps_set (i := 5) sc_law_values_of.nd rfl (Or.inl rfl) (pe_call G__law_number (hr.mono (by decide)) rfl T.f__law_number T.k__law_number D.B__law_number .nil pass0 (pa_cons (pe_ix ix_list (pv 4) pe_int (fun _ _ => rfl)) pa_nil)))
        (pss_cons (ps_if (PW.pt (pw_or (pt_cmpR op_isN (pv 5) pe_non (nomark _)) (pw_or1 (PW.pt (pw_and (pt_truth (pv 2) (by intro _; rfl)) (pw_and1 (pt_cmpR op_le_str (pe_ix ix_list (pv 4) pe_int (fun _ _ => rfl)) (pe_ix ix_tup (pe_ix ix_list (pv 2) (pe_un un_neg pe_int) (fun _ _ => rfl)) pe_int (fun _ _ => rfl)) (nomark _)))))))) (pss_one (ps_ret pe_non)) pss_nil)
        (pss_one (ps_expr (pe_bm PySem.F.plainAttrs_list PySem.F.slot_list_append PySem.F.type_list_append mt_append (pv 2) (pa_cons (pe_tup (pa_cons (pe_ix ix_list (pv 4) pe_int (fun _ _ => rfl)) (pa_cons (pv 5) pa_nil))) pa_nil)))))))))))
        (pss_one (ps_ret (pe_tup (pa_cons (pe_callTy call_tuple_of (by rfl) T.b_tuple (by decide +kernel) (pa_cons (pv 1) pa_nil)) (pa_cons (pe_callTy call_tuple_of (by rfl) T.b_tuple (by decide +kernel) (pa_cons (pv 2) pa_nil)) pa_nil))))))))), ?_⟩
    have ez : decide (V.str z = V.str "") = decide (z = "") := by
      by_cases h : z = ""
      · subst h; simp
      · rw [decide_eq_false h, decide_eq_false fun e => h (V.str.inj e)]
    refine ⟨(by show 0 ≤ sizeLine; decide), fun ln hln => ⟨(by show 0 ≤ sizeLine; decide), fun lp hlp => ⟨_, rfl, rfl, _, rfl, ?_⟩⟩⟩
    have xn := Ex.new (o := .lst []) hln
    have xp := Ex.new (o := .lst []) hlp
    generalize hH0 : upd (upd H ln (.lst [])) lp (.lst []) = H0 at *
    have e0 : Ex H H0 := xn.trans xp
    have hnp : ln ≠ lp := fun e => by rw [e, upd_same] at hlp; cases hlp
    have hn0 : H0 ln = some (.lst []) := by rw [← hH0, upd_ne hnp, upd_same]
    have hp0 : H0 lp = some (.lst []) := by rw [← hH0, upd_same]
    have nlp : H lp = none := fresh_back xn hlp
    rw [ez]
    refine ite2 (fun g => ?_) (fun g => ?_)
    · have hv : progV z = some ([], []) := by unfold progV; rw [if_pos (of_decide_eq_true g)]
      refine ⟨(by show 0 ≤ sizeLine; decide), fun t1 h1 => ⟨(by show 0 ≤ sizeLine; decide), fun t2 h2 => ⟨(by show 2 ≤ sizeLine; decide), fun t3 h3 => ?_⟩⟩⟩
      have x1 := Ex.new (o := .tup []) h1
      have x2 := Ex.new (o := .tup []) h2
      have x3 := Ex.new (o := .tup [.ref t1, .ref t2]) h3
      exact q2 [] [] hv _ _ ((e0.trans (x1.trans x2)).trans x3) (.tup (SqT.of upd_same) (.cons (.tup (SqT.of (x3 _ _ (x2 _ _ upd_same))) .nil) (.cons (.tup (SqT.of (x3 _ _ upd_same)) .nil) .nil)))
    · have gz : z ≠ "" := fun e => g (decide_eq_true e)
      rw [progV_eq gz] at q1
      have q2' : ∀ ns ts, progW (wordsS z) = some (ns, ts) → ∀ v H', Ex H H' → Dp K H' v (valD ns ts) → Q v H' := fun ns ts h => q2 ns ts (by rw [progV_eq gz]; exact h)
      refine ⟨_, rfl, ⟨_, rfl⟩, z, _, rfl, rfl, (by decide +kernel), Nat.le_trans (by omega : _ ≤ 100002) (by decide), fun p hp => ?_⟩
      unfold wordsS at q1 q2' hw
      have hsh : ∀ x ∈ Txt.split z " ", x.length ≤ 100000 := fun x hx => Nat.le_trans (PyProof.Rows.part_short hx) hz
      generalize Txt.split z " " = ws at *
      have npn : p ≠ ln := fun e => by rw [e, hn0] at hp; cases hp
      have npp : p ≠ lp := fun e => by rw [e, hp0] at hp; cases hp
      have xw := Ex.new (o := .lst (ws.map V.str)) hp
      refine ⟨p, rfl, ⟨_, SqL.of upd_same⟩, for_it (walk_list (xs := ws.map V.str)) (fun i σ H' => ∃ ns ps vs u1 u2 u3, σ = [some (.str z), some (.ref ln), some (.ref lp), u1, u2, u3] ∧ Ex H H' ∧ H' p = some (.lst (ws.map V.str)) ∧ H' ln = some (.lst (ns.map V.str)) ∧
          H' lp = some (.lst vs) ∧ PairsAt H' vs ps ∧ progW (ws.take i) = some (ns, ps)) ⟨[], [], [], none, none, none, rfl, e0.trans xw, upd_same, xw _ _ hn0, xw _ _ hp0, .nil, rfl⟩ (fun i σ H' _ ⟨_, _, _, _, _, _, _, _, h, _⟩ => SqL.of h) ?_ ?_⟩
      · rintro i v σ H1 H1' hi ⟨ns, ps, vs, u1, u2, u3, rfl, e, gp, gn, gl, A, hW⟩ ⟨rfl, hv⟩
        rw [List.getElem?_map] at hv
        obtain ⟨x, hx, rfl⟩ := Option.map_eq_some_iff.mp hv
        have lx : x.length ≤ 100000 := hsh x (List.mem_of_getElem? hx)
        have hS : progW (ws.take (i + 1)) = stepW (ns, ps) x := by
          rw [List.take_add_one, hx]
          show progW (ws.take i ++ [x]) = _
          rw [progW_step, hW]
          rfl
        have no : stepW (ns, ps) x = none → ∀ H', Ex H H' → Q .non H' := fun h => q1 (by
          have := progW_none (hS.trans h) (ws.drop (i + 1))
          rwa [List.take_append_drop] at this)
        obtain ⟨aN, aP, _, _, _⟩ := progW_asc hW
        obtain ⟨rest, hpt, hr⟩ := parts_all x
        refine ⟨_, rfl, ⟨_, rfl⟩, x, _, rfl, rfl, (by decide +kernel), Nat.le_trans (by omega : _ ≤ 100002) (by decide), fun q hq => ?_⟩
        rw [hpt]
        have xq := Ex.new (o := .lst ((headS x :: rest).map V.str)) hq
        have lh : (headS x).length ≤ sizeLine := Nat.le_trans (by rw [← (part_eq x).1]; exact Nat.le_trans (PyProof.Rows.fact_partition x "=").1 lx) (by decide)
        generalize hH2 : upd H1' q (.lst ((headS x :: rest).map V.str)) = H2 at xq
        have hq2 : H2 q = some (.lst ((headS x :: rest).map V.str)) := by rw [← hH2]; exact upd_same
        have e2 : Ex H H2 := e.trans xq
        refine ⟨_, rfl, q, _, 0, _, rfl, rfl, SqL.of hq2, at_lit (n := 0) rfl rfl, _, rfl, lh, fun H3 e3 => ⟨_, rfl, ?_⟩⟩
        cases hnm : isNameS (headS x) with
        | false =>
          refine iteT (no ?_ H3 (e2.trans e3))
          have h1 : isNameS x = false := by
            cases h : isNameS x with
            | false => rfl
            | true => rw [name_head h, h] at hnm; cases hnm
          unfold stepW timeS
          rw [h1, hnm]
          rfl
        | true =>
        have hq3 := e3 _ _ hq2
        refine iteF ⟨_, rfl, q, _, rfl, .inl (SqL.of hq3), _, _, rfl, rfl, _, rfl, ?_⟩
        have x23 : Ex H1' H3 := xq.trans e3
        have gp3 := x23 _ _ gp
        have gn3 := x23 _ _ gn
        have gl3 := x23 _ _ gl
        have A3 := A.ex x23
        have eH3 : Ex H H3 := e.trans x23
        have nsl : ns.length + ps.length ≤ 64 := by
          have := (progW_asc hW).2.2.1
          rw [List.length_take] at this
          omega
        have nln : H ln = none := hln
        rcases hr with ⟨h61, rfl, hhx⟩ | ⟨h61, rfl⟩ | ⟨h61, h61x, hr2⟩
        · refine iteF' rfl ⟨_, rfl, q, _, rfl, .inl (SqL.of hq3), rfl, _, rfl, iteT' (decide_eq_true rfl) ?_⟩
          have hx1 : isNameS x = true := by rw [hhx] at hnm; exact hnm
          refine ⟨_, rfl, !vs.isEmpty, .inl ⟨_, SqL.of gl3, by cases vs <;> rfl⟩, ?_⟩
          have hve : vs.isEmpty = ps.isEmpty := by
            have := A.len
            cases vs <;> cases ps <;> simp_all
          rw [hve]
          cases hpe : ps.isEmpty with
          | false => exact iteT (no (by unfold stepW; rw [hx1, hpe]; rfl) H3 eH3)
          | true =>
            refine iteF ⟨_, rfl, !ns.isEmpty, .inl ⟨_, SqL.of gn3, by cases ns <;> rfl⟩, ?_⟩
            have hstep : stepW (ns, ps) x = if (ns.all fun y => decide (y.cps.toList < x.cps.toList)) = true then some (ns ++ [x], ps) else none := by
              unfold stepW
              rw [hx1, if_pos rfl, hpe, Bool.true_and]
            have app : stepW (ns, ps) x = some (ns ++ [x], ps) → ∀ H4, Ex H3 H4 → H4 ln = some (.lst (ns.map V.str)) → Ex H (upd H4 ln (.lst (ns.map V.str ++ [.str x]))) ∧ (upd H4 ln (.lst (ns.map V.str ++ [.str x]))) p = some (.lst (ws.map V.str)) ∧
                (upd H4 ln (.lst (ns.map V.str ++ [.str x]))) ln = some (.lst ((ns ++ [x]).map V.str)) ∧ (upd H4 ln (.lst (ns.map V.str ++ [.str x]))) lp = some (.lst vs) ∧ PairsAt (upd H4 ln (.lst (ns.map V.str ++ [.str x]))) vs ps ∧ progW (ws.take (i + 1)) = some (ns ++ [x], ps) := fun hs H4 e4 h4 =>
              ⟨Ex.late (eH3.trans e4) nln h4, by rw [upd_ne npn]; exact e4 _ _ gp3, by rw [upd_same, List.map_append]; rfl, by rw [upd_ne (Ne.symm hnp)]; exact e4 _ _ gl3, (A3.ex e4).upd h4, hS.trans hs⟩
            have hlen : (ns.map V.str).length < sizeLine := Nat.lt_of_le_of_lt (by rw [List.length_map]; omega : _ ≤ 64) (by decide)
            cases hne : ns.isEmpty with
            | true =>
              have hs : stepW (ns, ps) x = some (ns ++ [x], ps) := by
                rw [hstep, List.isEmpty_iff.mp hne]
                rfl
              exact iteF' rfl ⟨_, rfl, .inl ⟨rfl, _, SqL.of gn3⟩, _, rfl, ln, _, _, rfl, rfl, gn3, hlen, _, _, _, _, _, _, rfl, app hs H3 (Ex.refl _) gn3⟩
            | false =>
              have hne2 : ns ≠ [] := fun e => by rw [e] at hne; cases hne
              have hpos := List.length_pos_iff.mpr hne2
              obtain ⟨y, hy⟩ : ∃ y, ns[ns.length - 1]? = some y := ⟨ns[ns.length - 1]'(by omega), by simp⟩
              rw [last_lt aN hy] at hstep
              refine iteT' rfl ⟨_, rfl, _, rfl, _, rfl, ln, _, -1, .str y, rfl, rfl, SqL.of gn3, at_last (by rw [List.length_map, List.getElem?_map, hy]; rfl), _, _, rfl, rfl, _, rfl, ?_⟩
              cases hlt : decide (y.cps.toList < x.cps.toList) with
              | false => exact iteT (no (by rw [hstep, hlt]; rfl) H3 eH3)
              | true =>
                have hs : stepW (ns, ps) x = some (ns ++ [x], ps) := by
                  rw [hstep, hlt]
                  rfl
                exact iteF' rfl ⟨_, rfl, .inl ⟨rfl, _, SqL.of gn3⟩, _, rfl, ln, _, _, rfl, rfl, gn3, hlen, _, _, _, _, _, _, rfl, app hs H3 (Ex.refl _) gn3⟩
        · refine iteF' rfl ⟨_, rfl, q, _, rfl, .inl (SqL.of hq3), rfl, _, rfl, iteF' rfl ?_⟩
          have hx1 : isNameS x = false := by
            cases h : isNameS x with
            | false => rfl
            | true => exact absurd h61 (eq_mem h)
          have lr : (restS x).length ≤ sizeLine := Nat.le_trans (by rw [← (part_eq x).2]; exact Nat.le_trans (PyProof.Rows.fact_partition x "=").2.2 lx) (by decide)
          refine ⟨_, rfl, q, _, 1, _, rfl, rfl, SqL.of hq3, at_lit (n := 1) rfl rfl, _, rfl, lr, fun H4 e4 => ?_⟩
          have hstep : stepW (ns, ps) x = match (intS (restS x)).map fun n => (headS x, n) with
              | none => none
              | some p => if (ps.all fun q => decide (q.1.cps.toList < p.1.cps.toList)) = true then some (ns, ps ++ [p]) else none := by
            unfold stepW timeS
            rw [hx1, hnm]
            rfl
          have gp4 := e4 _ _ gp3
          have gn4 := e4 _ _ gn3
          have gl4 := e4 _ _ gl3
          have A4' := A3.ex e4
          have eH4 := eH3.trans e4
          have hq4 := e4 _ _ hq3
          cases hi : intS (restS x) with
          | none => exact ⟨_, rfl, rfl, _, rfl, iteT (no (by rw [hstep, hi]; rfl) H4 eH4)⟩
          | some n =>
            refine ⟨_, rfl, rfl, _, rfl, iteF ?_⟩
            rw [hi] at hstep
            have hstep2 : stepW (ns, ps) x = if (ps.all fun q => decide (q.1.cps.toList < (headS x).cps.toList)) = true then some (ns, ps ++ [(headS x, n)]) else none := hstep
            refine ⟨_, rfl, !vs.isEmpty, .inl ⟨_, SqL.of gl4, by cases vs <;> rfl⟩, ?_⟩
            have hve : vs.isEmpty = ps.isEmpty := by
              have := A.len
              cases vs <;> cases ps <;> simp_all
            rw [hve]
            have hlen : vs.length < sizeLine := Nat.lt_of_le_of_lt (by rw [A.len]; omega : _ ≤ 64) (by decide)
            have app : stepW (ns, ps) x = some (ns, ps ++ [(headS x, n)]) → ∀ t, H4 t = none → Ex H (upd (upd H4 t (.tup [.str (headS x), .int n])) lp (.lst (vs ++ [.ref t]))) ∧ (upd (upd H4 t (.tup [.str (headS x), .int n])) lp (.lst (vs ++ [.ref t]))) p = some (.lst (ws.map V.str)) ∧
                (upd (upd H4 t (.tup [.str (headS x), .int n])) lp (.lst (vs ++ [.ref t]))) ln = some (.lst (ns.map V.str)) ∧ (upd (upd H4 t (.tup [.str (headS x), .int n])) lp (.lst (vs ++ [.ref t]))) lp = some (.lst (vs ++ [.ref t])) ∧
                PairsAt (upd (upd H4 t (.tup [.str (headS x), .int n])) lp (.lst (vs ++ [.ref t]))) (vs ++ [.ref t]) (ps ++ [(headS x, n)]) ∧ progW (ws.take (i + 1)) = some (ns, ps ++ [(headS x, n)]) := fun hs t ht => by
              have xt := Ex.new (o := .tup [.str (headS x), .int n]) ht
              have gl5 := xt _ _ gl4
              exact ⟨Ex.late (eH4.trans xt) nlp gl5, by rw [upd_ne npp]; exact xt _ _ gp4, by rw [upd_ne hnp]; exact xt _ _ gn4, upd_same, ((A4'.ex xt).snoc upd_same).upd gl5, hS.trans hs⟩
            have fin : stepW (ns, ps) x = some (ns, ps ++ [(headS x, n)]) → ∀ t, H4 t = none → ∃ ns' ps' vs' u1' u2' u3', (([some (V.str z), some (V.ref ln), some (V.ref lp), u1, u2, u3].set 3 (some (V.str x))).set 4 (some (V.ref q))).set 5 (some (optI (some n))) = [some (.str z), some (.ref ln), some (.ref lp), u1', u2', u3'] ∧
                Ex H (upd (upd H4 t (.tup [.str (headS x), .int n])) lp (.lst (vs ++ [.ref t]))) ∧ (upd (upd H4 t (.tup [.str (headS x), .int n])) lp (.lst (vs ++ [.ref t]))) p = some (.lst (ws.map V.str)) ∧ (upd (upd H4 t (.tup [.str (headS x), .int n])) lp (.lst (vs ++ [.ref t]))) ln = some (.lst (ns'.map V.str)) ∧
                (upd (upd H4 t (.tup [.str (headS x), .int n])) lp (.lst (vs ++ [.ref t]))) lp = some (.lst vs') ∧ PairsAt (upd (upd H4 t (.tup [.str (headS x), .int n])) lp (.lst (vs ++ [.ref t]))) vs' ps' ∧ progW (ws.take (i + 1)) = some (ns', ps') := fun hs t ht =>
              ⟨ns, _, _, _, _, _, rfl, app hs t ht⟩
            cases hpe : ps.isEmpty with
            | true =>
              have hs : stepW (ns, ps) x = some (ns, ps ++ [(headS x, n)]) := by
                rw [hstep2, List.isEmpty_iff.mp hpe]
                rfl
              exact iteF' rfl ⟨_, rfl, .inl ⟨rfl, _, SqL.of gl4⟩, _, rfl, q, _, 0, _, rfl, rfl, SqL.of hq4, at_lit (n := 0) rfl rfl, _, rfl, (by show 2 ≤ sizeLine; decide), fun t ht => ⟨lp, _, _, rfl, rfl, Ex.new ht _ _ gl4, hlen, fin hs t ht⟩⟩
            | false =>
              have hpos : 0 < ps.length := by
                cases ps with
                | nil => cases hpe
                | cons _ _ => simp
              obtain ⟨y, hy⟩ : ∃ y, ps[ps.length - 1]? = some y := ⟨ps[ps.length - 1]'(by omega), by simp⟩
              obtain ⟨ty, hy1, hy2⟩ := A4'.at_ _ _ hy
              have hall : (ps.all fun q => decide (q.1.cps.toList < (headS x).cps.toList)) = decide (y.1.cps.toList < (headS x).cps.toList) := by
                have := last_lt (x := headS x) (y := y.1) aP (by rw [List.length_map, List.getElem?_map, hy]; rfl)
                rw [List.all_map] at this
                exact this
              rw [hall] at hstep2
              refine iteT' rfl ⟨_, rfl, q, _, 0, _, rfl, rfl, SqL.of hq4, at_lit (n := 0) rfl rfl, _, rfl, _, rfl, lp, vs, -1, .ref ty, rfl, rfl, SqL.of gl4, at_last (by rw [A.len]; exact hy1), ty, _, 0, .str y.1, rfl, rfl, SqT.of hy2, at_lit (n := 0) rfl rfl, _, _, rfl, rfl, _, rfl, ?_⟩
              cases hlt : decide (y.1.cps.toList < (headS x).cps.toList) with
              | false => exact iteT (no (by rw [hstep2, hlt]; rfl) H4 eH4)
              | true =>
                have hs : stepW (ns, ps) x = some (ns, ps ++ [(headS x, n)]) := by
                  rw [hstep2, hlt]
                  rfl
                exact iteF' rfl ⟨_, rfl, .inl ⟨rfl, _, SqL.of gl4⟩, _, rfl, q, _, 0, _, rfl, rfl, SqL.of hq4, at_lit (n := 0) rfl rfl, _, rfl, (by show 2 ≤ sizeLine; decide), fun t ht => ⟨lp, _, _, rfl, rfl, Ex.new ht _ _ gl4, hlen, fin hs t ht⟩⟩
        · refine iteT' (decide_eq_true ?_) (no ?_ H3 eH3)
          · simp only [List.length_map, List.length_cons]
            omega
          · have hx1 : isNameS x = false := by
              cases h : isNameS x with
              | false => rfl
              | true => exact absurd h61x (eq_mem h)
            unfold stepW
            rw [hx1, time_more h61]
            rfl
      · rintro σ H1 ⟨ns, ps, vs, u1, u2, u3, rfl, e, gp, gn, gl, A, hW⟩
        rw [List.length_map, List.take_length] at hW
        refine ⟨_, rfl, ln, _, rfl, .inl ⟨SqL.of gn, fun t8 h8 => ?_⟩⟩
        have x8 := Ex.new (o := .tup (ns.map V.str)) h8
        refine ⟨_, rfl, lp, _, rfl, .inl ⟨SqL.of (x8 _ _ gl), fun t9 h9 => ⟨(by show 2 ≤ sizeLine; decide), fun t10 h10 => ?_⟩⟩⟩
        have x9 := Ex.new (o := .tup vs) h9
        have x10 := Ex.new (o := .tup [.ref t8, .ref t9]) h10
        have big := x8.trans (x9.trans x10)
        exact q2' ns ps hW _ _ (e.trans big) (.tup (SqT.of upd_same) (.cons (.tup (SqT.of (x10 _ _ (x9 _ _ upd_same))) (strs_dp _)) (.cons (.tup (SqT.of (x10 _ _ upd_same)) (A.ex big).dp) .nil)))
end
end A4
set_option maxRecDepth 100000
set_option maxHeartbeats 4000000
namespace A4
open PySem L2 Evl
def spTextT (K : PySem.W.Frag) : Sp := spWriteValues K
theorem empty_app (x : Str) : Str.empty ++ x = x := toList_inj (by
  show (Str.empty.cps ++ x.cps).toList = _
  simp [Str.empty])
theorem piece_eq (p : Str × Int) : pieceS p = p.1 ++ "=" ++ Str.ofString (toString p.2) := by
  unfold pieceS
  rw [empty_app]
section
variable {P : Program} {w : World} {K : PySem.W.Frag} {mg : Str → Option Value} {base : Heap} {a : Ad} {d : Fd}
theorem ok_law_text (T : TX P K mg a) (D : FDS K a d) : FnOk P w K mg base CX0 1 a.a_law_text d.a_law_text ["given"] (spTextT K) := by
  refine D.F__law_text.ok sc_law_text (fun vs H Q E h => ?_) (fun cdv A outer s H vs Q E hr h => ?_)
  · obtain ⟨v, ns, ts, rfl, _⟩ := h
    rfl
  · obtain ⟨v, ns, ts, rfl, hd, sm, q⟩ := h
    refine ⟨_, (pss_cons (ps_set (i := 1) sc_law_text.nd rfl (Or.inl rfl) (pe_callTy call_list_of (by rfl) T.b_list (by decide +kernel) (pa_cons (pe_ix ix_tup (pv 0) pe_int (fun _ _ => rfl)) pa_nil)))
        (pss_cons (ps_for PassesOwn.never rfl (pi_tup (pe_ix ix_tup (pv 0) pe_int (fun _ _ => rfl))) (pg_name (i := 2) sc_law_text.nd rfl (Or.inl rfl)) (pss_one (ps_expr (pe_bm PySem.F.plainAttrs_list PySem.F.slot_list_append PySem.F.type_list_append mt_append (pv 1) (pa_cons (pe_op op_add_str (pe_op op_add_str (pe_ix ix_tup (pv 2) pe_int (fun _ _ => rfl)) pe_str) (pe_callTy call_str_int (by rfl) T.b_str (by decide +kernel) (pa_cons (pe_ix ix_tup (pv 2) pe_int (fun _ _ => rfl)) pa_nil))) pa_nil)))))
        (pss_one (ps_ret (pe_join pe_str (pv 1)))))), ?_⟩
    unfold valD at hd
    cases hd with
    | @tup p xs ds hp hall =>
    cases hall with
    | cons g1 r1 =>
    cases r1 with
    | cons g2 r2 =>
    cases r2
    cases g1 with
    | @tup p1 xs1 _ hp1 h1 =>
    cases g2 with
    | @tup p2 xs2 _ hp2 h2 =>
    obtain rfl := dp_strs h1
    have l2 : xs2.length = ts.length := by rw [DpAll.len h2, List.length_map]
    refine ⟨_, rfl, p, _, 0, _, rfl, rfl, hp, at_lit (n := 0) rfl rfl, p1, _, rfl, .inr hp1, fun l hl => ?_⟩
    have xl := Ex.new (o := .lst (ns.map V.str)) hl
    refine ⟨_, rfl, p, _, 1, _, rfl, rfl, ex_t xl hp, at_lit (n := 1) rfl rfl, p2, rfl, ⟨_, ex_t xl hp2⟩, for_it (walk_tup (xs := xs2)) (fun i σ H' => (∃ v, σ = [some (.ref p), some (.ref l), v]) ∧ Ex H H' ∧ H' l = some (.lst ((ns ++ (ts.take i).map pieceS).map V.str))) ⟨⟨none, rfl⟩, xl, by rw [upd_same]; simp⟩ (fun i σ H' _ h => ex_t h.2.1 hp2) ?_ ?_⟩
    · rintro i x σ H1 H1' hi ⟨⟨v, rfl⟩, e, gl⟩ ⟨rfl, hx⟩
      obtain ⟨dd, hdd, hxd⟩ := DpAll.get h2 hx
      rw [List.getElem?_map] at hdd
      obtain ⟨pr, hpr, rfl⟩ := Option.map_eq_some_iff.mp hdd
      obtain ⟨t, rfl, ht⟩ := dp_pair hxd
      have hs := sm.t2 pr (List.mem_of_getElem? hpr)
      have h8 := (name_len hs.1).2
      have e1 : ("=" : Str).length = 1 := by decide +kernel
      have h3 := PyProof.Rows.int_text_len_1921 hs.2
      have big : 2000 ≤ sizeLine := by decide
      have tl : ((ns ++ (ts.take i).map pieceS).map V.str).length < sizeLine := by
        have := sm.n1
        have := sm.t1
        simp only [List.length_map, List.length_append, List.length_take]
        omega
      refine ⟨_, rfl, .inl ⟨rfl, _, SqL.of gl⟩, _, rfl, t, _, 0, _, rfl, rfl, ex_t e ht, at_lit (n := 0) rfl rfl, _, _, rfl, rfl, by rw [e1]; omega, _, rfl, t, _, 1, _, rfl, rfl, ex_t e ht, at_lit (n := 1) rfl rfl, pr.2, rfl, hs.2, _, _, rfl, rfl, by rw [app_len, e1]; omega, l, _, _, rfl, rfl, gl, tl, ⟨_, rfl⟩, Ex.late e hl gl, ?_⟩
      rw [upd_same, List.take_add_one, hpr, ← piece_eq]
      simp
    · rintro σ H1 ⟨⟨v, rfl⟩, e, gl⟩
      rw [l2, List.take_length] at gl
      refine ⟨⟨_, rfl⟩, _, rfl, _, l, _, rfl, rfl, .inl (SqL.of gl), ?_, q H1 e⟩
      have s1 := sum_le (fun z : Str => z.length) 1930 (ns ++ ts.map pieceS) (fun z hz => by
        rcases List.mem_append.mp hz with hz | hz
        · have := (name_len (sm.n2 z hz)).2
          omega
        · obtain ⟨pr, hpr, rfl⟩ := List.mem_map.mp hz
          exact piece_len (sm.t2 pr hpr))
      have s2 : (ns ++ ts.map pieceS).length ≤ 24 := by
        have := sm.n1
        have := sm.t1
        simp only [List.length_append, List.length_map]
        omega
      have s3 : (" " : Str).length = 1 := by decide +kernel
      rw [s3]
      have := Nat.mul_le_mul_right 1930 s2
      omega
end
end A4
set_option maxRecDepth 100000
set_option maxHeartbeats 4000000
namespace A4
open PySem L2 Evl XP L2H
def spOwn (cT : Addr) : Addr × Obj → Sp := fun p vs H Q _ => ∃ dd fs, Zc (.ref cT) (some dd) p.2 ∧ (∃ us, p.2.data = .fields us) ∧ H dd = some (.xd fs) ∧ vs = [.ref p.1] ∧ Q (.bl true) H
def spSameI : Addr × Obj → Sp := fun _ vs H Q _ => ∃ k : Int, vs = [.int k, .int k] ∧ Q (.bl true) H
def spRead : Sp := fun vs H Q _ => ∃ z : Str, vs = [.str z] ∧ z.length ≤ 100000 ∧ (wordsS z).length < 64 ∧ ∀ H', Ex H H' → Q (.bl true) H'
section
variable {P : Program} {w : World} {K : PySem.W.Frag} {mg : Str → Option Value} {base : Heap} {a : Ad} {d : Fd}
theorem ok_law_own (T : TX P K mg a) (D : FDS K a d) : FnP P w K mg base 1 a.a_law_own d.a_law_own ["e"] (spOwn a.cT) := by
  refine okP D.F__law_own sc_law_own (fun p vs H Q E h => ?_) (fun cdv A outer s H vs Q p hr h => ?_)
  · obtain ⟨dd, fs, _, _, _, rfl, _⟩ := h
    rfl
  · obtain ⟨dd, fs, hz, hf, hdd, rfl, q⟩ := h
    have hp : p ∈ (cxH CX0 P w K mg base ["e"] "_law_own" (defScope s_law_own) a.a_law_own cdv A outer s H (fun _ _ _ => False) p).pn := List.mem_cons_self
    refine ⟨_, (pss_cons (ps_if (PW.pt (pw_or (pt_val (pe_callB (XP.call_isP hp) (by rfl) T.b_isinstance (by decide +kernel) (pa_cons (pv 0) (pa_cons (pe_glob (v := .ref a.cN) rfl T.c_InvalidName rfl) pa_nil)))) (pw_or (pt_val (pe_callB (XP.call_isP hp) (by rfl) T.b_isinstance (by decide +kernel) (pa_cons (pv 0) (pa_cons (pe_glob (v := .ref a.cL) rfl T.c_InvalidLiteral rfl) pa_nil)))) (pw_or1 (pt_val (pe_callB (XP.call_isP hp) (by rfl) T.b_isinstance (by decide +kernel) (pa_cons (pv 0) (pa_cons (pe_glob (v := .ref a.cC) rfl T.c_InvalidClause rfl) pa_nil)))))))) (pss_one (ps_ret pe_bl)) pss_nil)
        (pss_cons (ps_if (pt_val (pe_callB (XP.call_isP hp) (by rfl) T.b_isinstance (by decide +kernel) (pa_cons (pv 0) (pa_cons (pe_glob (v := .ref a.cU) rfl T.c_UnknownMoment rfl) pa_nil)))) (pss_one (ps_ret pe_bl)) pss_nil)
        (pss_one (ps_ret (pe_and (pe_callB (XP.call_isP hp) (by rfl) T.b_isinstance (by decide +kernel) (pa_cons (pv 0) (pa_cons (pe_glob (v := .ref a.cR) rfl T.c_RingclauseError rfl) pa_nil))) (pe_one (pe_callB (XP.call_isP hp) (by rfl) T.b_isinstance (by decide +kernel) (pa_cons (pv 0) (pa_cons (pe_bltn (v := .ty "ValueError") (by rfl) T.b_ValueError (by decide +kernel) rfl) pa_nil))))))))), ?_⟩
    refine ⟨_, rfl, _, dd, fs, _, _, false, hz, hf, hdd, T.xc, rfl, .own a.cN, T.kN, false, rfl, iteF' rfl ⟨_, rfl, _, dd, fs, _, _, false, hz, hf, hdd, T.xc, rfl, .own a.cL, T.kL, false, rfl, iteF' rfl ⟨_, rfl, _, dd, fs, _, _, false, hz, hf, hdd, T.xc, rfl, .own a.cC, T.kC, false, rfl, iteF' rfl
      ⟨_, rfl, _, dd, fs, _, _, false, hz, hf, hdd, T.xc, rfl, .own a.cU, T.kU, false, rfl, iteF' rfl ⟨_, rfl, _, dd, fs, _, _, true, hz, hf, hdd, T.xc, rfl, .own a.cR, T.kR, true, rfl, iteT' rfl ⟨_, rfl, _, dd, fs, _, _, true, hz, hf, hdd, T.xc, rfl, .ty "ValueError", T.kV, q⟩⟩⟩⟩⟩⟩
theorem ok_law_sameP (T : TX P K mg a) (D : FDS K a d) : FnP P w K mg base 1 a.a_law_same d.a_law_same ["actual", "due"] spSameI := by
  refine okP D.F__law_same sc_law_same (fun p vs H Q E h => ?_) (fun cdv A outer s H vs Q p hr h => ?_)
  · obtain ⟨k, rfl, _⟩ := h
    rfl
  · obtain ⟨k, rfl, q⟩ := h
    refine ⟨_, (pss_cons (ps_if (pt_val (pe_callB call_isi (by rfl) T.b_isinstance (by decide +kernel) (pa_cons (pv 1) (pa_cons (pe_bltn (v := .ty "tuple") (by rfl) T.b_tuple (by decide +kernel) rfl) pa_nil)))) (pss_cons (ps_if (PW.pt (pw_or (pt_not (pt_val (pe_callB call_isi (by rfl) T.b_isinstance (by decide +kernel) (pa_cons (pv 0) (pa_cons (pe_bltn (v := .ty "tuple") (by rfl) T.b_tuple (by decide +kernel) rfl) pa_nil))))) (pw_or1 (pt_cmpR op_ne (pe_callB call_len (by rfl) T.b_len (by decide +kernel) (pa_cons (pv 0) pa_nil)) (pe_callB call_len (by rfl) T.b_len (by decide +kernel) (pa_cons (pv 1) pa_nil)) (nomark _))))) (pss_one (ps_ret pe_bl)) pss_nil)
        (pss_cons ps_never
        (pss_one (ps_ret pe_bl)))) pss_nil)
        (pss_cons (ps_if (pt_val (pe_callB call_isi (by rfl) T.b_isinstance (by decide +kernel) (pa_cons (pv 1) (pa_cons (pe_bltn (v := .ty "str") (by rfl) T.b_str (by decide +kernel) rfl) pa_nil)))) (pss_one (ps_ret (pe_and (pe_callB call_isi (by rfl) T.b_isinstance (by decide +kernel) (pa_cons (pv 0) (pa_cons (pe_bltn (v := .ty "str") (by rfl) T.b_str (by decide +kernel) rfl) pa_nil))) (pe_one (pe_cmpR op_eq (pv 0) (pv 1) (nomark _)))))) pss_nil)
        (pss_one (ps_ret (pe_and (pe_callB call_isi (by rfl) T.b_isinstance (by decide +kernel) (pa_cons (pv 0) (pa_cons (pe_bltn (v := .ty "int") (by rfl) T.b_int (by decide +kernel) rfl) pa_nil))) (pe_and (pe_not (pe_callB call_isi (by rfl) T.b_isinstance (by decide +kernel) (pa_cons (pv 0) (pa_cons (pe_bltn (v := .ty "bool") (by rfl) T.b_bool (by decide +kernel) rfl) pa_nil)))) (pe_one (pe_cmpR op_eq (pv 0) (pv 1) (nomark _))))))))), ?_⟩
    refine ⟨_, rfl, _, _, _, _, _, rfl, .ty "tuple", dp_ty (.int k), kit_tuple (.int k), _, rfl, iteF' rfl ⟨_, rfl, _, _, _, _, _, rfl, .ty "str", dp_ty (.int k), kit_str (.int k), _, rfl, iteF' rfl ⟨_, rfl, _, _, _, _, _, rfl, .ty "int", dp_ty (.int k), kit_int (.int k), _, rfl, iteT' rfl ⟨_, rfl, _, _, _, _, _, rfl, .ty "bool", dp_ty (.int k), kit_bool (.int k), _, rfl, _, rfl, iteT' rfl ⟨_, rfl, _, rfl, ?_, ?_⟩⟩⟩⟩⟩
    · rfl
    · rwa [show decide (V.int k = V.int k) = true from decide_eq_true rfl]
end
end A4
set_option maxRecDepth 100000
set_option maxHeartbeats 4000000
namespace A4
open PySem L2 Evl
theorem plain_val {ns : List Str} {ts : List (Str × Int)} (h1 : ns.length ≤ 1000) (h2 : ts.length ≤ 1000) : PlainD 3 (valD ns ts) := by
  refine ⟨by simp, fun d hd => ?_⟩
  simp only [List.mem_cons, List.not_mem_nil, or_false] at hd
  rcases hd with rfl | rfl
  · refine ⟨by simpa using h1, fun d hd => ?_⟩
    obtain ⟨z, _, rfl⟩ := List.mem_map.mp hd
    exact True.intro
  · refine ⟨by simpa using h2, fun d hd => ?_⟩
    obtain ⟨p, _, rfl⟩ := List.mem_map.mp hd
    refine ⟨by simp, fun e he => ?_⟩
    simp only [List.mem_cons, List.not_mem_nil, or_false] at he
    rcases he with rfl | rfl <;> exact True.intro
section
variable {P : Program} {w : World} {K : PySem.W.Frag} {mg : Str → Option Value} {base : Heap} {a : Ad} {d : Fd}
def rIsNone : R2 := fun x y H Q => y = .non ∧ Q (.bl (decide (x = .non))) H
def t_bodyR (K : PySem.W.Frag) (cT : Addr) : WX → TS := fun W => tAsg (tCallS (spReadValues K cT) (WE W) (tCons (tVar 0) tNil)) (gName 2)
theorem ok_law_read (T : TX P K mg a) (D : FDS K a d) : FnOk P w K mg base CX0 7 a.a_law_read d.a_law_read ["text"] spRead := by
  have G_read_values : FnOk P w K mg base (L2.CX P w) 5 a.a_read_values d.a_read_values ["text"] (spReadValues K a.cT) := ok_read_values T D
  have G__law_values_of : FnOk P w K mg base CX0 2 a.a_law_values_of d.a_law_values_of ["text"] (spToldValues K) := ok_law_values_of T D
  have G__law_same : FnOk P w K mg base CX0 5 a.a_law_same d.a_law_same ["actual", "due"] (spSame K 4) := ok_law_same T D 4
  have O := ok_law_own (P := P) (w := w) (base := base) T D
  have S := ok_law_sameP (P := P) (w := w) (base := base) T D
  refine D.F__law_read.ok sc_law_read (fun vs H Q E h => ?_) (fun cdv A outer s H vs Q E hr h => ?_)
  · obtain ⟨z, rfl, _⟩ := h
    rfl
  · obtain ⟨z, rfl, hz, hw, q⟩ := h
    have hr5 : Room 5 _ := hr.mono (by decide)
    have hrH : L2H.RoomH 1 _ := L2H.roomH_of (hr.mono (by decide : 1 ≤ 6))
    refine ⟨_, pss_cons (ps_set (i := 1) sc_law_read.nd rfl (Or.inl rfl) (pe_call G__law_values_of (hr.mono (by decide)) rfl T.f__law_values_of T.k__law_values_of D.B__law_values_of .nil pass0 (pa_cons (pv 0) pa_nil))) (pss_cons (ps_try_as (i := 3) (tb := t_bodyR K a.cT) (Wout := fun _ _ _ _ => False) rfl rfl sc_law_read.nd rfl rfl ⟨rfl, by decide, Or.inl T.c_InvalidText⟩ takes0
        (fun W pn xe tk _ => pss_one (ps_set (i := 2) sc_law_read.nd rfl (Or.inl rfl) (by exact (pe_callS G_read_values hr5 rfl T.f_read_values T.k_read_values D.B_read_values (fun σ => L2.passAt tk σ) (by exact (pa_cons (pv 0) pa_nil))))))
        (fun b oe cls dd pn hz hf => pss_one (ps_ret (pe_and (pe_cmpR op_isN (pv 1) pe_non (nomark _)) (pe_and (XP.pe_callZ hz hf O hrH rfl T.f__law_own T.k__law_own D.B__law_own (by exact (pa_cons (pv 3) pa_nil)))
          (pe_one (XP.pe_callZ hz hf S hrH rfl T.f__law_same T.k__law_same D.B__law_same (by exact (pa_cons (pe_xf T.xf T.noF hz hf (pv 3)) (pa_cons pe_int pa_nil)))))))))) (pss_one (ps_ret (pe_and (pe_cmpR op_notN (pv 1) pe_non (nomark _)) (pe_one (pe_call G__law_same (hr.mono (by decide)) rfl T.f__law_same T.k__law_same D.B__law_same .nil pass0 (pa_cons (pv 2) (pa_cons (pv 1) pa_nil)))))))), ?_⟩
    refine ⟨_, rfl, z, rfl, hz, hw, fun hn H1 e1 => ⟨_, rfl, z, rfl, hz, hw, fun _ dd H2 e2 _ hdd => ⟨true, T.te, fun _ b hb => ?_, fun z => nomatch z⟩, fun ns ts hs => (by rw [hn] at hs; cases hs)⟩,
      fun ns ts hs v H1 e1 hd => ⟨_, rfl, z, rfl, hz, hw, fun hn => (by rw [hn] at hs; cases hs), fun ns2 ts2 hs2 v2 H2 e2 hd2 => ?_⟩⟩
    · exact ⟨_, rfl, rfl, _, rfl, iteT' (decide_eq_true rfl) ⟨_, rfl, fun oe hz hf => ⟨dd, _, hz, hf, hdd, rfl, _, rfl, iteT' rfl ⟨_, rfl, rfl, rfl, dd, _, .int 1, rfl, hdd, by simp [List.lookup], fun oe hz hf => ⟨1, rfl, q H2 (e1.trans e2)⟩⟩⟩⟩⟩
    · rw [hs] at hs2
      obtain ⟨rfl, rfl⟩ : ns = ns2 ∧ ts = ts2 := by
        have := Option.some.inj hs2
        exact ⟨congrArg Prod.fst this, congrArg Prod.snd this⟩
      have nn : v ≠ .non := fun z => by subst z; unfold valD at hd; cases hd
      refine ⟨_, rfl, rfl, _, rfl, iteT' (by rw [decide_eq_false nn]; rfl) ⟨_, rfl, _, rfl, v2, v, _, rfl, hd2, Dp.ex e2 hd, ?_, fun H3 e3 => q H3 ((e1.trans e2).trans e3)⟩⟩
      have hl : ns.length ≤ 1000 ∧ ts.length ≤ 1000 := by
        by_cases g : z = ""
        · unfold progV at hs
          rw [if_pos g] at hs
          cases hs
          exact ⟨Nat.zero_le _, Nat.zero_le _⟩
        · rw [progV_eq g] at hs
          have := (progW_asc hs).2.2.1
          omega
      exact plain_val hl.1 hl.2
end
end A4
set_option maxRecDepth 100000
set_option maxHeartbeats 4000000
namespace A4
open PySem L2 Evl
/-- all but b is as it was, and b's first item is as it was -/
structure Kp (b : Addr) (H H' : Hp) : Prop where
  k : ∀ a o, a ≠ b → H a = some o → H' a = some o
  fst : ∀ v r, H b = some (.lst (v :: r)) → ∃ r', H' b = some (.lst (v :: r'))
theorem Kp.at {b : Addr} {H H' : Hp} (x : Kp b H H') {a : Addr} {o : HO} (n : a ≠ b) (h : H a = some o) : H' a = some o := x.k a o n h
theorem Kp.refl (b : Addr) (H : Hp) : Kp b H H := ⟨fun _ _ _ h => h, fun _ r h => ⟨r, h⟩⟩
theorem Kp.trans {b : Addr} {H H1 H2 : Hp} (x : Kp b H H1) (y : Kp b H1 H2) : Kp b H H2 :=
  ⟨fun a o n h => y.at n (x.at n h), fun v r h => by
    obtain ⟨r1, h1⟩ := x.fst v r h
    exact y.fst v r1 h1⟩
theorem Kp.ex {b : Addr} {H H1 : Hp} (x : Ex H H1) : Kp b H H1 := ⟨fun a o _ h => x a o h, fun v r h => ⟨r, x _ _ h⟩⟩
theorem Kp.set {b : Addr} {H : Hp} {v : V} {r r' : List V} (h : H b = some (.lst (v :: r))) : Kp b H (upd H b (.lst (v :: r'))) :=
  ⟨fun a u n h => by
    rw [upd_ne n]
    exact h, fun u q hu => by
    rw [h] at hu
    cases hu
    exact ⟨r', upd_same⟩⟩
/-- at b the box of a script's cells -/
def BxD (b c : Addr) (ns : List Int) (i : Nat) (r m t : Int) (H : Hp) : Prop := H b = some (.lst [.ref c, .int (i : Int), .int r, .int m, .int t]) ∧ c ≠ b ∧ H c = some (.lst (ns.map V.int))
def Bx (b : Addr) (H : Hp) : Prop := ∃ c ns i r m t, BxD b c ns i r m t H
theorem Bx.ex {b : Addr} {H H1 : Hp} (x : Bx b H) (e : Ex H H1) : Bx b H1 := by
  obtain ⟨c, ns, i, r, m, t, h1, h2, h3⟩ := x
  exact ⟨c, ns, i, r, m, t, e _ _ h1, h2, e _ _ h3⟩
/-- what is new since H may change -/
theorem Kp.mut {b l : Addr} {H H' : Hp} {o : HO} (x : Kp b H H') (hl : H l = none) (hn : l ≠ b) : Kp b H (upd H' l o) :=
  ⟨fun a u n h => by
    rw [upd_ne (ne_of_none h hl)]
    exact x.at n h, fun v r h => by
    obtain ⟨r1, h1⟩ := x.fst v r h
    exact ⟨r1, by rw [upd_ne hn.symm]; exact h1⟩⟩
theorem Bx.ne {b l : Addr} {H : Hp} (x : Bx b H) (hl : H l = none) : l ≠ b := by
  obtain ⟨c, ns, i, r, m, t, h1, _⟩ := x
  exact (ne_of_none h1 hl).symm
theorem Bx.mut {b l : Addr} {H H' : Hp} {o : HO} (x0 : Bx b H) (hl : H l = none) (k : Kp b H H') (x : Bx b H') : Bx b (upd H' l o) := by
  have hn := x0.ne hl
  obtain ⟨c0, ns0, i0, r0, m0, t0, h1, h2, h3⟩ := x0
  obtain ⟨c, ns, i, r, m, t, g1, g2, g3⟩ := x
  obtain ⟨r', h'⟩ := k.fst _ _ h1
  have e := g1.symm.trans h'
  have ec : c = c0 := by cases e; rfl
  have ncl : c ≠ l := by
    rw [ec]
    exact ne_of_none h3 hl
  exact ⟨c, ns, i, r, m, t, by rw [upd_ne hn.symm]; exact g1, g2, by rw [upd_ne ncl]; exact g3⟩
theorem Dp.kp {K : PySem.W.Frag} {b : Addr} {H H' : Hp} (k : Kp b H H') : True := trivial
def spBag (K : PySem.W.Frag) : Sp := fun vs H Q _ => ∃ (a : Addr) (ns : List Int), vs = [.ref a] ∧ SqL K H a (ns.map V.int) ∧ ∀ b H', Ex H H' → H b = none → Bx b H' → Q (.ref b) H'
def spTake : Sp := fun vs H Q _ => ∃ (b : Addr) (size : Int), vs = [.ref b, .int size] ∧ Bx b H ∧ 0 < size ∧ size.natAbs.log2 < 9000 ∧ ∀ (d : Int) H', Kp b H H' → Bx b H' → 0 ≤ d → d < size → Q (.int d) H'
section
variable {P : Program} {w : World} {K : PySem.W.Frag} {mg : Str → Option Value} {base : Heap} {a : Ad} {d : Fd}
theorem ok_law_bag (T : TX P K mg a) (D : FDS K a d) : FnOk P w K mg base CX0 1 a.a_law_bag d.a_law_bag ["script"] (spBag K) := by
  refine D.F__law_bag.ok sc_law_bag (fun vs H Q E h => ?_) (fun cdv A outer s H vs Q E hr h => ?_)
  · obtain ⟨a, ns, rfl, _⟩ := h
    rfl
  · obtain ⟨a, ns, rfl, ha, q⟩ := h
    refine ⟨_, (pss_one (ps_ret (pe_lst (pa_cons (pe_callTy call_list_of (by rfl) T.b_list (by decide +kernel) (pa_cons (pv 0) pa_nil)) (pa_cons pe_int (pa_cons pe_int (pa_cons pe_int (pa_cons pe_int pa_nil)))))))), ?_⟩
    refine ⟨_, rfl, a, _, rfl, .inl ha, fun c hc => ⟨(by show 5 ≤ sizeLine; decide), fun b hb => ?_⟩⟩
    have ncb : c ≠ b := fun z => by
      rw [z, upd_same] at hb
      cases hb
    have e := (Ex.new (o := .lst (ns.map V.int)) hc).trans (Ex.new (o := .lst [.ref c, .int 0, .int 0, .int 1, .int 0]) hb)
    exact q b _ e (fresh_back (Ex.new hc) hb) ⟨c, ns, 0, 0, 1, 0, upd_same, ncb, by rw [upd_ne ncb, upd_same]⟩
theorem ok_law_take (T : TX P K mg a) (D : FDS K a d) : FnOk P w K mg base CX0 1 a.a_law_take d.a_law_take ["bag", "size"] spTake := by
  refine D.F__law_take.ok sc_law_take (fun vs H Q E h => ?_) (fun cdv A outer s H vs Q E hr h => ?_)
  · obtain ⟨b, size, rfl, _⟩ := h
    rfl
  · obtain ⟨b, size, rfl, ⟨c, ns, i, r, m, t, h1, h2, h3⟩, s0, s9, q⟩ := h
    refine ⟨_, (Evl.pss_cut (ps_if (PW.pt (pw_and (pt_cmpR op_eq (pe_ix ix_list (pv 0) pe_int (fun _ _ => rfl)) pe_int (nomark _)) (pw_and1 (pt_cmpR op_lt (pe_ix ix_list (pv 0) pe_int (fun _ _ => rfl)) (pe_callB call_len_seq (by rfl) T.b_len (by decide +kernel) (pa_cons (pe_ix ix_list (pv 0) pe_int (fun _ _ => rfl)) pa_nil)) (nomark _))))) (pss_cons (ps_set (i := 2) sc_law_take.nd rfl (Or.inl rfl) (pe_callB call_abs (by rfl) T.b_abs (by decide +kernel) (pa_cons (pe_ix ix_list (pe_ix ix_list (pv 0) pe_int (fun _ _ => rfl)) (pe_ix ix_list (pv 0) pe_int (fun _ _ => rfl)) (fun _ _ => rfl)) pa_nil)))
        (pss_cons (ps_asg (pe_op op_add (pe_ix ix_list (pv 0) pe_int (fun _ _ => rfl)) pe_int) (pg_sub (pv 0) pe_int set_list))
        (pss_cons (ps_asg (pe_op op_modN (pe_callTy call_int1 (by rfl) T.b_int (by decide +kernel) (pa_cons (pe_op op_add (pe_op op_add (pe_op op_mul (pe_ix ix_list (pv 0) pe_int (fun _ _ => rfl)) pe_int) (pe_op op_modN (pe_callTy call_int1 (by rfl) T.b_int (by decide +kernel) (pa_cons (pv 2) pa_nil)) pe_int)) pe_int) pa_nil)) pe_int) (pg_sub (pv 0) pe_int set_list))
        (pss_one (ps_if (pt_cmpR op_ge (pv 2) (pe_op op_pow pe_int pe_int) (nomark _)) (pss_one (ps_asg (pe_op op_sub (pv 2) (pe_op op_pow pe_int pe_int)) (pg_sub (pv 0) pe_int set_list))) pss_nil))))) pss_nil)
        (pss_cons (ps_if (pt_cmpR op_gt (pe_ix ix_list (pv 0) pe_int (fun _ _ => rfl)) pe_int (nomark _)) (pss_cons (ps_set (i := 3) sc_law_take.nd rfl (Or.inl rfl) (pe_op op_modN (pe_callTy call_int1 (by rfl) T.b_int (by decide +kernel) (pa_cons (pe_ix ix_list (pv 0) pe_int (fun _ _ => rfl)) pa_nil)) (pv 1)))
        (pss_cons (ps_asg (pe_op op_fdivW (pe_ix ix_list (pv 0) pe_int (fun _ _ => rfl)) (pv 1)) (pg_sub (pv 0) pe_int set_list))
        (pss_one (ps_ret (pv 3))))) pss_nil)
        (pss_cons (ps_asg (pe_op op_add (pe_ix ix_list (pv 0) pe_int (fun _ _ => rfl)) pe_int) (pg_sub (pv 0) pe_int set_list))
        (pss_cons (ps_asg (pe_op op_modN (pe_callTy call_int1 (by rfl) T.b_int (by decide +kernel) (pa_cons (pe_op op_add (pe_op op_add (pe_op op_mul (pe_ix ix_list (pv 0) pe_int (fun _ _ => rfl)) pe_int) (pe_op op_mul (pe_ix ix_list (pv 0) pe_int (fun _ _ => rfl)) pe_int)) pe_int) pa_nil)) pe_int) (pg_sub (pv 0) pe_int set_list))
        (pss_one (ps_ret (pe_op op_modN (pe_op op_fdivN (pe_callTy call_int1 (by rfl) T.b_int (by decide +kernel) (pa_cons (pe_op op_add (pe_op op_fdivN (pe_ix ix_list (pv 0) pe_int (fun _ _ => rfl)) pe_int) (pe_op op_modN (pe_callTy call_int1 (by rfl) T.b_int (by decide +kernel) (pa_cons (pe_op op_mul (pe_ix ix_list (pv 0) pe_int (fun _ _ => rfl)) pe_int) pa_nil)) pe_int)) pa_nil)) pe_int) (pv 1)))))))), ?_⟩
    refine ⟨fun σ' H' => (∃ u, σ' = [some (.ref b), some (.int size), u, none]) ∧ Kp b H H' ∧ Bx b H', ?_, ?_⟩
    · have fin : (∃ u, [some (V.ref b), some (V.int size), none, none] = [some (V.ref b), some (.int size), u, none]) ∧ Kp b H H ∧ Bx b H := ⟨⟨none, rfl⟩, Kp.refl _ _, c, ns, i, r, m, t, h1, h2, h3⟩
      refine ⟨_, rfl, b, _, 2, _, rfl, rfl, SqL.of h1, at_lit (n := 2) rfl rfl, rfl, _, rfl, ?_⟩
      refine ite2 (fun g1 => ?_) (fun g1 => iteF fin)
      refine ⟨_, rfl, b, _, 1, _, rfl, rfl, SqL.of h1, at_lit (n := 1) rfl rfl, _, rfl, b, _, 0, _, rfl, rfl, SqL.of h1, at_lit (n := 0) rfl rfl, c, _, rfl, .inl (SqL.of h3), _, _, rfl, rfl, _, rfl, ?_⟩
      refine ite2 (fun g2 => ?_) (fun g2 => fin)
      have hi : (i : Int) < ((ns.map V.int).length : Nat) := of_decide_eq_true g2
      rw [List.length_map] at hi
      obtain ⟨cell, hcell⟩ : ∃ z : Int, ns[i]? = some z := ⟨ns[i]'(by omega), by simp⟩
      have hcell' : (ns.map V.int)[i]? = some (.int cell) := by rw [List.getElem?_map, hcell]; rfl
      refine ⟨_, rfl, b, _, 0, _, rfl, rfl, SqL.of h1, at_lit (n := 0) rfl rfl, _, rfl, b, _, 1, _, rfl, rfl, SqL.of h1, at_lit (n := 1) rfl rfl, c, _, i, _, rfl, rfl, SqL.of h3, at_lit (n := i) rfl hcell', _, rfl, ?_⟩
      generalize (if cell < 0 then -cell else cell) = cell
      refine ⟨_, rfl, b, _, 1, _, rfl, rfl, SqL.of h1, at_lit (n := 1) rfl rfl, _, _, rfl, rfl, _, rfl, b, _, 1, 1, rfl, rfl, h1, rfl, ?_⟩
      generalize hH2 : upd H b _ = H2
      have hb2 : H2 b = some (.lst [.ref c, .int ((i : Int) + 1), .int r, .int m, .int t]) := by rw [← hH2]; exact upd_same
      have k2 : Kp b H H2 := by rw [← hH2]; exact Kp.set h1
      refine ⟨_, rfl, b, _, 3, _, rfl, rfl, SqL.of hb2, at_lit (n := 3) rfl rfl, _, _, rfl, rfl, .inr (by decide), _, rfl, .inl ⟨_, rfl, _, _, rfl, rfl, (by show (2147483629 : Int) ≠ 0; decide), _, _, rfl, rfl, _, _, rfl, rfl, .inl ⟨_, rfl, _, _, rfl, rfl, (by show (2147483647 : Int) ≠ 0; decide), _, rfl, b, _, 3, 3, rfl, rfl, hb2, rfl, ?_⟩⟩⟩
      dsimp only
      generalize Int.fmod _ 2147483647 = m'
      generalize hH3 : upd H2 b _ = H3
      have hb3 : H3 b = some (.lst [.ref c, .int ((i : Int) + 1), .int r, .int m', .int t]) := by rw [← hH3]; exact upd_same
      have k3 : Kp b H H3 := k2.trans (by rw [← hH3]; exact Kp.set hb2)
      have hc3 : H3 c = some (.lst (ns.map V.int)) := k3.at h2 h3
      refine ⟨_, rfl, _, _, rfl, rfl, ⟨by decide, by decide, by decide⟩, _, _, rfl, rfl, _, rfl, ?_⟩
      refine ite2 (fun g4 => ?_) (fun g4 => ⟨⟨_, rfl⟩, k3, c, ns, i + 1, r, m', t, hb3, h2, hc3⟩)
      refine ⟨_, rfl, _, _, rfl, rfl, ⟨by decide, by decide, by decide⟩, _, _, rfl, rfl, _, rfl, b, _, 2, 2, rfl, rfl, hb3, rfl, ⟨_, rfl⟩, k3.trans (Kp.set hb3), c, ns, i + 1, _, m', t, upd_same, h2, ?_⟩
      rw [upd_ne h2]
      exact hc3
    · rintro σ' H1 ⟨⟨u, rfl⟩, k1, c, ns, i, r, m, t, h1, h2, h3⟩
      have rng : ∀ z : Int, 0 ≤ Int.fmod z size ∧ Int.fmod z size < size := fun z => by
        rw [Int.fmod_eq_emod_of_nonneg _ (by omega)]
        exact ⟨Int.emod_nonneg _ (by omega), Int.emod_lt_of_pos _ s0⟩
      refine ⟨_, rfl, b, _, 2, _, rfl, rfl, SqL.of h1, at_lit (n := 2) rfl rfl, _, _, rfl, rfl, _, rfl, ?_⟩
      refine ite2 (fun g1 => ?_) (fun g1 => ?_)
      · refine ⟨_, rfl, b, _, 2, _, rfl, rfl, SqL.of h1, at_lit (n := 2) rfl rfl, .inl ⟨_, rfl, _, rfl, _, _, rfl, rfl, by omega, ?_⟩⟩
        refine ⟨_, rfl, b, _, 2, _, rfl, rfl, SqL.of h1, at_lit (n := 2) rfl rfl, _, rfl, _, _, rfl, rfl, ⟨s0, s9⟩, _, rfl, b, _, 2, 2, rfl, rfl, h1, rfl, _, rfl, ?_⟩
        refine q _ _ (k1.trans (Kp.set h1)) ⟨c, ns, i, _, m, t, upd_same, h2, ?_⟩ (rng _).1 (rng _).2
        rw [upd_ne h2]
        exact h3
      · refine ⟨_, rfl, b, _, 4, _, rfl, rfl, SqL.of h1, at_lit (n := 4) rfl rfl, _, _, rfl, rfl, _, rfl, b, _, 4, 4, rfl, rfl, h1, rfl, ?_⟩
        generalize hH2 : upd H1 b _ = H2
        have hb2 : H2 b = some (.lst [.ref c, .int (i : Int), .int r, .int m, .int (t + 1)]) := by rw [← hH2]; exact upd_same
        have k2 : Kp b H H2 := k1.trans (by rw [← hH2]; exact Kp.set h1)
        have hc2 : H2 c = some (.lst (ns.map V.int)) := by rw [← hH2, upd_ne h2]; exact h3
        refine ⟨_, rfl, b, _, 3, _, rfl, rfl, SqL.of hb2, at_lit (n := 3) rfl rfl, _, _, rfl, rfl, .inr (by decide), _, rfl, b, _, 4, _, rfl, rfl, SqL.of hb2, at_lit (n := 4) rfl rfl, _, _, rfl, rfl, .inr (by decide), _, _, rfl, rfl, _, _, rfl, rfl,
          .inl ⟨_, rfl, _, _, rfl, rfl, (by show (2147483647 : Int) ≠ 0; decide), _, rfl, b, _, 3, 3, rfl, rfl, hb2, rfl, ?_⟩⟩
        dsimp only
        generalize Int.fmod _ 2147483647 = m'
        generalize hH3 : upd H2 b _ = H3
        have hb3 : H3 b = some (.lst [.ref c, .int (i : Int), .int r, .int m', .int (t + 1)]) := by rw [← hH3]; exact upd_same
        have k3 : Kp b H H3 := k2.trans (by rw [← hH3]; exact Kp.set hb2)
        have hc3 : H3 c = some (.lst (ns.map V.int)) := by rw [← hH3, upd_ne h2]; exact hc2
        exact ⟨_, rfl, b, _, 3, _, rfl, rfl, SqL.of hb3, at_lit (n := 3) rfl rfl, _, _, rfl, rfl, ⟨by decide, by decide⟩, _, rfl, b, _, 3, _, rfl, rfl, SqL.of hb3, at_lit (n := 3) rfl rfl, _, _, rfl, rfl, .inr (by decide), .inl ⟨_, rfl, _, _, rfl, rfl, (by show (2147483629 : Int) ≠ 0; decide), _, _, rfl, rfl,
          .inl ⟨_, rfl, _, _, rfl, rfl, ⟨by decide, by decide⟩, _, rfl, _, _, rfl, rfl, (by omega), q _ _ k3 ⟨c, ns, i, r, m', _, hb3, h2, hc3⟩ (rng _).1 (rng _).2⟩⟩⟩
end
end A4
set_option maxRecDepth 100000
set_option maxHeartbeats 8000000
namespace A4
open PySem L2 Evl
theorem str_app (x y : Str) : (x ++ y).cps.toList = x.cps.toList ++ y.cps.toList := by
  show (x.cps ++ y.cps).toList = _
  simp
theorem lett_sign : ∀ c ∈ letters.cps.toList, c ∈ signs.cps.toList := by decide +kernel
theorem name_of {z : Str} {l : List Nat} (h : z.cps.toList = l) (h1 : 1 ≤ l.length ∧ l.length ≤ 8) (h2 : l.headD 0 ∈ letters.cps.toList) (h3 : ∀ c ∈ l, c ∈ signs.cps.toList) : isNameS z = true := by
  rw [nameS_iff, h]
  have := str_len z
  rw [h] at this
  exact ⟨by omega, h2, h3⟩
theorem name_parts {z : Str} (h : isNameS z = true) : ∃ c r, z.cps.toList = c :: r ∧ c ∈ letters.cps.toList ∧ (∀ x ∈ c :: r, x ∈ signs.cps.toList) ∧ r.length ≤ 7 ∧ z.length = r.length + 1 := by
  obtain ⟨h1, h2, h3⟩ := (nameS_iff z).mp h
  have := str_len z
  cases e : z.cps.toList with
  | nil => rw [e] at this; simp at this; omega
  | cons c r =>
    rw [e] at h2 h3 this
    rw [List.length_cons] at this
    exact ⟨c, r, rfl, h2, h3, by omega, by omega⟩
theorem name_one {c : Nat} (hc : c ∈ letters.cps.toList) : isNameS ⟨#[c]⟩ = true := name_of (l := [c]) rfl ⟨Nat.le_refl 1, by show 1 ≤ 8; decide⟩ hc fun d hd => by rw [List.mem_singleton.mp hd]; exact lett_sign c hc
theorem name_more {z : Str} {c : Nat} (hz : isNameS z = true) (hl : z.length < 8) (hc : c ∈ signs.cps.toList) : isNameS (z ++ ⟨#[c]⟩) = true := by
  obtain ⟨d, r, e, h2, h3, h4, h5⟩ := name_parts hz
  refine name_of (l := (d :: r) ++ [c]) (by rw [str_app, e]) ⟨by simp, by simp; omega⟩ h2 fun x hx => ?_
  rcases List.mem_append.mp hx with hx | hx
  · exact h3 x hx
  · rw [List.mem_singleton.mp hx]; exact hc
theorem name_head_put {z : Str} {c : Nat} (hz : isNameS z = true) (hc : c ∈ letters.cps.toList) : isNameS (⟨#[c]⟩ ++ cutS z (some 1) none) = true := by
  obtain ⟨d, r, e, h2, h3, h4, h5⟩ := name_parts hz
  have ec : (cutS z (some 1) none).cps.toList = r := by
    have := cut_from (z := z) (k := 1) (by omega)
    rw [show ((1 : Nat) : Int) = 1 from rfl, e] at this
    exact this
  refine name_of (l := c :: r) (by rw [str_app, ec]; rfl) ⟨by simp, by simp; omega⟩ hc fun x hx => ?_
  rcases List.mem_cons.mp hx with hx | hx
  · rw [hx]; exact lett_sign c hc
  · exact h3 x (List.mem_cons_of_mem _ hx)
theorem name_put {z : Str} {k c : Nat} (hz : isNameS z = true) (hk : k < z.length) (k0 : 0 < k) (hc : c ∈ signs.cps.toList) : isNameS (cutS z none (some (k : Int)) ++ ⟨#[c]⟩ ++ cutS z (some ((k + 1 : Nat) : Int)) none) = true := by
  obtain ⟨d, r, e, h2, h3, h4, h5⟩ := name_parts hz
  obtain ⟨j, rfl⟩ : ∃ j, k = j + 1 := ⟨k - 1, by omega⟩
  refine name_of (l := d :: (r.take j ++ [c] ++ r.drop (j + 1))) (by rw [str_app, str_app, cut_to (by omega), cut_from (by omega), e]; rfl) ⟨by simp, ?_⟩ h2 fun x hx => ?_
  · simp only [List.length_cons, List.length_append, List.length_take, List.length_drop, List.length_nil]
    omega
  · rcases List.mem_cons.mp hx with hx | hx
    · rw [hx]; exact h3 d List.mem_cons_self
    · rcases List.mem_append.mp hx with hx | hx
      · rcases List.mem_append.mp hx with hx | hx
        · exact h3 x (List.mem_cons_of_mem _ (List.mem_of_mem_take hx))
        · rw [List.mem_singleton.mp hx]; exact hc
      · exact h3 x (List.mem_cons_of_mem _ (List.mem_of_mem_drop hx))
theorem lett_at {k : Nat} (h : k < 26) : ∃ c, letters.cps.toList[k]? = some c ∧ c ∈ letters.cps.toList := by
  have l : letters.cps.toList.length = 26 := by decide +kernel
  exact ⟨letters.cps.toList[k]'(by omega), by simp, List.getElem_mem _⟩
theorem sign_at {k : Nat} (h : k < 36) : ∃ c, signs.cps.toList[k]? = some c ∧ c ∈ signs.cps.toList := by
  have l : signs.cps.toList.length = 36 := by decide +kernel
  exact ⟨signs.cps.toList[k]'(by omega), by simp, List.getElem_mem _⟩
theorem inV_strs (z : Str) (xs : List Str) : inV (.str z) (xs.map V.str) = decide (z ∈ xs) := by
  induction xs with
  | nil => rfl
  | cons a r ih =>
    show (eqV (.str a) (.str z) || inV (.str z) (r.map V.str)) = _
    rw [ih]
    show ((a == z) || decide (z ∈ r)) = _
    by_cases h : a = z
    · subst h
      simp
    · have h2 : ¬ z = a := fun q => h q.symm
      simp [h, h2]
theorem flat_strs (xs : List Str) : (xs.map V.str).all flatV = true := by
  rw [List.all_map]
  exact List.all_eq_true.mpr fun _ _ => rfl
def singles : List Str := letters.cps.toList.map fun c => ⟨#[c]⟩
theorem singles_nd : singles.Nodup := by decide +kernel
theorem spare {xs : List Str} (h : xs.length < 26) : ∃ z r, singles.filter (fun y => !decide (y ∈ xs)) = z :: r := by
  cases e : singles.filter (fun y => !decide (y ∈ xs)) with
  | cons z r => exact ⟨z, r, rfl⟩
  | nil =>
    have sub : singles ⊆ xs := fun y hy => by
      have g := List.filter_eq_nil_iff.mp e y hy
      simpa using g
    have := List.Nodup.length_le_of_subset singles_nd sub
    have t : singles.length = 26 := by decide +kernel
    omega
def Nm (l : Addr) (xs : List Str) (H : Hp) : Prop := H l = some (.lst (xs.map V.str)) ∧ ∀ z ∈ xs, isNameS z = true
def spNames : Sp := fun vs H Q _ => ∃ (b : Addr) (k : Nat), vs = [.ref b, .int (k : Int)] ∧ Bx b H ∧ k ≤ 12 ∧ ∀ (l : Addr) (xs : List Str) H', H l = none → l ≠ b → Nm l xs H' → xs.length = k → Kp b H H' → Bx b H' → Q (.ref l) H'
theorem small_size {k : Nat} (h : k ≤ 100) : (k : Int).natAbs.log2 < 9000 := Nat.lt_of_le_of_lt (Nat.log2_le_self _) (by omega)
theorem small_size' {z : Int} (h : 0 ≤ z ∧ z ≤ 100) : z.natAbs.log2 < 9000 := Nat.lt_of_le_of_lt (Nat.log2_le_self _) (by omega)
section
variable {P : Program} {w : World} {K : PySem.W.Frag} {mg : Str → Option Value} {base : Heap} {a : Ad} {d : Fd}
theorem ok_law_names (T : TX P K mg a) (D : FDS K a d) : FnOk P w K mg base CX0 2 a.a_law_names d.a_law_names ["bag", "many"] spNames := by
  have G__law_take : FnOk P w K mg base CX0 1 a.a_law_take d.a_law_take ["bag", "size"] spTake := ok_law_take T D
  refine D.F__law_names.ok sc_law_names (fun vs H Q E h => ?_) (fun cdv A outer s H vs Q E hr h => ?_)
  · obtain ⟨b, k, rfl, _⟩ := h
    rfl
  · obtain ⟨b, k, rfl, X, hk, q⟩ := h
    refine ⟨_, (pss_cons (ps_set (i := 2) sc_law_names.nd rfl (Or.inl rfl) pe_str)
        (pss_cons (ps_set (i := 3) sc_law_names.nd rfl (Or.inl rfl) (pe_op op_add_str (pv 2) pe_str))
        (pss_cons (ps_set (i := 4) sc_law_names.nd rfl (Or.inr rfl) (pe_lst pa_nil))
        (pss_cons (ps_for PassesOwn.never rfl (pi_range1 rfl T.b_range (pa_cons (pv 1) pa_nil)) (pg_name (i := 5) sc_law_names.nd rfl (Or.inl rfl)) (Evl.pss_cut (ps_if (PW.pt (pw_and (pt_cmpR op_gt (pv 5) pe_int (nomark _)) (pw_and1 (pt_cmpR op_eq (pe_call G__law_take (hr.mono (by decide)) rfl T.f__law_take T.k__law_take D.B__law_take .nil pass0 (pa_cons (pv 0) (pa_cons pe_int pa_nil))) pe_int (nomark _))))) (pss_cons (ps_set (i := 6) sc_law_names.nd rfl (Or.inl rfl) (pe_ix ix_list (pv 4) (pe_call G__law_take (hr.mono (by decide)) rfl T.f__law_take T.k__law_take D.B__law_take .nil pass0 (pa_cons (pv 0) (pa_cons (pv 5) pa_nil))) (fun _ _ => rfl)))
        (pss_cons (ps_set (i := 7) sc_law_names.nd rfl (Or.inl rfl) (pe_call G__law_take (hr.mono (by decide)) rfl T.f__law_take T.k__law_take D.B__law_take .nil pass0 (pa_cons (pv 0) (pa_cons pe_int pa_nil))))
        (pss_one (ps_if (pt_cmpR op_eq (pv 7) pe_int (nomark _)) (pss_one (ps_set (i := 6) sc_law_names.nd rfl (Or.inl rfl) (pe_op op_add_str (pe_ix ix_str (pv 2) (pe_call G__law_take (hr.mono (by decide)) rfl T.f__law_take T.k__law_take D.B__law_take .nil pass0 (pa_cons (pv 0) (pa_cons pe_int pa_nil))) (fun _ _ => rfl)) (pe_slice sl_str (pv 6) (po_some pe_int) po_none)))) (pss_one (ps_if (pt_cmpR op_lt (pv 7) (pe_callB call_len_str (by rfl) T.b_len (by decide +kernel) (pa_cons (pv 6) pa_nil)) (nomark _)) (pss_one (ps_set (i := 6) sc_law_names.nd rfl (Or.inl rfl) (pe_op op_add_str (pe_op op_add_str (pe_slice sl_str (pv 6) po_none (po_some (pv 7))) (pe_ix ix_str (pv 3) (pe_call G__law_take (hr.mono (by decide)) rfl T.f__law_take T.k__law_take D.B__law_take .nil pass0 (pa_cons (pv 0) (pa_cons pe_int pa_nil))) (fun _ _ => rfl))) (pe_slice sl_str (pv 6) (po_some (pe_op op_add (pv 7) pe_int)) po_none)))) (pss_one (ps_if (pt_cmpR op_lt (pe_callB call_len_str (by rfl) T.b_len (by decide +kernel) (pa_cons (pv 6) pa_nil)) pe_int (nomark _)) (pss_one (ps_set (i := 6) sc_law_names.nd rfl (Or.inl rfl) (pe_op op_add_str (pv 6) (pe_ix ix_str (pv 3) (pe_call G__law_take (hr.mono (by decide)) rfl T.f__law_take T.k__law_take D.B__law_take .nil pass0 (pa_cons (pv 0) (pa_cons pe_int pa_nil))) (fun _ _ => rfl))))) pss_nil)))))))) (pss_cons (ps_set (i := 6) sc_law_names.nd rfl (Or.inl rfl) (pe_ix ix_str (pv 2) (pe_call G__law_take (hr.mono (by decide)) rfl T.f__law_take T.k__law_take D.B__law_take .nil pass0 (pa_cons (pv 0) (pa_cons pe_int pa_nil))) (fun _ _ => rfl)))
        (pss_one (ps_for PassesOwn.never rfl (pi_range1 rfl T.b_range (pa_cons (pe_op op_mul (pe_call G__law_take (hr.mono (by decide)) rfl T.f__law_take T.k__law_take D.B__law_take .nil pass0 (pa_cons (pv 0) (pa_cons pe_int pa_nil))) (pe_call G__law_take (hr.mono (by decide)) rfl T.f__law_take T.k__law_take D.B__law_take .nil pass0 (pa_cons (pv 0) (pa_cons pe_int pa_nil)))) pa_nil)) (pg_name (i := 8) sc_law_names.nd rfl (Or.inl rfl)) (pss_one (ps_set (i := 6) sc_law_names.nd rfl (Or.inl rfl) (pe_op op_add_str (pv 6) (pe_ix ix_str (pv 3) (pe_call G__law_take (hr.mono (by decide)) rfl T.f__law_take T.k__law_take D.B__law_take .nil pass0 (pa_cons (pv 0) (pa_cons pe_int pa_nil))) (fun _ _ => rfl)))))))))
        (Evl.pss_cut (ps_if (pt_cmpR op_in_seq (pv 6) (pv 4) rfl) (pss_one (ps_set (i := 6) sc_law_names.nd rfl (Or.inl rfl) (pe_ix ix_list (pe_lc (own := [("sign", 9)]) (g := gName 9) (tt := tTest (tOp (rIn K true) (tVar 9) (tVar 4))) rfl sc_law_names.nd (pi_str (pv 2)) (blkOk_by (N := ["bag", "many", "letters", "signs", "found", "k", "name", "at", "j", "sign"]) (sc := defScope s_law_names) (by decide +kernel)) (fun _ _ _ _ _ => (pg_name (i := 9) sc_law_names.nd rfl (Or.inl rfl))) (fun _ _ _ _ _ => (pts_one (pt_cmpR op_notIn_seq (pv 9) (pv 4) rfl))) (fun _ _ _ _ _ => (pv 9))) pe_int (fun _ _ => rfl)))) pss_nil)
        (pss_one (ps_expr (pe_bm PySem.F.plainAttrs_list PySem.F.slot_list_append PySem.F.type_list_append mt_append (pv 4) (pa_cons (pv 6) pa_nil)))))))
        (pss_one (ps_ret (pv 4))))))), ?_⟩
    refine ⟨_, rfl, _, _, rfl, rfl, (by show letters.length + ("0123456789" : Str).length ≤ sizeLine; decide +kernel), Nat.zero_le _, fun l hl => ?_⟩
    rw [show ("abcdefghijklmnopqrstuvwxyz" : Str) ++ ("0123456789" : Str) = signs from lett_dig]
    have hlb := X.ne hl
    have lsz : letters.length ≤ sizeLine := by decide +kernel
    have ssz : signs.length ≤ sizeLine := by decide +kernel
    refine ⟨_, rfl, (k : Int), rfl, by omega, by omega, for_range (lo := 0) (n := (k : Int).toNat) (fun i σ H' => ∃ xs : List Str, (∃ (o5 o6 o7 o8 : Option V), σ = [some (.ref b), some (.int (k : Int)), some (.str letters), some (.str signs), some (.ref l), o5, o6, o7, o8, none]) ∧ Nm l xs H' ∧ xs.length = i ∧ Kp b H H' ∧ Bx b H')
      ⟨[], ⟨none, none, none, none, rfl⟩, ⟨upd_same, fun _ h => absurd h List.not_mem_nil⟩, rfl, Kp.ex (Ex.new hl), X.ex (Ex.new hl)⟩ ?_ ?_⟩
    · rintro i σ H' hi ⟨xs, ⟨o5, o6, o7, o8, rfl⟩, N, hx, k1, X1⟩
      refine ⟨fun σ' H' => ∃ y : Str, isNameS y = true ∧ (∃ (o5 o7 o8 : Option V), σ' = [some (.ref b), some (.int (k : Int)), some (.str letters), some (.str signs), some (.ref l), o5, some (.str y), o7, o8, none]) ∧ H' l = some (.lst (xs.map V.str)) ∧ Kp b H H' ∧ Bx b H', ?_, ?_⟩
      · refine ⟨_, rfl, _, _, rfl, rfl, _, rfl, ?_⟩
        refine ite2 (fun g1 => ⟨_, rfl, b, 2, rfl, X1, by decide, by decide +kernel, fun d2 H2 k2 X2 _ _ => ⟨rfl, _, rfl, ite2 (fun g2 => ?_) (fun g2 =>
            have HC := k2.at hlb N.1
            have kC := k1.trans k2
            have XC := X2
            ?_)⟩⟩) (fun g1 =>
            have HC := N.1
            have kC := k1
            have XC := X1
            ?_)
        · have i0 : 0 < i := by have := of_decide_eq_true g1; omega
          have hl2 := k2.at hlb N.1
          refine ⟨_, rfl, _, rfl, _, rfl, b, _, rfl, X2, by omega, small_size' (by omega), fun e H3 k3 X3 e0 e1 => ?_⟩
          have hl3 := k3.at hlb hl2
          obtain ⟨y, hy⟩ : ∃ y, xs[e.toNat]? = some y := ⟨xs[e.toNat]'(by omega), by simp⟩
          have ny : isNameS y = true := N.2 y (List.mem_of_getElem? hy)
          have ly := name_len ny
          have ly2 : y.length ≤ sizeLine := Nat.le_trans ly.2 (by decide)
          refine ⟨l, _, e, .str y, rfl, rfl, SqL.of hl3, at_lit (n := e.toNat) (by omega) (by rw [List.getElem?_map, hy]; rfl), ?_⟩
          refine ⟨_, rfl, b, 9, rfl, X3, by decide, by decide +kernel, fun at_ H4 k4 X4 a0 a1 => ?_⟩
          have hl4 := k4.at hlb hl3
          have k14 := ((k1.trans k2).trans k3).trans k4
          refine ⟨_, rfl, rfl, _, rfl, ite2 (fun g3 => ?_) (fun g3 => ?_)⟩
          · refine ⟨_, rfl, _, rfl, b, 26, rfl, X4, by decide, by decide +kernel, fun c5 H5 k5 X5 c0 c1 => ?_⟩
            obtain ⟨c, hc, hcl⟩ := lett_at (k := c5.toNat) (by omega)
            refine ⟨letters, _, c, rfl, rfl, lsz, at_lit (n := c5.toNat) (by omega) hc, _, rfl, _, rfl, y, rfl, ly2, _, _, rfl, rfl, ?_, _, name_head_put ny hcl, ⟨_, _, _, rfl⟩, k5.at hlb hl4, k14.trans k5, X5⟩
            have := cutS_length y (some 1) none
            exact Nat.le_trans (by show 1 + _ ≤ 9; omega) (by decide : 9 ≤ sizeLine)
          · have a2 : at_ ≠ 0 := fun z => g3 (decide_eq_true (by rw [z]))
            refine ⟨_, rfl, _, rfl, y, rfl, ly2, _, _, rfl, rfl, _, rfl, ite2 (fun g4 => ?_) (fun g4 => ?_)⟩
            · have a3 : at_ < (y.length : Int) := of_decide_eq_true g4
              obtain ⟨kk, rfl⟩ : ∃ kk : Nat, at_ = (kk : Int) := ⟨at_.toNat, by omega⟩
              refine ⟨_, rfl, _, rfl, _, rfl, y, rfl, ly2, _, rfl, _, rfl, b, 36, rfl, X4, by decide, by decide +kernel, fun c5 H5 k5 X5 c0 c1 => ?_⟩
              obtain ⟨c, hc, hcl⟩ := sign_at (k := c5.toNat) (by omega)
              have t1 := cutS_length y none (some (kk : Int))
              have t2 := cutS_length y (some ((kk : Int) + 1)) none
              refine ⟨signs, _, c, rfl, rfl, ssz, at_lit (n := c5.toNat) (by omega) hc, _, _, rfl, rfl, ?_, _, rfl, _, rfl, _, _, rfl, rfl, _, rfl, y, rfl, ly2, _, _, rfl, rfl, ?_, _, name_put ny (by omega : kk < y.length) (by omega) hcl, ⟨_, _, _, rfl⟩, k5.at hlb hl4, k14.trans k5, X5⟩
              · exact Nat.le_trans (by show _ + 1 ≤ 9; omega) (by decide : 9 ≤ sizeLine)
              · rw [app_len]
                exact Nat.le_trans (by show _ + 1 + _ ≤ 17; omega) (by decide : 17 ≤ sizeLine)
            · refine ⟨_, rfl, y, rfl, ly2, _, _, rfl, rfl, _, rfl, ite2 (fun g5 => ?_) (fun g5 => ⟨y, ny, ⟨_, _, _, rfl⟩, hl4, k14, X4⟩)⟩
              have l8 : (y.length : Int) < 8 := of_decide_eq_true g5
              refine ⟨_, rfl, _, rfl, _, rfl, b, 36, rfl, X4, by decide, by decide +kernel, fun c5 H5 k5 X5 c0 c1 => ?_⟩
              obtain ⟨c, hc, hcl⟩ := sign_at (k := c5.toNat) (by omega)
              refine ⟨signs, _, c, rfl, rfl, ssz, at_lit (n := c5.toNat) (by omega) hc, _, _, rfl, rfl, ?_, _, name_more ny (by omega) hcl, ⟨_, _, _, rfl⟩, k5.at hlb hl4, k14.trans k5, X5⟩
              exact Nat.le_trans (by show _ + 1 ≤ 9; omega) (by decide : 9 ≤ sizeLine)
        all_goals
          refine ⟨_, rfl, _, rfl, b, 26, rfl, XC, by decide, by decide +kernel, fun c5 H5 k5 X5 c0 c1 => ?_⟩
          obtain ⟨c, hc, hcl⟩ := lett_at (k := c5.toNat) (by omega)
          refine ⟨letters, _, c, rfl, rfl, lsz, at_lit (n := c5.toNat) (by omega) hc, ?_⟩
          refine ⟨_, rfl, b, 2, rfl, X5, by decide, by decide +kernel, fun p H6 k6 X6 p0 p1 => ⟨_, rfl, b, 8, rfl, X6, by decide, by decide +kernel, fun u H7 k7 X7 u0 u1 => ?_⟩⟩
          have hpu : 0 ≤ p * u ∧ p * u ≤ 7 := by
            rcases (by omega : p = 0 ∨ p = 1) with rfl | rfl <;> omega
          have kk := ((kC.trans k5).trans k6).trans k7
          have HL := k7.at hlb (k6.at hlb (k5.at hlb HC))
          refine ⟨_, _, rfl, rfl, .inl (by constructor <;> omega), p * u, rfl, by omega, by omega, for_range (lo := 0) (n := (p * u).toNat) (fun j σ' H' => ∃ y : Str, (isNameS y = true ∧ y.length = j + 1) ∧ (∃ (o5 o7 o8 : Option V), σ' = [some (.ref b), some (.int (k : Int)), some (.str letters), some (.str signs), some (.ref l), o5, some (.str y), o7, o8, none]) ∧ H' l = some (.lst (xs.map V.str)) ∧ Kp b H H' ∧ Bx b H')
            ⟨_, ⟨name_one hcl, rfl⟩, ⟨_, _, _, rfl⟩, HL, kk, X7⟩ ?_ ?_⟩
          · rintro j σ' H8 hj ⟨y, ⟨ny, ly⟩, ⟨o5, o7, o8, rfl⟩, hl8, k8, X8⟩
            refine ⟨_, rfl, _, rfl, _, rfl, b, 36, rfl, X8, by decide, by decide +kernel, fun c9 H9 k9 X9 c0 c1 => ?_⟩
            obtain ⟨c2, hc2, hcl2⟩ := sign_at (k := c9.toNat) (by omega)
            refine ⟨signs, _, c2, rfl, rfl, ssz, at_lit (n := c9.toNat) (by omega) hc2, _, _, rfl, rfl, ?_, _, ⟨name_more ny (by omega) hcl2, ?_⟩, ⟨_, _, _, rfl⟩, k9.at hlb hl8, k8.trans k9, X9⟩
            · exact Nat.le_trans (by show _ + 1 ≤ 9; omega) (by decide : 9 ≤ sizeLine)
            · rw [app_len, ly]
              rfl
          · rintro σ' H8 ⟨y, ⟨ny, ly⟩, h5, hl8, k8, X8⟩
            exact ⟨y, ny, h5, hl8, k8, X8⟩
      · rintro σ' H1 ⟨y, ny, ⟨o5, o7, o8, rfl⟩, hl1, k1, X1⟩
        refine ⟨fun σ' H' => ∃ y : Str, isNameS y = true ∧ (∃ (o5 o7 o8 : Option V), σ' = [some (.ref b), some (.int (k : Int)), some (.str letters), some (.str signs), some (.ref l), o5, some (.str y), o7, o8, none]) ∧ H' l = some (.lst (xs.map V.str)) ∧ Kp b H H' ∧ Bx b H', ?_, ?_⟩
        · refine ⟨_, rfl, _, rfl, l, _, rfl, .inl (SqL.of hl1), rfl, flat_strs xs, _, rfl, ?_⟩
          rw [show (if false = true then !inV (.str y) (xs.map V.str) else inV (.str y) (xs.map V.str)) = decide (y ∈ xs) from inV_strs y xs]
          refine ite2 (fun g1 => ?_) (fun g1 => ⟨y, ny, ⟨_, _, _, rfl⟩, hl1, k1, X1⟩)
          obtain ⟨u, r, hu⟩ := spare (xs := xs) (by omega)
          have um : u ∈ singles := (List.mem_filter.mp (by rw [hu]; exact List.mem_cons_self)).1
          have nu : isNameS u = true := by
            obtain ⟨c, hc, rfl⟩ := List.mem_map.mp um
            exact name_one hc
          refine ⟨_, rfl, letters, rfl, fun D1 hD1 => lcFil (H1 := H1) walk_signs (fun v => match v with | .str x => !decide (x ∈ xs) | _ => false) id (by rw [List.length_map]; exact (by decide +kernel : letters.cps.toList.length < sizeLine)) (fun _ _ => trivial) (fun _ => rfl) ?_ ?_ hD1 ?_⟩
          · intro v hv H2 e2 Q' q'
            obtain ⟨c, _, rfl⟩ := List.mem_map.mp hv
            refine ⟨_, rfl, _, rfl, l, _, rfl, .inl (SqL.of (e2 _ _ hl1)), rfl, flat_strs xs, _, rfl, ?_⟩
            rw [show (if true = true then !inV (.str ⟨#[c]⟩) (xs.map V.str) else inV (.str ⟨#[c]⟩) (xs.map V.str)) = !decide ((⟨#[c]⟩ : Str) ∈ xs) from congrArg (!·) (inV_strs _ xs)]
            exact q' H2 (Ex.refl _)
          · exact fun v _ _ H2 _ H3 _ Q' q' => ⟨_, rfl, q' H3 (Ex.refl _)⟩
          · intro H2 e2 hD2
            have hfil : ((letters.cps.toList.map fun c => V.str ⟨#[c]⟩).filter fun v => match v with | .str x => !decide (x ∈ xs) | _ => false).map id = (u :: r).map V.str := by
              rw [← hu, List.map_id]
              unfold singles
              rw [List.filter_map, List.filter_map, List.map_map]
              rfl
            rw [hfil] at hD2
            exact ⟨D1, _, 0, .str u, rfl, rfl, SqL.of hD2, at_lit (n := 0) rfl rfl, u, nu, ⟨_, _, _, rfl⟩, e2 _ _ hl1, k1.trans (Kp.ex e2), X1.ex e2⟩
        · rintro σ' H1 ⟨y, ny, ⟨o5, o7, o8, rfl⟩, hl1, k1, X1⟩
          refine ⟨_, rfl, .inl ⟨rfl, _, SqL.of hl1⟩, _, rfl, l, _, _, rfl, rfl, hl1, ?_, xs ++ [y], ⟨_, _, _, _, rfl⟩, ⟨by rw [upd_same, List.map_append]; rfl, fun z hz => ?_⟩, by simp [hx], k1.mut hl hlb, Bx.mut X hl k1 X1⟩
          · rw [List.length_map]
            exact Nat.lt_of_le_of_lt (by omega : _ ≤ 12) (by decide)
          · rcases List.mem_append.mp hz with hz | hz
            · exact N.2 z hz
            · rw [List.mem_singleton.mp hz]; exact ny
    · rintro σ H' ⟨xs, ⟨o5, o6, o7, o8, rfl⟩, N, hx, k1, X1⟩
      exact ⟨_, rfl, q l xs H' hl hlb N (by omega) k1 X1⟩
end
end A4
set_option maxRecDepth 100000
set_option maxHeartbeats 8000000
namespace A4
open PySem L2 Evl
def spInteger : Sp := fun vs H Q _ => ∃ b : Addr, vs = [.ref b] ∧ Bx b H ∧ ∀ (z : Int) H', z.natAbs.log2 < 1920 → Kp b H H' → Bx b H' → Q (.int z) H'
theorem log_lt {z : Int} {n : Nat} (h0 : 0 < n) (h : z.natAbs < 2 ^ n) : z.natAbs.log2 < n := PySem.Flt.log2_lt_of h0 h
theorem log_small {z : Int} (h : -(2 ^ 60) < z ∧ z < 2 ^ 60) : z.natAbs.log2 < 1920 := Nat.lt_of_lt_of_le (log_lt (n := 60) (by decide) (by omega)) (by decide)
section
variable {P : Program} {w : World} {K : PySem.W.Frag} {mg : Str → Option Value} {base : Heap} {a : Ad} {d : Fd}
theorem ok_law_integer (T : TX P K mg a) (D : FDS K a d) : FnOk P w K mg base CX0 2 a.a_law_integer d.a_law_integer ["bag"] spInteger := by
  have G__law_take : FnOk P w K mg base CX0 1 a.a_law_take d.a_law_take ["bag", "size"] spTake := ok_law_take T D
  refine D.F__law_integer.ok sc_law_integer (fun vs H Q E h => ?_) (fun cdv A outer s H vs Q E hr h => ?_)
  · obtain ⟨b, rfl, _⟩ := h
    rfl
  · obtain ⟨b, rfl, X, q⟩ := h
    refine ⟨_, (pss_cons (ps_set (i := 1) sc_law_integer.nd rfl (Or.inl rfl) (pe_call G__law_take (hr.mono (by decide)) rfl T.f__law_take T.k__law_take D.B__law_take .nil pass0 (pa_cons (pv 0) (pa_cons pe_int pa_nil))))
        (pss_cons (ps_if (pt_cmpR op_eq (pv 1) pe_int (nomark _)) (pss_cons (ps_set (i := 2) sc_law_integer.nd rfl (Or.inl rfl) (pe_op op_add (pe_op op_mulW (pe_call G__law_take (hr.mono (by decide)) rfl T.f__law_take T.k__law_take D.B__law_take .nil pass0 (pa_cons (pv 0) (pa_cons (pe_op op_pow pe_int pe_int) pa_nil))) (pe_op op_pow pe_int pe_int)) (pe_call G__law_take (hr.mono (by decide)) rfl T.f__law_take T.k__law_take D.B__law_take .nil pass0 (pa_cons (pv 0) (pa_cons (pe_op op_pow pe_int pe_int) pa_nil)))))
        (pss_one (ps_ret (pe_op op_mulW (pv 2) (pe_op op_sub pe_int (pe_op op_mul pe_int (pe_call G__law_take (hr.mono (by decide)) rfl T.f__law_take T.k__law_take D.B__law_take .nil pass0 (pa_cons (pv 0) (pa_cons pe_int pa_nil))))))))) pss_nil)
        (pss_cons (ps_if (pt_cmpR op_eq (pv 1) pe_int (nomark _)) (pss_one (ps_ret (pe_op op_sub (pe_call G__law_take (hr.mono (by decide)) rfl T.f__law_take T.k__law_take D.B__law_take .nil pass0 (pa_cons (pv 0) (pa_cons pe_int pa_nil))) pe_int))) pss_nil)
        (pss_one (ps_ret (pe_op op_sub (pe_call G__law_take (hr.mono (by decide)) rfl T.f__law_take T.k__law_take D.B__law_take .nil pass0 (pa_cons (pv 0) (pa_cons pe_int pa_nil))) pe_int)))))), ?_⟩
    refine ⟨_, rfl, b, 8, rfl, X, by decide, by decide +kernel, fun w1 H1 k1 X1 w0 w8 => ⟨_, rfl, rfl, _, rfl, ite2 (fun g => ?_) (fun g => ?_)⟩⟩
    · refine ⟨_, rfl, _, _, rfl, rfl, ⟨by decide, by decide, by decide⟩, b, _, rfl, X1, by decide +kernel, by decide +kernel, fun d1 H2 k2 X2 p0 p1 => ⟨_, _, rfl, rfl, ⟨by decide, by decide, by decide⟩, _, _, rfl, rfl, ?_, _, rfl, _, _, rfl, rfl, ⟨by decide, by decide, by decide⟩, b, _, rfl, X2, by decide +kernel, by decide +kernel, fun d2 H3 k3 X3 r0 r1 => ⟨_, _, rfl, rfl, ?_⟩⟩⟩
      · refine wide_mul (a := 200) (b := 200) ?_ ?_ (by decide) (by decide) (by decide)
        · have : d1 < (10 : Int) ^ 50 := p1
          have h : (10 : Int) ^ 50 < 2 ^ 200 := by decide +kernel
          omega
        · exact (by decide +kernel : ((10 : Int) ^ (45 : Int).toNat).natAbs < 2 ^ 200)
      · have e45 : (10 : Int) ^ (45 : Int).toNat = 10 ^ 45 := rfl
        have q1 : d1 < (10 : Int) ^ 50 := p1
        have q2 : d2 < (10 : Int) ^ 45 := r1
        rw [e45]
        have gl : 0 ≤ d1 * 10 ^ 45 + d2 ∧ d1 * 10 ^ 45 + d2 < 10 ^ 95 := by
          have h1 : d1 * 10 ^ 45 ≤ ((10 : Int) ^ 50 - 1) * 10 ^ 45 := Int.mul_le_mul_of_nonneg_right (by omega) (by decide +kernel)
          have h2 : ((10 : Int) ^ 50 - 1) * 10 ^ 45 + 10 ^ 45 = 10 ^ 95 := by decide +kernel
          have h3 : 0 ≤ d1 * 10 ^ 45 := Int.mul_nonneg p0 (by decide +kernel)
          omega
        have gb : (d1 * 10 ^ 45 + d2).natAbs < 2 ^ 400 := by
          have h : (10 : Int) ^ 95 < 2 ^ 400 := by decide +kernel
          omega
        refine ⟨_, rfl, _, rfl, b, 2, rfl, X3, by decide, by decide +kernel, fun d3 H4 k4 X4 s0 s1 => ⟨_, _, rfl, rfl, .inl (by constructor <;> decide), _, _, rfl, rfl, _, _, rfl, rfl, ?_, q _ H4 ?_ (((k1.trans k2).trans k3).trans k4) X4⟩⟩
        · exact wide_mul (a := 400) (b := 4) gb (by omega) (by decide) (by decide) (by decide)
        · rcases (by omega : d3 = 0 ∨ d3 = 1) with rfl | rfl
          · refine Nat.lt_of_lt_of_le (log_lt (n := 400) (by decide) ?_) (by decide)
            rw [show (1 - 2 * (0 : Int)) = 1 from rfl, Int.mul_one]
            exact gb
          · refine Nat.lt_of_lt_of_le (log_lt (n := 400) (by decide) ?_) (by decide)
            rw [show (1 - 2 * (1 : Int)) = -1 from rfl, Int.mul_neg, Int.mul_one, Int.natAbs_neg]
            exact gb
    · refine ⟨_, rfl, rfl, _, rfl, ite2 (fun g2 => ?_) (fun g2 => ?_)⟩
      · refine ⟨_, rfl, b, 2000001, rfl, X1, by decide, by decide +kernel, fun d1 H2 k2 X2 p0 p1 => ⟨_, _, rfl, rfl, q _ H2 (log_small (by omega)) (k1.trans k2) X2⟩⟩
      · refine ⟨_, rfl, b, 9, rfl, X1, by decide, by decide +kernel, fun d1 H2 k2 X2 p0 p1 => ⟨_, _, rfl, rfl, q _ H2 (log_small (by omega)) (k1.trans k2) X2⟩⟩
end
end A4
set_option maxRecDepth 100000
set_option maxHeartbeats 8000000
namespace A4
open PySem L2 Evl
/-- a text so many times -/
theorem op_mulS {X : Cx} : OpR X (binaryOp .Mult) (fun x y H Q => ∃ (z : Str) (k : Int), x = .str z ∧ y = .int k ∧ MulOk z k ∧ Q (.str (Txt.mul z k)) H) := by
  intro pins s σ H x y v u Q I rx ry h
  obtain ⟨z, k, rfl, rfl, ok, q⟩ := h
  obtain ⟨t, rfl⟩ := rx
  obtain ⟨t', rfl⟩ := ry
  exact SB.mul ok fun t2 tk => ⟨.str (Txt.mul z k), H, I.tok _, ⟨_, rfl⟩, q⟩
def sp32 (z : Str) : Nat := z.cps.toList.count 32
theorem cnt_count (c : Nat) : ∀ l : List Nat, PyProof.Rows.cnt c l = ((l.count c : Nat) : Int)
  | [] => rfl
  | n :: r => by
    rw [PyProof.Rows.cnt_cons, cnt_count c r, List.count_cons]
    by_cases h : n = c
    · subst h; simp; omega
    · rw [if_neg h]; simp [h]
theorem words_len (z : Str) : (wordsS z).length = sp32 z + 1 := by
  have e : (" " : Str) = ⟨#[32]⟩ := toList_inj (by rw [blank])
  have := PyProof.Rows.split_len z 32
  rw [cnt_count, ← e] at this
  unfold wordsS sp32
  omega
theorem sp_app (x y : Str) : sp32 (x ++ y) = sp32 x + sp32 y := by
  unfold sp32
  rw [str_app, List.count_append]
theorem sp_le (z : Str) : sp32 z ≤ z.length := by
  unfold sp32
  rw [← str_len z]
  exact List.count_le_length
theorem sp_cut {z : Str} {k : Nat} (h : k ≤ z.length) {j : Nat} (hj : j ≤ z.length) (hkj : k ≤ j) : sp32 (cutS z none (some (k : Int))) + sp32 (cutS z (some (j : Int)) none) ≤ sp32 z := by
  unfold sp32
  rw [cut_to h, cut_from hj]
  have e1 : (z.cps.toList.take k).count 32 + (z.cps.toList.drop k).count 32 = z.cps.toList.count 32 := by
    rw [← List.count_append, List.take_append_drop]
  have e2 : z.cps.toList.drop j = (z.cps.toList.drop k).drop (j - k) := by
    rw [List.drop_drop]
    congr 1
    omega
  have e3 : (z.cps.toList.drop j).count 32 ≤ (z.cps.toList.drop k).count 32 := by
    rw [e2]
    exact (List.drop_sublist _ _).count_le 32
  omega
theorem cut_from_out {z : Str} {k : Nat} (h : z.length ≤ k) : (cutS z (some (k : Int)) none).cps.toList = [] := by
  unfold cutS
  rw [HT.sIx_none, HT.sIx_nat, Nat.min_eq_right h]
  show (z.cps.toList.drop z.length).take _ = []
  rw [List.drop_of_length_le (by rw [str_len]; exact Nat.le_refl _), List.take_nil]
def spSign : Sp := fun vs H Q _ => ∃ b : Addr, vs = [.ref b] ∧ Bx b H ∧ ∀ (c : Nat) H', Kp b H H' → Bx b H' → Q (.str ⟨#[c]⟩) H'
def spBent : Sp := fun vs H Q _ => ∃ (b : Addr) (z : Str), vs = [.ref b, .str z, .int 3] ∧ Bx b H ∧ z.length ≤ 50000 ∧ ∀ (y : Str) H', y.length ≤ z.length + 3 → sp32 y ≤ sp32 z + 3 → Kp b H H' → Bx b H' → Q (.str y) H'
def spFree : Sp := fun vs H Q _ => ∃ b : Addr, vs = [.ref b, .int 24] ∧ Bx b H ∧ ∀ (y : Str) H', y.length ≤ 24 → Kp b H H' → Bx b H' → Q (.str y) H'
theorem at_any {z : Str} {k : Int} (h0 : 0 ≤ k) (h1 : k < (z.length : Int)) : ∃ c, z.cps.toList[k.toNat]? = some c := by
  have := str_len z
  exact ⟨z.cps.toList[k.toNat]'(by omega), by simp⟩
section
variable {P : Program} {w : World} {K : PySem.W.Frag} {mg : Str → Option Value} {base : Heap} {a : Ad} {d : Fd}
theorem ok_law_sign (T : TX P K mg a) (D : FDS K a d) : FnOk P w K mg base CX0 2 a.a_law_sign d.a_law_sign ["bag"] spSign := by
  have G__law_take : FnOk P w K mg base CX0 1 a.a_law_take d.a_law_take ["bag", "size"] spTake := ok_law_take T D
  refine D.F__law_sign.ok sc_law_sign (fun vs H Q E h => ?_) (fun cdv A outer s H vs Q E hr h => ?_)
  · obtain ⟨b, rfl, _⟩ := h
    rfl
  · obtain ⟨b, rfl, X, q⟩ := h
    refine ⟨_, (pss_cons (ps_set (i := 1) sc_law_sign.nd rfl (Or.inl rfl) pe_str)
        (pss_cons (ps_set (i := 2) sc_law_sign.nd rfl (Or.inl rfl) pe_str)
        (pss_cons (ps_set (i := 2) sc_law_sign.nd rfl (Or.inl rfl) (pe_op op_add_str (pv 2) pe_str))
        (pss_cons (ps_if (pt_cmpR op_eq (pe_call G__law_take (hr.mono (by decide)) rfl T.f__law_take T.k__law_take D.B__law_take .nil pass0 (pa_cons (pv 0) (pa_cons pe_int pa_nil))) pe_int (nomark _)) (pss_one (ps_ret (pe_ix ix_str (pv 1) (pe_call G__law_take (hr.mono (by decide)) rfl T.f__law_take T.k__law_take D.B__law_take .nil pass0 (pa_cons (pv 0) (pa_cons (pe_callB call_len_str (by rfl) T.b_len (by decide +kernel) (pa_cons (pv 1) pa_nil)) pa_nil))) (fun _ _ => rfl)))) pss_nil)
        (pss_one (ps_ret (pe_ix ix_str (pv 2) (pe_call G__law_take (hr.mono (by decide)) rfl T.f__law_take T.k__law_take D.B__law_take .nil pass0 (pa_cons (pv 0) (pa_cons (pe_callB call_len_str (by rfl) T.b_len (by decide +kernel) (pa_cons (pv 2) pa_nil)) pa_nil))) (fun _ _ => rfl)))))))), ?_⟩
    refine ⟨_, rfl, _, _, rfl, rfl, (by decide +kernel), ?_⟩
    generalize hs : (_ : Str) ++ (_ : Str) = sg
    have s1 : sg.length ≤ sizeLine := by rw [← hs]; decide +kernel
    have s2 : 0 < (sg.length : Int) := by rw [← hs]; decide +kernel
    have s3 : (sg.length : Int).natAbs.log2 < 9000 := by rw [← hs]; decide +kernel
    refine ⟨_, rfl, b, 2, rfl, X, by decide, by decide +kernel, fun d1 H1 k1 X1 _ _ => ⟨rfl, _, rfl, ite2 (fun g => ?_) (fun g => ?_)⟩⟩
    · refine ⟨_, rfl, _, rfl, _, rfl, _, rfl, (by decide +kernel), b, _, rfl, X1, by decide +kernel, by decide +kernel, fun d2 H2 k2 X2 p0 p1 => ?_⟩
      obtain ⟨c, hc⟩ := at_any p0 p1
      exact ⟨_, _, c, rfl, rfl, (by decide +kernel), at_lit (n := d2.toNat) (by omega) hc, q c H2 (k1.trans k2) X2⟩
    · refine ⟨_, rfl, _, rfl, _, rfl, _, rfl, s1, b, _, rfl, X1, s2, s3, fun d2 H2 k2 X2 p0 p1 => ?_⟩
      obtain ⟨c, hc⟩ := at_any p0 p1
      exact ⟨_, _, c, rfl, rfl, s1, at_lit (n := d2.toNat) (by omega) hc, q c H2 (k1.trans k2) X2⟩
end
end A4
set_option maxRecDepth 100000
set_option maxHeartbeats 8000000
namespace A4
open PySem L2 Evl
theorem two_cuts {z : Str} {k j : Nat} (h : k ≤ z.length) (hkj : k ≤ j) : (cutS z none (some (k : Int))).length + (cutS z (some (j : Int)) none).length ≤ z.length ∧ sp32 (cutS z none (some (k : Int))) + sp32 (cutS z (some (j : Int)) none) ≤ sp32 z := by
  have e1 : (cutS z none (some (k : Int))).length = k := by rw [← str_len, cut_to h, List.length_take, str_len]; omega
  by_cases hj : j ≤ z.length
  · have e2 : (cutS z (some (j : Int)) none).length = z.length - j := by rw [← str_len, cut_from hj, List.length_drop, str_len]
    exact ⟨by omega, sp_cut h hj hkj⟩
  · have e0 := cut_from_out (z := z) (k := j) (by omega)
    have e2 : (cutS z (some (j : Int)) none).length = 0 := by rw [← str_len, e0]; rfl
    have e3 : sp32 (cutS z (some (j : Int)) none) = 0 := by unfold sp32; rw [e0]; rfl
    have e4 : sp32 (cutS z none (some (k : Int))) ≤ sp32 z := by
      unfold sp32
      rw [cut_to h]
      exact (List.take_sublist _ _).count_le 32
    omega
theorem sp_one (c : Nat) : sp32 ⟨#[c]⟩ ≤ 1 := sp_le ⟨#[c]⟩
theorem one_len (c : Nat) : (⟨#[c]⟩ : Str).length = 1 := rfl
section
variable {P : Program} {w : World} {K : PySem.W.Frag} {mg : Str → Option Value} {base : Heap} {a : Ad} {d : Fd}
theorem ok_law_bent (T : TX P K mg a) (D : FDS K a d) : FnOk P w K mg base CX0 3 a.a_law_bent d.a_law_bent ["bag", "text", "most"] spBent := by
  have G__law_take : FnOk P w K mg base CX0 1 a.a_law_take d.a_law_take ["bag", "size"] spTake := ok_law_take T D
  have G__law_sign : FnOk P w K mg base CX0 2 a.a_law_sign d.a_law_sign ["bag"] spSign := ok_law_sign T D
  refine D.F__law_bent.ok sc_law_bent (fun vs H Q E h => ?_) (fun cdv A outer s H vs Q E hr h => ?_)
  · obtain ⟨b, z, rfl, _⟩ := h
    rfl
  · obtain ⟨b, z, rfl, X, hz, q⟩ := h
    refine ⟨_, (pss_cons (ps_for PassesOwn.never rfl (pi_range1 rfl T.b_range (pa_cons (pe_call G__law_take (hr.mono (by decide)) rfl T.f__law_take T.k__law_take D.B__law_take .nil pass0 (pa_cons (pv 0) (pa_cons (pe_op op_add (pv 2) pe_int) pa_nil))) pa_nil)) (pg_name (i := 3) sc_law_bent.nd rfl (Or.inl rfl)) (pss_cons (ps_set (i := 4) sc_law_bent.nd rfl (Or.inl rfl) (pe_call G__law_take (hr.mono (by decide)) rfl T.f__law_take T.k__law_take D.B__law_take .nil pass0 (pa_cons (pv 0) (pa_cons (pe_op op_add (pe_callB call_len_str (by rfl) T.b_len (by decide +kernel) (pa_cons (pv 1) pa_nil)) pe_int) pa_nil))))
        (pss_cons (ps_set (i := 5) sc_law_bent.nd rfl (Or.inl rfl) (pe_call G__law_take (hr.mono (by decide)) rfl T.f__law_take T.k__law_take D.B__law_take .nil pass0 (pa_cons (pv 0) (pa_cons pe_int pa_nil))))
        (pss_cons (ps_set (i := 6) sc_law_bent.nd rfl (Or.inl rfl) (pe_call G__law_sign (hr.mono (by decide)) rfl T.f__law_sign T.k__law_sign D.B__law_sign .nil pass0 (pa_cons (pv 0) pa_nil)))
        (pss_one (ps_if (pt_cmpR op_eq (pv 5) pe_int (nomark _)) (pss_one (ps_set (i := 1) sc_law_bent.nd rfl (Or.inl rfl) (pe_op op_add_str (pe_op op_add_str (pe_slice sl_str (pv 1) po_none (po_some (pv 4))) (pv 6)) (pe_slice sl_str (pv 1) (po_some (pv 4)) po_none)))) (pss_one (ps_if (pt_cmpR op_eq (pv 5) pe_int (nomark _)) (pss_one (ps_set (i := 1) sc_law_bent.nd rfl (Or.inl rfl) (pe_op op_add_str (pe_slice sl_str (pv 1) po_none (po_some (pv 4))) (pe_slice sl_str (pv 1) (po_some (pe_op op_add (pv 4) pe_int)) po_none)))) (pss_one (ps_set (i := 1) sc_law_bent.nd rfl (Or.inl rfl) (pe_op op_add_str (pe_op op_add_str (pe_slice sl_str (pv 1) po_none (po_some (pv 4))) (pv 6)) (pe_slice sl_str (pv 1) (po_some (pe_op op_add (pv 4) pe_int)) po_none))))))))))))
        (pss_one (ps_ret (pv 1)))), ?_⟩
    refine ⟨_, rfl, _, rfl, _, _, rfl, rfl, b, _, rfl, X, by decide, by decide +kernel, fun n H1 k1 X1 n0 n1 => ?_⟩
    have n1' : n < 4 := n1
    refine ⟨n, rfl, by omega, by omega, for_range (lo := 0) (n := n.toNat) (fun i σ H' => ∃ y : Str, (∃ o3 o4 o5 o6 : Option V, σ = [some (.ref b), some (.str y), some (.int 3), o3, o4, o5, o6]) ∧ y.length ≤ z.length + i ∧ sp32 y ≤ sp32 z + i ∧ Kp b H H' ∧ Bx b H')
      ⟨z, ⟨none, none, none, none, rfl⟩, by omega, by omega, k1, X1⟩ ?_ ?_⟩
    · rintro i σ H2 hi ⟨y, ⟨o3, o4, o5, o6, rfl⟩, l1, l2, k2, X2⟩
      have yl : y.length ≤ 50010 := by omega
      have ysz : y.length ≤ sizeLine := Nat.le_trans yl (by decide)
      refine ⟨_, rfl, _, rfl, y, rfl, ysz, _, _, rfl, rfl, b, _, rfl, X2, by omega, ?_, fun at_ H3 k3 X3 a0 a1 => ?_⟩
      · exact Nat.lt_of_lt_of_le (log_lt (n := 60) (by decide) (by omega)) (by decide)
      obtain ⟨kk, rfl⟩ : ∃ kk : Nat, at_ = (kk : Int) := ⟨at_.toNat, by omega⟩
      have hk : kk ≤ y.length := by omega
      refine ⟨_, rfl, b, 3, rfl, X3, by decide, by decide +kernel, fun way H4 k4 X4 w0 w1 => ⟨_, rfl, b, rfl, X4, fun c H5 k5 X5 => ?_⟩⟩
      have kk5 := ((k2.trans k3).trans k4).trans k5
      have c1 := cutS_length y none (some (kk : Int))
      have c2 := cutS_length y (some (kk : Int)) none
      have c3 := cutS_length y (some ((kk : Int) + 1)) none
      have big : 200000 ≤ sizeLine := by decide
      refine ⟨_, rfl, rfl, _, rfl, ite2 (fun g => ?_) (fun g => ?_)⟩
      · have t := two_cuts hk (Nat.le_refl kk)
        refine ⟨_, rfl, _, rfl, _, rfl, y, rfl, ysz, _, rfl, _, _, rfl, rfl, by show _ + 1 ≤ _; omega, _, rfl, _, rfl, _, rfl, y, rfl, ysz, _, _, rfl, rfl, ?_, _, ⟨_, _, _, _, rfl⟩, ?_, ?_, kk5, X5⟩
        · rw [app_len, one_len]; omega
        · rw [app_len, app_len, one_len]; omega
        · rw [sp_app, sp_app]
          have := sp_one c
          omega
      · refine ⟨_, rfl, rfl, _, rfl, ite2 (fun g2 => ?_) (fun g2 => ?_)⟩
        · have t := two_cuts hk (Nat.le_succ kk)
          refine ⟨_, rfl, _, rfl, _, rfl, y, rfl, ysz, _, rfl, _, rfl, _, _, rfl, rfl, _, rfl, y, rfl, ysz, _, _, rfl, rfl, by omega, _, ⟨_, _, _, _, rfl⟩, ?_, ?_, kk5, X5⟩
          · rw [app_len]
            exact Nat.le_trans t.1 (by omega)
          · rw [sp_app]
            exact Nat.le_trans t.2 (by omega)
        · have t := two_cuts hk (Nat.le_succ kk)
          refine ⟨_, rfl, _, rfl, _, rfl, y, rfl, ysz, _, rfl, _, _, rfl, rfl, by show _ + 1 ≤ _; omega, _, rfl, _, rfl, _, _, rfl, rfl, _, rfl, y, rfl, ysz, _, _, rfl, rfl, ?_, _, ⟨_, _, _, _, rfl⟩, ?_, ?_, kk5, X5⟩
          · rw [app_len, one_len]; omega
          · rw [app_len, app_len, one_len]
            have : (cutS y none (some (kk : Int))).length + (cutS y (some ((kk : Int) + 1)) none).length ≤ y.length := t.1
            omega
          · rw [sp_app, sp_app]
            have h1 := sp_one c
            have : sp32 (cutS y none (some (kk : Int))) + sp32 (cutS y (some ((kk : Int) + 1)) none) ≤ sp32 y := t.2
            omega
    · rintro σ H2 ⟨y, ⟨o3, o4, o5, o6, rfl⟩, l1, l2, k2, X2⟩
      exact ⟨_, rfl, q y H2 (by omega) (by omega) k2 X2⟩
theorem ok_law_free (T : TX P K mg a) (D : FDS K a d) : FnOk P w K mg base CX0 3 a.a_law_free d.a_law_free ["bag", "most"] spFree := by
  have G__law_take : FnOk P w K mg base CX0 1 a.a_law_take d.a_law_take ["bag", "size"] spTake := ok_law_take T D
  have G__law_sign : FnOk P w K mg base CX0 2 a.a_law_sign d.a_law_sign ["bag"] spSign := ok_law_sign T D
  refine D.F__law_free.ok sc_law_free (fun vs H Q E h => ?_) (fun cdv A outer s H vs Q E hr h => ?_)
  · obtain ⟨b, rfl, _⟩ := h
    rfl
  · obtain ⟨b, rfl, X, q⟩ := h
    refine ⟨_, (pss_cons (ps_set (i := 2) sc_law_free.nd rfl (Or.inl rfl) pe_str)
        (pss_cons (ps_for PassesOwn.never rfl (pi_range1 rfl T.b_range (pa_cons (pe_call G__law_take (hr.mono (by decide)) rfl T.f__law_take T.k__law_take D.B__law_take .nil pass0 (pa_cons (pv 0) (pa_cons (pe_op op_add (pv 1) pe_int) pa_nil))) pa_nil)) (pg_name (i := 3) sc_law_free.nd rfl (Or.inl rfl)) (pss_one (ps_set (i := 2) sc_law_free.nd rfl (Or.inl rfl) (pe_op op_add_str (pv 2) (pe_call G__law_sign (hr.mono (by decide)) rfl T.f__law_sign T.k__law_sign D.B__law_sign .nil pass0 (pa_cons (pv 0) pa_nil))))))
        (pss_one (ps_ret (pv 2))))), ?_⟩
    refine ⟨_, rfl, _, rfl, _, _, rfl, rfl, b, _, rfl, X, by decide, by decide +kernel, fun n H1 k1 X1 n0 n1 => ?_⟩
    have n1' : n < 25 := n1
    refine ⟨n, rfl, by omega, by omega, for_range (lo := 0) (n := n.toNat) (fun i σ H' => ∃ y : Str, (∃ o3 : Option V, σ = [some (.ref b), some (.int 24), some (.str y), o3]) ∧ y.length ≤ i ∧ Kp b H H' ∧ Bx b H')
      ⟨"", ⟨none, rfl⟩, by decide +kernel, k1, X1⟩ ?_ ?_⟩
    · rintro i σ H2 hi ⟨y, ⟨o3, rfl⟩, l1, k2, X2⟩
      have big : 200000 ≤ sizeLine := by decide
      refine ⟨_, rfl, _, rfl, b, rfl, X2, fun c H5 k5 X5 => ⟨_, _, rfl, rfl, by show _ + 1 ≤ _; omega, _, ⟨_, rfl⟩, by rw [app_len, one_len]; omega, k2.trans k5, X5⟩⟩
    · rintro σ H2 ⟨y, ⟨o3, rfl⟩, l1, k2, X2⟩
      exact ⟨_, rfl, q y H2 (by omega) k2 X2⟩
end
end A4
set_option maxRecDepth 100000
set_option maxHeartbeats 8000000
namespace A4
open PySem L2 Evl
theorem cut_mem {z : Str} {lo hi : Option Int} {c : Nat} (h : c ∈ (cutS z lo hi).cps.toList) : c ∈ z.cps.toList := by
  unfold cutS at h
  exact List.mem_of_mem_drop (List.mem_of_mem_take h)
theorem fold_app (x : Array Nat) : ∀ (n : Nat) (acc : Array Nat), ((List.replicate n x).foldl (· ++ ·) acc).size = acc.size + n * x.size ∧ ∀ c ∈ ((List.replicate n x).foldl (· ++ ·) acc).toList, c ∈ acc.toList ∨ c ∈ x.toList
  | 0, acc => ⟨by simp, fun c h => .inl h⟩
  | n + 1, acc => by
    obtain ⟨h1, h2⟩ := fold_app x n (acc ++ x)
    rw [List.replicate_succ, List.foldl_cons]
    refine ⟨by rw [h1, Array.size_append, Nat.add_mul]; omega, fun c h => ?_⟩
    rcases h2 c h with h | h
    · rw [Array.toList_append] at h
      rcases List.mem_append.mp h with h | h
      · exact .inl h
      · exact .inr h
    · exact .inr h
theorem mul_facts (z : Str) : (Txt.mul z 8).length ≤ 8 * z.length ∧ ∀ c ∈ (Txt.mul z 8).cps.toList, c ∈ z.cps.toList := by
  unfold Txt.mul
  rw [if_neg (by decide)]
  split
  · exact ⟨by omega, fun c h => h⟩
  · obtain ⟨h1, h2⟩ := fold_app z.cps (8 : Int).toNat #[]
    refine ⟨?_, fun c h => ?_⟩
    · show ((List.replicate (8 : Int).toNat z.cps).foldl (· ++ ·) #[]).size ≤ 8 * z.cps.size
      rw [h1]
      show 0 + 8 * z.cps.size ≤ 8 * z.cps.size
      omega
    · rcases h2 c h with h | h
      · simp at h
      · exact h
theorem mul_ok {z : Str} (h : z.length ≤ 2000) : MulOk z 8 := by
  have big : 100000 ≤ sizeLine := by decide
  refine ⟨by decide, fun _ _ => by omega, fun _ _ => ?_⟩
  unfold Builtin.Str.tooLong
  refine decide_eq_false ?_
  show ¬ z.length * 8 > sizeLine
  omega
theorem no32 {z : Str} : sp32 z = 0 ↔ 32 ∉ z.cps.toList := List.count_eq_zero
theorem int32 (i : Int) : 32 ∉ (Str.ofString (toString i)).cps.toList := PyProof.Rows.int_text_free' 32 ⟨by decide, by decide⟩ i
theorem cut_short (z : Str) (k : Nat) : (cutS z none (some (k : Int))).length ≤ k := by
  by_cases h : k ≤ z.length
  · rw [← str_len, cut_to h, List.length_take]
    omega
  · have := cutS_length z none (some (k : Int))
    omega
def spDigits : Sp := fun vs H Q _ => ∃ b : Addr, vs = [.ref b] ∧ Bx b H ∧ ∀ (y : Str) H', y.length ≤ 301 → sp32 y = 0 → Kp b H H' → Bx b H' → Q (.str y) H'
section
variable {P : Program} {w : World} {K : PySem.W.Frag} {mg : Str → Option Value} {base : Heap} {a : Ad} {d : Fd}
theorem ok_law_digits (T : TX P K mg a) (D : FDS K a d) : FnOk P w K mg base CX0 2 a.a_law_digits d.a_law_digits ["bag"] spDigits := by
  have G__law_take : FnOk P w K mg base CX0 1 a.a_law_take d.a_law_take ["bag", "size"] spTake := ok_law_take T D
  refine D.F__law_digits.ok sc_law_digits (fun vs H Q E h => ?_) (fun cdv A outer s H vs Q E hr h => ?_)
  · obtain ⟨b, rfl, _⟩ := h
    rfl
  · obtain ⟨b, rfl, X, q⟩ := h
    refine ⟨_, (pss_cons (ps_set (i := 1) sc_law_digits.nd rfl (Or.inl rfl) (pe_ix ix_list (pe_lst (pa_cons pe_int (pa_cons pe_int (pa_cons pe_int (pa_cons pe_int (pa_cons pe_int (pa_cons pe_int (pa_cons pe_int (pa_cons pe_int (pa_cons pe_int pa_nil)))))))))) (pe_call G__law_take (hr.mono (by decide)) rfl T.f__law_take T.k__law_take D.B__law_take .nil pass0 (pa_cons (pv 0) (pa_cons pe_int pa_nil))) (fun _ _ => rfl)))
        (pss_cons (ps_set (i := 2) sc_law_digits.nd rfl (Or.inl rfl) (pe_slice sl_str (pe_callTy call_str_int (by rfl) T.b_str (by decide +kernel) (pa_cons (pe_op op_add (pe_op op_pow pe_int pe_int) (pe_call G__law_take (hr.mono (by decide)) rfl T.f__law_take T.k__law_take D.B__law_take .nil pass0 (pa_cons (pv 0) (pa_cons (pe_op op_pow pe_int pe_int) pa_nil)))) pa_nil)) (po_some pe_int) po_none))
        (pss_one (ps_ret (pe_op op_add_str (pe_ix ix_list (pe_lst (pa_cons pe_str (pa_cons pe_str pa_nil))) (pe_call G__law_take (hr.mono (by decide)) rfl T.f__law_take T.k__law_take D.B__law_take .nil pass0 (pa_cons (pv 0) (pa_cons pe_int pa_nil))) (fun _ _ => rfl)) (pe_slice sl_str (pe_op op_add_str (pe_callTy call_str_int (by rfl) T.b_str (by decide +kernel) (pa_cons (pe_call G__law_take (hr.mono (by decide)) rfl T.f__law_take T.k__law_take D.B__law_take .nil pass0 (pa_cons (pv 0) (pa_cons pe_int pa_nil))) pa_nil)) (pe_op op_mulS (pv 2) pe_int)) po_none (po_some (pv 1)))))))), ?_⟩
    refine ⟨(by show 9 ≤ sizeLine; decide), fun p hp => ?_⟩
    have hpb := X.ne hp
    have xp := Ex.new (o := .lst [.int 1, .int 2, .int 99, .int 100, .int 199, .int 200, .int 201, .int 202, .int 300]) hp
    refine ⟨_, rfl, b, 9, rfl, X.ex xp, by decide, by decide +kernel, fun d1 H1 k1 X1 p0 p1 => ?_⟩
    obtain ⟨m, hm, m3⟩ : ∃ m : Nat, ([.int 1, .int 2, .int 99, .int 100, .int 199, .int 200, .int 201, .int 202, .int 300] : List V)[d1.toNat]? = some (.int (m : Int)) ∧ m ≤ 300 := by
      have hk : d1.toNat < 9 := by omega
      generalize d1.toNat = k at hk
      match k, hk with
      | 0, _ => exact ⟨1, rfl, by decide⟩
      | 1, _ => exact ⟨2, rfl, by decide⟩
      | 2, _ => exact ⟨99, rfl, by decide⟩
      | 3, _ => exact ⟨100, rfl, by decide⟩
      | 4, _ => exact ⟨199, rfl, by decide⟩
      | 5, _ => exact ⟨200, rfl, by decide⟩
      | 6, _ => exact ⟨201, rfl, by decide⟩
      | 7, _ => exact ⟨202, rfl, by decide⟩
      | 8, _ => exact ⟨300, rfl, by decide⟩
    refine ⟨p, _, d1, _, rfl, rfl, SqL.of (k1.at hpb upd_same), at_lit (n := d1.toNat) (by omega) hm, ?_⟩
    refine ⟨_, _, rfl, rfl, ⟨by decide, by decide, by decide⟩, _, rfl, _, _, rfl, rfl, ⟨by decide, by decide, by decide⟩, b, _, rfl, X1, by decide +kernel, by decide +kernel, fun d2 H2 k2 X2 r0 r1 => ?_⟩
    have r1' : d2 < (10 : Int) ^ 40 := r1
    refine ⟨_, _, rfl, rfl, _, rfl, ?_, ?_⟩
    · refine Nat.lt_of_lt_of_le (log_lt (n := 200) (by decide) ?_) (by decide)
      have h1 : (10 : Int) ^ 40 + 10 ^ 40 < 2 ^ 200 := by decide +kernel
      have h2 : 0 ≤ (10 : Int) ^ 40 := by decide +kernel
      show ((10 : Int) ^ 40 + d2).natAbs < 2 ^ 200
      omega
    have hlog : ((10 : Int) ^ (40 : Int).toNat + d2).natAbs.log2 < 1920 := by
      refine Nat.lt_of_lt_of_le (log_lt (n := 200) (by decide) ?_) (by decide)
      have h1 : (10 : Int) ^ 40 + 10 ^ 40 < 2 ^ 200 := by decide +kernel
      have h2 : 0 ≤ (10 : Int) ^ 40 := by decide +kernel
      show ((10 : Int) ^ 40 + d2).natAbs < 2 ^ 200
      omega
    have big : 100000 ≤ sizeLine := by decide
    have l0 := PyProof.Rows.int_text_len_1921 hlog
    refine ⟨_, rfl, _, rfl, Nat.le_trans l0 (by omega), ?_⟩
    generalize htl : cutS (Str.ofString (toString ((10 : Int) ^ (40 : Int).toNat + d2))) (some 1) none = tl
    have tl1 : tl.length ≤ 1921 := by rw [← htl]; exact Nat.le_trans (cutS_length _ _ _) l0
    have tl2 : 32 ∉ tl.cps.toList := fun h => by
      rw [← htl] at h
      exact int32 _ (cut_mem h)
    refine ⟨(by show 2 ≤ sizeLine; decide), fun t ht => ?_⟩
    have htb := X2.ne ht
    have xt := Ex.new (o := .lst [.str "", .str "-"]) ht
    refine ⟨_, rfl, b, 2, rfl, X2.ex xt, by decide, by decide +kernel, fun d3 H3 k3 X3 s0 s1 => ?_⟩
    obtain ⟨u, hu, u1, u2⟩ : ∃ u : Str, ([.str "", .str "-"] : List V)[d3.toNat]? = some (.str u) ∧ u.length ≤ 1 ∧ 32 ∉ u.cps.toList := by
      rcases (by omega : d3 = 0 ∨ d3 = 1) with rfl | rfl
      · exact ⟨_, rfl, by decide +kernel, by decide +kernel⟩
      · exact ⟨_, rfl, by decide +kernel, by decide +kernel⟩
    refine ⟨t, _, d3, _, rfl, rfl, SqL.of (k3.at htb upd_same), at_lit (n := d3.toNat) (by omega) hu, ?_⟩
    refine ⟨_, rfl, b, 10, rfl, X3, by decide, by decide +kernel, fun d4 H4 k4 X4 v0 v1 => ⟨_, rfl, log_small (by omega), ?_⟩⟩
    obtain ⟨m1, m2⟩ := mul_facts tl
    have l4 := PyProof.Rows.int_text_len_1921 (log_small (z := d4) (by omega))
    have f1 : (Str.ofString (toString d4) ++ Txt.mul tl 8).length ≤ 20000 := by
      rw [app_len]
      omega
    have cs := cut_short (Str.ofString (toString d4) ++ Txt.mul tl 8) m
    refine ⟨_, rfl, _, _, rfl, rfl, mul_ok (by omega), _, _, rfl, rfl, by omega, _, rfl, _, rfl, _, rfl, Nat.le_trans f1 (by omega), _, _, rfl, rfl, by omega, q _ H4 ?_ ?_ ((Kp.ex (xp)).trans (k1.trans (k2.trans ((Kp.ex xt).trans (k3.trans k4))))) X4⟩
    · rw [app_len]
      omega
    · rw [no32, str_app]
      intro h
      rcases List.mem_append.mp h with h | h
      · exact u2 h
      · have h := cut_mem h
        rw [str_app] at h
        rcases List.mem_append.mp h with h | h
        · exact int32 _ h
        · exact tl2 (m2 _ h)
end
end A4
set_option maxRecDepth 100000
set_option maxHeartbeats 8000000
namespace A4
open PySem L2 Evl
def spValues (K : PySem.W.Frag) : Sp := fun vs H Q _ => ∃ b : Addr, vs = [.ref b] ∧ Bx b H ∧ ∀ v ns ts H', Small ns ts → Dp K H' v (valD ns ts) → Kp b H H' → Bx b H' → Q v H'
theorem PairsAt.kp {b : Addr} {H H' : Hp} {vs : List V} {ps : List (Str × Int)} (A : PairsAt H vs ps) (k : Kp b H H') (X : Bx b H) : PairsAt H' vs ps := ⟨A.len, fun i q h => by
  obtain ⟨t, h1, h2⟩ := A.at_ i q h
  obtain ⟨c, ns, j, r, m, u, g, _⟩ := X
  exact ⟨t, h1, k.at (fun e => by rw [e, g] at h2; cases h2) h2⟩⟩
theorem cut_strs (xs : List Str) (lo hi : Option Int) : ∃ zs : List Str, cutV (xs.map V.str) lo hi = zs.map V.str := by
  unfold cutV
  rw [← List.map_drop, ← List.map_take]
  exact ⟨_, rfl⟩
section
variable {P : Program} {w : World} {K : PySem.W.Frag} {mg : Str → Option Value} {base : Heap} {a : Ad} {d : Fd}
theorem ok_law_values (T : TX P K mg a) (D : FDS K a d) : FnOk P w K mg base CX0 3 a.a_law_values d.a_law_values ["bag"] (spValues K) := by
  have G__law_take : FnOk P w K mg base CX0 1 a.a_law_take d.a_law_take ["bag", "size"] spTake := ok_law_take T D
  have G__law_names : FnOk P w K mg base CX0 2 a.a_law_names d.a_law_names ["bag", "many"] spNames := ok_law_names T D
  have G__law_integer : FnOk P w K mg base CX0 2 a.a_law_integer d.a_law_integer ["bag"] spInteger := ok_law_integer T D
  refine D.F__law_values.ok sc_law_values (fun vs H Q E h => ?_) (fun cdv A outer s H vs Q E hr h => ?_)
  · obtain ⟨b, rfl, _⟩ := h
    rfl
  · obtain ⟨b, rfl, X, q⟩ := h
    refine ⟨_, (pss_cons (ps_set (i := 1) sc_law_values.nd rfl (Or.inl rfl) (pe_lst pa_nil))
        (pss_cons (ps_set (i := 2) sc_law_values.nd rfl (Or.inl rfl) (pe_lst pa_nil))
        (pss_cons (ps_set (i := 3) sc_law_values.nd rfl (Or.inl rfl) (pe_call G__law_names (hr.mono (by decide)) rfl T.f__law_names T.k__law_names D.B__law_names .nil pass0 (pa_cons (pv 0) (pa_cons (pe_op op_add pe_int (pe_call G__law_take (hr.mono (by decide)) rfl T.f__law_take T.k__law_take D.B__law_take .nil pass0 (pa_cons (pv 0) (pa_cons pe_int pa_nil)))) pa_nil))))
        (pss_cons (ps_if (pt_cmpR op_eq (pe_call G__law_take (hr.mono (by decide)) rfl T.f__law_take T.k__law_take D.B__law_take .nil pass0 (pa_cons (pv 0) (pa_cons pe_int pa_nil))) pe_int (nomark _)) (pss_one (ps_ret (pe_tup (pa_cons (pe_tup pa_nil) (pa_cons (pe_tup pa_nil) pa_nil))))) pss_nil)
        (pss_cons (ps_for PassesOwn.never rfl (pi_list (pe_callB cr_sortedS (by rfl) T.b_sorted (by decide +kernel) (pa_cons (pv 3) pa_nil))) (pg_name (i := 4) sc_law_values.nd rfl (Or.inl rfl)) (pss_cons (ps_set (i := 5) sc_law_values.nd rfl (Or.inl rfl) (pe_call G__law_take (hr.mono (by decide)) rfl T.f__law_take T.k__law_take D.B__law_take .nil pass0 (pa_cons (pv 0) (pa_cons pe_int pa_nil))))
        (Evl.pss_cut (ps_if (PW.pt (pw_or (pt_cmpR op_eq (pv 5) pe_int (nomark _)) (pw_or (pt_cmpR op_eq (pv 5) pe_int (nomark _)) (pw_or1 (pt_cmpR op_eq (pv 5) pe_int (nomark _)))))) (pss_one (ps_expr (pe_bm PySem.F.plainAttrs_list PySem.F.slot_list_append PySem.F.type_list_append mt_append (pv 1) (pa_cons (pv 4) pa_nil)))) pss_nil)
        (pss_one (ps_if (PW.pt (pw_and (pt_cmpR op_gt (pv 5) pe_int (nomark _)) (pw_and (pt_cmpR op_lt (pv 5) pe_int (nomark _)) (pw_and1 (pt_cmpR op_in_seq (pv 4) (pe_slice sl_list (pv 3) po_none (po_some pe_int)) rfl))))) (pss_one (ps_expr (pe_bm PySem.F.plainAttrs_list PySem.F.slot_list_append PySem.F.type_list_append mt_append (pv 2) (pa_cons (pe_tup (pa_cons (pv 4) (pa_cons (pe_call G__law_integer (hr.mono (by decide)) rfl T.f__law_integer T.k__law_integer D.B__law_integer .nil pass0 (pa_cons (pv 0) pa_nil)) pa_nil))) pa_nil)))) pss_nil)))))
        (pss_one (ps_ret (pe_tup (pa_cons (pe_callTy call_tuple_of (by rfl) T.b_tuple (by decide +kernel) (pa_cons (pv 1) pa_nil)) (pa_cons (pe_callTy call_tuple_of (by rfl) T.b_tuple (by decide +kernel) (pa_cons (pv 2) pa_nil)) pa_nil)))))))))), ?_⟩
    refine ⟨(by show 0 ≤ sizeLine; decide), fun ln hln => ⟨(by show 0 ≤ sizeLine; decide), fun lp hlp => ?_⟩⟩
    have xn := Ex.new (o := .lst []) hln
    have xp := Ex.new (o := .lst []) hlp
    have hnb := X.ne hln
    have hpb := (X.ex xn).ne hlp
    have hnp : ln ≠ lp := fun e => by rw [e, upd_same] at hlp; cases hlp
    have nlp : H lp = none := fresh_back xn hlp
    have X0 := (X.ex xn).ex xp
    have gn0 := xp _ _ (upd_same (H := H) (a := ln) (o := .lst []))
    have gp0 : (upd (upd H ln (.lst [])) lp (.lst [])) lp = some (.lst []) := upd_same
    refine ⟨_, rfl, _, rfl, b, 12, rfl, X0, by decide, by decide +kernel, fun d1 H1 k1 X1 p0 p1 => ?_⟩
    obtain ⟨m, rfl⟩ : ∃ m : Nat, d1 = (m : Int) := ⟨d1.toNat, by omega⟩
    refine ⟨_, _, rfl, rfl, b, 1 + m, by rw [show ((1 + m : Nat) : Int) = 1 + (m : Int) by omega]; rfl, X1, by omega, fun l xs H2 hl hlb N hx k2 X2 => ?_⟩
    have gn2 := k2.at hnb (k1.at hnb gn0)
    have gp2 := k2.at hpb (k1.at hpb gp0)
    have kk2 : Kp b H H2 := ((Kp.ex (xn.trans xp)).trans k1).trans k2
    refine ⟨_, rfl, b, 8, rfl, X2, by decide, by decide +kernel, fun d3 H3 k3 X3 _ _ => ⟨rfl, _, rfl, ite2 (fun g => ?_) (fun g => ?_)⟩⟩
    · refine ⟨(by show 0 ≤ sizeLine; decide), fun t1 h1 => ⟨(by show 0 ≤ sizeLine; decide), fun t2 h2 => ⟨(by show 2 ≤ sizeLine; decide), fun t3 h3 => ?_⟩⟩⟩
      have x1 := Ex.new (o := .tup []) h1
      have x2 := Ex.new (o := .tup []) h2
      have x3 := Ex.new (o := .tup [.ref t1, .ref t2]) h3
      exact q _ [] [] _ ⟨by decide, by decide, fun _ h => absurd h List.not_mem_nil, fun _ h => absurd h List.not_mem_nil⟩ (.tup (SqT.of upd_same) (.cons (.tup (SqT.of (x3 _ _ (x2 _ _ upd_same))) .nil) (.cons (.tup (SqT.of (x3 _ _ upd_same)) .nil) .nil)))
        ((kk2.trans k3).trans (Kp.ex ((x1.trans x2).trans x3))) (X3.ex ((x1.trans x2).trans x3))
    · have gl3 := k3.at hlb N.1
      refine ⟨_, rfl, l, xs, rfl, SqL.of gl3, by omega, fun ys p pm so hp => ?_⟩
      have hpb2 := X3.ne hp
      have xq := Ex.new (o := .lst (ys.map V.str)) hp
      have ny : ∀ z ∈ ys, isNameS z = true := fun z hz => N.2 z (pm.mem_iff.mp hz)
      have yl : ys.length ≤ 12 := by rw [pm.length_eq]; omega
      have gn3 := k3.at hnb gn2
      have gp3 := k3.at hpb gp2
      have npn : p ≠ ln := fun e => by rw [e, gn3] at hp; cases hp
      have npp : p ≠ lp := fun e => by rw [e, gp3] at hp; cases hp
      have nlH1 : H1 l = none := hl
      have nln2 : l ≠ ln := fun e => by rw [e, k1.at hnb gn0] at hl; cases hl
      have nlp2 : l ≠ lp := fun e => by rw [e, k1.at hpb gp0] at hl; cases hl
      refine ⟨p, rfl, ⟨_, SqL.of upd_same⟩, for_it (walk_list (xs := ys.map V.str)) (fun i σ H' => ∃ ns ps vs o4 o5, σ = [some (.ref b), some (.ref ln), some (.ref lp), some (.ref l), o4, o5] ∧ Kp b H H' ∧ Bx b H' ∧ H' p = some (.lst (ys.map V.str)) ∧ H' l = some (.lst (xs.map V.str)) ∧
          H' ln = some (.lst (ns.map V.str)) ∧ H' lp = some (.lst vs) ∧ PairsAt H' vs ps ∧ ns.length ≤ i ∧ ps.length ≤ i ∧ (∀ z ∈ ns, isNameS z = true) ∧ ∀ r ∈ ps, isNameS r.1 = true ∧ r.2.natAbs.log2 < 1920)
        ⟨[], [], [], none, none, rfl, (kk2.trans k3).trans (Kp.ex xq), X3.ex xq, upd_same, xq _ _ gl3, xq _ _ gn3, xq _ _ gp3, .nil, Nat.le_refl _, Nat.le_refl _, fun _ h => absurd h List.not_mem_nil, fun _ h => absurd h List.not_mem_nil⟩ (fun i σ H' _ ⟨_, _, _, _, _, _, _, _, h, _⟩ => SqL.of h) ?_ ?_⟩
      · rintro i v σ H4 H4' hi ⟨ns, ps, vs, o4, o5, rfl, k4, X4, gp, gl, gn, gv, A, n1, n2, n3, n4⟩ ⟨rfl, hv⟩
        rw [List.getElem?_map] at hv
        obtain ⟨x, hx2, rfl⟩ := Option.map_eq_some_iff.mp hv
        have nx := ny x (List.mem_of_getElem? hx2)
        rw [List.length_map] at hi
        refine ⟨_, rfl, b, 5, rfl, X4, by decide, by decide +kernel, fun way H5 k5 X5 w0 w1 => ?_⟩
        have A5 := A.kp k5 X4
        have gp5 := k5.at hpb2 gp
        have gl5 := k5.at hlb gl
        have gn5 := k5.at hnb gn
        have gv5 := k5.at hpb gv
        have kk5 := k4.trans k5
        refine ⟨fun σ' H' => σ' = [some (.ref b), some (.ref ln), some (.ref lp), some (.ref l), some (.str x), some (.int way)] ∧ Kp b H H' ∧ Bx b H' ∧ H' p = some (.lst (ys.map V.str)) ∧ H' l = some (.lst (xs.map V.str)) ∧
          (∃ ns' : List Str, H' ln = some (.lst (ns'.map V.str)) ∧ ns'.length ≤ i + 1 ∧ ∀ z ∈ ns', isNameS z = true) ∧ H' lp = some (.lst vs) ∧ PairsAt H' vs ps, ?_, ?_⟩
        · have hlen : (ns.map V.str).length < sizeLine := Nat.lt_of_le_of_lt (by rw [List.length_map]; omega : _ ≤ 12) (by decide)
          have keep : [some (V.ref b), some (V.ref ln), some (V.ref lp), some (V.ref l), some (V.str x), some (V.int way)] = [some (.ref b), some (.ref ln), some (.ref lp), some (.ref l), some (.str x), some (.int way)] ∧ Kp b H H5 ∧ Bx b H5 ∧ H5 p = some (.lst (ys.map V.str)) ∧ H5 l = some (.lst (xs.map V.str)) ∧
              (∃ ns' : List Str, H5 ln = some (.lst (ns'.map V.str)) ∧ ns'.length ≤ i + 1 ∧ ∀ z ∈ ns', isNameS z = true) ∧ H5 lp = some (.lst vs) ∧ PairsAt H5 vs ps := ⟨rfl, kk5, X5, gp5, gl5, ⟨ns, gn5, by omega, n3⟩, gv5, A5⟩
          have app : [some (V.ref b), some (V.ref ln), some (V.ref lp), some (V.ref l), some (V.str x), some (V.int way)] = [some (.ref b), some (.ref ln), some (.ref lp), some (.ref l), some (.str x), some (.int way)] ∧ Kp b H (upd H5 ln (.lst (ns.map V.str ++ [.str x]))) ∧ Bx b (upd H5 ln (.lst (ns.map V.str ++ [.str x]))) ∧
              (upd H5 ln (.lst (ns.map V.str ++ [.str x]))) p = some (.lst (ys.map V.str)) ∧ (upd H5 ln (.lst (ns.map V.str ++ [.str x]))) l = some (.lst (xs.map V.str)) ∧
              (∃ ns' : List Str, (upd H5 ln (.lst (ns.map V.str ++ [.str x]))) ln = some (.lst (ns'.map V.str)) ∧ ns'.length ≤ i + 1 ∧ ∀ z ∈ ns', isNameS z = true) ∧ (upd H5 ln (.lst (ns.map V.str ++ [.str x]))) lp = some (.lst vs) ∧ PairsAt (upd H5 ln (.lst (ns.map V.str ++ [.str x]))) vs ps :=
            ⟨rfl, kk5.mut hln hnb, Bx.mut X hln kk5 X5, by rw [upd_ne npn]; exact gp5, by rw [upd_ne nln2]; exact gl5, ⟨ns ++ [x], by rw [upd_same, List.map_append]; rfl, by simp; omega, fun z hz => by
              rcases List.mem_append.mp hz with hz | hz
              · exact n3 z hz
              · rw [List.mem_singleton.mp hz]; exact nx⟩, by rw [upd_ne (Ne.symm hnp)]; exact gv5, A5.upd gn5⟩
          refine ⟨_, rfl, rfl, _, rfl, ite2 (fun _ => ?_) (fun _ => ⟨_, rfl, rfl, _, rfl, ite2 (fun _ => ?_) (fun _ => ⟨_, rfl, rfl, _, rfl, ite2 (fun _ => ?_) (fun _ => keep)⟩)⟩)⟩
          all_goals exact ⟨_, rfl, .inl ⟨rfl, _, SqL.of gn5⟩, _, rfl, ln, _, _, rfl, rfl, gn5, hlen, app⟩
        · rintro σ' H6 ⟨rfl, k6, X6, gp6, gl6, ⟨ns', gn6, m1, m3⟩, gv6, A6⟩
          have fin : ∀ H7, Kp b H H7 → Bx b H7 → H7 p = some (.lst (ys.map V.str)) → H7 l = some (.lst (xs.map V.str)) → H7 ln = some (.lst (ns'.map V.str)) → H7 lp = some (.lst vs) → PairsAt H7 vs ps →
              ∃ (ns : List Str) (ps : List (Str × Int)) (vs : List V) (o4 o5 : Option V), [some (V.ref b), some (V.ref ln), some (V.ref lp), some (V.ref l), some (V.str x), some (V.int way)] = [some (.ref b), some (.ref ln), some (.ref lp), some (.ref l), o4, o5] ∧ Kp b H H7 ∧ Bx b H7 ∧ H7 p = some (.lst (ys.map V.str)) ∧ H7 l = some (.lst (xs.map V.str)) ∧
              H7 ln = some (.lst (ns.map V.str)) ∧ H7 lp = some (.lst vs) ∧ PairsAt H7 vs ps ∧ ns.length ≤ i + 1 ∧ ps.length ≤ i + 1 ∧ (∀ z ∈ ns, isNameS z = true) ∧ ∀ r ∈ ps, isNameS r.1 = true ∧ r.2.natAbs.log2 < 1920 := fun H7 a1 a2 a3 a4 a5 a6 a7 =>
            ⟨ns', ps, vs, _, _, rfl, a1, a2, a3, a4, a5, a6, a7, m1, by omega, m3, n4⟩
          refine ⟨_, rfl, _, _, rfl, rfl, _, rfl, ite2 (fun _ => ⟨_, rfl, _, _, rfl, rfl, _, rfl, ite2 (fun _ => ⟨_, rfl, _, rfl, _, rfl, l, _, rfl, SqL.of gl6, fun c hc => ?_⟩) (fun _ => fin H6 k6 X6 gp6 gl6 gn6 gv6 A6)⟩) (fun _ => fin H6 k6 X6 gp6 gl6 gn6 gv6 A6)⟩
          have xc := Ex.new (o := .lst (cutV (xs.map V.str) none (some 5))) hc
          obtain ⟨zs, hzs⟩ := cut_strs xs none (some 5)
          refine ⟨c, _, rfl, .inl (SqL.of (by rw [upd_same, hzs])), rfl, flat_strs zs, _, rfl, ite2 (fun _ => ?_) (fun _ => fin _ (k6.trans (Kp.ex xc)) (X6.ex xc) (xc _ _ gp6) (xc _ _ gl6) (xc _ _ gn6) (xc _ _ gv6) (A6.ex xc))⟩
          have gp7 := xc _ _ gp6
          have gl7 := xc _ _ gl6
          have gn7 := xc _ _ gn6
          have gv7 := xc _ _ gv6
          refine ⟨_, rfl, .inl ⟨rfl, _, SqL.of gv7⟩, _, rfl, _, rfl, b, rfl, X6.ex xc, fun zz H8 hz8 k8 X8 => ⟨(by show 2 ≤ sizeLine; decide), fun t ht => ?_⟩⟩
          have xt := Ex.new (o := .tup [.str x, .int zz]) ht
          have k68 := (k6.trans (Kp.ex xc)).trans k8
          have gv9 := xt _ _ (k8.at hpb gv7)
          have A9 := (((A6.ex xc).kp k8 (X6.ex xc)).ex xt).snoc (q := (x, zz)) upd_same
          have k9 := k68.trans (Kp.ex xt)
          refine ⟨lp, _, _, rfl, rfl, gv9, Nat.lt_of_le_of_lt (by rw [A6.len]; omega : _ ≤ 12) (by decide), ns', ps ++ [(x, zz)], _, _, _, rfl, k9.mut nlp hpb, Bx.mut X nlp k9 (X8.ex xt), by rw [upd_ne npp]; exact xt _ _ (k8.at hpb2 gp7), by rw [upd_ne nlp2]; exact xt _ _ (k8.at hlb gl7), by rw [upd_ne hnp]; exact xt _ _ (k8.at hnb gn7), upd_same, A9.upd gv9, m1, by simp; omega, m3, fun r hr => ?_⟩
          rcases List.mem_append.mp hr with hr | hr
          · exact n4 r hr
          · rw [List.mem_singleton.mp hr]
            exact ⟨nx, hz8⟩
      · rintro σ H4 ⟨ns, ps, vs, o4, o5, rfl, k4, X4, gp, gl, gn, gv, A, n1, n2, n3, n4⟩
        rw [List.length_map] at n1 n2
        refine ⟨_, rfl, ln, _, rfl, .inl ⟨SqL.of gn, fun t8 h8 => ?_⟩⟩
        have x8 := Ex.new (o := .tup (ns.map V.str)) h8
        refine ⟨_, rfl, lp, _, rfl, .inl ⟨SqL.of (x8 _ _ gv), fun t9 h9 => ⟨(by show 2 ≤ sizeLine; decide), fun t10 h10 => ?_⟩⟩⟩
        have x9 := Ex.new (o := .tup vs) h9
        have x10 := Ex.new (o := .tup [.ref t8, .ref t9]) h10
        have big := x8.trans (x9.trans x10)
        exact q _ ns ps _ ⟨by omega, by omega, n3, n4⟩ (.tup (SqT.of upd_same) (.cons (.tup (SqT.of (x10 _ _ (x9 _ _ upd_same))) (strs_dp _)) (.cons (.tup (SqT.of (x10 _ _ upd_same)) (A.ex big).dp) .nil))) (k4.trans (Kp.ex big)) (X4.ex big)
end
end A4
set_option maxRecDepth 100000
set_option maxHeartbeats 8000000
namespace A4
open PySem L2 Evl
theorem join_txt (s : Str) (ws : List Str) : Txt.join s ws = Str.join s ws := StrLaws.glued_eq_join s ws
theorem one32 : (" " : Str) = ⟨#[32]⟩ := toList_inj (by rw [blank])
theorem join_sums : ∀ ws : List Str, (Txt.join " " ws).length ≤ (ws.map (·.length)).sum + ws.length ∧ ((∀ x ∈ ws, sp32 x = 0) → sp32 (Txt.join " " ws) ≤ ws.length) := by
  intro ws
  rw [join_txt]
  induction ws with
  | nil => exact ⟨by decide +kernel, fun _ => by decide +kernel⟩
  | cons x r ih =>
    cases r with
    | nil => exact ⟨by show x.length ≤ _; simp, fun h => by show sp32 x ≤ _; rw [h x List.mem_cons_self]; exact Nat.zero_le _⟩
    | cons y r =>
      have e : Str.join " " (x :: y :: r) = x ++ " " ++ Str.join " " (y :: r) := rfl
      have l1 : (" " : Str).length = 1 := by decide +kernel
      have l2 : sp32 " " = 1 := by decide +kernel
      refine ⟨?_, fun h => ?_⟩
      · rw [e, app_len, app_len, l1]
        have := ih.1
        simp only [List.map_cons, List.sum_cons, List.length_cons] at this ⊢
        omega
      · rw [e, sp_app, sp_app, l2, h x List.mem_cons_self]
        have := ih.2 fun z hz => h z (List.mem_cons_of_mem _ hz)
        simp only [List.length_cons] at this ⊢
        omega
theorem word_free {z x : Str} (h : x ∈ wordsS z) : sp32 x = 0 := by
  unfold wordsS at h
  rw [one32] at h
  exact List.count_eq_zero.mpr (StrLaws.split_free z 32 x h)
theorem words_sum (z : Str) : ((wordsS z).map (·.length)).sum + (wordsS z).length ≤ z.length + 1 := PyProof.Rows.split_weight z " " (by decide +kernel)
theorem sum_perm {xs ys : List Str} (h : xs.Perm ys) : (xs.map (·.length)).sum = (ys.map (·.length)).sum := (h.map _).sum_nat
def spMixed : Sp := fun vs H Q _ => ∃ (b : Addr) (z : Str), vs = [.ref b, .str z] ∧ Bx b H ∧ z.length ≤ 46400 ∧ sp32 z ≤ 24 ∧ ∀ (y : Str) H', y.length ≤ 100000 → (wordsS y).length < 64 → Kp b H H' → Bx b H' → Q (.str y) H'
theorem ixN_nat {n k : Nat} (h : k < n) : ixN n (k : Int) = some k := by
  unfold ixN
  rw [if_pos (by omega), if_pos (by omega)]
  rfl
theorem cutV_to {xs : List V} {k : Nat} (h : k ≤ xs.length) : cutV xs none (some (k : Int)) = xs.take k := by
  unfold cutV
  rw [HT.sIx_none, HT.sIx_nat, Nat.min_eq_left h]
  simp
section
variable {P : Program} {w : World} {K : PySem.W.Frag} {mg : Str → Option Value} {base : Heap} {a : Ad} {d : Fd}
theorem ok_law_exchanged (T : TX P K mg a) (D : FDS K a d) : FnOk P w K mg base CX0 2 a.a_law_exchanged d.a_law_exchanged ["bag", "text"] spMixed := by
  have G__law_take : FnOk P w K mg base CX0 1 a.a_law_take d.a_law_take ["bag", "size"] spTake := ok_law_take T D
  refine D.F__law_exchanged.ok sc_law_exchanged (fun vs H Q E h => ?_) (fun cdv A outer s H vs Q E hr h => ?_)
  · obtain ⟨b, z, rfl, _⟩ := h
    rfl
  · obtain ⟨b, z, rfl, X, hz, hs, q⟩ := h
    refine ⟨_, (pss_cons (ps_set (i := 2) sc_law_exchanged.nd rfl (Or.inl rfl) (pe_split (pv 1) pe_str))
        (pss_cons (ps_set (i := 3) sc_law_exchanged.nd rfl (Or.inl rfl) (pe_call G__law_take (hr.mono (by decide)) rfl T.f__law_take T.k__law_take D.B__law_take .nil pass0 (pa_cons (pv 0) (pa_cons (pe_callB call_len_seq (by rfl) T.b_len (by decide +kernel) (pa_cons (pv 2) pa_nil)) pa_nil))))
        (pss_cons (ps_set (i := 4) sc_law_exchanged.nd rfl (Or.inl rfl) (pe_call G__law_take (hr.mono (by decide)) rfl T.f__law_take T.k__law_take D.B__law_take .nil pass0 (pa_cons (pv 0) (pa_cons (pe_callB call_len_seq (by rfl) T.b_len (by decide +kernel) (pa_cons (pv 2) pa_nil)) pa_nil))))
        (pss_cons (ps_set (i := 5) sc_law_exchanged.nd rfl (Or.inl rfl) (pe_ix ix_list (pv 2) (pv 3) (fun _ _ => rfl)))
        (pss_cons (ps_asg (pe_ix ix_list (pv 2) (pv 4) (fun _ _ => rfl)) (pg_sub (pv 2) (pv 3) set_list))
        (pss_cons (ps_asg (pv 5) (pg_sub (pv 2) (pv 4) set_list))
        (pss_one (ps_ret (pe_join pe_str (pv 2)))))))))), ?_⟩
    have hw := words_len z
    have hsum := words_sum z
    have hfree : ∀ x ∈ wordsS z, sp32 x = 0 := fun x hx => word_free hx
    refine ⟨_, rfl, ⟨_, rfl⟩, z, _, rfl, rfl, (by decide +kernel), Nat.le_trans (by omega : _ ≤ 100002) (by decide), fun p hp => ?_⟩
    show _
    generalize hws : Txt.split z " " = ws
    have ews : wordsS z = ws := hws
    rw [ews] at hw hsum hfree
    have xp := Ex.new (o := .lst (ws.map V.str)) hp
    have X0 := X.ex xp
    have hpb := X.ne hp
    have g0 : (upd H p (.lst (ws.map V.str))) p = some (.lst (ws.map V.str)) := upd_same
    have hlen : (ws.map V.str).length = ws.length := List.length_map _
    have big : (ws.map V.str).length ≤ sizeLine := Nat.le_trans (by omega : _ ≤ 100) (by decide)
    refine ⟨_, rfl, _, rfl, p, _, rfl, .inl (SqL.of g0), b, _, rfl, X0, by omega, ?_, fun k1 H1 c1 X1 n0 n1 => ?_⟩
    · exact Nat.lt_of_lt_of_le (log_lt (n := 60) (by decide) (by omega)) (by decide)
    obtain ⟨i, rfl⟩ : ∃ i : Nat, k1 = (i : Int) := ⟨k1.toNat, by omega⟩
    have g1 := c1.at hpb g0
    refine ⟨_, rfl, _, rfl, p, _, rfl, .inl (SqL.of g1), b, _, rfl, X1, by omega, ?_, fun k2 H2 c2 X2 m0 m1 => ?_⟩
    · exact Nat.lt_of_lt_of_le (log_lt (n := 60) (by decide) (by omega)) (by decide)
    obtain ⟨j, rfl⟩ : ∃ j : Nat, k2 = (j : Int) := ⟨k2.toNat, by omega⟩
    have g2 := c2.at hpb g1
    have hi : i < ws.length := by omega
    have hj : j < ws.length := by omega
    have ai : (ws.map V.str)[i]? = some (V.str ws[i]) := by rw [List.getElem?_map, List.getElem?_eq_getElem hi]; rfl
    have aj : (ws.map V.str)[j]? = some (V.str ws[j]) := by rw [List.getElem?_map, List.getElem?_eq_getElem hj]; rfl
    refine ⟨_, rfl, _, rfl, p, _, _, _, rfl, rfl, SqL.of g2, atI_nat ai, ?_⟩
    refine ⟨_, rfl, _, rfl, p, _, _, _, rfl, rfl, SqL.of g2, atI_nat aj, ?_⟩
    refine ⟨_, rfl, _, rfl, p, _, _, i, rfl, rfl, g2, ixN_nat (by omega), ?_⟩
    refine ⟨_, rfl, _, rfl, _, rfl, p, _, _, j, rfl, rfl, upd_same, ixN_nat (by rw [List.length_set]; omega), ?_⟩
    have e3 : ((ws.map V.str).set i (V.str ws[j])).set j (V.str ws[i]) = ((ws.set i ws[j]).set j ws[i]).map V.str := by
      rw [List.map_set, List.map_set]
    have pm := List.set_set_perm hi hj
    have c3 : Kp b H (upd (upd H2 p (.lst ((ws.map V.str).set i (V.str ws[j])))) p (.lst (((ws.map V.str).set i (V.str ws[j])).set j (V.str ws[i])))) := ((((Kp.ex xp).trans c1).trans c2).mut hp hpb).mut hp hpb
    have X3 := Bx.mut X hp (((((Kp.ex xp).trans c1).trans c2).mut (o := .lst ((ws.map V.str).set i (V.str ws[j]))) hp hpb)) (Bx.mut (o := .lst ((ws.map V.str).set i (V.str ws[j]))) X hp (((Kp.ex xp).trans c1).trans c2) X2) (o := .lst (((ws.map V.str).set i (V.str ws[j])).set j (V.str ws[i])))
    rw [e3] at c3 X3 ⊢
    generalize (ws.set i ws[j]).set j ws[i] = ys at *
    have pl := pm.length_eq
    have ps := sum_perm pm
    have js := join_sums ys
    have jf := js.2 fun x hx => hfree x (pm.mem_iff.mp hx)
    refine ⟨⟨_, rfl⟩, _, rfl, _, p, ys, rfl, rfl, .inl (SqL.of upd_same), ?_, q _ _ (by omega) (by rw [words_len]; omega) c3 X3⟩
    have l1 : (" " : Str).length = 1 := by decide +kernel
    rw [l1]
    omega
theorem ok_law_doubled (T : TX P K mg a) (D : FDS K a d) : FnOk P w K mg base CX0 2 a.a_law_doubled d.a_law_doubled ["bag", "text"] spMixed := by
  have G__law_take : FnOk P w K mg base CX0 1 a.a_law_take d.a_law_take ["bag", "size"] spTake := ok_law_take T D
  refine D.F__law_doubled.ok sc_law_doubled (fun vs H Q E h => ?_) (fun cdv A outer s H vs Q E hr h => ?_)
  · obtain ⟨b, z, rfl, _⟩ := h
    rfl
  · obtain ⟨b, z, rfl, X, hz, hs, q⟩ := h
    refine ⟨_, (pss_cons (ps_set (i := 2) sc_law_doubled.nd rfl (Or.inl rfl) (pe_split (pv 1) pe_str))
        (pss_cons (ps_set (i := 3) sc_law_doubled.nd rfl (Or.inl rfl) (pe_ix ix_list (pv 2) (pe_call G__law_take (hr.mono (by decide)) rfl T.f__law_take T.k__law_take D.B__law_take .nil pass0 (pa_cons (pv 0) (pa_cons (pe_callB call_len_seq (by rfl) T.b_len (by decide +kernel) (pa_cons (pv 2) pa_nil)) pa_nil))) (fun _ _ => rfl)))
        (pss_cons (ps_set (i := 4) sc_law_doubled.nd rfl (Or.inl rfl) (pe_call G__law_take (hr.mono (by decide)) rfl T.f__law_take T.k__law_take D.B__law_take .nil pass0 (pa_cons (pv 0) (pa_cons (pe_op op_add (pe_callB call_len_seq (by rfl) T.b_len (by decide +kernel) (pa_cons (pv 2) pa_nil)) pe_int) pa_nil))))
        (pss_one (ps_ret (pe_join pe_str (pe_op op_cat (pe_op op_cat (pe_slice sl_list (pv 2) po_none (po_some (pv 4))) (pe_lst (pa_cons (pv 3) pa_nil))) (pe_slice sl_list (pv 2) (po_some (pv 4)) po_none)))))))), ?_⟩
    have hw := words_len z
    have hsum := words_sum z
    have hfree : ∀ x ∈ wordsS z, sp32 x = 0 := fun x hx => word_free hx
    have hshort : ∀ x ∈ wordsS z, x.length ≤ z.length := fun x hx => PyProof.Rows.part_short hx
    refine ⟨_, rfl, ⟨_, rfl⟩, z, _, rfl, rfl, (by decide +kernel), Nat.le_trans (by omega : _ ≤ 100002) (by decide), fun p hp => ?_⟩
    show _
    generalize hws : Txt.split z " " = ws
    have ews : wordsS z = ws := hws
    rw [ews] at hw hsum hfree hshort
    have xp := Ex.new (o := .lst (ws.map V.str)) hp
    have X0 := X.ex xp
    have hpb := X.ne hp
    have g0 : (upd H p (.lst (ws.map V.str))) p = some (.lst (ws.map V.str)) := upd_same
    have hlen : (ws.map V.str).length = ws.length := List.length_map _
    have big : (ws.map V.str).length ≤ sizeLine := Nat.le_trans (by omega : _ ≤ 100) (by decide)
    refine ⟨_, rfl, _, rfl, _, rfl, p, _, rfl, .inl (SqL.of g0), b, _, rfl, X0, by omega, ?_, fun k1 H1 c1 X1 n0 n1 => ?_⟩
    · exact Nat.lt_of_lt_of_le (log_lt (n := 60) (by decide) (by omega)) (by decide)
    obtain ⟨i, rfl⟩ : ∃ i : Nat, k1 = (i : Int) := ⟨k1.toNat, by omega⟩
    have g1 := c1.at hpb g0
    have hi : i < ws.length := by omega
    have ai : (ws.map V.str)[i]? = some (V.str ws[i]) := by rw [List.getElem?_map, List.getElem?_eq_getElem hi]; rfl
    refine ⟨p, _, _, _, rfl, rfl, SqL.of g1, atI_nat ai, ?_⟩
    refine ⟨_, rfl, _, rfl, p, _, rfl, .inl (SqL.of g1), _, _, rfl, rfl, b, _, rfl, X1, by omega, ?_, fun k2 H2 c2 X2 m0 m1 => ?_⟩
    · exact Nat.lt_of_lt_of_le (log_lt (n := 60) (by decide) (by omega)) (by decide)
    obtain ⟨j, rfl⟩ : ∃ j : Nat, k2 = (j : Int) := ⟨k2.toNat, by omega⟩
    have g2 := c2.at hpb g1
    refine ⟨⟨_, rfl⟩, _, rfl, _, rfl, _, rfl, p, _, rfl, SqL.of g2, fun p1 h1 => ?_⟩
    rw [cutV_to (by omega), ← List.map_take]
    refine ⟨_, rfl, (by show 1 ≤ sizeLine; decide), fun p2 h2 => ?_⟩
    have x1 := Ex.new (o := .lst ((ws.take j).map V.str)) h1
    have x2 := Ex.new (o := .lst [.str ws[i]]) h2
    have hl1 : ((ws.take j).map V.str).length ≤ 30 := by rw [List.length_map, List.length_take]; omega
    have hl4 : ((ws.drop j).map V.str).length ≤ 30 := by rw [List.length_map, List.length_drop]; omega
    have b100 : 100 ≤ sizeLine := by decide
    refine ⟨p1, p2, _, [.str ws[i]], rfl, rfl, x2 _ _ upd_same, upd_same, by show _ + 1 ≤ _; omega, fun p3 h3 => ?_⟩
    have x3 := Ex.new (o := .lst ((ws.take j).map V.str ++ [.str ws[i]])) h3
    have g5 := x3 _ _ (x2 _ _ (x1 _ _ g2))
    refine ⟨_, rfl, _, rfl, _, rfl, p, _, rfl, SqL.of g5, fun p4 h4 => ?_⟩
    rw [cutV_from (by omega), ← List.map_drop]
    have x4 := Ex.new (o := .lst ((ws.drop j).map V.str)) h4
    refine ⟨p3, p4, _, _, rfl, rfl, x4 _ _ upd_same, upd_same, by simp only [List.length_append, List.length_cons, List.length_nil]; omega, fun p5 h5 => ?_⟩
    have e5 : (ws.take j).map V.str ++ [.str ws[i]] ++ (ws.drop j).map V.str = (ws.take j ++ [ws[i]] ++ ws.drop j).map V.str := by simp
    rw [e5]
    have x5 := Ex.new (o := .lst ((ws.take j ++ [ws[i]] ++ ws.drop j).map V.str)) h5
    have big5 := (((x1.trans x2).trans x3).trans x4).trans x5
    have mi := List.getElem_mem hi
    have es : ((ws.take j ++ [ws[i]] ++ ws.drop j).map (·.length)).sum = (ws.map (·.length)).sum + ws[i].length := by
      have : ((ws.take j).map (·.length)).sum + ((ws.drop j).map (·.length)).sum = (ws.map (·.length)).sum := by
        rw [← List.sum_append, ← List.map_append, List.take_append_drop]
      simp only [List.map_append, List.sum_append, List.map_cons, List.map_nil, List.sum_cons, List.sum_nil]
      omega
    have el : (ws.take j ++ [ws[i]] ++ ws.drop j).length = ws.length + 1 := by
      simp only [List.length_append, List.length_take, List.length_drop, List.length_cons, List.length_nil]
      omega
    have fr : ∀ x ∈ ws.take j ++ [ws[i]] ++ ws.drop j, sp32 x = 0 := fun x hx => by
      rcases List.mem_append.mp hx with hx | hx
      · rcases List.mem_append.mp hx with hx | hx
        · exact hfree x (List.mem_of_mem_take hx)
        · rw [List.mem_singleton.mp hx]; exact hfree _ mi
      · exact hfree x (List.mem_of_mem_drop hx)
    have sh := hshort _ mi
    generalize ws.take j ++ [ws[i]] ++ ws.drop j = ys at *
    have js := join_sums ys
    have jf := js.2 fr
    have l1 : (" " : Str).length = 1 := by decide +kernel
    refine ⟨_, p5, ys, rfl, rfl, .inl (SqL.of upd_same), by rw [l1]; omega, q _ _ (by omega) (by rw [words_len]; omega) ((((Kp.ex xp).trans c1).trans c2).trans (Kp.ex big5)) (X2.ex big5)⟩
end
end A4
set_option maxRecDepth 100000
set_option maxHeartbeats 8000000
namespace A4
open PySem L2 Evl
def Good (y : Str) : Prop := y.length ≤ 100000 ∧ (wordsS y).length < 64
/-- the term reads a text of no more than n signs, of them no more than m spaces -/
def Gv (te : TE) (σ : St) (n m : Nat) : Prop := ∀ (H : Hp) (Q : VK), (∀ y : Str, y.length ≤ n → sp32 y ≤ m → Q (.str y) H) → te σ H Q
def GvL (ta : TA) (σ : St) (k : Nat) : Prop := ∀ (H : Hp) (Q : List V → Hp → Prop), (∀ ys : List Str, ys.length = k → (∀ y ∈ ys, Good y) → Q (ys.map V.str) H) → ta σ H Q
variable {σ : St} {n m n1 m1 n2 m2 k : Nat} {te te2 : TE} {ta : TA}
theorem gv_var {i : Nat} {x : Str} (h : σ[i]? = some (some (.str x))) (h1 : x.length ≤ n) (h2 : sp32 x ≤ m) : Gv (tVar i) σ n m := fun H Q q => ⟨_, h, q x h1 h2⟩
theorem gv_lit {c : Str} (h : c.length ≤ 10 ∧ sp32 c ≤ 3) : Gv (tC (.str c)) σ 10 3 := fun H Q q => q c h.1 h.2
theorem gv_add (ha : Gv te σ n1 m1) (hb : Gv te2 σ n2 m2) (h : n1 + n2 ≤ 200000) : Gv (tOp (fun x y H Q => ∃ i j, x = .str i ∧ y = .str j ∧ i.length + j.length ≤ sizeLine ∧ Q (.str (i ++ j)) H) te te2) σ (n1 + n2) (m1 + m2) := fun H Q q =>
  ha H _ fun x x1 x2 => hb H _ fun y y1 y2 => ⟨x, y, rfl, rfl, Nat.le_trans (by omega : _ ≤ 200000) (by decide), q _ (by rw [app_len]; omega) (by rw [sp_app]; omega)⟩
theorem gv_upper (ha : Gv te σ n m) (h : n ≤ 200000) : Gv (tM0 (fun x xs H Q => ∃ a, x = .str a ∧ xs = [] ∧ a.length ≤ 5592405 ∧ Q (.str (Txt.upper a)) H) te) σ (3 * n + 1) (3 * n + 1) := fun H Q q =>
  ha H _ fun x x1 x2 => ⟨⟨x, rfl⟩, x, rfl, rfl, by omega, by
    have h1 : (Txt.upper x).length ≤ 3 * x.length + 1 := PyProof.Rows.short3_upper x
    have h2 := sp_le (Txt.upper x)
    exact q _ (by omega) (by omega)⟩
theorem gv_cut {i : Int} (ha : Gv te σ n m) (h : n ≤ 200000) : Gv (tSl rSlS te tNoPart (tPart (tC (.int i)))) σ n n := fun H Q q =>
  ha H _ fun x x1 x2 => ⟨_, rfl, x, rfl, Nat.le_trans (by omega : _ ≤ 200000) (by decide), by
    have h1 := cutS_length x none (some i)
    have h2 := sp_le (cutS x none (some i))
    exact q _ (by omega) (by omega)⟩
theorem good_of {y : Str} (h : n ≤ 100000 ∧ m ≤ 62) (h1 : y.length ≤ n) (h2 : sp32 y ≤ m) : Good y := ⟨by omega, by rw [words_len]; omega⟩
theorem gvl_nil : GvL tNil σ 0 := fun H Q q => q [] rfl fun _ h => absurd h List.not_mem_nil
theorem gvl_cons (he : Gv te σ n m) (h : n ≤ 100000 ∧ m ≤ 62) (hr : GvL ta σ k) : GvL (tCons te ta) σ (k + 1) := fun H Q q =>
  he H _ fun y y1 y2 => hr H _ fun ys l g => q (y :: ys) (by rw [List.length_cons, l]) fun z hz => by
    rcases List.mem_cons.mp hz with rfl | hz
    · exact good_of h y1 y2
    · exact g z hz
theorem lst_step {H : Hp} {Q : VK} (g : GvL ta σ k) (hk : k ≤ 1000) (q : ∀ (p : Addr) (ys : List Str), H p = none → ys.length = k → (∀ y ∈ ys, Good y) → Q (.ref p) (upd H p (.lst (ys.map V.str)))) : tLst ta σ H Q :=
  g H _ fun ys l gy => ⟨Nat.le_trans (by rw [List.length_map]; omega : _ ≤ 1000) (by decide), fun p hp => q p ys hp l gy⟩
theorem cat_step {H : Hp} {Q : VK} {l : Addr} {zs : List Str} (g : GvL ta σ k) (hσ : σ[5]? = some (some (.ref l))) (hl : H l = some (.lst (zs.map V.str))) (gz : ∀ z ∈ zs, Good z) (hk : zs.length + k ≤ 1000)
    (q : ∀ (p : Addr) (ws : List Str) (H' : Hp), Ex H H' → H p = none → H' p = some (.lst (ws.map V.str)) → ws.length = zs.length + k → (∀ w ∈ ws, Good w) → Q (.ref p) H') : tOp rCat (tVar 5) (tLst ta) σ H Q := by
  refine ⟨_, hσ, g H _ fun ys yl gy => ⟨Nat.le_trans (by rw [List.length_map]; omega : _ ≤ 1000) (by decide), fun p1 h1 => ?_⟩⟩
  have x1 := Ex.new (o := .lst (ys.map V.str)) h1
  refine ⟨l, p1, _, _, rfl, rfl, x1 _ _ hl, upd_same, Nat.le_trans (by rw [List.length_map, List.length_map]; omega : _ ≤ 1000) (by decide), fun p2 h2 => ?_⟩
  have x2 := Ex.new (o := .lst (zs.map V.str ++ ys.map V.str)) h2
  exact q p2 (zs ++ ys) _ (x1.trans x2) (fresh_back x1 h2) (by rw [upd_same, List.map_append]) (by rw [List.length_append, yl]) fun w hw => by
    rcases List.mem_append.mp hw with hw | hw
    · exact gz w hw
    · exact gy w hw
theorem put_step {i : Nat} {v : V} {H : Hp} {σ' : St} {Q : St → Hp → Prop} (e : σ.set i (some v) = σ') (h : Q σ' H) : gName i v σ H Q := by
  subst e
  exact h
theorem seq_step {g : TG} {rest : TS} {D : Ends} {H : Hp} (h : te σ H fun x H1 => g x σ H1 (rest D)) : tSeq (tAsg te g) rest D σ H := h
theorem name_small {x : Str} (h : isNameS x = true) : x.length ≤ 8 ∧ sp32 x = 0 := by
  obtain ⟨h1, h2, h3⟩ := (nameS_iff x).mp h
  refine ⟨by omega, List.count_eq_zero.mpr fun z => ?_⟩
  have : ∀ c ∈ signs.cps.toList, c ≠ 32 := by decide +kernel
  exact this 32 (h3 32 z) rfl
section
variable {P : Program} {w : World} {K : PySem.W.Frag} {mg : Str → Option Value} {base : Heap} {a : Ad} {d : Fd}
theorem ok_law_near (T : TX P K mg a) (D : FDS K a d) : FnOk P w K mg base CX0 3 a.a_law_near d.a_law_near ["bag", "text"] spMixed := by
  have G__law_take : FnOk P w K mg base CX0 1 a.a_law_take d.a_law_take ["bag", "size"] spTake := ok_law_take T D
  have G__law_names : FnOk P w K mg base CX0 2 a.a_law_names d.a_law_names ["bag", "many"] spNames := ok_law_names T D
  refine D.F__law_near.ok sc_law_near (fun vs H Q E h => ?_) (fun cdv A outer s H vs Q E hr h => ?_)
  · obtain ⟨b, z, rfl, _⟩ := h
    rfl
  · obtain ⟨b, z, rfl, X, hz, hs, q⟩ := h
    refine ⟨_, (pss_cons (ps_set (i := 2) sc_law_near.nd rfl (Or.inl rfl) (pe_call G__law_names (hr.mono (by decide)) rfl T.f__law_names T.k__law_names D.B__law_names .nil pass0 (pa_cons (pv 0) (pa_cons pe_int pa_nil))))
        (pss_cons (ps_set (i := 3) sc_law_near.nd rfl (Or.inl rfl) (pe_ix ix_list (pv 2) pe_int (fun _ _ => rfl)))
        (pss_cons (ps_set (i := 4) sc_law_near.nd rfl (Or.inl rfl) (pe_ix ix_list (pv 2) pe_int (fun _ _ => rfl)))
        (pss_cons (ps_set (i := 5) sc_law_near.nd rfl (Or.inl rfl) (pe_lst (pa_cons pe_str (pa_cons pe_str (pa_cons pe_str (pa_cons pe_str (pa_cons pe_str (pa_cons (pe_op op_add_str pe_str (pv 3)) (pa_cons (pe_op op_add_str (pv 3) pe_str) (pa_cons (pe_op op_add_str (pv 3) pe_str) (pa_cons (pe_op op_add_str (pv 3) pe_str) (pa_cons (pe_op op_add_str (pv 3) pe_str) (pa_cons (pe_op op_add_str (pv 3) pe_str) pa_nil)))))))))))))
        (pss_cons (ps_set (i := 5) sc_law_near.nd rfl (Or.inl rfl) (pe_op op_cat (pv 5) (pe_lst (pa_cons (pe_op op_add_str (pv 3) pe_str) (pa_cons (pe_op op_add_str (pv 3) pe_str) (pa_cons (pe_op op_add_str (pv 3) pe_str) (pa_cons (pe_op op_add_str (pv 3) pe_str) (pa_cons (pe_op op_add_str (pv 3) pe_str) (pa_cons (pe_op op_add_str (pv 3) pe_str) (pa_cons (pe_op op_add_str (pv 3) pe_str) pa_nil))))))))))
        (pss_cons (ps_set (i := 5) sc_law_near.nd rfl (Or.inl rfl) (pe_op op_cat (pv 5) (pe_lst (pa_cons (pe_op op_add_str (pv 3) pe_str) (pa_cons (pe_op op_add_str (pe_op op_add_str (pv 3) pe_str) (pv 4)) (pa_cons (pe_op op_add_str (pe_op op_add_str (pe_op op_add_str (pv 3) pe_str) (pv 3)) pe_str) (pa_cons (pe_op op_add_str (pe_op op_add_str (pe_op op_add_str (pv 3) pe_str) (pv 3)) pe_str) (pa_cons (pe_op op_add_str (pe_op op_add_str (pv 3) pe_str) (pv 3)) pa_nil))))))))
        (pss_cons (ps_set (i := 5) sc_law_near.nd rfl (Or.inl rfl) (pe_op op_cat (pv 5) (pe_lst (pa_cons (pe_op op_add_str (pe_op op_add_str (pv 3) pe_str) (pv 3)) (pa_cons (pe_op op_add_str (pe_op op_add_str (pv 3) pe_str) (pv 4)) (pa_cons (pe_op op_add_str (pe_op op_add_str (pe_op op_add_str (pv 3) pe_str) (pv 3)) pe_str) (pa_cons (pe_op op_add_str (pe_op op_add_str (pv 3) pe_str) (pv 4)) (pa_cons (pe_op op_add_str (pe_op op_add_str (pv 4) pe_str) (pv 3)) (pa_cons (pe_op op_add_str (pe_op op_add_str (pv 3) pe_str) (pv 4)) pa_nil)))))))))
        (pss_cons (ps_set (i := 5) sc_law_near.nd rfl (Or.inl rfl) (pe_op op_cat (pv 5) (pe_lst (pa_cons (pe_op op_add_str (pe_op op_add_str (pe_op op_add_str (pv 3) pe_str) (pv 4)) pe_str) (pa_cons (pe_op op_add_str (pe_op op_add_str (pe_op op_add_str (pv 4) pe_str) (pv 3)) pe_str) (pa_cons (pe_op op_add_str (pe_op op_add_str (pe_op op_add_str (pv 3) pe_str) (pv 4)) pe_str) (pa_cons (pe_op op_add_str (pe_op op_add_str (pe_op op_add_str (pv 3) pe_str) (pv 4)) pe_str) pa_nil)))))))
        (pss_cons (ps_set (i := 5) sc_law_near.nd rfl (Or.inl rfl) (pe_op op_cat (pv 5) (pe_lst (pa_cons (pe_op op_add_str (pv 1) pe_str) (pa_cons (pe_op op_add_str pe_str (pv 1)) (pa_cons (pe_op op_add_str (pv 1) pe_str) (pa_cons (pe_op op_add_str (pv 1) pe_str) (pa_cons (pe_op op_add_str pe_str (pv 1)) (pa_cons (pe_op op_add_str (pe_op op_add_str (pv 1) pe_str) (pv 1)) pa_nil)))))))))
        (pss_cons (ps_set (i := 5) sc_law_near.nd rfl (Or.inl rfl) (pe_op op_cat (pv 5) (pe_lst (pa_cons (pe_op op_add_str (pv 1) pe_str) (pa_cons (pe_op op_add_str (pv 1) pe_str) (pa_cons (pe_op op_add_str (pv 1) pe_str) (pa_cons (pe_upper (pv 3)) (pa_cons (pe_op op_add_str (pe_upper (pv 3)) pe_str) (pa_cons (pe_op op_add_str pe_str (pv 3)) (pa_cons (pe_op op_add_str (pv 3) pe_str) pa_nil))))))))))
        (pss_cons (ps_set (i := 5) sc_law_near.nd rfl (Or.inl rfl) (pe_op op_cat (pv 5) (pe_lst (pa_cons (pe_slice sl_str (pe_op op_add_str (pv 3) pe_str) po_none (po_some pe_int)) (pa_cons (pe_op op_add_str (pe_slice sl_str (pe_op op_add_str (pv 3) pe_str) po_none (po_some pe_int)) pe_str) (pa_cons (pe_op op_add_str (pe_op op_add_str pe_str (pv 3)) pe_str) (pa_cons (pe_op op_add_str (pv 3) pe_str) pa_nil)))))))
        (pss_cons (ps_set (i := 5) sc_law_near.nd rfl (Or.inl rfl) (pe_op op_cat (pv 5) (pe_lst (pa_cons (pe_op op_add_str (pv 3) pe_str) (pa_cons (pe_op op_add_str (pv 3) pe_str) (pa_cons (pe_op op_add_str (pv 3) pe_str) (pa_cons (pe_op op_add_str (pe_op op_add_str (pe_op op_add_str (pv 3) pe_str) (pv 4)) pe_str) (pa_cons (pe_op op_add_str (pe_op op_add_str (pe_op op_add_str (pv 3) pe_str) (pv 4)) pe_str) pa_nil))))))))
        (pss_one (ps_ret (pe_ix ix_list (pv 5) (pe_call G__law_take (hr.mono (by decide)) rfl T.f__law_take T.k__law_take D.B__law_take .nil pass0 (pa_cons (pv 0) (pa_cons (pe_callB call_len_seq (by rfl) T.b_len (by decide +kernel) (pa_cons (pv 5) pa_nil)) pa_nil))) (fun _ _ => rfl)))))))))))))))), ?_⟩
    refine ⟨_, rfl, b, 2, rfl, X, by decide, fun l xs H1 hl hlb N hxl k1 X1 => ?_⟩
    obtain ⟨x, y, rfl⟩ : ∃ x y, xs = [x, y] := by
      match xs, hxl with
      | [x, y], _ => exact ⟨x, y, rfl⟩
    have nx := name_small (N.2 x (by simp))
    have ny := name_small (N.2 y (by simp))
    have sq := SqL.of (K := K) N.1
    refine ⟨_, rfl, l, _, 0, .str x, rfl, rfl, sq, rfl, ?_⟩
    refine ⟨_, rfl, l, _, 1, .str y, rfl, rfl, sq, rfl, ?_⟩
    have hx : ∀ m, Gv (tVar 3) [some (.ref b), some (.str z), some (.ref l), some (.str x), some (.str y), m] 8 0 := fun m => gv_var rfl nx.1 (by omega)
    have hy : ∀ m, Gv (tVar 4) [some (.ref b), some (.str z), some (.ref l), some (.str x), some (.str y), m] 8 0 := fun m => gv_var rfl ny.1 (by omega)
    have ht : ∀ m, Gv (tVar 1) [some (.ref b), some (.str z), some (.ref l), some (.str x), some (.str y), m] 46400 24 := fun m => gv_var rfl hz hs
    refine put_step (σ' := [some (.ref b), some (.str z), some (.ref l), some (.str x), some (.str y), none]) rfl ?_
    try dsimp only
    refine seq_step (lst_step (k := 11) (by (repeat' (first | exact gvl_nil | exact hx _ | exact hy _ | exact ht _ | exact gv_lit (by decide +kernel) | apply gvl_cons | apply gv_add | apply gv_upper | apply gv_cut)) <;> decide) (by decide) fun p0 w0 h0 l0 g0 => ?_)
    have e0 := Ex.new (o := .lst (w0.map V.str)) h0
    have q0 : (upd H1 p0 (.lst (w0.map V.str))) p0 = some (.lst (w0.map V.str)) := upd_same
    generalize upd H1 p0 (.lst (w0.map V.str)) = J0 at *
    refine put_step (σ' := [some (.ref b), some (.str z), some (.ref l), some (.str x), some (.str y), some (.ref p0)]) rfl ?_
    try dsimp only
    refine seq_step (cat_step (k := 7) (by (repeat' (first | exact gvl_nil | exact hx _ | exact hy _ | exact ht _ | exact gv_lit (by decide +kernel) | apply gvl_cons | apply gv_add | apply gv_upper | apply gv_cut)) <;> decide) rfl q0 g0 (by omega) fun p1 w1 J1 e1 h1 q1 l1 g1 => ?_)
    refine put_step (σ' := [some (.ref b), some (.str z), some (.ref l), some (.str x), some (.str y), some (.ref p1)]) rfl ?_
    try dsimp only
    refine seq_step (cat_step (k := 5) (by (repeat' (first | exact gvl_nil | exact hx _ | exact hy _ | exact ht _ | exact gv_lit (by decide +kernel) | apply gvl_cons | apply gv_add | apply gv_upper | apply gv_cut)) <;> decide) rfl q1 g1 (by omega) fun p2 w2 J2 e2 h2 q2 l2 g2 => ?_)
    refine put_step (σ' := [some (.ref b), some (.str z), some (.ref l), some (.str x), some (.str y), some (.ref p2)]) rfl ?_
    try dsimp only
    refine seq_step (cat_step (k := 6) (by (repeat' (first | exact gvl_nil | exact hx _ | exact hy _ | exact ht _ | exact gv_lit (by decide +kernel) | apply gvl_cons | apply gv_add | apply gv_upper | apply gv_cut)) <;> decide) rfl q2 g2 (by omega) fun p3 w3 J3 e3 h3 q3 l3 g3 => ?_)
    refine put_step (σ' := [some (.ref b), some (.str z), some (.ref l), some (.str x), some (.str y), some (.ref p3)]) rfl ?_
    try dsimp only
    refine seq_step (cat_step (k := 4) (by (repeat' (first | exact gvl_nil | exact hx _ | exact hy _ | exact ht _ | exact gv_lit (by decide +kernel) | apply gvl_cons | apply gv_add | apply gv_upper | apply gv_cut)) <;> decide) rfl q3 g3 (by omega) fun p4 w4 J4 e4 h4 q4 l4 g4 => ?_)
    refine put_step (σ' := [some (.ref b), some (.str z), some (.ref l), some (.str x), some (.str y), some (.ref p4)]) rfl ?_
    try dsimp only
    refine seq_step (cat_step (k := 6) (by (repeat' (first | exact gvl_nil | exact hx _ | exact hy _ | exact ht _ | exact gv_lit (by decide +kernel) | apply gvl_cons | apply gv_add | apply gv_upper | apply gv_cut)) <;> decide) rfl q4 g4 (by omega) fun p5 w5 J5 e5 h5 q5 l5 g5 => ?_)
    refine put_step (σ' := [some (.ref b), some (.str z), some (.ref l), some (.str x), some (.str y), some (.ref p5)]) rfl ?_
    try dsimp only
    refine seq_step (cat_step (k := 7) (by (repeat' (first | exact gvl_nil | exact hx _ | exact hy _ | exact ht _ | exact gv_lit (by decide +kernel) | apply gvl_cons | apply gv_add | apply gv_upper | apply gv_cut)) <;> decide) rfl q5 g5 (by omega) fun p6 w6 J6 e6 h6 q6 l6 g6 => ?_)
    refine put_step (σ' := [some (.ref b), some (.str z), some (.ref l), some (.str x), some (.str y), some (.ref p6)]) rfl ?_
    try dsimp only
    refine seq_step (cat_step (k := 4) (by (repeat' (first | exact gvl_nil | exact hx _ | exact hy _ | exact ht _ | exact gv_lit (by decide +kernel) | apply gvl_cons | apply gv_add | apply gv_upper | apply gv_cut)) <;> decide) rfl q6 g6 (by omega) fun p7 w7 J7 e7 h7 q7 l7 g7 => ?_)
    refine put_step (σ' := [some (.ref b), some (.str z), some (.ref l), some (.str x), some (.str y), some (.ref p7)]) rfl ?_
    try dsimp only
    refine seq_step (cat_step (k := 5) (by (repeat' (first | exact gvl_nil | exact hx _ | exact hy _ | exact ht _ | exact gv_lit (by decide +kernel) | apply gvl_cons | apply gv_add | apply gv_upper | apply gv_cut)) <;> decide) rfl q7 g7 (by omega) fun p8 w8 J8 e8 h8 q8 l8 g8 => ?_)
    have ee : Ex H1 J8 := (((((((e0.trans e1).trans e2).trans e3).trans e4).trans e5).trans e6).trans e7).trans e8
    have X8 := X1.ex ee
    have hpb := (X1.ex (((((((e0.trans e1).trans e2).trans e3).trans e4).trans e5).trans e6).trans e7)).ne h8
    have wl : w8.length = 55 := by omega
    have wm : (w8.map V.str).length = 55 := by rw [List.length_map, wl]
    refine ⟨_, rfl, _, rfl, _, rfl, p8, _, rfl, .inl (SqL.of q8), b, _, rfl, X8, by omega, ?_, fun k2 J9 k9 X9 n0 n1 => ?_⟩
    · rw [wm]; decide +kernel
    obtain ⟨i, rfl⟩ : ∃ i : Nat, k2 = (i : Int) := ⟨k2.toNat, by omega⟩
    have hi : i < w8.length := by omega
    have ai : (w8.map V.str)[i]? = some (V.str w8[i]) := by rw [List.getElem?_map, List.getElem?_eq_getElem hi]; rfl
    have gg := g8 _ (List.getElem_mem hi)
    exact ⟨p8, _, _, _, rfl, rfl, SqL.of (k9.at hpb q8), atI_nat ai, q _ _ gg.1 gg.2 ((k1.trans (Kp.ex ee)).trans k9) X9⟩
end
end A4
set_option maxRecDepth 100000
set_option maxHeartbeats 8000000
namespace A4
open PySem L2 Evl
def spLaw (K : PySem.W.Frag) : Sp := fun vs H Q _ => ∃ (a : Addr) (ns : List Int), vs = [.ref a] ∧ SqL K H a (ns.map V.int) ∧ ∀ H', Q (.bl true) H'
theorem sum_max {c : Nat} : ∀ {l : List Str}, (∀ x ∈ l, x.length ≤ c) → (l.map (·.length)).sum ≤ l.length * c
  | [], _ => Nat.zero_le _
  | x :: r, h => by
    have h1 := h x List.mem_cons_self
    have h2 := sum_max (l := r) fun z hz => h z (List.mem_cons_of_mem _ hz)
    simp only [List.map_cons, List.sum_cons, List.length_cons, Nat.add_mul, Nat.one_mul]
    omega
theorem piece_small {p : Str × Int} (h1 : isNameS p.1 = true) (h2 : p.2.natAbs.log2 < 1920) : (pieceS p).length ≤ 1930 ∧ sp32 (pieceS p) = 0 := by
  have n := name_small h1
  have l := PyProof.Rows.int_text_len_1921 h2
  have s := no32.mpr (int32 p.2)
  have e1 : ("=" : Str).length = 1 := by decide +kernel
  have e2 : sp32 "=" = 0 := by decide +kernel
  rw [piece_eq]
  constructor
  · rw [app_len, app_len, e1]
    omega
  · rw [sp_app, sp_app, e2]
    omega
theorem text_small {ns : List Str} {ts : List (Str × Int)} (sm : Small ns ts) : (textOf ns ts).length ≤ 46400 ∧ sp32 (textOf ns ts) ≤ 24 := by
  have a1 : ∀ x ∈ ns ++ ts.map pieceS, x.length ≤ 1930 ∧ sp32 x = 0 := fun x hx => by
    rcases List.mem_append.mp hx with hx | hx
    · have := name_small (sm.n2 x hx)
      exact ⟨by omega, this.2⟩
    · obtain ⟨p, hp, rfl⟩ := List.mem_map.mp hx
      exact piece_small (sm.t2 p hp).1 (sm.t2 p hp).2
  have l1 : (ns ++ ts.map pieceS).length ≤ 24 := by
    have := sm.n1
    have := sm.t1
    rw [List.length_append, List.length_map]
    omega
  have js := join_sums (ns ++ ts.map pieceS)
  have sx := sum_max (c := 1930) fun x hx => (a1 x hx).1
  have jf := js.2 fun x hx => (a1 x hx).2
  unfold textOf
  constructor <;> omega
section
variable {P : Program} {w : World} {K : PySem.W.Frag} {mg : Str → Option Value} {base : Heap} {a : Ad} {d : Fd}
theorem ok_law {f : Addr} {fd : FuncData} (F : Fun K "law" "law" s_law f fd) (T : TX P K mg a) (D : FDS K a d) : FnOk P w K mg base CX0 8 f fd ["script"] (spLaw K) := by
  have G__law_bag : FnOk P w K mg base CX0 1 a.a_law_bag d.a_law_bag ["script"] (spBag K) := ok_law_bag T D
  have G__law_values : FnOk P w K mg base CX0 3 a.a_law_values d.a_law_values ["bag"] (spValues K) := ok_law_values T D
  have G__law_text : FnOk P w K mg base CX0 1 a.a_law_text d.a_law_text ["given"] (spTextT K) := ok_law_text T D
  have G_write_values : FnOk P w K mg base CX0 1 a.a_write_values d.a_write_values ["values"] (spWriteValues K) := ok_write_values T D
  have G__law_same : FnOk P w K mg base CX0 2 a.a_law_same d.a_law_same ["actual", "due"] (spSame K 1) := ok_law_same T D 1
  have G__law_read : FnOk P w K mg base CX0 7 a.a_law_read d.a_law_read ["text"] spRead := ok_law_read T D
  have G__law_exchanged : FnOk P w K mg base CX0 2 a.a_law_exchanged d.a_law_exchanged ["bag", "text"] spMixed := ok_law_exchanged T D
  have G__law_doubled : FnOk P w K mg base CX0 2 a.a_law_doubled d.a_law_doubled ["bag", "text"] spMixed := ok_law_doubled T D
  have G__law_bent : FnOk P w K mg base CX0 3 a.a_law_bent d.a_law_bent ["bag", "text", "most"] spBent := ok_law_bent T D
  have G__law_near : FnOk P w K mg base CX0 3 a.a_law_near d.a_law_near ["bag", "text"] spMixed := ok_law_near T D
  have G__law_names : FnOk P w K mg base CX0 2 a.a_law_names d.a_law_names ["bag", "many"] spNames := ok_law_names T D
  have G__law_digits : FnOk P w K mg base CX0 2 a.a_law_digits d.a_law_digits ["bag"] spDigits := ok_law_digits T D
  have G__law_free : FnOk P w K mg base CX0 3 a.a_law_free d.a_law_free ["bag", "most"] spFree := ok_law_free T D
  refine F.ok sc_law (fun vs H Q E h => ?_) (fun cdv A outer s H vs Q E hr h => ?_)
  · obtain ⟨a, ns, rfl, _⟩ := h
    rfl
  · obtain ⟨a, ns, rfl, hsq, q⟩ := h
    refine ⟨_, (pss_cons (ps_set (i := 1) sc_law.nd rfl (Or.inl rfl) (pe_call G__law_bag (hr.mono (by decide)) rfl T.f__law_bag T.k__law_bag D.B__law_bag .nil pass0 (pa_cons (pv 0) pa_nil)))
        (pss_cons (ps_set (i := 2) sc_law.nd rfl (Or.inl rfl) (pe_call G__law_values (hr.mono (by decide)) rfl T.f__law_values T.k__law_values D.B__law_values .nil pass0 (pa_cons (pv 1) pa_nil)))
        (pss_cons (ps_set (i := 3) sc_law.nd rfl (Or.inl rfl) (pe_call G__law_text (hr.mono (by decide)) rfl T.f__law_text T.k__law_text D.B__law_text .nil pass0 (pa_cons (pv 2) pa_nil)))
        (pss_cons (ps_if (PW.pt (pw_or (pt_not (pt_val (pe_call G__law_same (hr.mono (by decide)) rfl T.f__law_same T.k__law_same D.B__law_same .nil pass0 (pa_cons (pe_call G_write_values (hr.mono (by decide)) rfl T.f_write_values T.k_write_values D.B_write_values .nil pass0 (pa_cons (pv 2) pa_nil)) (pa_cons (pv 3) pa_nil))))) (pw_or1 (pt_not (pt_val (pe_call G__law_read (hr.mono (by decide)) rfl T.f__law_read T.k__law_read D.B__law_read .nil pass0 (pa_cons (pv 3) pa_nil))))))) (pss_one (ps_ret pe_bl)) pss_nil)
        (pss_cons (ps_if (PW.pt (pw_or (pt_not (pt_val (pe_call G__law_read (hr.mono (by decide)) rfl T.f__law_read T.k__law_read D.B__law_read .nil pass0 (pa_cons (pe_call G__law_exchanged (hr.mono (by decide)) rfl T.f__law_exchanged T.k__law_exchanged D.B__law_exchanged .nil pass0 (pa_cons (pv 1) (pa_cons (pv 3) pa_nil))) pa_nil)))) (pw_or1 (pt_not (pt_val (pe_call G__law_read (hr.mono (by decide)) rfl T.f__law_read T.k__law_read D.B__law_read .nil pass0 (pa_cons (pe_call G__law_doubled (hr.mono (by decide)) rfl T.f__law_doubled T.k__law_doubled D.B__law_doubled .nil pass0 (pa_cons (pv 1) (pa_cons (pv 3) pa_nil))) pa_nil))))))) (pss_one (ps_ret pe_bl)) pss_nil)
        (pss_cons (ps_if (PW.pt (pw_or (pt_not (pt_val (pe_call G__law_read (hr.mono (by decide)) rfl T.f__law_read T.k__law_read D.B__law_read .nil pass0 (pa_cons (pe_call G__law_bent (hr.mono (by decide)) rfl T.f__law_bent T.k__law_bent D.B__law_bent .nil pass0 (pa_cons (pv 1) (pa_cons (pv 3) (pa_cons pe_int pa_nil)))) pa_nil)))) (pw_or1 (pt_not (pt_val (pe_call G__law_read (hr.mono (by decide)) rfl T.f__law_read T.k__law_read D.B__law_read .nil pass0 (pa_cons (pe_call G__law_near (hr.mono (by decide)) rfl T.f__law_near T.k__law_near D.B__law_near .nil pass0 (pa_cons (pv 1) (pa_cons (pv 3) pa_nil))) pa_nil))))))) (pss_one (ps_ret pe_bl)) pss_nil)
        (pss_cons (ps_set (i := 4) sc_law.nd rfl (Or.inl rfl) (pe_ix ix_list (pe_call G__law_names (hr.mono (by decide)) rfl T.f__law_names T.k__law_names D.B__law_names .nil pass0 (pa_cons (pv 1) (pa_cons pe_int pa_nil))) pe_int (fun _ _ => rfl)))
        (pss_one (ps_ret (pe_and (pe_call G__law_read (hr.mono (by decide)) rfl T.f__law_read T.k__law_read D.B__law_read .nil pass0 (pa_cons (pe_op op_add_str (pe_op op_add_str (pv 4) pe_str) (pe_call G__law_digits (hr.mono (by decide)) rfl T.f__law_digits T.k__law_digits D.B__law_digits .nil pass0 (pa_cons (pv 1) pa_nil))) pa_nil)) (pe_one (pe_call G__law_read (hr.mono (by decide)) rfl T.f__law_read T.k__law_read D.B__law_read .nil pass0 (pa_cons (pe_call G__law_free (hr.mono (by decide)) rfl T.f__law_free T.k__law_free D.B__law_free .nil pass0 (pa_cons (pv 1) (pa_cons pe_int pa_nil))) pa_nil))))))))))))), ?_⟩
    refine ⟨_, rfl, a, ns, rfl, hsq, fun b H1 e1 hb X1 => ?_⟩
    refine ⟨_, rfl, b, rfl, X1, fun v ms ts H2 sm dv k2 X2 => ?_⟩
    refine ⟨_, rfl, v, ms, ts, rfl, dv, sm, fun H3 x3 => ?_⟩
    have tz := text_small sm
    generalize hz : textOf ms ts = z at tz ⊢
    have w24 : (wordsS z).length < 64 := by rw [words_len]; omega
    have zl : z.length ≤ 100000 := by omega
    have X3 := X2.ex x3
    refine ⟨_, rfl, v, ms, ts, rfl, Dp.ex x3 dv, sm, fun H4 x4 => ?_⟩
    have X4 := X3.ex x4
    rw [hz]
    refine ⟨_, rfl, _, _, .str z, rfl, .str _, .str _, True.intro, fun H5 x5 => ?_⟩
    have X5 := X4.ex x5
    refine ⟨_, rfl, iteF' rfl ⟨_, rfl, z, rfl, zl, w24, fun H6 x6 => ⟨_, rfl, iteF' rfl ?_⟩⟩⟩
    have X6 := X5.ex x6
    refine ⟨_, rfl, _, rfl, b, z, rfl, X6, tz.1, tz.2, fun y1 H7 l7 w7 k7 X7 => ⟨y1, rfl, l7, w7, fun H8 x8 => ?_⟩⟩
    have X8 := X7.ex x8
    refine ⟨_, rfl, iteF' rfl ?_⟩
    refine ⟨_, rfl, _, rfl, b, z, rfl, X8, tz.1, tz.2, fun y2 H9 l9 w9 k9 X9 => ⟨y2, rfl, l9, w9, fun H10 x10 => ⟨_, rfl, iteF' rfl ?_⟩⟩⟩
    have X10 := X9.ex x10
    refine ⟨_, rfl, _, rfl, b, z, rfl, X10, by omega, fun y3 H11 l11 w11 k11 X11 => ⟨y3, rfl, by omega, by rw [words_len]; omega, fun H12 x12 => ?_⟩⟩
    have X12 := X11.ex x12
    refine ⟨_, rfl, iteF' rfl ?_⟩
    refine ⟨_, rfl, _, rfl, b, z, rfl, X12, tz.1, tz.2, fun y4 H13 l13 w13 k13 X13 => ⟨y4, rfl, l13, w13, fun H14 x14 => ⟨_, rfl, iteF' rfl ?_⟩⟩⟩
    have X14 := X13.ex x14
    refine ⟨_, rfl, b, 1, rfl, X14, by decide, fun l xs H15 hl hlb N hxl k15 X15 => ?_⟩
    obtain ⟨x, rfl⟩ : ∃ x, xs = [x] := by
      match xs, hxl with
      | [x], _ => exact ⟨x, rfl⟩
    have nx := name_small (N.2 x (by simp))
    refine ⟨l, _, 0, .str x, rfl, rfl, SqL.of (K := K) N.1, rfl, ?_⟩
    have e1 : ("=" : Str).length = 1 := by decide +kernel
    have e2 : sp32 "=" = 0 := by decide +kernel
    have b100 : 1000 ≤ sizeLine := by decide
    refine ⟨_, rfl, _, _, rfl, rfl, by rw [e1]; omega, _, rfl, b, rfl, X15, fun y5 H16 l16 s16 k16 X16 => ?_⟩
    have l5 : (x ++ "=").length ≤ 9 := by rw [app_len, e1]; omega
    have s5 : sp32 (x ++ "=") = 0 := by rw [sp_app, e2]; omega
    refine ⟨_, _, rfl, rfl, by omega, _, rfl, by rw [app_len]; omega, by rw [words_len, sp_app]; omega, fun H17 x17 => ?_⟩
    have X17 := X16.ex x17
    refine ⟨_, rfl, iteT' rfl ?_⟩
    refine ⟨_, rfl, b, rfl, X17, fun y6 H18 l18 k18 X18 => ⟨y6, rfl, by omega, by rw [words_len]; have := sp_le y6; omega, fun H19 x19 => q _⟩⟩
end
end A4
set_option maxRecDepth 100000
set_option maxHeartbeats 4000000
namespace A4
open PySem L2 Evl

theorem kit_me {K : PySem.W.Frag} {C : Addr} : PySem.W.kitOne K (.ref C) (.ref C) = some true := by
  unfold PySem.W.kitOne
  rw [if_pos (beq_self_eq_true _)]
theorem kit_ref {K : PySem.W.Frag} {C D : Addr} {v : Bool} (h1 : PySem.W.subIn K (.ref C) (.ref C) = some true) (h2 : PySem.W.subIn K (.ref C) (.ref D) = some v) (hd : PySem.W.hasDictIn K D = true) (ht : PySem.W.typeIn K (.ref D) = some (.type "type")) : PySem.W.kitOne K (.ref C) (.ref D) = some v := by
  by_cases ne : C = D
  · subst ne
    obtain rfl : true = v := Option.some.inj (h1.symm.trans h2)
    exact kit_me
  · obtain ⟨cd, hc, _⟩ := PySem.W.any_some hd
    have e2 : ((PySem.W.clsIn K D).isSome && PySem.W.typeIn K (.ref D) == some (.type "type")) = true := by rw [hc, ht] <;> rfl
    unfold PySem.W.kitOne
    rw [if_neg (fun z => ne (Value.ref.inj (eq_of_beq z)))]
    show (if ((PySem.W.clsIn K D).isSome && PySem.W.typeIn K (.ref D) == some (.type "type")) = true then PySem.W.subIn K (.ref C) (.ref D) else none) = some v
    rw [if_pos e2]
    exact h2
theorem kit_type {K : PySem.W.Frag} {C : Addr} {T : String} {v : Bool} (hm : PySem.W.kitMeta T = true) (h2 : PySem.W.subIn K (.ref C) (.type T) = some v) : PySem.W.kitOne K (.ref C) (.type T) = some v := by
  unfold PySem.W.kitOne
  rw [if_neg (fun z => nomatch (eq_of_beq z : Value.ref C = Value.type T))]
  show (if PySem.W.kitMeta T = true then PySem.W.subIn K (.ref C) (.type T) else none) = some v
  rw [if_pos hm]
  exact h2

theorem all_mk {l : PySem.W.OpenLaw} {w : World} {K : PySem.W.Frag} {h : Heap} {mg : Str → Option Value} {fa cR cN cL cC cT cU fX f1 f2 f3 f4 f5 f6 f7 f8 f9 f10 f11 f12 f13 f14 f15 f16 f17 f18 f19 f20 f21 f22 f23 f24 f25 f26 f27 : Addr} (X : K.In h) (G : h.Ns mainGlobals mg) (hfa : mg "law" = some (.ref fa))
    {od0 an0 od1 an1 od2 an2 od3 an3 od4 an4 od5 an5 od6 an6 od7 an7 od8 an8 od9 an9 od10 an10 od11 an11 od12 an12 od13 an13 od14 an14 od15 an15 od16 an16 od17 an17 od18 an18 od19 an19 od20 an20 od21 an21 od22 an22 od23 an23 od24 an24 od25 an25 od26 an26 od27 an27 : Option Addr} {sl0 sl1 sl2 sl3 sl4 sl5 sl6 sl7 sl8 sl9 sl10 sl11 sl12 sl13 sl14 sl15 sl16 sl17 sl18 sl19 sl20 sl21 sl22 sl23 sl24 sl25 sl26 sl27 : Array (Option Value)} {oc0 dc0 pm0 ct0 oc1 kV1 dc1 pm1 cd1 ct1 oc2 kV2 dc2 pm2 cd2 ct2 oc3 kV3 dc3 pm3 cd3 ct3 oc4 kV4 dc4 pm4 cd4 ct4 oc5 kV5 dc5 pm5 cd5 ct5 oc6 kV6 dc6 pm6 cd6 ct6 oc7 kV7 dc7 pm7 cd7 ct7 oc8 kV8 dc8 pm8 cd8 ct8 oc9 kV9 dc9 pm9 cd9 ct9 oc10 kV10 dc10 pm10 cd10 ct10 oc11 kV11 dc11 pm11 cd11 ct11 oc12 kV12 dc12 pm12 cd12 ct12 oc13 kV13 dc13 pm13 cd13 ct13 oc14 kV14 dc14 pm14 cd14 ct14 oc15 kV15 dc15 pm15 cd15 ct15 oc16 kV16 dc16 pm16 cd16 ct16 oc17 kV17 dc17 pm17 cd17 ct17 oc18 kV18 dc18 pm18 cd18 ct18 oc19 kV19 dc19 pm19 cd19 ct19 oc20 kV20 dc20 pm20 cd20 ct20 oc21 kV21 dc21 pm21 cd21 ct21 oc22 kV22 dc22 pm22 cd22 ct22 oc23 kV23 dc23 pm23 cd23 ct23 oc24 kV24 dc24 pm24 cd24 ct24 oc25 kV25 dc25 pm25 cd25 ct25 oc26 kV26 dc26 pm26 cd26 ct26 oc27 kV27 dc27 pm27 cd27 ct27 : Value}
    {nm q : Str} {NN : Addr} {bs bm : List Value} {sn : List Str} {sub : List Value} {ab : Bool} {col : Option Bool} {dd : Option Addr} {m0 m1 m2 m3 m5 : Option Value} {cda cc : Addr}
    {cl0 ccl : Value} {cld cdd : Option Addr} {csl ccs : Array (Option Value)} {rvs : Array Value} {file : Str} {tf t1 t2 t3 t4 t5 : Tok}
    (a1 : PySem.W.nsIn K mainGlobals "is_name" = some (some (.ref f1)))
    (l1 : K.lookup f1 = some ⟨oc1, od1, .func (PySem.W.fnOf "is_name" "is_name" (defArgs s_is_name) (defBody s_is_name) (defScope s_is_name) .none kV1 dc1 pm1 an1 cd1 ct1), sl1⟩)
    (c1 : PySem.W.codeIn K cd1 "is_name" = true)
    (k1 : PySem.W.keepIn K (.ref f1) = true)
    (a2 : PySem.W.nsIn K mainGlobals "write_values" = some (some (.ref f2)))
    (l2 : K.lookup f2 = some ⟨oc2, od2, .func (PySem.W.fnOf "write_values" "write_values" (defArgs s_write_values) (defBody s_write_values) (defScope s_write_values) .none kV2 dc2 pm2 an2 cd2 ct2), sl2⟩)
    (c2 : PySem.W.codeIn K cd2 "write_values" = true)
    (k2 : PySem.W.keepIn K (.ref f2) = true)
    (a3 : PySem.W.nsIn K mainGlobals "is_number" = some (some (.ref f3)))
    (l3 : K.lookup f3 = some ⟨oc3, od3, .func (PySem.W.fnOf "is_number" "is_number" (defArgs s_is_number) (defBody s_is_number) (defScope s_is_number) .none kV3 dc3 pm3 an3 cd3 ct3), sl3⟩)
    (c3 : PySem.W.codeIn K cd3 "is_number" = true)
    (k3 : PySem.W.keepIn K (.ref f3) = true)
    (a4 : PySem.W.nsIn K mainGlobals "told_integer" = some (some (.ref f4)))
    (l4 : K.lookup f4 = some ⟨oc4, od4, .func (PySem.W.fnOf "told_integer" "told_integer" (defArgs s_told_integer) (defBody s_told_integer) (defScope s_told_integer) .none kV4 dc4 pm4 an4 cd4 ct4), sl4⟩)
    (c4 : PySem.W.codeIn K cd4 "told_integer" = true)
    (k4 : PySem.W.keepIn K (.ref f4) = true)
    (a5 : PySem.W.nsIn K mainGlobals "told_time" = some (some (.ref f5)))
    (l5 : K.lookup f5 = some ⟨oc5, od5, .func (PySem.W.fnOf "told_time" "told_time" (defArgs s_told_time) (defBody s_told_time) (defScope s_told_time) .none kV5 dc5 pm5 an5 cd5 ct5), sl5⟩)
    (c5 : PySem.W.codeIn K cd5 "told_time" = true)
    (k5 : PySem.W.keepIn K (.ref f5) = true)
    (a6 : PySem.W.nsIn K mainGlobals "told_values" = some (some (.ref f6)))
    (l6 : K.lookup f6 = some ⟨oc6, od6, .func (PySem.W.fnOf "told_values" "told_values" (defArgs s_told_values) (defBody s_told_values) (defScope s_told_values) .none kV6 dc6 pm6 an6 cd6 ct6), sl6⟩)
    (c6 : PySem.W.codeIn K cd6 "told_values" = true)
    (k6 : PySem.W.keepIn K (.ref f6) = true)
    (a7 : PySem.W.nsIn K mainGlobals "read_values" = some (some (.ref f7)))
    (l7 : K.lookup f7 = some ⟨oc7, od7, .func (PySem.W.fnOf "read_values" "read_values" (defArgs s_read_values) (defBody s_read_values) (defScope s_read_values) .none kV7 dc7 pm7 an7 cd7 ct7), sl7⟩)
    (c7 : PySem.W.codeIn K cd7 "read_values" = true)
    (k7 : PySem.W.keepIn K (.ref f7) = true)
    (a8 : PySem.W.nsIn K mainGlobals "_law_bag" = some (some (.ref f8)))
    (l8 : K.lookup f8 = some ⟨oc8, od8, .func (PySem.W.fnOf "_law_bag" "_law_bag" (defArgs s_law_bag) (defBody s_law_bag) (defScope s_law_bag) .none kV8 dc8 pm8 an8 cd8 ct8), sl8⟩)
    (c8 : PySem.W.codeIn K cd8 "_law_bag" = true)
    (k8 : PySem.W.keepIn K (.ref f8) = true)
    (a9 : PySem.W.nsIn K mainGlobals "_law_take" = some (some (.ref f9)))
    (l9 : K.lookup f9 = some ⟨oc9, od9, .func (PySem.W.fnOf "_law_take" "_law_take" (defArgs s_law_take) (defBody s_law_take) (defScope s_law_take) .none kV9 dc9 pm9 an9 cd9 ct9), sl9⟩)
    (c9 : PySem.W.codeIn K cd9 "_law_take" = true)
    (k9 : PySem.W.keepIn K (.ref f9) = true)
    (a10 : PySem.W.nsIn K mainGlobals "_law_names" = some (some (.ref f10)))
    (l10 : K.lookup f10 = some ⟨oc10, od10, .func (PySem.W.fnOf "_law_names" "_law_names" (defArgs s_law_names) (defBody s_law_names) (defScope s_law_names) .none kV10 dc10 pm10 an10 cd10 ct10), sl10⟩)
    (c10 : PySem.W.codeIn K cd10 "_law_names" = true)
    (k10 : PySem.W.keepIn K (.ref f10) = true)
    (a11 : PySem.W.nsIn K mainGlobals "_law_integer" = some (some (.ref f11)))
    (l11 : K.lookup f11 = some ⟨oc11, od11, .func (PySem.W.fnOf "_law_integer" "_law_integer" (defArgs s_law_integer) (defBody s_law_integer) (defScope s_law_integer) .none kV11 dc11 pm11 an11 cd11 ct11), sl11⟩)
    (c11 : PySem.W.codeIn K cd11 "_law_integer" = true)
    (k11 : PySem.W.keepIn K (.ref f11) = true)
    (a12 : PySem.W.nsIn K mainGlobals "_law_same" = some (some (.ref f12)))
    (l12 : K.lookup f12 = some ⟨oc12, od12, .func (PySem.W.fnOf "_law_same" "_law_same" (defArgs s_law_same) (defBody s_law_same) (defScope s_law_same) .none kV12 dc12 pm12 an12 cd12 ct12), sl12⟩)
    (c12 : PySem.W.codeIn K cd12 "_law_same" = true)
    (k12 : PySem.W.keepIn K (.ref f12) = true)
    (a13 : PySem.W.nsIn K mainGlobals "_law_is_name" = some (some (.ref f13)))
    (l13 : K.lookup f13 = some ⟨oc13, od13, .func (PySem.W.fnOf "_law_is_name" "_law_is_name" (defArgs s_law_is_name) (defBody s_law_is_name) (defScope s_law_is_name) .none kV13 dc13 pm13 an13 cd13 ct13), sl13⟩)
    (c13 : PySem.W.codeIn K cd13 "_law_is_name" = true)
    (k13 : PySem.W.keepIn K (.ref f13) = true)
    (a14 : PySem.W.nsIn K mainGlobals "_law_number" = some (some (.ref f14)))
    (l14 : K.lookup f14 = some ⟨oc14, od14, .func (PySem.W.fnOf "_law_number" "_law_number" (defArgs s_law_number) (defBody s_law_number) (defScope s_law_number) .none kV14 dc14 pm14 an14 cd14 ct14), sl14⟩)
    (c14 : PySem.W.codeIn K cd14 "_law_number" = true)
    (k14 : PySem.W.keepIn K (.ref f14) = true)
    (a15 : PySem.W.nsIn K mainGlobals "_law_values_of" = some (some (.ref f15)))
    (l15 : K.lookup f15 = some ⟨oc15, od15, .func (PySem.W.fnOf "_law_values_of" "_law_values_of" (defArgs s_law_values_of) (defBody s_law_values_of) (defScope s_law_values_of) .none kV15 dc15 pm15 an15 cd15 ct15), sl15⟩)
    (c15 : PySem.W.codeIn K cd15 "_law_values_of" = true)
    (k15 : PySem.W.keepIn K (.ref f15) = true)
    (a16 : PySem.W.nsIn K mainGlobals "_law_text" = some (some (.ref f16)))
    (l16 : K.lookup f16 = some ⟨oc16, od16, .func (PySem.W.fnOf "_law_text" "_law_text" (defArgs s_law_text) (defBody s_law_text) (defScope s_law_text) .none kV16 dc16 pm16 an16 cd16 ct16), sl16⟩)
    (c16 : PySem.W.codeIn K cd16 "_law_text" = true)
    (k16 : PySem.W.keepIn K (.ref f16) = true)
    (a17 : PySem.W.nsIn K mainGlobals "_law_sign" = some (some (.ref f17)))
    (l17 : K.lookup f17 = some ⟨oc17, od17, .func (PySem.W.fnOf "_law_sign" "_law_sign" (defArgs s_law_sign) (defBody s_law_sign) (defScope s_law_sign) .none kV17 dc17 pm17 an17 cd17 ct17), sl17⟩)
    (c17 : PySem.W.codeIn K cd17 "_law_sign" = true)
    (k17 : PySem.W.keepIn K (.ref f17) = true)
    (a18 : PySem.W.nsIn K mainGlobals "_law_bent" = some (some (.ref f18)))
    (l18 : K.lookup f18 = some ⟨oc18, od18, .func (PySem.W.fnOf "_law_bent" "_law_bent" (defArgs s_law_bent) (defBody s_law_bent) (defScope s_law_bent) .none kV18 dc18 pm18 an18 cd18 ct18), sl18⟩)
    (c18 : PySem.W.codeIn K cd18 "_law_bent" = true)
    (k18 : PySem.W.keepIn K (.ref f18) = true)
    (a19 : PySem.W.nsIn K mainGlobals "_law_free" = some (some (.ref f19)))
    (l19 : K.lookup f19 = some ⟨oc19, od19, .func (PySem.W.fnOf "_law_free" "_law_free" (defArgs s_law_free) (defBody s_law_free) (defScope s_law_free) .none kV19 dc19 pm19 an19 cd19 ct19), sl19⟩)
    (c19 : PySem.W.codeIn K cd19 "_law_free" = true)
    (k19 : PySem.W.keepIn K (.ref f19) = true)
    (a20 : PySem.W.nsIn K mainGlobals "_law_digits" = some (some (.ref f20)))
    (l20 : K.lookup f20 = some ⟨oc20, od20, .func (PySem.W.fnOf "_law_digits" "_law_digits" (defArgs s_law_digits) (defBody s_law_digits) (defScope s_law_digits) .none kV20 dc20 pm20 an20 cd20 ct20), sl20⟩)
    (c20 : PySem.W.codeIn K cd20 "_law_digits" = true)
    (k20 : PySem.W.keepIn K (.ref f20) = true)
    (a21 : PySem.W.nsIn K mainGlobals "_law_own" = some (some (.ref f21)))
    (l21 : K.lookup f21 = some ⟨oc21, od21, .func (PySem.W.fnOf "_law_own" "_law_own" (defArgs s_law_own) (defBody s_law_own) (defScope s_law_own) .none kV21 dc21 pm21 an21 cd21 ct21), sl21⟩)
    (c21 : PySem.W.codeIn K cd21 "_law_own" = true)
    (k21 : PySem.W.keepIn K (.ref f21) = true)
    (a22 : PySem.W.nsIn K mainGlobals "_law_read" = some (some (.ref f22)))
    (l22 : K.lookup f22 = some ⟨oc22, od22, .func (PySem.W.fnOf "_law_read" "_law_read" (defArgs s_law_read) (defBody s_law_read) (defScope s_law_read) .none kV22 dc22 pm22 an22 cd22 ct22), sl22⟩)
    (c22 : PySem.W.codeIn K cd22 "_law_read" = true)
    (k22 : PySem.W.keepIn K (.ref f22) = true)
    (a23 : PySem.W.nsIn K mainGlobals "_law_values" = some (some (.ref f23)))
    (l23 : K.lookup f23 = some ⟨oc23, od23, .func (PySem.W.fnOf "_law_values" "_law_values" (defArgs s_law_values) (defBody s_law_values) (defScope s_law_values) .none kV23 dc23 pm23 an23 cd23 ct23), sl23⟩)
    (c23 : PySem.W.codeIn K cd23 "_law_values" = true)
    (k23 : PySem.W.keepIn K (.ref f23) = true)
    (a24 : PySem.W.nsIn K mainGlobals "_law_exchanged" = some (some (.ref f24)))
    (l24 : K.lookup f24 = some ⟨oc24, od24, .func (PySem.W.fnOf "_law_exchanged" "_law_exchanged" (defArgs s_law_exchanged) (defBody s_law_exchanged) (defScope s_law_exchanged) .none kV24 dc24 pm24 an24 cd24 ct24), sl24⟩)
    (c24 : PySem.W.codeIn K cd24 "_law_exchanged" = true)
    (k24 : PySem.W.keepIn K (.ref f24) = true)
    (a25 : PySem.W.nsIn K mainGlobals "_law_doubled" = some (some (.ref f25)))
    (l25 : K.lookup f25 = some ⟨oc25, od25, .func (PySem.W.fnOf "_law_doubled" "_law_doubled" (defArgs s_law_doubled) (defBody s_law_doubled) (defScope s_law_doubled) .none kV25 dc25 pm25 an25 cd25 ct25), sl25⟩)
    (c25 : PySem.W.codeIn K cd25 "_law_doubled" = true)
    (k25 : PySem.W.keepIn K (.ref f25) = true)
    (a26 : PySem.W.nsIn K mainGlobals "_law_near" = some (some (.ref f26)))
    (l26 : K.lookup f26 = some ⟨oc26, od26, .func (PySem.W.fnOf "_law_near" "_law_near" (defArgs s_law_near) (defBody s_law_near) (defScope s_law_near) .none kV26 dc26 pm26 an26 cd26 ct26), sl26⟩)
    (c26 : PySem.W.codeIn K cd26 "_law_near" = true)
    (k26 : PySem.W.keepIn K (.ref f26) = true)
    (a27 : PySem.W.nsIn K mainGlobals "law" = some (some (.ref f27)))
    (l27 : K.lookup f27 = some ⟨oc27, od27, .func (PySem.W.fnOf "law" "law" (defArgs s_law) (defBody s_law) (defScope s_law) .none kV27 dc27 pm27 an27 cd27 ct27), sl27⟩)
    (c27 : PySem.W.codeIn K cd27 "law" = true)
    (k27 : PySem.W.keepIn K (.ref f27) = true)
    (z_isinstance : PySem.W.nsIn K mainGlobals "isinstance" = some none)
    (z_str : PySem.W.nsIn K mainGlobals "str" = some none)
    (z_int : PySem.W.nsIn K mainGlobals "int" = some none)
    (z_bool : PySem.W.nsIn K mainGlobals "bool" = some none)
    (z_tuple : PySem.W.nsIn K mainGlobals "tuple" = some none)
    (z_list : PySem.W.nsIn K mainGlobals "list" = some none)
    (z_len : PySem.W.nsIn K mainGlobals "len" = some none)
    (z_all : PySem.W.nsIn K mainGlobals "all" = some none)
    (z_any : PySem.W.nsIn K mainGlobals "any" = some none)
    (z_sum : PySem.W.nsIn K mainGlobals "sum" = some none)
    (z_zip : PySem.W.nsIn K mainGlobals "zip" = some none)
    (z_range : PySem.W.nsIn K mainGlobals "range" = some none)
    (z_sorted : PySem.W.nsIn K mainGlobals "sorted" = some none)
    (z_set : PySem.W.nsIn K mainGlobals "set" = some none)
    (z_super : PySem.W.nsIn K mainGlobals "super" = some none)
    (z_abs : PySem.W.nsIn K mainGlobals "abs" = some none)
    (z_ValueError : PySem.W.nsIn K mainGlobals "ValueError" = some none)
    (aLt : PySem.W.nsIn K mainGlobals "LETTERS" = some (some (.str letters t1)))
    (aSg : PySem.W.nsIn K mainGlobals "SIGNS" = some (some (.str signs t2)))
    (aLn : PySem.W.nsIn K mainGlobals "LONGEST_NAME" = some (some (.int 8 t3)))
    (aDg : PySem.W.nsIn K mainGlobals "DIGITS" = some (some (.str digits t4)))
    (aMd : PySem.W.nsIn K mainGlobals "MOST_DIGITS" = some (some (.int 200 t5)))
    (aR : PySem.W.nsIn K mainGlobals "RingclauseError" = some (some (.ref cR)))
    (aN : PySem.W.nsIn K mainGlobals "InvalidName" = some (some (.ref cN)))
    (aL : PySem.W.nsIn K mainGlobals "InvalidLiteral" = some (some (.ref cL)))
    (aC : PySem.W.nsIn K mainGlobals "InvalidClause" = some (some (.ref cC)))
    (aT : PySem.W.nsIn K mainGlobals "InvalidText" = some (some (.ref cT)))
    (aU : PySem.W.nsIn K mainGlobals "UnknownMoment" = some (some (.ref cU)))
    (hR : PySem.W.hasDictIn K cR = true)
    (yR : PySem.W.typeIn K (.ref cR) = some (.type "type"))
    (sR : PySem.W.subIn K (.ref cT) (.ref cR) = some true)
    (hN : PySem.W.hasDictIn K cN = true)
    (yN : PySem.W.typeIn K (.ref cN) = some (.type "type"))
    (sN : PySem.W.subIn K (.ref cT) (.ref cN) = some false)
    (hL : PySem.W.hasDictIn K cL = true)
    (yL : PySem.W.typeIn K (.ref cL) = some (.type "type"))
    (sL : PySem.W.subIn K (.ref cT) (.ref cL) = some false)
    (hC : PySem.W.hasDictIn K cC = true)
    (yC : PySem.W.typeIn K (.ref cC) = some (.type "type"))
    (sC : PySem.W.subIn K (.ref cT) (.ref cC) = some false)
    (hT : PySem.W.hasDictIn K cT = true)
    (yT : PySem.W.typeIn K (.ref cT) = some (.type "type"))
    (sT : PySem.W.subIn K (.ref cT) (.ref cT) = some true)
    (hU : PySem.W.hasDictIn K cU = true)
    (yU : PySem.W.typeIn K (.ref cU) = some (.type "type"))
    (sU : PySem.W.subIn K (.ref cT) (.ref cU) = some false)
    (xI : K.lookup cT = some (excClassObj nm q cT NN bs bm true sn sub ab col dd m0 m1 m2 m3 m5 "ValueError.__new__"))
    (rv : PySem.HandSPX.refsVE bm = true)
    (sa : PySem.W.findIn K (.ref cT) "__setattr__" = some (some (.builtin "object.__setattr__")))
    (ga : PySem.W.findIn K (.ref cT) "__getattribute__" = some (some (.builtin "BaseException.__getattribute__")))
    (gg : PySem.W.findIn K (.ref cT) "__getattr__" = some none)
    (nF : PySem.W.findIn K (.ref cT) "line" = some none)
    (iX : PySem.W.findIn K (.ref cT) "__init__" = some (some (.ref fX)))
    (tF : PySem.W.typeIn K (.ref fX) = some (.type "function"))
    (kI : PySem.W.keepIn K (.ref cT) = true)
    (eI : PySem.W.subIn K (.ref cT) (.type "BaseException") = some true)
    (vI : PySem.W.subIn K (.ref cT) (.type "ValueError") = some true)
    (mI : PySem.W.mroIn K cT (.ref cT) = some true)
    (oq : PySem.W.nsIn K cStatics "thirdparty.any" = some none)
    (su : PySem.W.ks_superIn K cT cT "__init__" = some (some (.builtin "ValueError.__init__")))
    (hTop : (l.prog.main.scope.names.lookup ("super" : Str)).isSome = false)
    (lX : K.lookup fX = some ⟨oc0, od0, .func (PySem.Sup.sFn "line" "not a text of this form" "InvalidText.__init__" ⟨21, 17, 21, 21⟩ ⟨21, 23, 21, 27⟩ ⟨22, 8, 22, 13⟩ ⟨22, 8, 22, 15⟩ ⟨22, 8, 22, 24⟩ ⟨22, 25, 22, 50⟩ ⟨22, 8, 22, 51⟩ ⟨22, 8, 22, 51⟩ ⟨23, 8, 23, 12⟩ ⟨23, 8, 23, 17⟩ ⟨23, 20, 23, 24⟩ ⟨23, 8, 23, 24⟩ dc0 pm0 an0 cda cc ct0), sl0⟩)
    (cX : PySem.W.codeIn K (.ref cda) "InvalidText.__init__" = true)
    (lC : K.lookup cc = some ⟨cl0, cld, .cell (some (.ref cT)), csl⟩)
    (lD : K.lookup cda = some ⟨ccl, cdd, .fields rvs, ccs⟩)
    (rf : rvs[2]? = some (.str file tf))
    (fi : ((l.prog.main.file : Str) == file) = true)
    (ka : PySem.W.findIn K (.ref cT) "__class__" = some (some (.builtin "object.__class__")))
    (kn : PySem.W.specialIn K (.builtin "object.__class__") "__get__" = some (some (.builtin "getset_descriptor.__get__")))
    (kt : PySem.W.takesIn K (.builtin "object.__class__") = some true)
    (km : PySem.W.mroIn K cT (.type "object") = some true) :
    ∃ fd : FuncData, (∀ (s : Shared) (v : Value), BindsTo s fd ⟨[v], []⟩ [("script", v)]) ∧ ∀ base : Heap, K.In base → base.Ns mainGlobals mg → FnOk l.prog w K mg base CX0 8 fa fd ["script"] (spLaw K) := by
  have e := hfa.symm.trans (PySem.W.mg_of X G a27)
  cases e
  have g1 := PySem.W.mg_of X G a1
  have F1 := fun_mk (st := s_is_name) l1 c1 k1
  have b1 := F1.binds (ps := ["value"]) fun _ _ _ _ _ _ us hl => match us, hl with | [_], _ => rfl
  have g2 := PySem.W.mg_of X G a2
  have F2 := fun_mk (st := s_write_values) l2 c2 k2
  have b2 := F2.binds (ps := ["values"]) fun _ _ _ _ _ _ us hl => match us, hl with | [_], _ => rfl
  have g3 := PySem.W.mg_of X G a3
  have F3 := fun_mk (st := s_is_number) l3 c3 k3
  have b3 := F3.binds (ps := ["text", "most"]) fun _ _ _ _ _ _ us hl => match us, hl with | [_, _], _ => rfl
  have g4 := PySem.W.mg_of X G a4
  have F4 := fun_mk (st := s_told_integer) l4 c4 k4
  have b4 := F4.binds (ps := ["text"]) fun _ _ _ _ _ _ us hl => match us, hl with | [_], _ => rfl
  have g5 := PySem.W.mg_of X G a5
  have F5 := fun_mk (st := s_told_time) l5 c5 k5
  have b5 := F5.binds (ps := ["text"]) fun _ _ _ _ _ _ us hl => match us, hl with | [_], _ => rfl
  have g6 := PySem.W.mg_of X G a6
  have F6 := fun_mk (st := s_told_values) l6 c6 k6
  have b6 := F6.binds (ps := ["text"]) fun _ _ _ _ _ _ us hl => match us, hl with | [_], _ => rfl
  have g7 := PySem.W.mg_of X G a7
  have F7 := fun_mk (st := s_read_values) l7 c7 k7
  have b7 := F7.binds (ps := ["text"]) fun _ _ _ _ _ _ us hl => match us, hl with | [_], _ => rfl
  have g8 := PySem.W.mg_of X G a8
  have F8 := fun_mk (st := s_law_bag) l8 c8 k8
  have b8 := F8.binds (ps := ["script"]) fun _ _ _ _ _ _ us hl => match us, hl with | [_], _ => rfl
  have g9 := PySem.W.mg_of X G a9
  have F9 := fun_mk (st := s_law_take) l9 c9 k9
  have b9 := F9.binds (ps := ["bag", "size"]) fun _ _ _ _ _ _ us hl => match us, hl with | [_, _], _ => rfl
  have g10 := PySem.W.mg_of X G a10
  have F10 := fun_mk (st := s_law_names) l10 c10 k10
  have b10 := F10.binds (ps := ["bag", "many"]) fun _ _ _ _ _ _ us hl => match us, hl with | [_, _], _ => rfl
  have g11 := PySem.W.mg_of X G a11
  have F11 := fun_mk (st := s_law_integer) l11 c11 k11
  have b11 := F11.binds (ps := ["bag"]) fun _ _ _ _ _ _ us hl => match us, hl with | [_], _ => rfl
  have g12 := PySem.W.mg_of X G a12
  have F12 := fun_mk (st := s_law_same) l12 c12 k12
  have b12 := F12.binds (ps := ["actual", "due"]) fun _ _ _ _ _ _ us hl => match us, hl with | [_, _], _ => rfl
  have g13 := PySem.W.mg_of X G a13
  have F13 := fun_mk (st := s_law_is_name) l13 c13 k13
  have b13 := F13.binds (ps := ["text"]) fun _ _ _ _ _ _ us hl => match us, hl with | [_], _ => rfl
  have g14 := PySem.W.mg_of X G a14
  have F14 := fun_mk (st := s_law_number) l14 c14 k14
  have b14 := F14.binds (ps := ["text"]) fun _ _ _ _ _ _ us hl => match us, hl with | [_], _ => rfl
  have g15 := PySem.W.mg_of X G a15
  have F15 := fun_mk (st := s_law_values_of) l15 c15 k15
  have b15 := F15.binds (ps := ["text"]) fun _ _ _ _ _ _ us hl => match us, hl with | [_], _ => rfl
  have g16 := PySem.W.mg_of X G a16
  have F16 := fun_mk (st := s_law_text) l16 c16 k16
  have b16 := F16.binds (ps := ["given"]) fun _ _ _ _ _ _ us hl => match us, hl with | [_], _ => rfl
  have g17 := PySem.W.mg_of X G a17
  have F17 := fun_mk (st := s_law_sign) l17 c17 k17
  have b17 := F17.binds (ps := ["bag"]) fun _ _ _ _ _ _ us hl => match us, hl with | [_], _ => rfl
  have g18 := PySem.W.mg_of X G a18
  have F18 := fun_mk (st := s_law_bent) l18 c18 k18
  have b18 := F18.binds (ps := ["bag", "text", "most"]) fun _ _ _ _ _ _ us hl => match us, hl with | [_, _, _], _ => rfl
  have g19 := PySem.W.mg_of X G a19
  have F19 := fun_mk (st := s_law_free) l19 c19 k19
  have b19 := F19.binds (ps := ["bag", "most"]) fun _ _ _ _ _ _ us hl => match us, hl with | [_, _], _ => rfl
  have g20 := PySem.W.mg_of X G a20
  have F20 := fun_mk (st := s_law_digits) l20 c20 k20
  have b20 := F20.binds (ps := ["bag"]) fun _ _ _ _ _ _ us hl => match us, hl with | [_], _ => rfl
  have g21 := PySem.W.mg_of X G a21
  have F21 := fun_mk (st := s_law_own) l21 c21 k21
  have b21 := F21.binds (ps := ["e"]) fun _ _ _ _ _ _ us hl => match us, hl with | [_], _ => rfl
  have g22 := PySem.W.mg_of X G a22
  have F22 := fun_mk (st := s_law_read) l22 c22 k22
  have b22 := F22.binds (ps := ["text"]) fun _ _ _ _ _ _ us hl => match us, hl with | [_], _ => rfl
  have g23 := PySem.W.mg_of X G a23
  have F23 := fun_mk (st := s_law_values) l23 c23 k23
  have b23 := F23.binds (ps := ["bag"]) fun _ _ _ _ _ _ us hl => match us, hl with | [_], _ => rfl
  have g24 := PySem.W.mg_of X G a24
  have F24 := fun_mk (st := s_law_exchanged) l24 c24 k24
  have b24 := F24.binds (ps := ["bag", "text"]) fun _ _ _ _ _ _ us hl => match us, hl with | [_, _], _ => rfl
  have g25 := PySem.W.mg_of X G a25
  have F25 := fun_mk (st := s_law_doubled) l25 c25 k25
  have b25 := F25.binds (ps := ["bag", "text"]) fun _ _ _ _ _ _ us hl => match us, hl with | [_, _], _ => rfl
  have g26 := PySem.W.mg_of X G a26
  have F26 := fun_mk (st := s_law_near) l26 c26 k26
  have b26 := F26.binds (ps := ["bag", "text"]) fun _ _ _ _ _ _ us hl => match us, hl with | [_, _], _ => rfl
  have g27 := PySem.W.mg_of X G a27
  have F27 := fun_mk (st := s_law) l27 c27 k27
  have b27 := F27.binds (ps := ["script"]) fun _ _ _ _ _ _ us hl => match us, hl with | [_], _ => rfl
  have n_isinstance := PySem.W.mg_none_of X G z_isinstance
  have n_str := PySem.W.mg_none_of X G z_str
  have n_int := PySem.W.mg_none_of X G z_int
  have n_bool := PySem.W.mg_none_of X G z_bool
  have n_tuple := PySem.W.mg_none_of X G z_tuple
  have n_list := PySem.W.mg_none_of X G z_list
  have n_len := PySem.W.mg_none_of X G z_len
  have n_all := PySem.W.mg_none_of X G z_all
  have n_any := PySem.W.mg_none_of X G z_any
  have n_sum := PySem.W.mg_none_of X G z_sum
  have n_zip := PySem.W.mg_none_of X G z_zip
  have n_range := PySem.W.mg_none_of X G z_range
  have n_sorted := PySem.W.mg_none_of X G z_sorted
  have n_set := PySem.W.mg_none_of X G z_set
  have n_super := PySem.W.mg_none_of X G z_super
  have n_abs := PySem.W.mg_none_of X G z_abs
  have n_ValueError := PySem.W.mg_none_of X G z_ValueError
  have sup : PySem.Sup.SupTxt K mg l.prog "InvalidText" "line" "not a text of this form" cT fX :=
    { gC := PySem.W.mg_of X G aT, ok := { bd := fun _ _ _ _ _ _ _ _ _ _ _ _ _ _ _ _ _ _ _ _ _ _ => rfl, lf := rfl, lc := rfl, ls := rfl, nd := by decide, ns := by decide }, cls := ⟨nm, q, NN, bs, bm, sn, sub, ab, col, dd, m0, m1, m2, m3, m5, xI, rv⟩,
      sa := sa, ga := ga, gg := gg, noF := nF, iC := iX, tF := tF, kC := kI, exC := eI, veC := vI, tyC := yT, hdC := hT, mC := mI, opq := oq, sup := su, htop := hTop, mgS := n_super,
      fn := ⟨oc0, od0, _, dc0, pm0, an0, cda, cc, ct0, sl0, _, _, _, _, _, _, _, _, _, _, _, _, lX, fun _ _ => ⟨_, rfl⟩, cX, ⟨cl0, cld, csl, lC⟩, ⟨ccl, cdd, rvs, ccs, file, tf, lD, rf, fi⟩⟩ }
  let a : Ad := { a_is_name := f1, a_write_values := f2, a_is_number := f3, a_told_integer := f4, a_told_time := f5, a_told_values := f6, a_read_values := f7, a_law_bag := f8, a_law_take := f9, a_law_names := f10, a_law_integer := f11, a_law_same := f12, a_law_is_name := f13, a_law_number := f14, a_law_values_of := f15, a_law_text := f16, a_law_sign := f17, a_law_bent := f18, a_law_free := f19, a_law_digits := f20, a_law_own := f21, a_law_read := f22, a_law_values := f23, a_law_exchanged := f24, a_law_doubled := f25, a_law_near := f26, a_law := fa, cR := cR, cN := cN, cL := cL, cC := cC, cT := cT, cU := cU, fX := fX, tL := t1, tS := t2, tN := t3, tD := t4, tM := t5 }
  let d : Fd := { a_is_name := PySem.W.fnOf "is_name" "is_name" (defArgs s_is_name) (defBody s_is_name) (defScope s_is_name) .none kV1 dc1 pm1 an1 cd1 ct1, a_write_values := PySem.W.fnOf "write_values" "write_values" (defArgs s_write_values) (defBody s_write_values) (defScope s_write_values) .none kV2 dc2 pm2 an2 cd2 ct2, a_is_number := PySem.W.fnOf "is_number" "is_number" (defArgs s_is_number) (defBody s_is_number) (defScope s_is_number) .none kV3 dc3 pm3 an3 cd3 ct3, a_told_integer := PySem.W.fnOf "told_integer" "told_integer" (defArgs s_told_integer) (defBody s_told_integer) (defScope s_told_integer) .none kV4 dc4 pm4 an4 cd4 ct4, a_told_time := PySem.W.fnOf "told_time" "told_time" (defArgs s_told_time) (defBody s_told_time) (defScope s_told_time) .none kV5 dc5 pm5 an5 cd5 ct5, a_told_values := PySem.W.fnOf "told_values" "told_values" (defArgs s_told_values) (defBody s_told_values) (defScope s_told_values) .none kV6 dc6 pm6 an6 cd6 ct6, a_read_values := PySem.W.fnOf "read_values" "read_values" (defArgs s_read_values) (defBody s_read_values) (defScope s_read_values) .none kV7 dc7 pm7 an7 cd7 ct7, a_law_bag := PySem.W.fnOf "_law_bag" "_law_bag" (defArgs s_law_bag) (defBody s_law_bag) (defScope s_law_bag) .none kV8 dc8 pm8 an8 cd8 ct8, a_law_take := PySem.W.fnOf "_law_take" "_law_take" (defArgs s_law_take) (defBody s_law_take) (defScope s_law_take) .none kV9 dc9 pm9 an9 cd9 ct9, a_law_names := PySem.W.fnOf "_law_names" "_law_names" (defArgs s_law_names) (defBody s_law_names) (defScope s_law_names) .none kV10 dc10 pm10 an10 cd10 ct10, a_law_integer := PySem.W.fnOf "_law_integer" "_law_integer" (defArgs s_law_integer) (defBody s_law_integer) (defScope s_law_integer) .none kV11 dc11 pm11 an11 cd11 ct11, a_law_same := PySem.W.fnOf "_law_same" "_law_same" (defArgs s_law_same) (defBody s_law_same) (defScope s_law_same) .none kV12 dc12 pm12 an12 cd12 ct12, a_law_is_name := PySem.W.fnOf "_law_is_name" "_law_is_name" (defArgs s_law_is_name) (defBody s_law_is_name) (defScope s_law_is_name) .none kV13 dc13 pm13 an13 cd13 ct13, a_law_number := PySem.W.fnOf "_law_number" "_law_number" (defArgs s_law_number) (defBody s_law_number) (defScope s_law_number) .none kV14 dc14 pm14 an14 cd14 ct14, a_law_values_of := PySem.W.fnOf "_law_values_of" "_law_values_of" (defArgs s_law_values_of) (defBody s_law_values_of) (defScope s_law_values_of) .none kV15 dc15 pm15 an15 cd15 ct15, a_law_text := PySem.W.fnOf "_law_text" "_law_text" (defArgs s_law_text) (defBody s_law_text) (defScope s_law_text) .none kV16 dc16 pm16 an16 cd16 ct16, a_law_sign := PySem.W.fnOf "_law_sign" "_law_sign" (defArgs s_law_sign) (defBody s_law_sign) (defScope s_law_sign) .none kV17 dc17 pm17 an17 cd17 ct17, a_law_bent := PySem.W.fnOf "_law_bent" "_law_bent" (defArgs s_law_bent) (defBody s_law_bent) (defScope s_law_bent) .none kV18 dc18 pm18 an18 cd18 ct18, a_law_free := PySem.W.fnOf "_law_free" "_law_free" (defArgs s_law_free) (defBody s_law_free) (defScope s_law_free) .none kV19 dc19 pm19 an19 cd19 ct19, a_law_digits := PySem.W.fnOf "_law_digits" "_law_digits" (defArgs s_law_digits) (defBody s_law_digits) (defScope s_law_digits) .none kV20 dc20 pm20 an20 cd20 ct20, a_law_own := PySem.W.fnOf "_law_own" "_law_own" (defArgs s_law_own) (defBody s_law_own) (defScope s_law_own) .none kV21 dc21 pm21 an21 cd21 ct21, a_law_read := PySem.W.fnOf "_law_read" "_law_read" (defArgs s_law_read) (defBody s_law_read) (defScope s_law_read) .none kV22 dc22 pm22 an22 cd22 ct22, a_law_values := PySem.W.fnOf "_law_values" "_law_values" (defArgs s_law_values) (defBody s_law_values) (defScope s_law_values) .none kV23 dc23 pm23 an23 cd23 ct23, a_law_exchanged := PySem.W.fnOf "_law_exchanged" "_law_exchanged" (defArgs s_law_exchanged) (defBody s_law_exchanged) (defScope s_law_exchanged) .none kV24 dc24 pm24 an24 cd24 ct24, a_law_doubled := PySem.W.fnOf "_law_doubled" "_law_doubled" (defArgs s_law_doubled) (defBody s_law_doubled) (defScope s_law_doubled) .none kV25 dc25 pm25 an25 cd25 ct25, a_law_near := PySem.W.fnOf "_law_near" "_law_near" (defArgs s_law_near) (defBody s_law_near) (defScope s_law_near) .none kV26 dc26 pm26 an26 cd26 ct26, a_law := PySem.W.fnOf "law" "law" (defArgs s_law) (defBody s_law) (defScope s_law) .none kV27 dc27 pm27 an27 cd27 ct27 }
  have T : TX l.prog K mg a := { b_isinstance := n_isinstance, b_str := n_str, b_int := n_int, b_bool := n_bool, b_tuple := n_tuple, b_list := n_list, b_len := n_len, b_all := n_all, b_any := n_any, b_sum := n_sum, b_zip := n_zip, b_range := n_range, b_sorted := n_sorted, b_set := n_set, b_super := n_super, b_abs := n_abs, b_ValueError := n_ValueError, g_LETTERS := PySem.W.mg_of X G aLt, g_SIGNS := PySem.W.mg_of X G aSg, g_LONGEST_NAME := PySem.W.mg_of X G aLn, g_DIGITS := PySem.W.mg_of X G aDg, g_MOST_DIGITS := PySem.W.mg_of X G aMd, f_is_name := g1, k_is_name := k1, f_write_values := g2, k_write_values := k2, f_is_number := g3, k_is_number := k3, f_told_integer := g4, k_told_integer := k4, f_told_time := g5, k_told_time := k5, f_told_values := g6, k_told_values := k6, f_read_values := g7, k_read_values := k7, f__law_bag := g8, k__law_bag := k8, f__law_take := g9, k__law_take := k9, f__law_names := g10, k__law_names := k10, f__law_integer := g11, k__law_integer := k11, f__law_same := g12, k__law_same := k12, f__law_is_name := g13, k__law_is_name := k13, f__law_number := g14, k__law_number := k14, f__law_values_of := g15, k__law_values_of := k15, f__law_text := g16, k__law_text := k16, f__law_sign := g17, k__law_sign := k17, f__law_bent := g18, k__law_bent := k18, f__law_free := g19, k__law_free := k19, f__law_digits := g20, k__law_digits := k20, f__law_own := g21, k__law_own := k21, f__law_read := g22, k__law_read := k22, f__law_values := g23, k__law_values := k23, f__law_exchanged := g24, k__law_exchanged := k24, f__law_doubled := g25, k__law_doubled := k25, f__law_near := g26, k__law_near := k26, f_law := g27, k_law := k27, c_RingclauseError := PySem.W.mg_of X G aR, c_InvalidName := PySem.W.mg_of X G aN, c_InvalidLiteral := PySem.W.mg_of X G aL, c_InvalidClause := PySem.W.mg_of X G aC, c_InvalidText := PySem.W.mg_of X G aT, c_UnknownMoment := PySem.W.mg_of X G aU, e_InvalidText := sup, te := PySem.W.exm_ref eI hT yT sT, xc := ⟨ga, gg, eI, hT, ka, kn, kt, km⟩, xf := ⟨ga, gg, eI, hT⟩, noF := nF, kT := kit_me, kN := kit_ref sT sN hN yN, kL := kit_ref sT sL hL yL, kC := kit_ref sT sC hC yC, kU := kit_ref sT sU hU yU, kR := kit_ref sT sR hR yR, kV := kit_type (by decide +kernel) vI }
  have D : FDS K a d := { F_is_name := F1, B_is_name := b1, F_write_values := F2, B_write_values := b2, F_is_number := F3, B_is_number := b3, F_told_integer := F4, B_told_integer := b4, F_told_time := F5, B_told_time := b5, F_told_values := F6, B_told_values := b6, F_read_values := F7, B_read_values := b7, F__law_bag := F8, B__law_bag := b8, F__law_take := F9, B__law_take := b9, F__law_names := F10, B__law_names := b10, F__law_integer := F11, B__law_integer := b11, F__law_same := F12, B__law_same := b12, F__law_is_name := F13, B__law_is_name := b13, F__law_number := F14, B__law_number := b14, F__law_values_of := F15, B__law_values_of := b15, F__law_text := F16, B__law_text := b16, F__law_sign := F17, B__law_sign := b17, F__law_bent := F18, B__law_bent := b18, F__law_free := F19, B__law_free := b19, F__law_digits := F20, B__law_digits := b20, F__law_own := F21, B__law_own := b21, F__law_read := F22, B__law_read := b22, F__law_values := F23, B__law_values := b23, F__law_exchanged := F24, B__law_exchanged := b24, F__law_doubled := F25, B__law_doubled := b25, F__law_near := F26, B__law_near := b26, F_law := F27, B_law := b27 }
  exact ⟨d.a_law, fun s v => .of_eq rfl, fun base _ _ => ok_law (P := l.prog) (w := w) (base := base) D.F_law T D⟩
theorem walk {l : PySem.W.OpenLaw} {q : Program} {loose : List Str} {XP : (Str → Option Value) → Heap → Prop} {YP : World → Heap → Prop} {d : DefRec} {K : Params → PySem.W.Frag} (hn : l.most = some 63) (hdf : d.params.defaults = [])
    (hY : ∀ (w : World) (h : Heap), YP w h → (K w.params).In h)
    (H : ∀ (w : World) (mg : Str → Option Value) (fa : Addr) (h : Heap), (K w.params).In h → h.Ns mainGlobals mg → mg d.name = some (.ref fa) →
      ∃ fd : FuncData, (∀ (s : Shared) (u : Value), BindsTo s fd ⟨[u], []⟩ [("script", u)]) ∧ ∀ base : Heap, (K w.params).In base → base.Ns mainGlobals mg → FnOk l.prog w (K w.params) mg base CX0 8 fa fd ["script"] (spLaw (K w.params))) :
    PySem.W.WalkO q loose XP YP l.row.toRowW d [] (fun f vs => PySem.call f vs) :=
  L2.walk_of (n := 63) (k := 8) (x := "script") (CX := fun _ => CX0) (sp := fun w => spLaw (K w.params)) hn (by decide) hdf ⟨rfl, by decide, by decide⟩ hY H (fun _ _ a ns hl _ hS => ⟨a, ns, rfl, hS, fun _ => rfl⟩) fun _ _ _ _ _ z => z
end A4
set_option maxRecDepth 100000
open PySem PySem.W PyProof.Rows in
set_option maxRecDepth 100000 in
set_option maxHeartbeats 0 in
theorem PySem.Challenge.cw_ringclause_k04_texts_of_values_holds : PySem.Challenge.rw_ringclause_k04_texts_of_values.Holds := by
  w_on; o_law; k_head; (case hw => w_witness2)
  k_fill
  refine A4.walk (l := PySem.Challenge.rw_ringclause_k04_texts_of_values) rfl rfl (fun w h Y => PySem.W.kIn_of Y) ?F
  case F =>
    intro w mg fa h KX G hmg
    refine' A4.all_mk KX G hmg ?a1 ?l1 ?c1 ?k1 ?a2 ?l2 ?c2 ?k2 ?a3 ?l3 ?c3 ?k3 ?a4 ?l4 ?c4 ?k4 ?a5 ?l5 ?c5 ?k5 ?a6 ?l6 ?c6 ?k6 ?a7 ?l7 ?c7 ?k7 ?a8 ?l8 ?c8 ?k8 ?a9 ?l9 ?c9 ?k9 ?a10 ?l10 ?c10 ?k10 ?a11 ?l11 ?c11 ?k11 ?a12 ?l12 ?c12 ?k12 ?a13 ?l13 ?c13 ?k13 ?a14 ?l14 ?c14 ?k14 ?a15 ?l15 ?c15 ?k15 ?a16 ?l16 ?c16 ?k16 ?a17 ?l17 ?c17 ?k17 ?a18 ?l18 ?c18 ?k18 ?a19 ?l19 ?c19 ?k19 ?a20 ?l20 ?c20 ?k20 ?a21 ?l21 ?c21 ?k21 ?a22 ?l22 ?c22 ?k22 ?a23 ?l23 ?c23 ?k23 ?a24 ?l24 ?c24 ?k24 ?a25 ?l25 ?c25 ?k25 ?a26 ?l26 ?c26 ?k26 ?a27 ?l27 ?c27 ?k27 ?z_isinstance ?z_str ?z_int ?z_bool ?z_tuple ?z_list ?z_len ?z_all ?z_any ?z_sum ?z_zip ?z_range ?z_sorted ?z_set ?z_super ?z_abs ?z_ValueError ?aLt ?aSg ?aLn ?aDg ?aMd ?aR ?aN ?aL ?aC ?aT ?aU ?hR ?yR ?sR ?hN ?yN ?sN ?hL ?yL ?sL ?hC ?yC ?sC ?hT ?yT ?sT ?hU ?yU ?sU ?xI ?rv ?sa ?ga ?gg ?nF ?iX ?tF ?kI ?eI ?vI ?mI ?oq ?su ?hTop ?lX ?cX ?lC ?lD ?rf ?fi ?ka ?kn ?kt ?km
    (case a1 => k_is)
    (case l1 => k_is)
    (case c1 => k_is)
    (case k1 => k_is)
    (case a2 => k_is)
    (case l2 => k_is)
    (case c2 => k_is)
    (case k2 => k_is)
    (case a3 => k_is)
    (case l3 => k_is)
    (case c3 => k_is)
    (case k3 => k_is)
    (case a4 => k_is)
    (case l4 => k_is)
    (case c4 => k_is)
    (case k4 => k_is)
    (case a5 => k_is)
    (case l5 => k_is)
    (case c5 => k_is)
    (case k5 => k_is)
    (case a6 => k_is)
    (case l6 => k_is)
    (case c6 => k_is)
    (case k6 => k_is)
    (case a7 => k_is)
    (case l7 => k_is)
    (case c7 => k_is)
    (case k7 => k_is)
    (case a8 => k_is)
    (case l8 => k_is)
    (case c8 => k_is)
    (case k8 => k_is)
    (case a9 => k_is)
    (case l9 => k_is)
    (case c9 => k_is)
    (case k9 => k_is)
    (case a10 => k_is)
    (case l10 => k_is)
    (case c10 => k_is)
    (case k10 => k_is)
    (case a11 => k_is)
    (case l11 => k_is)
    (case c11 => k_is)
    (case k11 => k_is)
    (case a12 => k_is)
    (case l12 => k_is)
    (case c12 => k_is)
    (case k12 => k_is)
    (case a13 => k_is)
    (case l13 => k_is)
    (case c13 => k_is)
    (case k13 => k_is)
    (case a14 => k_is)
    (case l14 => k_is)
    (case c14 => k_is)
    (case k14 => k_is)
    (case a15 => k_is)
    (case l15 => k_is)
    (case c15 => k_is)
    (case k15 => k_is)
    (case a16 => k_is)
    (case l16 => k_is)
    (case c16 => k_is)
    (case k16 => k_is)
    (case a17 => k_is)
    (case l17 => k_is)
    (case c17 => k_is)
    (case k17 => k_is)
    (case a18 => k_is)
    (case l18 => k_is)
    (case c18 => k_is)
    (case k18 => k_is)
    (case a19 => k_is)
    (case l19 => k_is)
    (case c19 => k_is)
    (case k19 => k_is)
    (case a20 => k_is)
    (case l20 => k_is)
    (case c20 => k_is)
    (case k20 => k_is)
    (case a21 => k_is)
    (case l21 => k_is)
    (case c21 => k_is)
    (case k21 => k_is)
    (case a22 => k_is)
    (case l22 => k_is)
    (case c22 => k_is)
    (case k22 => k_is)
    (case a23 => k_is)
    (case l23 => k_is)
    (case c23 => k_is)
    (case k23 => k_is)
    (case a24 => k_is)
    (case l24 => k_is)
    (case c24 => k_is)
    (case k24 => k_is)
    (case a25 => k_is)
    (case l25 => k_is)
    (case c25 => k_is)
    (case k25 => k_is)
    (case a26 => k_is)
    (case l26 => k_is)
    (case c26 => k_is)
    (case k26 => k_is)
    (case a27 => k_is)
    (case l27 => k_is)
    (case c27 => k_is)
    (case k27 => k_is)
    (case z_isinstance => k_is)
    (case z_str => k_is)
    (case z_int => k_is)
    (case z_bool => k_is)
    (case z_tuple => k_is)
    (case z_list => k_is)
    (case z_len => k_is)
    (case z_all => k_is)
    (case z_any => k_is)
    (case z_sum => k_is)
    (case z_zip => k_is)
    (case z_range => k_is)
    (case z_sorted => k_is)
    (case z_set => k_is)
    (case z_super => k_is)
    (case z_abs => k_is)
    (case z_ValueError => k_is)
    (case aLt => k_is)
    (case aSg => k_is)
    (case aLn => k_is)
    (case aDg => k_is)
    (case aMd => k_is)
    (case aR => k_is)
    (case aN => k_is)
    (case aL => k_is)
    (case aC => k_is)
    (case aT => k_is)
    (case aU => k_is)
    (case hR => k_is)
    (case yR => k_is)
    (case sR => k_is)
    (case hN => k_is)
    (case yN => k_is)
    (case sN => k_is)
    (case hL => k_is)
    (case yL => k_is)
    (case sL => k_is)
    (case hC => k_is)
    (case yC => k_is)
    (case sC => k_is)
    (case hT => k_is)
    (case yT => k_is)
    (case sT => k_is)
    (case hU => k_is)
    (case yU => k_is)
    (case sU => k_is)
    (case xI => k_is)
    (case rv => rfl)
    (case sa => k_is)
    (case ga => k_is)
    (case gg => k_is)
    (case nF => k_is)
    (case iX => k_is)
    (case tF => k_is)
    (case kI => k_is)
    (case eI => k_is)
    (case vI => k_is)
    (case mI => k_is)
    (case oq => k_is)
    (case su => ks_is)
    (case hTop => rfl)
    (case lX => k_is)
    (case cX => k_is)
    (case lC => k_is)
    (case lD => k_is)
    (case rf => rfl)
    (case fi => rfl)
    (case ka => k_is)
    (case kn => k_is)
    (case kt => k_is)
    (case km => k_is)
