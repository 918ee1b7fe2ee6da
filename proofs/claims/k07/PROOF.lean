import PyProof.Rows.All
import Wide.All
import OpenK.AllK
import Wide.FinOn
import KE.KExcSuper
import HandS.ForExc
import HandS.ForMost
import HandS.ExcField
import HandS.ExcIs
import HandS.IsInst
import HandS.Wide
import HandS.Walk
import HandS.Evl
import HandS.Zip
import HandS.StrMore
import PyProof.Rows.StrCut
import PySem.Challenge.RW_ringclause_k07_chain_sums
import KE.KExcIs
import KE.KStrOpen
import HandS.Style
import HandS.WordsExc
import KE.RegKSuper
set_option Elab.async false
set_option linter.all false
set_option maxRecDepth 100000
set_option maxHeartbeats 4000000
/-! An own exception over ValueError whose __init__ is: super().__init__('..'); self.f = f -/
namespace PySem
namespace Sup
open PySem.W PySem.Calls PyProof.Rows PySem.HandSPX

def sArgs (fld : Str) (p1 p2 : Pos) : Arguments :=
  { posonlyargs := [], args := [{ arg := "self", annotation := none, pos := p1 }, { arg := fld, annotation := none, pos := p2 }], vararg := none, kwonlyargs := [], kw_defaults := [], kwarg := none, defaults := [] }
def sBody (fld msg : Str) (a1 a2 a3 a4 a5 a6 b1 b2 b3 b4 : Pos) : List Stmt :=
  [.Expr (.Call (.Attribute (.Call (.Name "super" a1) [] [] a2) "__init__" a3) [.Constant (.str msg) 0 a4] [] a5) a6,
   .Assign [.Attribute (.Name "self" b1) fld b2] (.Name fld b3) b4]
def sScope (fld : Str) : Scope :=
  { kind := .function, names := [(PySem.Str.ofString "self", .local), (fld, .local), (PySem.Str.ofString "__class__", .free), (PySem.Str.ofString "super", .globalImplicit)], isGenerator := false, isCoroutine := false, more := [] }

abbrev sFn (fld msg qual : Str) (p1 p2 a1 a2 a3 a4 a5 a6 b1 b2 b3 b4 : Pos) (doc pm : Value) (an : Option Addr) (cda cc : Addr) (ct : Value) : FuncData :=
  fnX "__init__" qual (sArgs fld p1 p2) (sBody fld msg a1 a2 a3 a4 a5 a6 b1 b2 b3 b4) (sScope fld) [("__class__", cc)] .none .none doc pm an (.ref cda) ct
/-- the field's name is none of the other names; what follows from it, each by rfl -/
structure FldOk (fld : Str) : Prop where
  bd : ∀ (msg qual : Str) (p1 p2 a1 a2 a3 a4 a5 a6 b1 b2 b3 b4 : Pos) (doc pm : Value) (an : Option Addr) (cda cc : Addr) (ct u v : Value),
    bindArgs (sFn fld msg qual p1 p2 a1 a2 a3 a4 a5 a6 b1 b2 b3 b4 doc pm an cda cc ct) ⟨[u, v], []⟩ = pure [(("self" : Str), u), (fld, v)]
  lf : (sScope fld).names.lookup fld = some .local
  lc : (sScope fld).names.lookup ("__class__" : Str) = some .free
  ls : (sScope fld).names.lookup ("super" : Str) = some .globalImplicit
  nd : (fld == ("__debug__" : Str)) = false
  ns : ("self" : Str) ≠ fld

/-- super().__init__('..') is a method's call on one row of the text: by ⟨_, rfl⟩ where the places are written -/
def EvOk (fld msg qual : Str) (p1 p2 a1 a2 a3 a4 a5 a6 b1 b2 b3 b4 : Pos) (doc pm : Value) (an : Option Addr) (cda cc : Addr) (ct : Value) : Prop := ∀ (L a : Addr), ∃ pl : Sem Bool,
    eval (.Call (.Attribute (.Call (.Name "super" a1) [] [] a2) "__init__" a3) [.Constant (.str msg) 0 a4] [] a5) (callEnv (sFn fld msg qual p1 p2 a1 a2 a3 a4 a5 a6 b1 b2 b3 b4 doc pm an cda cc ct) L a) = (do
      let ov ← attributeBase (.Call (.Name "super" a1) [] [] a2) "__init__" (callEnv (sFn fld msg qual p1 p2 a1 a2 a3 a4 a5 a6 b1 b2 b3 b4 doc pm an cda cc ct) L a)
        (eval (.Call (.Name "super" a1) [] [] a2) (callEnv (sFn fld msg qual p1 p2 a1 a2 a3 a4 a5 a6 b1 b2 b3 b4 doc pm an cda cc ct) L a))
      standAt a3.atName
      let (f, first) ← holding [ov] (getMethod ov "__init__" pl)
      callWith a5 f first (backTo a5 (starEach [.Constant (.str msg) 0 a4] (callEnv (sFn fld msg qual p1 p2 a1 a2 a3 a4 a5 a6 b1 b2 b3 b4 doc pm an cda cc ct) L a))) [])
/-- what the written part says of such a class at C, its __init__ at fI, the cell at cc that holds C, the code record at cda -/
structure SupTxt (K : Frag) (mg : Str → Option Value) (prog : Program) (cn fld msg : Str) (C fI : Addr) : Prop where
  gC : mg cn = some (.ref C)
  ok : FldOk fld
  cls : ∃ nm q N bs bm sn sub ab col dd k0 k1 k2 k3 k5, K.lookup C = some (excClassObj nm q C N bs bm true sn sub ab col dd k0 k1 k2 k3 k5 "ValueError.__new__") ∧ refsVE bm = true
  sa : findIn K (.ref C) "__setattr__" = some (some (.builtin "object.__setattr__"))
  ga : findIn K (.ref C) "__getattribute__" = some (some (.builtin "BaseException.__getattribute__"))
  gg : findIn K (.ref C) "__getattr__" = some none
  noF : findIn K (.ref C) fld = some none
  iC : findIn K (.ref C) "__init__" = some (some (.ref fI))
  tF : typeIn K (.ref fI) = some (.type "function")
  kC : keepIn K (.ref C) = true
  exC : subIn K (.ref C) (.type "BaseException") = some true
  veC : subIn K (.ref C) (.type "ValueError") = some true
  tyC : typeIn K (.ref C) = some (.type "type")
  hdC : hasDictIn K C = true
  mC : mroIn K C (.ref C) = some true
  opq : nsIn K cStatics "thirdparty.any" = some none
  sup : ks_superIn K C C "__init__" = some (some (.builtin "ValueError.__init__"))
  htop : (prog.main.scope.names.lookup ("super" : Str)).isSome = false
  mgS : mg "super" = none
  fn : ∃ (oc : Value) (od : Option Addr) (qual : Str) (doc pm : Value) (an : Option Addr) (cda cc : Addr) (ct : Value) (osl : Array (Option Value)) (p1 p2 a1 a2 a3 a4 a5 a6 b1 b2 b3 b4 : Pos),
    K.lookup fI = some ⟨oc, od, .func (sFn fld msg qual p1 p2 a1 a2 a3 a4 a5 a6 b1 b2 b3 b4 doc pm an cda cc ct), osl⟩ ∧ EvOk fld msg qual p1 p2 a1 a2 a3 a4 a5 a6 b1 b2 b3 b4 doc pm an cda cc ct ∧
    codeIn K (.ref cda) qual = true ∧
    (∃ cl cld csl, K.lookup cc = some ⟨cl, cld, .cell (some (.ref C)), csl⟩) ∧
    (∃ ccl cdd vs ccs file tf, K.lookup cda = some ⟨ccl, cdd, .fields vs, ccs⟩ ∧ vs[2]? = some (.str file tf) ∧ ((prog.main.file : Str) == file) = true)

theorem line1 (v : Value) : [v].length ≤ sizeLine := by
  rw [sizeLine_eq]
  exact (by decide : 1 ≤ 16777216)

/-- what __init__ leaves of a fresh exception at x -/
structure SupEnd (h h' : Heap) (x C dx : Addr) (fld : Str) (v : Value) : Prop where
  keep : ∀ b o, b ≠ x → h.get? b = some o → h'.get? b = some o
  obj : ∃ t1 : Addr, h'.get? x = some { cls := .ref C, dict := some dx, data := .fields #[.ref t1, .none, .none, .none, .bool false, .none] }
  dbig : h.objs.size ≤ dx
  dne : dx ≠ x
  ns : h'.Ns1 dx (fun y => if y = fld then some v else none)

section
variable {prog : Program} {w : World} {A : Around} {E : Value → Shared → Prop} {R : Result → Shared → Prop} {s : Shared} {K : Frag} {mg mb : Str → Option Value} {cn fld msg : Str} {C fI : Addr}

/-- the bound ValueError.__init__ called with one argument -/
theorem base_init {u x t0 : Addr} {a : Value} {Q : Value → Shared → Prop} (T : SupTxt K mg prog cn fld msg C fI) (X : K.In s.heap)
    (hu : s.heap.get? u = some (kxs_mw "ValueError.__init__" x)) (hx : s.heap.get? x = some (excO C t0))
    (hq : ∀ h' t1, (∀ b o, b ≠ x → s.heap.get? b = some o → h'.get? b = some o) → h'.get? x = some (excO C t1) → Q .none { s with heap := h' }) :
    wpAny (model prog w) A (call (.ref u) [a]) Q E s := by
  obtain ⟨nm, q, N, bs, bm, sn, sub, ab, col, dd, k0, k1, k2, k3, k5, hC, hbm⟩ := T.cls
  obtain ⟨hh, g, d, tk, os⟩ := s
  have hC' := X _ _ hC
  refine wpAny_call (codeAny_of_tree ?_)
  show wpAny (model prog w) A.in1 (callAny (.ref u) ⟨[a], []⟩) _ _ _
  unfold callAny
  refine wpAny_bind (wpAny_load hu ?_)
  have m1 : (Value.type "method-wrapper" == Value.type "method") = false := by decide
  have m2 : (Value.type "method-wrapper" == Value.type "builtin_function_or_method") = false := by decide
  have m3 : (Value.type "method-wrapper" == Value.type "method-wrapper") = true := by decide
  simp only [kxs_mw, m1, m2, m3, Bool.or_true, Bool.false_or, if_true]
  refine KFB.if_so (by decide) ?_
  refine wpAny_bind (check_bound_init PySem.F.excBase_ValueError.toExcCallFacts hC' hx rfl ?_)
  refine wpAny_bind (wpAny_pure (wpAny_pure ?_))
  refine ⟨plainId_quiet PySem.F.excBase_ValueError.init.plain _, codeAny_builtin PySem.F.excBase_ValueError.initEntry ?_⟩
  exact exc_init_tree (cls := .ref C) (t0 := t0) (dv := none) (c2 := .none) (c3 := .none) (b4 := .bool false) hx (line1 a) fun h' k e _ => hq h' _ k e

theorem sup_init (T : SupTxt K mg prog cn fld msg C fI) {x t0 : Addr} {v : Value} (X : K.In s.heap) (hlim : s.heap.NoLimit) (hG : s.heap.Ns mainGlobals mg) (hB : s.heap.Ns builtinsNs mb) (hmb : mb "super" = some (.type "super"))
    (hx : s.heap.get? x = some (excO C t0)) (hnx : K.lookup x = none) (hroom : A.depth < recursionLimit)
    (hq : ∀ h' tk dx, SupEnd s.heap h' x C dx fld v → R (.ok (.ret .none)) { s with heap := h', toks := tk }) :
    codeAny (model prog w) A (.call (.ref fI) ⟨[.ref x, v], []⟩) R s := by
  obtain ⟨oc, od, qual, doc, pm, an, cda, cc, ct, osl, p1, p2, a1, a2, a3, a4, a5, a6, b1, b2, b3, b4, ho, hevO, hcd, ⟨cl, cld, csl, hcell⟩, ⟨ccl, cdd, vs, ccs, file, tf, hcda, hvs, hfile⟩⟩ := T.fn
  obtain ⟨nm, q, N, bs, bm, sn, sub, ab, col, dd, k0, k1, k2, k3, k5, hC, hbm⟩ := T.cls
  have O := T.ok
  refine ks_codeAny_call_defAt (fd := fnX "__init__" qual (sArgs fld p1 p2) (sBody fld msg a1 a2 a3 a4 a5 a6 b1 b2 b3 b4) (sScope fld) [("__class__", cc)] .none .none doc pm an (.ref cda) ct) (binds := [("self", .ref x), (fld, v)])
    hroom (X _ _ ho) rfl hlim (codeRec_of X hcd) rfl (BindsTo.of_eq (O.bd _ _ _ _ _ _ _ _ _ _ _ _ _ _ _ _ _ _ _ _ _ _)) (by
      intro y hy
      simp only [sScope, List.mem_cons, List.not_mem_nil, or_false] at hy
      rcases hy with rfl | rfl | rfl | rfl <;> (intro z; cases z)) (by
      intro y hy
      simp only [List.mem_cons, List.not_mem_nil, or_false] at hy
      rcases hy with rfl | rfl
      · rfl
      · exact O.lf) (fun h₁ hns k => ?_) rfl rfl rfl
  have X₁ : K.In h₁ := X.keeps k
  have hx₁ := k _ _ hx
  have hvf : ([(("self" : Str), Value.ref x), (fld, v)].reverse).lookup fld = some v := by
    show List.lookup fld [(fld, v), (("self" : Str), Value.ref x)] = some v
    simp [List.lookup]
  have hvs' : ([(("self" : Str), Value.ref x), (fld, v)].reverse).lookup ("self" : Str) = some (.ref x) := by
    show List.lookup ("self" : Str) [(fld, v), (("self" : Str), Value.ref x)] = some (.ref x)
    have e : (("self" : Str) == fld) = false := by simpa using O.ns
    simp [List.lookup, e]
  have hcls : clsIn K C = some { name := nm, bases := bs, mro := .ref C :: bm, ns := N, qualname := q, hasDict := true, slotNames := sn, subclasses := sub, abstract := ab, collection := col, hasDel := false } := by unfold clsIn; rw [hC] <;> rfl
  have hsc : (sScope fld).names.lookup ("self" : Str) = some .local := rfl
  show wpAt (model prog w) _ _ (execs (sBody fld msg a1 a2 a3 a4 a5 a6 b1 b2 b3 b4) _) _ _ _
  obtain ⟨pl, hev⟩ := hevO s.heap.objs.size fI
  refine ks_wpAt_execs_cons (ks_wpAt_Expr_any (ks_wpAt_MethodCall (pl := pl) (he := hev) (ks_wpAt_super_base O.ls O.lc (by decide) rfl (X₁ _ _ ho) rfl rfl rfl (X₁ _ _ hcda) rfl hvs hfile T.htop ?_)))
  refine ks_loadName_global rfl O.ls (loadGlobal_builtin (hG.keeps k) T.mgS (hB.keeps k) hmb ⟨rfl, ?_⟩)
  refine wpAny_loadName_free rfl O.lc rfl ⟨_, X₁ _ _ hcell, rfl⟩ ?_
  refine wpAny_loadName_local rfl hsc hns hvs' ?_
  refine ks_wpAny_isType_cls (X₁ _ _ hC) rfl ⟨rfl, ?_⟩
  refine ks_wpAny_call_super (X₁ _ _ hC) rfl hx₁ rfl (fun c e => by cases e) (looks_mroIn X₁ T.mC) (fun h₂ e₂ k₂ => ?_)
  have X₂ : K.In h₂ := X₁.keeps k₂
  have hx₂ := k₂ _ _ hx₁
  have I₂ : InstAt h₂ x (excO C t0) C none := ⟨hx₂, rfl, rfl, trivial⟩
  have xC : x ≠ C := ks_ne X₂ I₂ hcls
  have hsup : alongIn K "__init__" ((_root_.List.dropWhile (· != Value.ref C) (.ref C :: bm)).drop 1) = some (some (.builtin "ValueError.__init__")) := by
    have z := T.sup
    unfold ks_superIn at z
    rw [hcls] at z
    exact z
  refine kxs_getMethod kxs_ValueError e₂ (looks_opaque X₂ T.opq) (l₀ := .ref C :: bm) (fun A Q E s k q => wpAny_bind ((looks_clsIn X₂ hcls) A _ E s k (wpAny_pure q))) rfl X₂ hsup (I₂.type.andThen (looks_subIn X₂ T.veC)) xC (by decide) ?_
  refine kxs_callWith (i := "ValueError.__init__") (x := x) rfl (evalArgs_plain ?_)
  refine spliced_cons (Constant_str (k := 0) (pos := a4) (spliced_nil ?_))
  have hu₃ : (h₂.push (kxs_mw "ValueError.__init__" x)).get? h₂.objs.size = some (kxs_mw "ValueError.__init__" x) := Heap.get?_push_at rfl rfl
  have k₃ : ∀ b o, h₂.get? b = some o → (h₂.push (kxs_mw "ValueError.__init__" x)).get? b = some o := fun b o e => Heap.get?_push_of_some _ e
  refine ⟨hu₃, base_init T (X₂.keeps k₃) hu₃ (k₃ _ _ hx₂) (fun h₄ t4 k₄ hx₄ => ?_)⟩
  have kx : ∀ b o, b ≠ x → s.heap.get? b = some o → h₄.get? b = some o := fun b o hb e => k₄ b o hb (k₃ _ _ (k₂ _ _ (k _ _ e)))
  have X₄ : K.In h₄ := fun a o e => kx a o (fun z => by rw [z, hnx] at e; cases e) (X a o e)
  have nL : s.heap.objs.size ≠ x := Nat.ne_of_gt (Heap.lt_size hx)
  have hns₄ : h₄.Ns s.heap.objs.size (fun y => ([(("self" : Str), Value.ref x), (fld, v)].reverse).lookup y) := by
    obtain ⟨oL, es, ep, hL, r⟩ := hns
    exact ⟨oL, es, ep, k₄ _ _ nL (k₃ _ _ (k₂ _ _ hL)), r⟩
  show wpAt (model prog w) _ _ (execs [.Assign [.Attribute (.Name "self" b1) fld b2] (.Name fld b3) b4] _) _ _ _
  refine wpAt_of_wpAny (wpAny_execs_cons (plainObj_wpAny_Assign_Attribute ?_))
  refine wpAny_Name (wpAny_loadName_local rfl O.lf hns₄ hvf ?_) O.nd
  refine wpAny_Name (wpAny_loadName_local rfl hsc hns₄ hvs' ?_) (by decide)
  refine set_plain X₄ (ox := excO C t4) (od := none) ⟨hx₄, rfl, rfl, trivial⟩ T.sa ?_
  refine exc_osa X₄ hx₄ hcls (show refsVE (.ref C :: bm) = true from hbm) rfl T.noF (fun h₅ tk₅ dx k₅ dn dne hx₅ hn₅ => ?_)
  have le1 : s.heap.objs.size < h₄.objs.size := by
    obtain ⟨oL, es, ep, hL, r⟩ := hns₄
    exact Heap.lt_size hL
  refine wpAny_execs_nil (hq h₅ tk₅ dx ⟨fun b o hb e => k₅ b o hb (kx b o hb e), ⟨t4, hx₅⟩, Nat.le_of_lt (Nat.lt_of_lt_of_le le1 dn), dne, hn₅⟩)
end

/-- C(v): the exception at e, its own dict at d -/
structure SupMade (h h' : Heap) (e C d : Addr) (fld : Str) (v : Value) : Prop where
  keep : ∀ b o, h.get? b = some o → h'.get? b = some o
  new : h.objs.size ≤ e
  obj : ∃ oe vs, h'.get? e = some oe ∧ oe.cls = .ref C ∧ oe.dict = some d ∧ oe.data = .fields vs ∧ vs[1]? = some .none
  dbig : h.objs.size ≤ d
  dne : d ≠ e
  ns : h'.Ns1 d (fun y => if y = fld then some v else none)
section
variable {prog : Program} {w : World} {A : Around} {E : Value → Shared → Prop} {R : Result → Shared → Prop} {s : Shared} {K : Frag} {mg mb : Str → Option Value} {cn fld msg : Str} {C fI : Addr}
theorem sup_made (T : SupTxt K mg prog cn fld msg C fI) {v : Value} (X : K.In s.heap) (hlim : s.heap.NoLimit) (hG : s.heap.Ns mainGlobals mg) (hB : s.heap.Ns builtinsNs mb) (hmb : mb "super" = some (.type "super")) (hroom : A.depth + 1 < recursionLimit)
    (hq : ∀ h' tk e d, SupMade s.heap h' e C d fld v → R (.ok (.ret (.ref e))) { s with heap := h', toks := tk }) :
    codeAny (model prog w) A (.call (.ref C) ⟨[v], []⟩) R s := by
  obtain ⟨nm, q, N, bs, bm, sn, sub, ab, col, dd, k0, k1, k2, k3, k5, hC, hbm⟩ := T.cls
  obtain ⟨hp, g, dr, tk, os⟩ := s
  have k : ∀ b o, hp.get? b = some o → ((hp.push (kdv_tup [v])).push (excO C hp.objs.size)).get? b = some o := fun b o e => Heap.get?_push_of_some _ (Heap.get?_push_of_some _ e)
  have hget : ((hp.push (kdv_tup [v])).push (excO C hp.objs.size)).get? (hp.objs.size + 1) = some (excO C hp.objs.size) := by heap_get
  have hnx : K.lookup (hp.objs.size + 1) = none := by
    cases e : K.lookup (hp.objs.size + 1) with
    | none => rfl
    | some o =>
      have z : hp.get? (hp.objs.size + 1) = some o := X _ _ e
      have z2 : hp.objs.size + 1 < hp.objs.size := Heap.lt_size z
      omega
  refine call_own PySem.F.excBase_ValueError (fun Y => refsVE_contains Y bm hbm) (X _ _ hC) (looks_findIn X T.iC) (fun self => bind_fn X self T.tF) (line1 v) ?_
  refine sup_init (s := ⟨(hp.push (kdv_tup [v])).push (excO C hp.objs.size), g, dr, tk, os⟩) T (X.keeps k) (hlim.keeps k) (hG.keeps k) (hB.keeps k) hmb hget hnx hroom fun h' tk' dx M => ?_
  obtain ⟨kp, ⟨t1, hob⟩, hd, hne, hns⟩ := M
  have sz : ((hp.push (kdv_tup [v])).push (excO C hp.objs.size)).objs.size = hp.objs.size + 1 + 1 := by simp only [Heap.size_push]
  have hd' : hp.objs.size + 2 ≤ dx := by
    have z : ((hp.push (kdv_tup [v])).push (excO C hp.objs.size)).objs.size ≤ dx := hd
    omega
  have old : ∀ b o, hp.get? b = some o → h'.get? b = some o := fun b o e => kp b o (Nat.ne_of_lt (Nat.lt_succ_of_lt (Heap.lt_size e))) (k b o e)
  exact ⟨rfl, hq h' tk' (hp.objs.size + 1) dx ⟨old, Nat.le_succ _, ⟨_, _, hob, rfl, rfl, rfl, rfl⟩, (by show hp.objs.size ≤ dx; omega), hne, hns⟩⟩
end
theorem fld_value : FldOk "value" := ⟨fun _ _ _ _ _ _ _ _ _ _ _ _ _ _ _ _ _ _ _ _ _ _ => rfl, rfl, rfl, rfl, by decide, by decide +kernel⟩
theorem ev_test (doc pm : Value) (an : Option Addr) (cda cc : Addr) (ct : Value) : EvOk "bounds" "abc" "q" ⟨6, 17, 6, 21⟩ ⟨6, 23, 6, 28⟩ ⟨7, 8, 7, 13⟩ ⟨7, 8, 7, 15⟩ ⟨7, 8, 7, 24⟩ ⟨7, 25, 7, 40⟩ ⟨7, 8, 7, 41⟩ ⟨7, 8, 7, 41⟩ ⟨8, 8, 8, 12⟩ ⟨8, 8, 8, 18⟩ ⟨8, 21, 8, 26⟩ ⟨8, 8, 8, 26⟩ doc pm an cda cc ct := fun _ _ => ⟨_, rfl⟩
end Sup
end PySem
namespace L2
open PySem PySem.Spec PyProof.Rows
theorem relO_one {fld : Str} {v : V} {v' : Value} (r : RelV v v') (f : Str) : RelO (List.lookup f [(fld, v)]) (if f = fld then some v' else none) := by
  by_cases hw : f = fld
  · have q : List.lookup f [(fld, v)] = some v := by simp [List.lookup, hw]
    rw [q, if_pos hw]
    exact r
  · have qw : (f == fld) = false := by simpa using hw
    have q2 : List.lookup f [(fld, v)] = none := by simp [List.lookup, qw]
    rw [q2, if_neg hw]
    trivial
section
variable {X : Cx} {C fI : Addr} {cn fld msg : Str}
/-- X(e), an own error whose __init__ is super().__init__('..'); self.f = f -/
def tMkSup (C : Addr) (fld : Str) (ta : TA) : St → Hp → XK → Prop := fun σ H Q => ta σ H fun vs H1 => ∃ v, vs = [v] ∧ ∀ d, H1 d = none → Q (.ref C) (some d) (upd H1 d (.xd [(fld, v)]))
theorem pmk_sup {a : Expr} {ta : TA} {p pos : Pos} {k : Nat} (T : PySem.Sup.SupTxt X.K X.mg X.prog cn fld msg C fI) (hr : Room k X.A) (ha : PA X [a] ta) (hg : Gl X cn := by rfl) (nd : (cn == ("__debug__" : Str)) = false := by decide)
    (he : starEach (a :: []) X.env = (false, eval a X.env) :: starEach [] X.env := by rfl) (hpl : (backTo pos (starEach [] X.env)).any (·.1) = false := by rfl) :
    PMk X (.Call (.Name cn p) [a] [] pos) (tMkSup C fld ta) := by
  intro pins s σ H Q I h
  refine wpAny_Call_Name_kw (ld_glob I hg T.gC ?_ nd)
  refine PySem.W.callWith_K (h₀ := X.base) I.ok.mod.kin T.kC (thn (ha.run pos pins s σ H _ I h) fun us s1 hh => ?_) he hpl
  obtain ⟨vs, H1, I1, r1, v, ev, q1⟩ := hh
  subst ev
  refine ⟨I1.kIn, ?_⟩
  cases r1 with
  | cons rv rn =>
    rename_i v' us'
    cases rn
    show wpAny _ _ (call (.ref C) [v']) _ _ _
    have hlim := I1.nolimit
    obtain ⟨mb, hb1, hb2⟩ := I1.mod.blt
    have hmb : mb "super" = some (.type "super") := (hb2 "super" (by decide)).trans (by decide +kernel)
    have hGl : s1.heap.Ns mainGlobals X.mg := I1.mod.glob.keeps I1.bk
    have hBl : s1.heap.Ns builtinsNs mb := hb1.keeps I1.bk
    obtain ⟨hp, g, dr, tk, os⟩ := s1
    refine wpAny_call (PySem.Sup.sup_made T I1.kIn hlim hGl hBl hmb (by have := hr.dp; omega) fun h' tk' e d M => ?_)
    show MkP X pins σ Q (.ref e) ⟨h', g, dr, tk', os⟩
    obtain ⟨kp, nw, ⟨oe, fv, hoe, hc, hd, hdat, h1⟩, dbig, dne, hns⟩ := M
    obtain ⟨G', g1, g2⟩ := restrict h' fun b => decide (b ≠ e)
    have gk : ∀ b, b ≠ e → G'.get? b = h'.get? b := fun b hb => g1 b (decide_eq_true hb)
    have ge : G'.get? e = none := g2 e (by simp)
    have old : ∀ b o, hp.get? b = some o → G'.get? b = some o := fun b o q => (gk b (Nat.ne_of_lt (Nat.lt_of_lt_of_le (Heap.lt_size q) nw))).trans (kp b o q)
    have ob : ObjOk X.prog X.w (upd H1 d (.xd [(fld, v)])) G' d (.xd [(fld, v)]) :=
      ⟨_, hns.at (fun o q => (gk d dne).trans q), fun f => relO_one rv f⟩
    have J : Inv X pins σ (upd H1 d (.xd [(fld, v)])) ⟨G', g, dr, tk', os⟩ := I1.laid (t' := tk') old dbig ob
    refine ⟨e, oe, fv, ⟨G', g, dr, tk', os⟩, _, .ref C, some d, rfl, J, fun b o q => ?_, ge, hoe, ⟨hc, hd⟩, hdat, h1, ?_, rfl, I1.bare, raises_own T.exC T.tyC, q1 d (I1.hok.fresh dbig)⟩
    · by_cases hb : b = e
      · have q' : G'.get? b = some o := q
        rw [hb, ge] at q'; cases q'
      · exact (gk b hb).symm.trans q
    · rw [upd_ne (Ne.symm dne)]
      exact I1.hok.fresh nw
/-- raise X(e) -/
def tRaiseSup (C : Addr) (fld : Str) (W : WX) (ta : TA) : TS := fun _ σ H => tMkSup C fld ta σ H fun cls d H' => W cls d σ H'
theorem ps_raiseSup {a : Expr} {ta : TA} {W : WX} {p pos pos2 : Pos} {k : Nat} (hc : X.calm = true) (T : PySem.Sup.SupTxt X.K X.mg X.prog cn fld msg C fI) (hr : Room k X.A) (tk : Takes X W) (ha : PA X [a] ta) (hg : Gl X cn := by rfl) (nd : (cn == ("__debug__" : Str)) = false := by decide)
    (he : starEach (a :: []) X.env = (false, eval a X.env) :: starEach [] X.env := by rfl) (hpl : (backTo pos (starEach [] X.env)).any (·.1) = false := by rfl) :
    PS X (.Raise (some (.Call (.Name cn p) [a] [] pos)) none pos2) (tRaiseSup C fld W ta) := ps_raise hc tk (pmk_sup T hr ha hg nd he hpl)
end
end L2
set_option maxRecDepth 100000
set_option maxHeartbeats 4000000
namespace K7
open PySem L2 Evl
def top (i : Nat) : Stmt := PySem.Challenge.pw_ringclause_k07_chain_sums.main.body.getD i (.Pass ⟨0, 0, 0, 0⟩)

/-! ### general -/
section
variable {K : PySem.W.Frag} {σ : L2.St} {H H1 : Hp} {J : It} {G : Hp → Prop} {te : TE}
theorem lcMap {xs : List V} (w : Walk J xs.length G (YAt xs)) (f : V → V) {j : Nat} {vs : List Nat} (hz : xs.length < sizeLine) (hG : ∀ H', Ex H1 H' → G H')
    (hw : ∀ v, wipe ((wipe σ vs).set j (some v)) vs = wipe σ vs) (he : ∀ v ∈ xs, ∀ H', Ex H1 H' → Ev te ((wipe σ vs).set j (some v)) H' (f v)) {Qd : Hp → Prop} {D : Addr} (hD : H1 D = none)
    (k : ∀ H', Ex H1 H' → H' D = some (.lst (xs.map f)) → Qd H') :
    ∃ W : Nat → Nat → Hp → Prop, (∃ m, W 0 m (upd H1 D (.lst []))) ∧ ∀ i m H, W i m H →
      (J.stop i H ∧ Qd H) ∨ (J.go i H ∧ ∃ Nx : Hp → Prop, (∀ H', Nx H' → ∃ m', m' < m ∧ W (i + 1) m' H') ∧ ∀ x H', J.yld i H x H' → gName j x (wipe σ vs) H' fun σ2 H2 => wipe σ2 vs = wipe σ vs ∧ tYes σ2 H2 fun b H3 =>
        if b = true then te σ2 H3 fun y H4 => ∃ acc, H4 D = some (.lst acc) ∧ acc.length < sizeLine ∧ Nx (upd H4 D (.lst (acc ++ [y]))) else Nx H3) := by
  refine lc_it w (fun i H => Ex H1 H ∧ H D = some (.lst ((xs.take i).map f))) ⟨Ex.new hD, upd_same⟩ (fun i H _ p => hG H p.1) ?_ (fun H p => k H p.1 (by have := p.2; rwa [List.take_length] at this))
  rintro i x H H' hi ⟨e, hl⟩ ⟨rfl, hx⟩
  have hm : x ∈ xs := by
    obtain ⟨h, q⟩ := List.getElem?_eq_some_iff.mp hx
    rw [← q]
    exact List.getElem_mem h
  unfold gName tYes
  dsimp only
  refine ⟨hw x, ?_⟩
  rw [if_pos rfl]
  refine he x hm H' e H' (Ex.refl _) _ fun H4 e4 => ⟨_, e4 D _ hl, ?_, Ex.mut (e.trans e4) hD, ?_⟩
  · rw [List.length_map, List.length_take]
    omega
  · rw [upd_same, List.take_add_one, hx]
    simp
theorem walk_signs {z : Str} : Walk (Its z) (z.cps.toList.map fun c => V.str ⟨#[c]⟩).length (fun _ => True) (YAt (z.cps.toList.map fun c => V.str ⟨#[c]⟩)) := by
  have e : (z.cps.toList.map fun c => V.str ⟨#[c]⟩).length = z.cps.size := by simp
  rw [e]
  refine walk_str.mono (fun _ h => h) ?_
  rintro i H x H' hi _ ⟨rfl, c, hc, rfl⟩
  refine ⟨rfl, ?_⟩
  simp [hc]
end

theorem at_lit {α : Type} {l : List α} {n : Nat} {z : Int} {v : α} (e : z = (n : Int)) (h : l[n]? = some v) : atI l z = some v := by
  rw [e]
  exact atI_nat h
/-! ### data by its kind -/
def tyN : PyData → String
  | .none => "NoneType" | .bool _ => "bool" | .int _ => "int" | .str _ => "str" | .list _ => "list" | .tuple _ => "tuple" | .dict _ => "dict"
def isStrD : PyData → Bool | .str _ => true | _ => false
def isIntLikeD : PyData → Bool | .int _ => true | .bool _ => true | _ => false
def isBoolD : PyData → Bool | .bool _ => true | _ => false
def isTupD : PyData → Bool | .tuple _ => true | _ => false
def isListD : PyData → Bool | .list _ => true | _ => false
section
variable {K : PySem.W.Frag} {H H' : Hp} {v : V} {d : PyData}
theorem dp_ty (h : Dp K H v d) : TyX K H v (.type (tyN d)) := by
  cases h with
  | non => exact .base .non
  | bl b => exact .base (.bl b)
  | int i => exact .base (.int i)
  | str x => exact .base (.str x)
  | lst h _ =>
    rcases h with (h | ⟨o, h⟩) | ⟨o, its, n, h1, h2, _⟩
    · exact .base (.lst h)
    · exact .base (.frz h)
    · exact .kList h1 h2
  | tup h _ =>
    rcases h with (h | ⟨o, h⟩) | ⟨o, its, n, h1, h2, _⟩
    · exact .base (.tup h)
    · exact .fTuple h
    · exact .kTuple h1 h2
theorem kit_str (d : PyData) : PySem.W.kitOne K (.type (tyN d)) (.type "str") = some (isStrD d) := by cases d <;> (refine kit_ty ?_; simp only [tyN, isStrD]; decide +kernel)
theorem kit_int (d : PyData) : PySem.W.kitOne K (.type (tyN d)) (.type "int") = some (isIntLikeD d) := by cases d <;> (refine kit_ty ?_; simp only [tyN, isIntLikeD]; decide +kernel)
theorem kit_bool (d : PyData) : PySem.W.kitOne K (.type (tyN d)) (.type "bool") = some (isBoolD d) := by cases d <;> (refine kit_ty ?_; simp only [tyN, isBoolD]; decide +kernel)
theorem kit_tuple (d : PyData) : PySem.W.kitOne K (.type (tyN d)) (.type "tuple") = some (isTupD d) := by cases d <;> (refine kit_ty ?_; simp only [tyN, isTupD]; decide +kernel)
theorem kit_list (d : PyData) : PySem.W.kitOne K (.type (tyN d)) (.type "list") = some (isListD d) := by cases d <;> (refine kit_ty ?_; simp only [tyN, isListD]; decide +kernel)
mutual
theorem Dp.ex (e : Ex H H') {v : V} {d : PyData} : Dp K H v d → Dp K H' v d
  | .non => .non
  | .bl b => .bl b
  | .int i => .int i
  | .str x => .str x
  | .lst h a => .lst (ex_l e h) (DpAll.ex e a)
  | .tup h a => .tup (ex_t e h) (DpAll.ex e a)
theorem DpAll.ex (e : Ex H H') {vs : List V} {ds : List PyData} : DpAll K H vs ds → DpAll K H' vs ds
  | .nil => .nil
  | .cons a b => .cons (Dp.ex e a) (DpAll.ex e b)
end
theorem DpAll.len : ∀ {vs : List V} {ds : List PyData}, DpAll K H vs ds → vs.length = ds.length
  | _, _, .nil => rfl
  | _, _, .cons _ r => by rw [List.length_cons, List.length_cons, DpAll.len r]
theorem DpAll.get : ∀ {vs : List V} {ds : List PyData}, DpAll K H vs ds → ∀ {i : Nat} {v : V}, vs[i]? = some v → ∃ d, ds[i]? = some d ∧ Dp K H v d
  | _, _, .nil, _, _, h => by simp at h
  | _, _, .cons (d := d) a _, 0, v, h => by
    have e : _ = v := Option.some.inj h
    subst e
    exact ⟨d, rfl, a⟩
  | _, _, .cons _ b, i + 1, v, h => DpAll.get b (i := i) (by simpa using h)
end
/-! ### the names and bounds of the program, over data -/
def letters : Str := "abcdefghijklmnopqrstuvwxyz"
def signs : Str := "abcdefghijklmnopqrstuvwxyz0123456789"
def isNameS (z : Str) : Bool := decide (1 ≤ z.length ∧ z.length ≤ 8) && (decide ((z.cps.toList.headD 0) ∈ letters.cps.toList) && z.cps.toList.all fun c => decide (c ∈ signs.cps.toList))
def isNameD : PyData → Bool | .str z => isNameS z | _ => false
def isIntD (d : PyData) : Bool := isIntLikeD d && !isBoolD d
def partsD : PyData → Option (PyData × PyData × PyData × PyData)
  | .tuple [a, b, c, e] => some (a, b, c, e)
  | _ => none
def isMostD : PyData → Bool | .str w => decide (w = ("most" : Str)) | _ => false
def sameD : PyData → PyData → Bool
  | .str x, .str y => decide (x = y)
  | _, _ => false
def isBoundD (d : PyData) : Bool := match partsD d with
  | some (a, b, c, e) => isMostD a && (isNameD b && (isNameD c && (!sameD b c && isIntD e)))
  | none => false
theorem isBound4 {a b c e : PyData} : isBoundD (.tuple [a, b, c, e]) = (isMostD a && (isNameD b && (isNameD c && (!sameD b c && isIntD e)))) := rfl
/-- texts in it, not too long -/
def szS : PyData → Prop | .str z => z.length ≤ sizeLine | _ => True
def szD : PyData → Prop | .tuple ds => ∀ d ∈ ds, szS d | _ => True

/-! ### the text -/
abbrev s_is_name : Stmt := top 8
theorem sc_is_name : FnScope ["value"] ["value"] (defScope s_is_name) := ⟨rfl, rfl, rfl, by decide +kernel, rfl, by decide +kernel, by decide +kernel⟩
abbrev s_is_integer : Stmt := top 9
theorem sc_is_integer : FnScope ["value"] ["value"] (defScope s_is_integer) := ⟨rfl, rfl, rfl, by decide +kernel, rfl, by decide +kernel, by decide +kernel⟩
abbrev s_is_bound : Stmt := top 10
theorem sc_is_bound : FnScope ["value", "word", "first", "second", "limit"] ["value"] (defScope s_is_bound) := ⟨rfl, rfl, rfl, by decide +kernel, rfl, by decide +kernel, by decide +kernel⟩
structure TxtA (K : PySem.W.Frag) (mg : Str → Option Value) (fN fI fB : Addr) : Prop where
  b_isinstance : mg "isinstance" = none
  b_str : mg "str" = none
  b_int : mg "int" = none
  b_bool : mg "bool" = none
  b_tuple : mg "tuple" = none
  b_list : mg "list" = none
  b_len : mg "len" = none
  b_all : mg "all" = none
  b_sum : mg "sum" = none
  b_zip : mg "zip" = none
  b_range : mg "range" = none
  letters : ∃ t, mg "LETTERS" = some (.str K7.letters t)
  signs : ∃ t, mg "SIGNS" = some (.str K7.signs t)
  longest : ∃ t, mg "LONGEST_NAME" = some (.int 8 t)
  f_is_name : mg "is_name" = some (.ref fN)
  k_is_name : PySem.W.keepIn K (.ref fN) = true
  f_is_integer : mg "is_integer" = some (.ref fI)
  k_is_integer : PySem.W.keepIn K (.ref fI) = true
  f_is_bound : mg "is_bound" = some (.ref fB)
  k_is_bound : PySem.W.keepIn K (.ref fB) = true

def spD (pre : PyData → Prop) (F : PyData → Bool) (K : PySem.W.Frag) : Sp := fun vs H Q _ => ∃ v d, vs = [v] ∧ Dp K H v d ∧ pre d ∧ ∀ H', Ex H H' → Q (.bl (F d)) H'
def spIsName (K : PySem.W.Frag) : Sp := spD szS isNameD K
def spIsInt (K : PySem.W.Frag) : Sp := spD (fun _ => True) isIntD K
def spIsBound (K : PySem.W.Frag) : Sp := spD szD isBoundD K
theorem iteT' {c : Bool} {A B : Prop} (hc : c = true) (h : A) : if c = true then A else B := by
  rw [if_pos hc]
  exact h
theorem ex_q {H H1 : Hp} {Q : VK} {b : Bool} (q : ∀ H', Ex H H' → Q (.bl b) H') {c : Bool} (e : b = c) (x : Ex H H1) : Q (.bl c) H1 := by
  rw [← e]
  exact q H1 x

section
variable {P : Program} {w : World} {K : PySem.W.Frag} {mg : Str → Option Value} {base : Heap} {fN fI fB : Addr}
theorem strip_all (z y : Str) : (Txt.stripChars z y = (⟨#[]⟩ : Str)) ↔ ∀ c ∈ z.cps.toList, c ∈ y.cps.toList := by
  have e0 : Txt.stripChars z y = Builtin.Str.strSub z (stripLo y.cps.contains true z) (stripHi y.cps.contains true z (stripLo y.cps.contains true z)) := PyProof.Rows.stripBy_eq _ _ _ _
  obtain ⟨l1, l2, l3⟩ := PyProof.Rows.lo_facts y.cps.contains z
  rw [e0]
  generalize stripLo y.cps.contains true z = lo at l1 l2 l3
  obtain ⟨h1, h2, h3, _⟩ := PyProof.Rows.hi_facts y.cps.contains z lo l1
  generalize stripHi y.cps.contains true z lo = hi at h1 h2 h3
  have hlen : z.cps.toList.length = z.length := by show _ = z.cps.size; simp
  have hin : ∀ c, y.cps.contains c = true ↔ c ∈ y.cps.toList := fun c => by rw [Array.contains_iff_mem]; simp
  have hk : ∀ k, k < z.length → ∃ c, z.cps.toList[k]? = some c ∧ z.cps.getD k 0 = c := fun k h => by
    have h' : k < z.cps.toList.length := by omega
    refine ⟨z.cps.toList[k], by simp, ?_⟩
    rw [← PyProof.Rows.getD_list]
    rw [List.getD, List.getElem?_eq_getElem h']; rfl
  constructor
  · intro h c hc
    have hd : (Builtin.Str.strSub z lo hi).cps.toList = [] := by rw [h]
    have hl : hi ≤ lo := by
      have := congrArg List.length hd
      rw [PySem.StrLaws.strSub_toList, List.length_take, List.length_drop, List.length_nil] at this
      omega
    obtain ⟨k, hk1, hk2⟩ := List.mem_iff_getElem.mp hc
    rw [hlen] at hk1
    obtain ⟨c', e1, e2⟩ := hk k hk1
    have : c' = c := by
      rw [List.getElem?_eq_getElem (by omega)] at e1
      rw [← hk2]
      exact (Option.some.inj e1).symm
    subst this
    rw [← hin, ← e2]
    by_cases hlo : k < lo
    · exact l2 k hlo
    · exact h3 k (by omega) hk1
  · intro h
    have hlo : lo = z.length := by
      rcases l3 with l3 | l3
      · exact l3
      · by_cases hb : lo < z.length
        · obtain ⟨c, e1, e2⟩ := hk lo hb
          rw [e2] at l3
          have := (hin c).mpr (h c (List.mem_of_getElem? e1))
          rw [this] at l3
          cases l3
        · omega
    have : hi = lo := by omega
    subst this
    have hd : (Builtin.Str.strSub z hi hi).cps.toList = [] := by rw [PySem.StrLaws.strSub_toList]; simp
    have : (Builtin.Str.strSub z hi hi).cps = #[] := by
      apply Array.ext'
      rw [hd]
    show (⟨(Builtin.Str.strSub z hi hi).cps⟩ : Str) = _
    rw [this]
theorem ok_is_name {f : Addr} {fd : FuncData} (F : Fun K "is_name" "is_name" s_is_name f fd) (T : TxtA K mg fN fI fB) : FnOk P w K mg base CX0 1 f fd ["value"] (spIsName K) := by
  obtain ⟨t1, hL⟩ := T.letters
  obtain ⟨t2, hS⟩ := T.signs
  obtain ⟨t3, hN⟩ := T.longest
  refine F.ok sc_is_name (fun vs H Q E h => ?_) (fun cdv A outer s H vs Q E hr h => ?_)
  · obtain ⟨v, d, rfl, _⟩ := h
    rfl
  · obtain ⟨v, d, rfl, hd, hz, q⟩ := h
    refine ⟨_, (pss_cons (ps_if (PW.pt (pw_or (pt_not (pt_val (pe_callB call_isi (by rfl) T.b_isinstance (by decide +kernel) (pa_cons (pv 0) (pa_cons (pe_bltn (v := .ty "str") (by rfl) T.b_str (by decide +kernel) rfl) pa_nil))))) (pw_or1 (pt_not (pt_chain op_le op_le pe_int (pe_callB call_len_str (by rfl) T.b_len (by decide +kernel) (pa_cons (pv 0) pa_nil)) (pe_glob (v := .int 8) rfl hN ⟨_, rfl⟩)))))) (pss_one (ps_ret pe_bl)) pss_nil)
        (pss_one (ps_ret (pe_and (pe_cmpR op_in_sign (pe_ix ix_str (pv 0) pe_int (fun _ _ => rfl)) (pe_glob (v := .str letters) rfl hL ⟨_, rfl⟩) rfl) (pe_one (pe_cmpR op_eq (pe_m1 PySem.F.slot_str_strip PySem.F.type_str_strip mt_stripChars (pv 0) (pe_glob (v := .str signs) rfl hS ⟨_, rfl⟩)) pe_str (nomark _))))))), ?_⟩
    refine ⟨_, rfl, v, _, _, _, _, rfl, .ty "str", dp_ty hd, kit_str d, _, rfl, ?_⟩
    cases hd with
    | str z =>
      have hz : z.length ≤ sizeLine := hz
      have hlen : z.cps.toList.length = z.length := by show _ = z.cps.size; simp
      refine ⟨_, rfl, z, rfl, hz, 1, _, rfl, rfl, _, rfl, ?_⟩
      by_cases h1 : (1 : Int) ≤ (z.length : Int)
      · rw [decide_eq_true h1]
        refine ⟨_, 8, rfl, rfl, _, rfl, ?_⟩
        by_cases h2 : (z.length : Int) ≤ 8
        · rw [decide_eq_true h2]
          obtain ⟨c, cs, hc⟩ : ∃ c cs, z.cps.toList = c :: cs := by
            cases e : z.cps.toList with
            | nil =>
              rw [e] at hlen
              simp at hlen
              omega
            | cons c cs => exact ⟨c, cs, rfl⟩
          refine ⟨_, rfl, z, 0, c, rfl, rfl, hz, at_lit (n := 0) rfl (show z.cps.toList[0]? = some c by rw [hc]; rfl), c, letters, rfl, rfl, _, rfl, ?_⟩
          have hv : isNameS z = (decide (c ∈ letters.cps.toList) && z.cps.toList.all fun c => decide (c ∈ signs.cps.toList)) := by
            unfold isNameS
            rw [decide_eq_true (show 1 ≤ z.length ∧ z.length ≤ 8 by omega), hc]
            rfl
          by_cases h3 : c ∈ letters.cps.toList
          · rw [decide_eq_true h3]
            refine iteT ⟨_, rfl, ⟨_, rfl⟩, z, signs, rfl, rfl, hz, rfl, ex_q q ?_ (Ex.refl _)⟩
            show isNameS z = decide (V.str (Txt.stripChars z signs) = V.str (⟨#[]⟩ : Str))
            rw [hv, decide_eq_true h3]
            apply Bool.eq_iff_iff.mpr
            rw [Bool.true_and, decide_eq_true_eq, List.all_eq_true]
            refine ⟨fun g => ?_, fun g => ?_⟩
            · rw [(strip_all z signs).mpr fun c h => of_decide_eq_true (g c h)]
            · intro c h
              exact decide_eq_true ((strip_all z signs).mp (V.str.inj g) c h)
          · rw [decide_eq_false h3]
            exact iteF (ex_q q (show isNameS z = false by rw [hv, decide_eq_false h3]; rfl) (Ex.refl _))
        · rw [decide_eq_false h2]
          refine ex_q q (show isNameS z = false from ?_) (Ex.refl _)
          unfold isNameS
          rw [decide_eq_false (show ¬ (1 ≤ z.length ∧ z.length ≤ 8) by omega)]
          rfl
      · rw [decide_eq_false h1]
        refine ⟨false, rfl, ex_q q (show isNameS z = false from ?_) (Ex.refl _)⟩
        unfold isNameS
        rw [decide_eq_false (show ¬ (1 ≤ z.length ∧ z.length ≤ 8) by omega)]
        rfl
    | _ => exact q H (Ex.refl _)
theorem ok_is_integer {f : Addr} {fd : FuncData} (F : Fun K "is_integer" "is_integer" s_is_integer f fd) (T : TxtA K mg fN fI fB) : FnOk P w K mg base CX0 1 f fd ["value"] (spIsInt K) := by
  refine F.ok sc_is_integer (fun vs H Q E h => ?_) (fun cdv A outer s H vs Q E hr h => ?_)
  · obtain ⟨v, d, rfl, _⟩ := h
    rfl
  · obtain ⟨v, d, rfl, hd, _, q⟩ := h
    refine ⟨_, (pss_one (ps_ret (pe_and (pe_callB call_isi (by rfl) T.b_isinstance (by decide +kernel) (pa_cons (pv 0) (pa_cons (pe_bltn (v := .ty "int") (by rfl) T.b_int (by decide +kernel) rfl) pa_nil))) (pe_one (pe_not (pe_callB call_isi (by rfl) T.b_isinstance (by decide +kernel) (pa_cons (pv 0) (pa_cons (pe_bltn (v := .ty "bool") (by rfl) T.b_bool (by decide +kernel) rfl) pa_nil)))))))), ?_⟩
    refine ⟨_, rfl, v, _, _, _, _, rfl, .ty "int", dp_ty hd, kit_int d, _, rfl, ?_⟩
    cases e : isIntLikeD d with
    | false => exact iteF (ex_q q (by show (isIntLikeD d && _) = false; rw [e]; rfl) (Ex.refl _))
    | true =>
      refine iteT ⟨_, rfl, v, _, _, _, _, rfl, .ty "bool", dp_ty hd, kit_bool d, _, rfl, ?_⟩
      exact ex_q q (by show (isIntLikeD d && _) = _; rw [e]; rfl) (Ex.refl _)
theorem ok_is_bound {f : Addr} {fd fdN fdI : FuncData} (F : Fun K "is_bound" "is_bound" s_is_bound f fd) (T : TxtA K mg fN fI fB)
    (FN : Fun K "is_name" "is_name" s_is_name fN fdN) (B_is_name : Binds K fdN ["value"] []) (FI : Fun K "is_integer" "is_integer" s_is_integer fI fdI) (B_is_integer : Binds K fdI ["value"] []) : FnOk P w K mg base CX0 2 f fd ["value"] (spIsBound K) := by
  have G_is_name : FnOk P w K mg base CX0 1 fN fdN ["value"] (spIsName K) := ok_is_name FN T
  have G_is_integer : FnOk P w K mg base CX0 1 fI fdI ["value"] (spIsInt K) := ok_is_integer FI T
  refine F.ok sc_is_bound (fun vs H Q E h => ?_) (fun cdv A outer s H vs Q E hr h => ?_)
  · obtain ⟨v, d, rfl, _⟩ := h
    rfl
  · obtain ⟨v, d, rfl, hd, hz, q⟩ := h
    refine ⟨_, (pss_cons (ps_if (PW.pt (pw_or (pt_not (pt_val (pe_callB call_isi (by rfl) T.b_isinstance (by decide +kernel) (pa_cons (pv 0) (pa_cons (pe_bltn (v := .ty "tuple") (by rfl) T.b_tuple (by decide +kernel) rfl) pa_nil))))) (pw_or1 (pt_cmpR op_ne (pe_callB call_len_seq (by rfl) T.b_len (by decide +kernel) (pa_cons (pv 0) pa_nil)) pe_int (nomark _))))) (pss_one (ps_ret pe_bl)) pss_nil)
        (pss_cons (ps_asg (pv 0) (pg_tup rfl (pgs_cons (pg_name (i := 1) sc_is_bound.nd rfl (Or.inl rfl)) (pgs_cons (pg_name (i := 2) sc_is_bound.nd rfl (Or.inl rfl)) (pgs_cons (pg_name (i := 3) sc_is_bound.nd rfl (Or.inl rfl)) (pgs_cons (pg_name (i := 4) sc_is_bound.nd rfl (Or.inl rfl)) pgs_nil))))))
        (pss_cons (ps_if (PW.pt (pw_or (pt_not (pt_val (pe_callB call_isi (by rfl) T.b_isinstance (by decide +kernel) (pa_cons (pv 1) (pa_cons (pe_bltn (v := .ty "str") (by rfl) T.b_str (by decide +kernel) rfl) pa_nil))))) (pw_or1 (pt_cmpR op_ne (pv 1) pe_str (nomark _))))) (pss_one (ps_ret pe_bl)) pss_nil)
        (pss_one (ps_ret (pe_and (pe_call G_is_name (hr.mono (by decide)) rfl T.f_is_name T.k_is_name B_is_name .nil pass0 (pa_cons (pv 2) pa_nil)) (pe_and (pe_call G_is_name (hr.mono (by decide)) rfl T.f_is_name T.k_is_name B_is_name .nil pass0 (pa_cons (pv 3) pa_nil)) (pe_and (pe_cmpR op_ne (pv 2) (pv 3) (nomark _)) (pe_one (pe_call G_is_integer (hr.mono (by decide)) rfl T.f_is_integer T.k_is_integer B_is_integer .nil pass0 (pa_cons (pv 4) pa_nil))))))))))), ?_⟩
    refine ⟨_, rfl, v, _, _, _, _, rfl, .ty "tuple", dp_ty hd, kit_tuple d, _, rfl, ?_⟩
    cases hd with
    | @tup a xs ds ha hall =>
      have hl := DpAll.len hall
      refine ⟨_, rfl, a, xs, rfl, .inr ha, rfl, _, rfl, ?_⟩
      by_cases h4 : xs.length = 4
      · refine iteNS (by rw [h4]; rfl) ?_
        obtain ⟨v1, v2, v3, v4, rfl⟩ : ∃ v1 v2 v3 v4, xs = [v1, v2, v3, v4] := by
          match xs, h4 with
          | [v1, v2, v3, v4], _ => exact ⟨v1, v2, v3, v4, rfl⟩
        cases hall with
        | cons g1 r1 =>
        cases r1 with
        | cons g2 r2 =>
        cases r2 with
        | cons g3 r3 =>
        cases r3 with
        | cons g4 r4 =>
        cases r4
        rename_i d1 d2 d3 d4
        have z2 : szS d2 := hz d2 (by simp)
        have z3 : szS d3 := hz d3 (by simp)
        refine ⟨_, rfl, a, _, rfl, ha, rfl, _, _, rfl, _, _, rfl, _, _, rfl, _, _, rfl, rfl, ?_⟩
        refine ⟨_, rfl, v1, _, _, _, _, rfl, .ty "str", dp_ty g1, kit_str d1, _, rfl, ?_⟩
        cases g1 with
        | str wd =>
          refine ⟨_, rfl, rfl, _, rfl, ?_⟩
          by_cases hw : wd = ("most" : Str)
          · refine iteNS (by rw [hw]) ?_
            subst hw
            -- is_name(first) and is_name(second) and first != second and is_integer(limit)
            refine ⟨_, rfl, v2, d2, rfl, g2, z2, fun H1 e1 => ⟨_, rfl, ?_⟩⟩
            cases e2 : isNameD d2 with
            | false => exact iteF (ex_q q (by rw [isBound4, e2]; simp) e1)
            | true =>
              refine iteT ⟨_, rfl, v3, d3, rfl, Dp.ex e1 g3, z3, fun H2 e3 => ⟨_, rfl, ?_⟩⟩
              cases g2 with
              | str x =>
                have e2' : isNameS x = true := e2
                cases e4 : isNameD d3 with
                | false => exact iteF (ex_q q (by rw [isBound4, e4]; simp) (e1.trans e3))
                | true =>
                  cases g3 with
                  | str y =>
                    have e4' : isNameS y = true := e4
                    refine iteT ⟨_, rfl, _, rfl, rfl, _, rfl, ?_⟩
                    by_cases hxy : x = y
                    · subst hxy
                      have e5 : decide (V.str x = V.str x) = true := decide_eq_true rfl
                      rw [e5]
                      exact iteF (ex_q q (by rw [isBound4, show sameD (.str x) (.str x) = true from decide_eq_true rfl]; simp) (e1.trans e3))
                    · have e5 : decide (V.str x = V.str y) = false := decide_eq_false fun z => hxy (V.str.inj z)
                      rw [e5]
                      refine iteT ⟨_, rfl, v4, d4, rfl, Dp.ex (e1.trans e3) g4, trivial, fun H3 e6 => ?_⟩
                      refine ex_q q ?_ ((e1.trans e3).trans e6)
                      rw [isBound4, e2, e4, show sameD (.str x) (.str y) = false from decide_eq_false hxy, (by simp [isMostD] : isMostD (.str ("most" : Str)) = true)]
                      rfl
                  | _ => cases e4
              | _ => cases e2
          · refine iteT' ?_ (ex_q q ?_ (Ex.refl _))
            · have e5 : decide (V.str wd = V.str ("most" : Str)) = false := decide_eq_false fun z => hw (V.str.inj z)
              rw [e5]
              rfl
            · rw [isBound4, show isMostD (.str wd) = false from decide_eq_false hw]
              rfl
        | _ => exact ex_q q rfl (Ex.refl _)
      · refine iteT' ?_ (ex_q q ?_ (Ex.refl _))
        · have e5 : decide (V.int (xs.length : Nat) = V.int 4) = false := decide_eq_false fun z => h4 (by have := V.int.inj z; omega)
          rw [e5]
          rfl
        · have l4 : ds.length ≠ 4 := by omega
          show isBoundD (.tuple ds) = false
          match ds, l4 with
          | [], _ => rfl
          | [_], _ => rfl
          | [_, _], _ => rfl
          | [_, _, _], _ => rfl
          | [_, _, _, _], h => exact absurd rfl h
          | _ :: _ :: _ :: _ :: _ :: _, _ => rfl
    | _ => exact ex_q q rfl (Ex.refl _)
end
end K7
set_option maxRecDepth 100000
set_option maxHeartbeats 4000000
namespace K7
open PySem L2 Evl RZ
/-! ### chains, over data -/
def seqD : PyData → Option (List PyData) | .list ds => some ds | .tuple ds => some ds | _ => none
def sndD (d : PyData) : Str := match partsD d with | some (_, _, .str y, _) => y | _ => ""
def fstD (d : PyData) : Str := match partsD d with | some (_, .str x, _, _) => x | _ => ""
def limD (d : PyData) : Int := match partsD d with | some (_, _, _, .int k) => k | _ => 0
def linkD (a b : PyData) : Bool := decide (sndD a = fstD b)
def linksD : List PyData → Bool
  | a :: b :: r => linkD a b && linksD (b :: r)
  | _ => true
def isChainD (d : PyData) : Bool := match seqD d with
  | some ds => !ds.isEmpty && (ds.all isBoundD && linksD ds)
  | none => false
def totalD (ds : List PyData) : Int := (ds.map limD).sum
/-- a sequence of data with texts that are not too long, at most a thousand -/
def szL (d : PyData) : Prop := (∀ x ∈ (seqD d).getD [], szD x) ∧ ((seqD d).getD []).length ≤ 1000
theorem range_all (ds : List PyData) (f : PyData → Bool) : ((List.range ds.length).map fun i => f (ds.getD i .none)).all id = ds.all f := by
  have e : ((List.range ds.length).map fun i => f (ds.getD i .none)) = ds.map f := by
    apply List.ext_getElem?
    intro i
    rw [List.getElem?_map, List.getElem?_map]
    by_cases h : i < ds.length
    · simp [h]
    · simp [h]
  rw [e, List.all_map]
  rfl
theorem range_links : ∀ ds : List PyData, linksD ds = ((List.range (ds.length - 1)).map fun j => linkD (ds.getD j .none) (ds.getD (j + 1) .none)).all id
  | [] => rfl
  | [_] => rfl
  | a :: b :: r => by
    have ih := range_links (b :: r)
    show (linkD a b && linksD (b :: r)) = _
    rw [ih]
    show _ = ((List.range (r.length + 1)).map fun j => linkD ((a :: b :: r).getD j .none) ((a :: b :: r).getD (j + 1) .none)).all id
    rw [List.range_succ_eq_map, List.map_cons, List.all_cons, List.map_map]
    rfl
theorem cut_tail {xs : List V} (h : 1 ≤ xs.length) : cutV xs (some 1) none = xs.drop 1 := by
  have e1 : HT.sIx xs.length 0 (some 1) = 1 := by
    have : HT.sIx xs.length 0 (some ((1 : Nat) : Int)) = min 1 xs.length := HT.sIx_nat _ _ 1
    rw [show min 1 xs.length = 1 by omega] at this
    exact this
  unfold cutV
  rw [e1, HT.sIx_none]
  exact List.take_of_length_le (by rw [List.length_drop]; omega)
theorem iteF' {c : Bool} {A B : Prop} (hc : c = false) (h : B) : if c = true then A else B := by
  rw [hc]
  exact iteF h
section
variable {K : PySem.W.Frag} {σ : L2.St} {H H1 : Hp} {J : It} {G : Hp → Prop} {te : TE} {v : V} {d : PyData}
theorem dp_cons {vs : List V} {d : PyData} {ds : List PyData} (h : DpAll K H vs (d :: ds)) : ∃ v r, vs = v :: r ∧ Dp K H v d ∧ DpAll K H r ds := by
  cases h with
  | cons a b => exact ⟨_, _, rfl, a, b⟩
theorem dp_nil {vs : List V} (h : DpAll K H vs []) : vs = [] := by
  cases h
  rfl
theorem kit_seq (d : PyData) : PySem.W.kitAny K (.type (tyN d)) [.type "list", .type "tuple"] = some (isListD d || isTupD d) := by
  refine kitAny_cons (kit_list d) (fun h => ?_) (fun h => by rw [h]; rfl)
  refine kitAny_cons (kit_tuple d) (fun h2 => ?_) (fun h2 => by rw [h, h2]; rfl)
  rw [h, h2]
  rfl
theorem parts_tup {d a b c e : PyData} (h : partsD d = some (a, b, c, e)) : d = .tuple [a, b, c, e] := by
  unfold partsD at h
  split at h
  · cases h
    rfl
  · cases h
theorem bound_at (h : Dp K H v d) (b : isBoundD d = true) : ∃ (p : Addr) (x y : Str) (k : Int), v = .ref p ∧ SqT K H p [.str "most", .str x, .str y, .int k] ∧ d = .tuple [.str "most", .str x, .str y, .int k] ∧ x ≠ y ∧ isNameS x = true ∧ isNameS y = true := by
  unfold isBoundD at b
  split at b
  · rename_i d1 d2 d3 d4 hp
    have e := parts_tup hp
    subst e
    simp only [Bool.and_eq_true] at b
    obtain ⟨b1, b2, b3, b4, b5⟩ := b
    obtain ⟨w, rfl, hw⟩ : ∃ w, d1 = .str w ∧ w = ("most" : Str) := by
      cases d1 <;> first | exact ⟨_, rfl, of_decide_eq_true b1⟩ | exact absurd b1 Bool.false_ne_true
    obtain ⟨x, rfl⟩ : ∃ x, d2 = .str x := by
      cases d2 <;> first | exact ⟨_, rfl⟩ | exact absurd b2 Bool.false_ne_true
    obtain ⟨y, rfl⟩ : ∃ y, d3 = .str y := by
      cases d3 <;> first | exact ⟨_, rfl⟩ | exact absurd b3 Bool.false_ne_true
    obtain ⟨k, rfl⟩ : ∃ k, d4 = .int k := by
      cases d4 <;> first | exact ⟨_, rfl⟩ | exact absurd b5 Bool.false_ne_true
    rw [hw] at h ⊢
    have hne : x ≠ y := fun z => by
      have b6 : (!decide (x = y)) = true := b4
      rw [decide_eq_true z] at b6
      cases b6
    cases h with
    | @tup a xs ds ha hall =>
      obtain ⟨v1, r1, rfl, g1, hall⟩ := dp_cons hall
      obtain ⟨v2, r2, rfl, g2, hall⟩ := dp_cons hall
      obtain ⟨v3, r3, rfl, g3, hall⟩ := dp_cons hall
      obtain ⟨v4, r4, rfl, g4, hall⟩ := dp_cons hall
      have := dp_nil hall
      subst this
      cases g1
      cases g2
      cases g3
      cases g4
      exact ⟨a, x, y, k, rfl, ha, rfl, hne, b2, b3⟩
  · cases b
/-- a comprehension whose i-th element is f i -/
theorem lcMapI {xs : List V} (w : Walk J xs.length G (YAt xs)) (f : Nat → V) {j : Nat} {vs : List Nat} (hz : xs.length < sizeLine) (hG : ∀ H', Ex H1 H' → G H')
    (hw : ∀ v, wipe ((wipe σ vs).set j (some v)) vs = wipe σ vs) (he : ∀ i v, xs[i]? = some v → ∀ H', Ex H1 H' → Ev te ((wipe σ vs).set j (some v)) H' (f i)) {Qd : Hp → Prop} {D : Addr} (hD : H1 D = none)
    (k : ∀ H', Ex H1 H' → H' D = some (.lst ((List.range xs.length).map f)) → Qd H') :
    ∃ W : Nat → Nat → Hp → Prop, (∃ m, W 0 m (upd H1 D (.lst []))) ∧ ∀ i m H, W i m H →
      (J.stop i H ∧ Qd H) ∨ (J.go i H ∧ ∃ Nx : Hp → Prop, (∀ H', Nx H' → ∃ m', m' < m ∧ W (i + 1) m' H') ∧ ∀ x H', J.yld i H x H' → gName j x (wipe σ vs) H' fun σ2 H2 => wipe σ2 vs = wipe σ vs ∧ tYes σ2 H2 fun b H3 =>
        if b = true then te σ2 H3 fun y H4 => ∃ acc, H4 D = some (.lst acc) ∧ acc.length < sizeLine ∧ Nx (upd H4 D (.lst (acc ++ [y]))) else Nx H3) := by
  refine lc_it w (fun i H => Ex H1 H ∧ H D = some (.lst ((List.range i).map f))) ⟨Ex.new hD, upd_same⟩ (fun i H _ p => hG H p.1) ?_ (fun H p => k H p.1 p.2)
  rintro i x H H' hi ⟨e, hl⟩ ⟨rfl, hx⟩
  unfold gName tYes
  dsimp only
  refine ⟨hw x, ?_⟩
  rw [if_pos rfl]
  refine he i x hx H' e H' (Ex.refl _) _ fun H4 e4 => ⟨_, e4 D _ hl, ?_, (e.trans e4).mut hD, ?_⟩
  · rw [List.length_map, List.length_range]
    omega
  · rw [upd_same, List.range_succ, List.map_append]
    rfl
theorem walk_zipT {a b : Addr} {xs ys : List V} {n : Nat} (hn : n = min xs.length ys.length) : Walk (ItzT K a b) n (fun H => SqT K H a xs ∧ SqT K H b ys) (YPair (fun i => xs[i]?) (fun i => ys[i]?)) := by
  subst hn
  refine ⟨fun i _ hi q => ?_, fun _ q => ⟨xs, ys, q.1, q.2, by omega⟩, fun i H v H' _ q y => ?_⟩
  · have h1 : i < xs.length := by omega
    have h2 : i < ys.length := by omega
    exact ⟨xs, ys, xs[i], ys[i], q.1, q.2, by simp [h1], by simp [h2]⟩
  · obtain ⟨T, x, z, h1, h2, h3, h4, h5⟩ := y
    exact ⟨T, x, z, h1, h2, h3, h4 xs q.1, h5 ys q.2⟩
end
/-! ### the text -/
abbrev s_is_chain : Stmt := top 12
theorem sc_is_chain : FnScope ["value", "before", "after", "item"] ["value"] (defScope s_is_chain) := ⟨rfl, rfl, rfl, by decide +kernel, rfl, by decide +kernel, by decide +kernel⟩
abbrev s_is_ring : Stmt := top 13
theorem sc_is_ring : FnScope ["value"] ["value"] (defScope s_is_ring) := ⟨rfl, rfl, rfl, by decide +kernel, rfl, by decide +kernel, by decide +kernel⟩
abbrev s_total_of : Stmt := top 14
theorem sc_total_of : FnScope ["bounds", "bound"] ["bounds"] (defScope s_total_of) := ⟨rfl, rfl, rfl, by decide +kernel, rfl, by decide +kernel, by decide +kernel⟩
abbrev s_chain_sum : Stmt := top 15
theorem sc_chain_sum : FnScope ["bounds"] ["bounds"] (defScope s_chain_sum) := ⟨rfl, rfl, rfl, by decide +kernel, rfl, by decide +kernel, by decide +kernel⟩
abbrev s_ring_sum : Stmt := top 16
theorem sc_ring_sum : FnScope ["bounds"] ["bounds"] (defScope s_ring_sum) := ⟨rfl, rfl, rfl, by decide +kernel, rfl, by decide +kernel, by decide +kernel⟩
def spIsChain (K : PySem.W.Frag) : Sp := spD szL isChainD K
structure FB (K : PySem.W.Frag) (fN fI fB : Addr) (fdN fdI fdB : FuncData) : Prop where
  FN : Fun K "is_name" "is_name" s_is_name fN fdN
  BN : Binds K fdN ["value"] []
  FI : Fun K "is_integer" "is_integer" s_is_integer fI fdI
  BI : Binds K fdI ["value"] []
  FB : Fun K "is_bound" "is_bound" s_is_bound fB fdB
  BB : Binds K fdB ["value"] []
section
variable {P : Program} {w : World} {K : PySem.W.Frag} {mg : Str → Option Value} {base : Heap} {fN fI fB : Addr} {fdN fdI fdB : FuncData}
theorem ok_is_chain {f : Addr} {fd : FuncData} (F : Fun K "is_chain" "is_chain" s_is_chain f fd) (T : TxtA K mg fN fI fB) (B : FB K fN fI fB fdN fdI fdB) : FnOk P w K mg base CX0 3 f fd ["value"] (spIsChain K) := by
  have G_is_bound : FnOk P w K mg base CX0 2 fB fdB ["value"] (spIsBound K) := ok_is_bound B.FB T B.FN B.BN B.FI B.BI
  have B_is_bound := B.BB
  refine F.ok sc_is_chain (fun vs H Q E h => ?_) (fun cdv A outer s H vs Q E hr h => ?_)
  · obtain ⟨v, d, rfl, _⟩ := h
    rfl
  · obtain ⟨v, d, rfl, hd, hz, q⟩ := h
    cases hd with
    | @lst a xs ds ha hall =>
      have hlen := DpAll.len hall
      obtain ⟨hsz, hn⟩ := hz
      have hn : ds.length ≤ 1000 := hn
      refine ⟨_, (pss_cons (ps_if (PW.pt (pw_or (pt_not (pt_val (pe_callB call_isiT (by rfl) T.b_isinstance (by decide +kernel) (pa_cons (pv 0) (pa_cons (pe_tup (pa_cons (pe_bltn (v := .ty "list") (by rfl) T.b_list (by decide +kernel) rfl) (pa_cons (pe_bltn (v := .ty "tuple") (by rfl) T.b_tuple (by decide +kernel) rfl) pa_nil))) pa_nil))))) (pw_or1 (pt_cmpR op_eq (pe_callB call_len_seq (by rfl) T.b_len (by decide +kernel) (pa_cons (pv 0) pa_nil)) pe_int (nomark _))))) (pss_one (ps_ret pe_bl)) pss_nil)
        (pss_cons (ps_if (pt_not (pt_val (pe_callB (cr_all rfl) (by rfl) T.b_all (by decide +kernel) (pa_cons (pe_lc (own := [("item", 3)]) (g := gName 3) (tt := tYes) rfl sc_is_chain.nd (pi_list (pv 0)) (blkOk_by (N := ["value", "before", "after", "item"]) (sc := defScope s_is_chain) (by decide +kernel)) (fun _ _ _ _ _ => (pg_name (i := 3) sc_is_chain.nd rfl (Or.inl rfl))) (fun _ _ _ _ _ => pts_nil) (fun _ _ _ _ _ => (pe_call G_is_bound (hr.mono (by decide)) rfl T.f_is_bound T.k_is_bound B_is_bound .nil pass0 (pa_cons (pv 3) pa_nil)))) pa_nil)))) (pss_one (ps_ret pe_bl)) pss_nil)
        (pss_one (ps_ret (pe_callB (cr_all rfl) (by rfl) T.b_all (by decide +kernel) (pa_cons (pe_lc (own := [("before", 1), ("after", 2)]) (g := (gTup K 2 (gCons (gName 1) (gCons (gName 2) gNil)))) (tt := tYes) (te := tOp rEq (tOp (rIxT K) (tVar 1) (tC (.int 2))) (tOp (rIxT K) (tVar 2) (tC (.int 1)))) rfl sc_is_chain.nd (RZ.pi_zipA (by rfl) T.b_zip (pa_cons (pv 0) (pa_cons (pe_slice sl_list (pv 0) (po_some pe_int) po_none) pa_nil))) (blkOk_by (N := ["value", "before", "after", "item"]) (sc := defScope s_is_chain) (by decide +kernel)) (fun _ _ _ _ _ => (pg_tup rfl (pgs_cons (pg_name (i := 1) sc_is_chain.nd rfl (Or.inl rfl)) (pgs_cons (pg_name (i := 2) sc_is_chain.nd rfl (Or.inl rfl)) pgs_nil)))) (fun _ _ _ _ _ => pts_nil) (fun _ _ _ _ _ => (pe_cmpR op_eq (pe_ix ix_tup (pv 1) pe_int (fun _ _ => rfl)) (pe_ix ix_tup (pv 2) pe_int (fun _ _ => rfl)) (nomark _)))) pa_nil)))))), ?_⟩
      refine ⟨_, rfl, (by show 2 ≤ sizeLine; decide), fun tp htp => ⟨_, tp, _, _, _, _, rfl, upd_same, .cons (.ty "list") (.cons (.ty "tuple") .nil), dp_ty (Dp.ex (Ex.new htp) (Dp.lst ha hall)), kit_seq _, _, rfl, ?_⟩⟩
      generalize hH1 : upd H tp (.tup [V.ty "list", V.ty "tuple"]) = H1
      have e1 : Ex H H1 := by rw [← hH1]; exact Ex.new htp
      have ha1 : SqL K H1 a xs := ex_l e1 ha
      refine ⟨_, rfl, a, xs, rfl, .inl ha1, rfl, _, rfl, ?_⟩
      have hseq : seqD (.list ds) = some ds := rfl
      by_cases h0 : xs.length = 0
      · refine iteT' (by rw [decide_eq_true (show V.int (xs.length : Nat) = V.int 0 by rw [h0]; rfl)]) (ex_q q ?_ e1)
        have : ds = [] := List.eq_nil_of_length_eq_zero (by omega)
        subst this
        rfl
      · refine iteF' (by rw [decide_eq_false (fun z => h0 (by have := V.int.inj z; omega))]) ?_
        refine ⟨_, rfl, a, rfl, ⟨xs, ha1⟩, fun D hD => lcMapI (walk_list) (fun i => .bl (isBoundD (ds.getD i .none))) (Nat.lt_of_le_of_lt (by omega : xs.length ≤ 1000) (by decide)) (fun H' e => ex_l e ha1) (fun _ => rfl) ?_ hD ?_⟩
        · intro i v hi H' e H2 e2 Q' q'
          obtain ⟨d, hd, hv⟩ := DpAll.get hall hi
          refine ⟨_, rfl, v, d, rfl, Dp.ex ((e1.trans e).trans e2) hv, hsz d (List.mem_of_getElem? hd), fun H3 e3 => ?_⟩
          have z : ds.getD i .none = d := by rw [List.getD_eq_getElem?_getD, hd]; rfl
          have g := q' H3 e3
          rw [z] at g
          exact g
        · intro H2 e2 hD2
          refine ⟨D, (List.range xs.length).map fun i => isBoundD (ds.getD i .none), rfl, SqL.of (by rw [hD2, List.map_map]; rfl), _, rfl, ?_⟩
          have hall2 : ((List.range xs.length).map fun i => isBoundD (ds.getD i .none)).all id = ds.all isBoundD := by rw [hlen]; exact range_all ds isBoundD
          rw [hall2]
          cases hb : ds.all isBoundD with
          | false => exact iteT' rfl (ex_q q (by show (!ds.isEmpty && (ds.all isBoundD && linksD ds)) = false; rw [hb]; simp) (e1.trans e2))
          | true =>
            refine iteF' rfl ?_
            have e12 := e1.trans e2
            have ha2 : SqL K H2 a xs := ex_l e2 ha1
            have hcut : cutV xs (some 1) none = xs.drop 1 := cut_tail (by omega)
            refine ⟨_, rfl, _, rfl, 1, rfl, a, xs, rfl, ha2, fun p hp => ⟨a, p, xs, xs.drop 1, rfl, .inl ⟨ex_l (Ex.new hp) ha2, SqL.of (by rw [upd_same, hcut]), fun D2 hD2n => ?_⟩⟩⟩
            generalize hH3 : upd H2 p (.lst (cutV xs (some 1) none)) = H3 at hD2n ⊢
            have e3 : Ex H2 H3 := by rw [← hH3]; exact Ex.new hp
            have hp3 : SqL K H3 p (xs.drop 1) := SqL.of (by rw [← hH3, upd_same, hcut])
            have ha3 : SqL K H3 a xs := ex_l e3 ha2
            refine lc_it (walk_zip (n := xs.length - 1) (by rw [List.length_drop]; omega)) (fun i H' => Ex H3 H' ∧ H' D2 = some (.lst ((List.range i).map fun j => V.bl (linkD (ds.getD j .none) (ds.getD (j + 1) .none))))) ⟨Ex.new hD2n, upd_same⟩ (fun i H' _ pv => ⟨ex_l pv.1 ha3, ex_l pv.1 hp3⟩) ?_ ?_
            · rintro i v H' H4 hi ⟨e4, hl4⟩ ⟨T4, x, y, rfl, hT, rfl, hx, hy⟩
              have hy' : xs[i + 1]? = some y := by
                have : (xs.drop 1)[i]? = some y := hy
                rw [List.getElem?_drop] at this
                rw [Nat.add_comm i 1]
                exact this
              obtain ⟨dx, hdx, gx⟩ := DpAll.get hall hx
              obtain ⟨dy, hdy, gy⟩ := DpAll.get hall hy'
              have bx : isBoundD dx = true := (List.all_eq_true.mp hb) dx (List.mem_of_getElem? hdx)
              have by' : isBoundD dy = true := (List.all_eq_true.mp hb) dy (List.mem_of_getElem? hdy)
              have e5 : Ex H' (upd H' T4 (.tup [x, y])) := Ex.new hT
              have e04 := (e12.trans e3).trans e4
              obtain ⟨px, x1, y1, k1, rfl, sx, rfl, _⟩ := bound_at (Dp.ex (e04.trans e5) gx) bx
              obtain ⟨py, x2, y2, k2, rfl, sy, rfl, _⟩ := bound_at (Dp.ex (e04.trans e5) gy) by'
              have nTD : D2 ≠ T4 := ne_of_none hl4 hT
              refine ⟨T4, [.ref px, .ref py], rfl, SqT.of upd_same, rfl, _, _, rfl, _, _, rfl, rfl, rfl, ?_⟩
              unfold tYes
              dsimp only
              rw [if_pos rfl]
              refine ⟨_, rfl, px, _, 2, _, rfl, rfl, sx, at_lit (n := 2) rfl rfl, _, rfl, py, _, 1, _, rfl, rfl, sy, at_lit (n := 1) rfl rfl, rfl, _, (by rw [upd_ne nTD]; exact hl4), ?_, ?_, ?_⟩
              · rw [List.length_map, List.length_range]
                exact Nat.lt_of_le_of_lt (by omega : i ≤ 1000) (by decide)
              · exact (e4.trans e5).mut hD2n
              · have z1 : ds.getD i .none = .tuple [.str ("most" : Str), .str x1, .str y1, .int k1] := by rw [List.getD_eq_getElem?_getD, hdx]; rfl
                have z2 : ds.getD (i + 1) .none = .tuple [.str ("most" : Str), .str x2, .str y2, .int k2] := by rw [List.getD_eq_getElem?_getD, hdy]; rfl
                rw [upd_same, List.range_succ, List.map_append]
                simp only [List.map_cons, List.map_nil, z1, z2]
                congr 5
                by_cases hxy : y1 = x2
                · rw [decide_eq_true (show V.str y1 = V.str x2 by rw [hxy])]
                  exact (decide_eq_true hxy).symm
                · rw [decide_eq_false (fun z => hxy (V.str.inj z))]
                  exact (decide_eq_false hxy).symm
            · rintro H4 ⟨e4, hl4⟩
              refine ⟨D2, (List.range (xs.length - 1)).map fun j => linkD (ds.getD j .none) (ds.getD (j + 1) .none), rfl, SqL.of (by rw [hl4, List.map_map]; rfl), ?_⟩
              refine ex_q q ?_ ((e12.trans e3).trans e4)
              show (!ds.isEmpty && (ds.all isBoundD && linksD ds)) = _
              have ne : ds.isEmpty = false := by
                cases ds with
                | nil => rw [hlen] at h0; exact absurd rfl h0
                | cons _ _ => rfl
              rw [ne, hb, hlen, range_links ds]
              rfl
    | @tup a xs ds ha hall =>
      have hlen := DpAll.len hall
      obtain ⟨hsz, hn⟩ := hz
      have hn : ds.length ≤ 1000 := hn
      refine ⟨_, (pss_cons (ps_if (PW.pt (pw_or (pt_not (pt_val (pe_callB call_isiT (by rfl) T.b_isinstance (by decide +kernel) (pa_cons (pv 0) (pa_cons (pe_tup (pa_cons (pe_bltn (v := .ty "list") (by rfl) T.b_list (by decide +kernel) rfl) (pa_cons (pe_bltn (v := .ty "tuple") (by rfl) T.b_tuple (by decide +kernel) rfl) pa_nil))) pa_nil))))) (pw_or1 (pt_cmpR op_eq (pe_callB call_len_seq (by rfl) T.b_len (by decide +kernel) (pa_cons (pv 0) pa_nil)) pe_int (nomark _))))) (pss_one (ps_ret pe_bl)) pss_nil)
        (pss_cons (ps_if (pt_not (pt_val (pe_callB (cr_all rfl) (by rfl) T.b_all (by decide +kernel) (pa_cons (pe_lc (own := [("item", 3)]) (g := gName 3) (tt := tYes) rfl sc_is_chain.nd (pi_tup (pv 0)) (blkOk_by (N := ["value", "before", "after", "item"]) (sc := defScope s_is_chain) (by decide +kernel)) (fun _ _ _ _ _ => (pg_name (i := 3) sc_is_chain.nd rfl (Or.inl rfl))) (fun _ _ _ _ _ => pts_nil) (fun _ _ _ _ _ => (pe_call G_is_bound (hr.mono (by decide)) rfl T.f_is_bound T.k_is_bound B_is_bound .nil pass0 (pa_cons (pv 3) pa_nil)))) pa_nil)))) (pss_one (ps_ret pe_bl)) pss_nil)
        (pss_one (ps_ret (pe_callB (cr_all rfl) (by rfl) T.b_all (by decide +kernel) (pa_cons (pe_lc (own := [("before", 1), ("after", 2)]) (g := (gTup K 2 (gCons (gName 1) (gCons (gName 2) gNil)))) (tt := tYes) (te := tOp rEq (tOp (rIxT K) (tVar 1) (tC (.int 2))) (tOp (rIxT K) (tVar 2) (tC (.int 1)))) rfl sc_is_chain.nd (RZ.pi_zipA (by rfl) T.b_zip (pa_cons (pv 0) (pa_cons (pe_slice sl_tup (pv 0) (po_some pe_int) po_none) pa_nil))) (blkOk_by (N := ["value", "before", "after", "item"]) (sc := defScope s_is_chain) (by decide +kernel)) (fun _ _ _ _ _ => (pg_tup rfl (pgs_cons (pg_name (i := 1) sc_is_chain.nd rfl (Or.inl rfl)) (pgs_cons (pg_name (i := 2) sc_is_chain.nd rfl (Or.inl rfl)) pgs_nil)))) (fun _ _ _ _ _ => pts_nil) (fun _ _ _ _ _ => (pe_cmpR op_eq (pe_ix ix_tup (pv 1) pe_int (fun _ _ => rfl)) (pe_ix ix_tup (pv 2) pe_int (fun _ _ => rfl)) (nomark _)))) pa_nil)))))), ?_⟩
      refine ⟨_, rfl, (by show 2 ≤ sizeLine; decide), fun tp htp => ⟨_, tp, _, _, _, _, rfl, upd_same, .cons (.ty "list") (.cons (.ty "tuple") .nil), dp_ty (Dp.ex (Ex.new htp) (Dp.tup ha hall)), kit_seq _, _, rfl, ?_⟩⟩
      generalize hH1 : upd H tp (.tup [V.ty "list", V.ty "tuple"]) = H1
      have e1 : Ex H H1 := by rw [← hH1]; exact Ex.new htp
      have ha1 : SqT K H1 a xs := ex_t e1 ha
      refine ⟨_, rfl, a, xs, rfl, .inr ha1, rfl, _, rfl, ?_⟩
      have hseq : seqD (.tuple ds) = some ds := rfl
      by_cases h0 : xs.length = 0
      · refine iteT' (by rw [decide_eq_true (show V.int (xs.length : Nat) = V.int 0 by rw [h0]; rfl)]) (ex_q q ?_ e1)
        have : ds = [] := List.eq_nil_of_length_eq_zero (by omega)
        subst this
        rfl
      · refine iteF' (by rw [decide_eq_false (fun z => h0 (by have := V.int.inj z; omega))]) ?_
        refine ⟨_, rfl, a, rfl, ⟨xs, ha1⟩, fun D hD => lcMapI (walk_tup) (fun i => .bl (isBoundD (ds.getD i .none))) (Nat.lt_of_le_of_lt (by omega : xs.length ≤ 1000) (by decide)) (fun H' e => ex_t e ha1) (fun _ => rfl) ?_ hD ?_⟩
        · intro i v hi H' e H2 e2 Q' q'
          obtain ⟨d, hd, hv⟩ := DpAll.get hall hi
          refine ⟨_, rfl, v, d, rfl, Dp.ex ((e1.trans e).trans e2) hv, hsz d (List.mem_of_getElem? hd), fun H3 e3 => ?_⟩
          have z : ds.getD i .none = d := by rw [List.getD_eq_getElem?_getD, hd]; rfl
          have g := q' H3 e3
          rw [z] at g
          exact g
        · intro H2 e2 hD2
          refine ⟨D, (List.range xs.length).map fun i => isBoundD (ds.getD i .none), rfl, SqL.of (by rw [hD2, List.map_map]; rfl), _, rfl, ?_⟩
          have hall2 : ((List.range xs.length).map fun i => isBoundD (ds.getD i .none)).all id = ds.all isBoundD := by rw [hlen]; exact range_all ds isBoundD
          rw [hall2]
          cases hb : ds.all isBoundD with
          | false => exact iteT' rfl (ex_q q (by show (!ds.isEmpty && (ds.all isBoundD && linksD ds)) = false; rw [hb]; simp) (e1.trans e2))
          | true =>
            refine iteF' rfl ?_
            have e12 := e1.trans e2
            have ha2 : SqT K H2 a xs := ex_t e2 ha1
            have hcut : cutV xs (some 1) none = xs.drop 1 := cut_tail (by omega)
            refine ⟨_, rfl, _, rfl, 1, rfl, a, xs, rfl, ha2, (by rintro ⟨z, _⟩; have : HT.sIx xs.length 0 (some 1) = min 1 xs.length := HT.sIx_nat _ _ 1; omega), fun p hp => ⟨a, p, xs, xs.drop 1, rfl, .inr ⟨ex_t (Ex.new hp) ha2, SqT.of (by rw [upd_same, hcut]), fun D2 hD2n => ?_⟩⟩⟩
            generalize hH3 : upd H2 p (.tup (cutV xs (some 1) none)) = H3 at hD2n ⊢
            have e3 : Ex H2 H3 := by rw [← hH3]; exact Ex.new hp
            have hp3 : SqT K H3 p (xs.drop 1) := SqT.of (by rw [← hH3, upd_same, hcut])
            have ha3 : SqT K H3 a xs := ex_t e3 ha2
            refine lc_it (walk_zipT (n := xs.length - 1) (by rw [List.length_drop]; omega)) (fun i H' => Ex H3 H' ∧ H' D2 = some (.lst ((List.range i).map fun j => V.bl (linkD (ds.getD j .none) (ds.getD (j + 1) .none))))) ⟨Ex.new hD2n, upd_same⟩ (fun i H' _ pv => ⟨ex_t pv.1 ha3, ex_t pv.1 hp3⟩) ?_ ?_
            · rintro i v H' H4 hi ⟨e4, hl4⟩ ⟨T4, x, y, rfl, hT, rfl, hx, hy⟩
              have hy' : xs[i + 1]? = some y := by
                have : (xs.drop 1)[i]? = some y := hy
                rw [List.getElem?_drop] at this
                rw [Nat.add_comm i 1]
                exact this
              obtain ⟨dx, hdx, gx⟩ := DpAll.get hall hx
              obtain ⟨dy, hdy, gy⟩ := DpAll.get hall hy'
              have bx : isBoundD dx = true := (List.all_eq_true.mp hb) dx (List.mem_of_getElem? hdx)
              have by' : isBoundD dy = true := (List.all_eq_true.mp hb) dy (List.mem_of_getElem? hdy)
              have e5 : Ex H' (upd H' T4 (.tup [x, y])) := Ex.new hT
              have e04 := (e12.trans e3).trans e4
              obtain ⟨px, x1, y1, k1, rfl, sx, rfl, _⟩ := bound_at (Dp.ex (e04.trans e5) gx) bx
              obtain ⟨py, x2, y2, k2, rfl, sy, rfl, _⟩ := bound_at (Dp.ex (e04.trans e5) gy) by'
              have nTD : D2 ≠ T4 := ne_of_none hl4 hT
              refine ⟨T4, [.ref px, .ref py], rfl, SqT.of upd_same, rfl, _, _, rfl, _, _, rfl, rfl, rfl, ?_⟩
              unfold tYes
              dsimp only
              rw [if_pos rfl]
              refine ⟨_, rfl, px, _, 2, _, rfl, rfl, sx, at_lit (n := 2) rfl rfl, _, rfl, py, _, 1, _, rfl, rfl, sy, at_lit (n := 1) rfl rfl, rfl, _, (by rw [upd_ne nTD]; exact hl4), ?_, ?_, ?_⟩
              · rw [List.length_map, List.length_range]
                exact Nat.lt_of_le_of_lt (by omega : i ≤ 1000) (by decide)
              · exact (e4.trans e5).mut hD2n
              · have z1 : ds.getD i .none = .tuple [.str ("most" : Str), .str x1, .str y1, .int k1] := by rw [List.getD_eq_getElem?_getD, hdx]; rfl
                have z2 : ds.getD (i + 1) .none = .tuple [.str ("most" : Str), .str x2, .str y2, .int k2] := by rw [List.getD_eq_getElem?_getD, hdy]; rfl
                rw [upd_same, List.range_succ, List.map_append]
                simp only [List.map_cons, List.map_nil, z1, z2]
                congr 5
                by_cases hxy : y1 = x2
                · rw [decide_eq_true (show V.str y1 = V.str x2 by rw [hxy])]
                  exact (decide_eq_true hxy).symm
                · rw [decide_eq_false (fun z => hxy (V.str.inj z))]
                  exact (decide_eq_false hxy).symm
            · rintro H4 ⟨e4, hl4⟩
              refine ⟨D2, (List.range (xs.length - 1)).map fun j => linkD (ds.getD j .none) (ds.getD (j + 1) .none), rfl, SqL.of (by rw [hl4, List.map_map]; rfl), ?_⟩
              refine ex_q q ?_ ((e12.trans e3).trans e4)
              show (!ds.isEmpty && (ds.all isBoundD && linksD ds)) = _
              have ne : ds.isEmpty = false := by
                cases ds with
                | nil => rw [hlen] at h0; exact absurd rfl h0
                | cons _ _ => rfl
              rw [ne, hb, hlen, range_links ds]
              rfl
    | non => exact ⟨_, (pss_cons (ps_if (PW.pt (pw_or (pt_not (pt_val (pe_callB call_isiT (by rfl) T.b_isinstance (by decide +kernel) (pa_cons (pv 0) (pa_cons (pe_tup (pa_cons (pe_bltn (v := .ty "list") (by rfl) T.b_list (by decide +kernel) rfl) (pa_cons (pe_bltn (v := .ty "tuple") (by rfl) T.b_tuple (by decide +kernel) rfl) pa_nil))) pa_nil))))) (pw_or1 (pt_cmpR op_eq (pe_callB call_len_seq (by rfl) T.b_len (by decide +kernel) (pa_cons (pv 0) pa_nil)) pe_int (nomark _))))) (pss_one (ps_ret pe_bl)) pss_nil)
        (pss_cons (ps_if (pt_not (pt_val (pe_callB (cr_all rfl) (by rfl) T.b_all (by decide +kernel) (pa_cons (pe_lc (own := [("item", 3)]) (g := gName 3) (tt := tYes) rfl sc_is_chain.nd (pi_list (pv 0)) (blkOk_by (N := ["value", "before", "after", "item"]) (sc := defScope s_is_chain) (by decide +kernel)) (fun _ _ _ _ _ => (pg_name (i := 3) sc_is_chain.nd rfl (Or.inl rfl))) (fun _ _ _ _ _ => pts_nil) (fun _ _ _ _ _ => (pe_call G_is_bound (hr.mono (by decide)) rfl T.f_is_bound T.k_is_bound B_is_bound .nil pass0 (pa_cons (pv 3) pa_nil)))) pa_nil)))) (pss_one (ps_ret pe_bl)) pss_nil)
        (pss_one (ps_ret (pe_callB (cr_all rfl) (by rfl) T.b_all (by decide +kernel) (pa_cons (pe_lc (own := [("before", 1), ("after", 2)]) (g := (gTup K 2 (gCons (gName 1) (gCons (gName 2) gNil)))) (tt := tYes) (te := tOp rEq (tOp (rIxT K) (tVar 1) (tC (.int 2))) (tOp (rIxT K) (tVar 2) (tC (.int 1)))) rfl sc_is_chain.nd (RZ.pi_zipA (by rfl) T.b_zip (pa_cons (pv 0) (pa_cons (pe_slice sl_list (pv 0) (po_some pe_int) po_none) pa_nil))) (blkOk_by (N := ["value", "before", "after", "item"]) (sc := defScope s_is_chain) (by decide +kernel)) (fun _ _ _ _ _ => (pg_tup rfl (pgs_cons (pg_name (i := 1) sc_is_chain.nd rfl (Or.inl rfl)) (pgs_cons (pg_name (i := 2) sc_is_chain.nd rfl (Or.inl rfl)) pgs_nil)))) (fun _ _ _ _ _ => pts_nil) (fun _ _ _ _ _ => (pe_cmpR op_eq (pe_ix ix_tup (pv 1) pe_int (fun _ _ => rfl)) (pe_ix ix_tup (pv 2) pe_int (fun _ _ => rfl)) (nomark _)))) pa_nil)))))), ⟨_, rfl, (by show 2 ≤ sizeLine; decide), fun tp htp => ⟨_, tp, _, _, _, _, rfl, upd_same, .cons (.ty "list") (.cons (.ty "tuple") .nil), dp_ty (K := K) (d := .none) .non, kit_seq _, _, rfl, ex_q q rfl (Ex.new htp)⟩⟩⟩
    | bl b => exact ⟨_, (pss_cons (ps_if (PW.pt (pw_or (pt_not (pt_val (pe_callB call_isiT (by rfl) T.b_isinstance (by decide +kernel) (pa_cons (pv 0) (pa_cons (pe_tup (pa_cons (pe_bltn (v := .ty "list") (by rfl) T.b_list (by decide +kernel) rfl) (pa_cons (pe_bltn (v := .ty "tuple") (by rfl) T.b_tuple (by decide +kernel) rfl) pa_nil))) pa_nil))))) (pw_or1 (pt_cmpR op_eq (pe_callB call_len_seq (by rfl) T.b_len (by decide +kernel) (pa_cons (pv 0) pa_nil)) pe_int (nomark _))))) (pss_one (ps_ret pe_bl)) pss_nil)
        (pss_cons (ps_if (pt_not (pt_val (pe_callB (cr_all rfl) (by rfl) T.b_all (by decide +kernel) (pa_cons (pe_lc (own := [("item", 3)]) (g := gName 3) (tt := tYes) rfl sc_is_chain.nd (pi_list (pv 0)) (blkOk_by (N := ["value", "before", "after", "item"]) (sc := defScope s_is_chain) (by decide +kernel)) (fun _ _ _ _ _ => (pg_name (i := 3) sc_is_chain.nd rfl (Or.inl rfl))) (fun _ _ _ _ _ => pts_nil) (fun _ _ _ _ _ => (pe_call G_is_bound (hr.mono (by decide)) rfl T.f_is_bound T.k_is_bound B_is_bound .nil pass0 (pa_cons (pv 3) pa_nil)))) pa_nil)))) (pss_one (ps_ret pe_bl)) pss_nil)
        (pss_one (ps_ret (pe_callB (cr_all rfl) (by rfl) T.b_all (by decide +kernel) (pa_cons (pe_lc (own := [("before", 1), ("after", 2)]) (g := (gTup K 2 (gCons (gName 1) (gCons (gName 2) gNil)))) (tt := tYes) (te := tOp rEq (tOp (rIxT K) (tVar 1) (tC (.int 2))) (tOp (rIxT K) (tVar 2) (tC (.int 1)))) rfl sc_is_chain.nd (RZ.pi_zipA (by rfl) T.b_zip (pa_cons (pv 0) (pa_cons (pe_slice sl_list (pv 0) (po_some pe_int) po_none) pa_nil))) (blkOk_by (N := ["value", "before", "after", "item"]) (sc := defScope s_is_chain) (by decide +kernel)) (fun _ _ _ _ _ => (pg_tup rfl (pgs_cons (pg_name (i := 1) sc_is_chain.nd rfl (Or.inl rfl)) (pgs_cons (pg_name (i := 2) sc_is_chain.nd rfl (Or.inl rfl)) pgs_nil)))) (fun _ _ _ _ _ => pts_nil) (fun _ _ _ _ _ => (pe_cmpR op_eq (pe_ix ix_tup (pv 1) pe_int (fun _ _ => rfl)) (pe_ix ix_tup (pv 2) pe_int (fun _ _ => rfl)) (nomark _)))) pa_nil)))))), ⟨_, rfl, (by show 2 ≤ sizeLine; decide), fun tp htp => ⟨_, tp, _, _, _, _, rfl, upd_same, .cons (.ty "list") (.cons (.ty "tuple") .nil), dp_ty (K := K) (d := .bool b) (.bl b), kit_seq _, _, rfl, ex_q q rfl (Ex.new htp)⟩⟩⟩
    | int b => exact ⟨_, (pss_cons (ps_if (PW.pt (pw_or (pt_not (pt_val (pe_callB call_isiT (by rfl) T.b_isinstance (by decide +kernel) (pa_cons (pv 0) (pa_cons (pe_tup (pa_cons (pe_bltn (v := .ty "list") (by rfl) T.b_list (by decide +kernel) rfl) (pa_cons (pe_bltn (v := .ty "tuple") (by rfl) T.b_tuple (by decide +kernel) rfl) pa_nil))) pa_nil))))) (pw_or1 (pt_cmpR op_eq (pe_callB call_len_seq (by rfl) T.b_len (by decide +kernel) (pa_cons (pv 0) pa_nil)) pe_int (nomark _))))) (pss_one (ps_ret pe_bl)) pss_nil)
        (pss_cons (ps_if (pt_not (pt_val (pe_callB (cr_all rfl) (by rfl) T.b_all (by decide +kernel) (pa_cons (pe_lc (own := [("item", 3)]) (g := gName 3) (tt := tYes) rfl sc_is_chain.nd (pi_list (pv 0)) (blkOk_by (N := ["value", "before", "after", "item"]) (sc := defScope s_is_chain) (by decide +kernel)) (fun _ _ _ _ _ => (pg_name (i := 3) sc_is_chain.nd rfl (Or.inl rfl))) (fun _ _ _ _ _ => pts_nil) (fun _ _ _ _ _ => (pe_call G_is_bound (hr.mono (by decide)) rfl T.f_is_bound T.k_is_bound B_is_bound .nil pass0 (pa_cons (pv 3) pa_nil)))) pa_nil)))) (pss_one (ps_ret pe_bl)) pss_nil)
        (pss_one (ps_ret (pe_callB (cr_all rfl) (by rfl) T.b_all (by decide +kernel) (pa_cons (pe_lc (own := [("before", 1), ("after", 2)]) (g := (gTup K 2 (gCons (gName 1) (gCons (gName 2) gNil)))) (tt := tYes) (te := tOp rEq (tOp (rIxT K) (tVar 1) (tC (.int 2))) (tOp (rIxT K) (tVar 2) (tC (.int 1)))) rfl sc_is_chain.nd (RZ.pi_zipA (by rfl) T.b_zip (pa_cons (pv 0) (pa_cons (pe_slice sl_list (pv 0) (po_some pe_int) po_none) pa_nil))) (blkOk_by (N := ["value", "before", "after", "item"]) (sc := defScope s_is_chain) (by decide +kernel)) (fun _ _ _ _ _ => (pg_tup rfl (pgs_cons (pg_name (i := 1) sc_is_chain.nd rfl (Or.inl rfl)) (pgs_cons (pg_name (i := 2) sc_is_chain.nd rfl (Or.inl rfl)) pgs_nil)))) (fun _ _ _ _ _ => pts_nil) (fun _ _ _ _ _ => (pe_cmpR op_eq (pe_ix ix_tup (pv 1) pe_int (fun _ _ => rfl)) (pe_ix ix_tup (pv 2) pe_int (fun _ _ => rfl)) (nomark _)))) pa_nil)))))), ⟨_, rfl, (by show 2 ≤ sizeLine; decide), fun tp htp => ⟨_, tp, _, _, _, _, rfl, upd_same, .cons (.ty "list") (.cons (.ty "tuple") .nil), dp_ty (K := K) (d := .int b) (.int b), kit_seq _, _, rfl, ex_q q rfl (Ex.new htp)⟩⟩⟩
    | str b => exact ⟨_, (pss_cons (ps_if (PW.pt (pw_or (pt_not (pt_val (pe_callB call_isiT (by rfl) T.b_isinstance (by decide +kernel) (pa_cons (pv 0) (pa_cons (pe_tup (pa_cons (pe_bltn (v := .ty "list") (by rfl) T.b_list (by decide +kernel) rfl) (pa_cons (pe_bltn (v := .ty "tuple") (by rfl) T.b_tuple (by decide +kernel) rfl) pa_nil))) pa_nil))))) (pw_or1 (pt_cmpR op_eq (pe_callB call_len_seq (by rfl) T.b_len (by decide +kernel) (pa_cons (pv 0) pa_nil)) pe_int (nomark _))))) (pss_one (ps_ret pe_bl)) pss_nil)
        (pss_cons (ps_if (pt_not (pt_val (pe_callB (cr_all rfl) (by rfl) T.b_all (by decide +kernel) (pa_cons (pe_lc (own := [("item", 3)]) (g := gName 3) (tt := tYes) rfl sc_is_chain.nd (pi_list (pv 0)) (blkOk_by (N := ["value", "before", "after", "item"]) (sc := defScope s_is_chain) (by decide +kernel)) (fun _ _ _ _ _ => (pg_name (i := 3) sc_is_chain.nd rfl (Or.inl rfl))) (fun _ _ _ _ _ => pts_nil) (fun _ _ _ _ _ => (pe_call G_is_bound (hr.mono (by decide)) rfl T.f_is_bound T.k_is_bound B_is_bound .nil pass0 (pa_cons (pv 3) pa_nil)))) pa_nil)))) (pss_one (ps_ret pe_bl)) pss_nil)
        (pss_one (ps_ret (pe_callB (cr_all rfl) (by rfl) T.b_all (by decide +kernel) (pa_cons (pe_lc (own := [("before", 1), ("after", 2)]) (g := (gTup K 2 (gCons (gName 1) (gCons (gName 2) gNil)))) (tt := tYes) (te := tOp rEq (tOp (rIxT K) (tVar 1) (tC (.int 2))) (tOp (rIxT K) (tVar 2) (tC (.int 1)))) rfl sc_is_chain.nd (RZ.pi_zipA (by rfl) T.b_zip (pa_cons (pv 0) (pa_cons (pe_slice sl_list (pv 0) (po_some pe_int) po_none) pa_nil))) (blkOk_by (N := ["value", "before", "after", "item"]) (sc := defScope s_is_chain) (by decide +kernel)) (fun _ _ _ _ _ => (pg_tup rfl (pgs_cons (pg_name (i := 1) sc_is_chain.nd rfl (Or.inl rfl)) (pgs_cons (pg_name (i := 2) sc_is_chain.nd rfl (Or.inl rfl)) pgs_nil)))) (fun _ _ _ _ _ => pts_nil) (fun _ _ _ _ _ => (pe_cmpR op_eq (pe_ix ix_tup (pv 1) pe_int (fun _ _ => rfl)) (pe_ix ix_tup (pv 2) pe_int (fun _ _ => rfl)) (nomark _)))) pa_nil)))))), ⟨_, rfl, (by show 2 ≤ sizeLine; decide), fun tp htp => ⟨_, tp, _, _, _, _, rfl, upd_same, .cons (.ty "list") (.cons (.ty "tuple") .nil), dp_ty (K := K) (d := .str b) (.str b), kit_seq _, _, rfl, ex_q q rfl (Ex.new htp)⟩⟩⟩
end
end K7
set_option maxRecDepth 100000
set_option maxHeartbeats 4000000
namespace K7
open PySem L2 Evl RZ
def isRingD (d : PyData) : Bool := isChainD d && decide (fstD (((seqD d).getD []).headD .none) = sndD (((seqD d).getD []).getLastD .none))
def endsD (d : PyData) : Str × Str × Int := (fstD (((seqD d).getD []).headD .none), sndD (((seqD d).getD []).getLastD .none), totalD ((seqD d).getD []))
theorem range_map {α : Type} (ds : List PyData) (f : PyData → α) : ((List.range ds.length).map fun i => f (ds.getD i .none)) = ds.map f := by
  apply List.ext_getElem?
  intro i
  rw [List.getElem?_map, List.getElem?_map]
  by_cases h : i < ds.length
  · simp [h]
  · simp [h]
theorem chain_parts {d : PyData} {ds : List PyData} (hs : seqD d = some ds) (h : isChainD d = true) : ds ≠ [] ∧ ds.all isBoundD = true ∧ linksD ds = true := by
  unfold isChainD at h
  rw [hs] at h
  simp only [Bool.and_eq_true, Bool.not_eq_true', List.isEmpty_eq_false_iff] at h
  exact h
theorem at_last {xs : List V} {v : V} (h : xs[xs.length - 1]? = some v) : atI xs (-1) = some v := by
  have hl : 0 < xs.length := by
    cases xs with
    | nil => simp at h
    | cons _ _ => simp
  unfold atI ixN
  rw [if_neg (by decide), if_pos (by omega)]
  show xs[((-1 : Int) + (xs.length : Int)).toNat]? = some v
  rw [show ((-1 : Int) + (xs.length : Int)).toNat = xs.length - 1 by omega]
  exact h
section
variable {K : PySem.W.Frag} {H H1 : Hp}
theorem ends_at {e1 : Ex H H1} {xs : List V} {ds : List PyData} (hall : DpAll K H xs ds) (hne : ds ≠ []) (hb : ds.all isBoundD = true) : ∃ (p : Addr) (x y : Str) (k : Int) (p2 : Addr) (x2 y2 : Str) (k2 : Int),
    xs[0]? = some (.ref p) ∧ SqT K H1 p [.str "most", .str x, .str y, .int k] ∧ fstD (ds.headD .none) = x ∧ xs[xs.length - 1]? = some (.ref p2) ∧ SqT K H1 p2 [.str "most", .str x2, .str y2, .int k2] ∧ sndD (ds.getLastD .none) = y2 := by
  have hlen := DpAll.len hall
  have hpos : 0 < xs.length := by
    cases ds with
    | nil => exact absurd rfl hne
    | cons _ _ => rw [hlen]; simp
  obtain ⟨v, hv⟩ : ∃ v, xs[0]? = some v := ⟨xs[0], by simp [hpos]⟩
  obtain ⟨u, hu⟩ : ∃ v, xs[xs.length - 1]? = some v := ⟨xs[xs.length - 1]'(by omega), by simp [hpos]⟩
  obtain ⟨d, hd, gd⟩ := DpAll.get hall hv
  obtain ⟨e, he, ge⟩ := DpAll.get hall hu
  obtain ⟨p, x, y, k, rfl, sp, rfl, _⟩ := bound_at (Dp.ex e1 gd) ((List.all_eq_true.mp hb) d (List.mem_of_getElem? hd))
  obtain ⟨p2, x2, y2, k2, rfl, sp2, rfl, _⟩ := bound_at (Dp.ex e1 ge) ((List.all_eq_true.mp hb) e (List.mem_of_getElem? he))
  refine ⟨p, x, y, k, p2, x2, y2, k2, hv, sp, ?_, hu, sp2, ?_⟩
  · rw [List.headD_eq_head?_getD, List.head?_eq_getElem?, hd]
    rfl
  · rw [List.getLastD_eq_getLast?, List.getLast?_eq_getElem?, ← hlen, he]
    rfl
end
def spIsRing (K : PySem.W.Frag) : Sp := spD szL isRingD K
def spTotal (K : PySem.W.Frag) : Sp := fun vs H Q _ => ∃ v d, vs = [v] ∧ Dp K H v d ∧ (∀ x ∈ (seqD d).getD [], isBoundD x = true) ∧ ((seqD d).getD []).length ≤ 1000 ∧ (∃ ds, seqD d = some ds) ∧ ∀ H', Ex H H' → Q (.int (totalD ((seqD d).getD []))) H'
/-- an InvalidChain with its argument -/
def outC (cI : Addr) (v : V) (H : Hp) (E : XK) : Prop := ∀ dd H', Ex H H' → H dd = none → H' dd = some (.xd [("bounds", v)]) → E (.ref cI) (some dd) H'
def spChainSum (K : PySem.W.Frag) (cI : Addr) : Sp := fun vs H Q E => ∃ v d, vs = [v] ∧ Dp K H v d ∧ szL d ∧
  (isChainD d = true → ∀ p H', Ex H H' → H p = none → H' p = some (.tup [.str (endsD d).1, .str (endsD d).2.1, .int (endsD d).2.2]) → Q (.ref p) H') ∧ (isChainD d = false → outC cI v H E)
def spRingSum (K : PySem.W.Frag) (cI : Addr) : Sp := fun vs H Q E => ∃ v d, vs = [v] ∧ Dp K H v d ∧ szL d ∧
  (isRingD d = true → ∀ H', Ex H H' → Q (.int (endsD d).2.2) H') ∧ (isRingD d = false → outC cI v H E)
structure TxtB (P : Program) (K : PySem.W.Frag) (mg : Str → Option Value) (fN fI fB fC fR fT cI fX : Addr) : Prop where
  a : TxtA K mg fN fI fB
  f_is_chain : mg "is_chain" = some (.ref fC)
  k_is_chain : PySem.W.keepIn K (.ref fC) = true
  f_is_ring : mg "is_ring" = some (.ref fR)
  k_is_ring : PySem.W.keepIn K (.ref fR) = true
  f_total_of : mg "total_of" = some (.ref fT)
  k_total_of : PySem.W.keepIn K (.ref fT) = true
  e_InvalidChain : PySem.Sup.SupTxt K mg P "InvalidChain" "bounds" "not such a chain" cI fX
section
variable {P : Program} {w : World} {K : PySem.W.Frag} {mg : Str → Option Value} {base : Heap} {fN fI fB fC fR fT cI fX : Addr} {fdN fdI fdB fdC fdR fdT : FuncData}
theorem ok_is_ring {f : Addr} {fd : FuncData} (F : Fun K "is_ring" "is_ring" s_is_ring f fd) (T : TxtB P K mg fN fI fB fC fR fT cI fX) (B : FB K fN fI fB fdN fdI fdB) (FC : Fun K "is_chain" "is_chain" s_is_chain fC fdC) (B_is_chain : Binds K fdC ["value"] []) :
    FnOk P w K mg base CX0 4 f fd ["value"] (spIsRing K) := by
  have G_is_chain : FnOk P w K mg base CX0 3 fC fdC ["value"] (spIsChain K) := ok_is_chain FC T.a B
  refine F.ok sc_is_ring (fun vs H Q E h => ?_) (fun cdv A outer s H vs Q E hr h => ?_)
  · obtain ⟨v, d, rfl, _⟩ := h
    rfl
  · obtain ⟨v, d, rfl, hd, hz, q⟩ := h
    cases hd with
    | @lst a xs ds ha hall =>
      refine ⟨_, (pss_one (ps_ret (pe_and (pe_call G_is_chain (hr.mono (by decide)) rfl T.f_is_chain T.k_is_chain B_is_chain .nil pass0 (pa_cons (pv 0) pa_nil)) (pe_one (pe_cmpR op_eq (pe_ix ix_tup (pe_ix ix_list (pv 0) pe_int (fun _ _ => rfl)) pe_int (fun _ _ => rfl)) (pe_ix ix_tup (pe_ix ix_list (pv 0) (pe_un un_neg pe_int) (fun _ _ => rfl)) pe_int (fun _ _ => rfl)) (nomark _)))))), ?_⟩
      refine ⟨_, rfl, _, .list ds, rfl, .lst ha hall, hz, fun H1 e1 => ⟨_, rfl, ?_⟩⟩
      cases hc : isChainD (.list ds) with
      | false => exact iteF (ex_q q (by show (isChainD _ && _) = false; rw [hc]; rfl) e1)
      | true =>
        obtain ⟨hne, hb, _⟩ := chain_parts (ds := ds) rfl hc
        obtain ⟨p, x, y, k, p2, x2, y2, k2, f1, s1, z1, f2, s2, z2⟩ := ends_at (e1 := e1) hall hne hb
        refine iteT ⟨_, rfl, a, xs, 0, _, rfl, rfl, ex_l e1 ha, at_lit (n := 0) rfl f1, p, _, 1, _, rfl, rfl, s1, at_lit (n := 1) rfl rfl,
          _, rfl, 1, rfl, a, xs, -1, _, rfl, rfl, ex_l e1 ha, at_last f2, p2, _, 2, _, rfl, rfl, s2, at_lit (n := 2) rfl rfl, rfl, ?_⟩
        refine ex_q q ?_ e1
        show (isChainD (.list ds) && decide (fstD (ds.headD .none) = sndD (ds.getLastD .none))) = _
        rw [hc, z1, z2]
        by_cases hxy : x = y2
        · rw [decide_eq_true (show V.str x = V.str y2 by rw [hxy])]
          exact decide_eq_true hxy
        · rw [decide_eq_false (fun z => hxy (V.str.inj z))]
          exact decide_eq_false hxy
    | @tup a xs ds ha hall =>
      refine ⟨_, (pss_one (ps_ret (pe_and (pe_call G_is_chain (hr.mono (by decide)) rfl T.f_is_chain T.k_is_chain B_is_chain .nil pass0 (pa_cons (pv 0) pa_nil)) (pe_one (pe_cmpR op_eq (pe_ix ix_tup (pe_ix ix_tup (pv 0) pe_int (fun _ _ => rfl)) pe_int (fun _ _ => rfl)) (pe_ix ix_tup (pe_ix ix_tup (pv 0) (pe_un un_neg pe_int) (fun _ _ => rfl)) pe_int (fun _ _ => rfl)) (nomark _)))))), ?_⟩
      refine ⟨_, rfl, _, .tuple ds, rfl, .tup ha hall, hz, fun H1 e1 => ⟨_, rfl, ?_⟩⟩
      cases hc : isChainD (.tuple ds) with
      | false => exact iteF (ex_q q (by show (isChainD _ && _) = false; rw [hc]; rfl) e1)
      | true =>
        obtain ⟨hne, hb, _⟩ := chain_parts (ds := ds) rfl hc
        obtain ⟨p, x, y, k, p2, x2, y2, k2, f1, s1, z1, f2, s2, z2⟩ := ends_at (e1 := e1) hall hne hb
        refine iteT ⟨_, rfl, a, xs, 0, _, rfl, rfl, ex_t e1 ha, at_lit (n := 0) rfl f1, p, _, 1, _, rfl, rfl, s1, at_lit (n := 1) rfl rfl,
          _, rfl, 1, rfl, a, xs, -1, _, rfl, rfl, ex_t e1 ha, at_last f2, p2, _, 2, _, rfl, rfl, s2, at_lit (n := 2) rfl rfl, rfl, ?_⟩
        refine ex_q q ?_ e1
        show (isChainD (.tuple ds) && decide (fstD (ds.headD .none) = sndD (ds.getLastD .none))) = _
        rw [hc, z1, z2]
        by_cases hxy : x = y2
        · rw [decide_eq_true (show V.str x = V.str y2 by rw [hxy])]
          exact decide_eq_true hxy
        · rw [decide_eq_false (fun z => hxy (V.str.inj z))]
          exact decide_eq_false hxy
    | non =>
      refine ⟨_, (pss_one (ps_ret (pe_and (pe_call G_is_chain (hr.mono (by decide)) rfl T.f_is_chain T.k_is_chain B_is_chain .nil pass0 (pa_cons (pv 0) pa_nil)) (pe_one (pe_cmpR op_eq (pe_ix ix_tup (pe_ix ix_list (pv 0) pe_int (fun _ _ => rfl)) pe_int (fun _ _ => rfl)) (pe_ix ix_tup (pe_ix ix_list (pv 0) (pe_un un_neg pe_int) (fun _ _ => rfl)) pe_int (fun _ _ => rfl)) (nomark _)))))), ?_⟩
      exact ⟨_, rfl, _, (.none), rfl, (.non), hz, fun H1 e1 => ⟨_, rfl, iteF (ex_q q rfl e1)⟩⟩
    | bl b =>
      refine ⟨_, (pss_one (ps_ret (pe_and (pe_call G_is_chain (hr.mono (by decide)) rfl T.f_is_chain T.k_is_chain B_is_chain .nil pass0 (pa_cons (pv 0) pa_nil)) (pe_one (pe_cmpR op_eq (pe_ix ix_tup (pe_ix ix_list (pv 0) pe_int (fun _ _ => rfl)) pe_int (fun _ _ => rfl)) (pe_ix ix_tup (pe_ix ix_list (pv 0) (pe_un un_neg pe_int) (fun _ _ => rfl)) pe_int (fun _ _ => rfl)) (nomark _)))))), ?_⟩
      exact ⟨_, rfl, _, (.bool b), rfl, (.bl b), hz, fun H1 e1 => ⟨_, rfl, iteF (ex_q q rfl e1)⟩⟩
    | int b =>
      refine ⟨_, (pss_one (ps_ret (pe_and (pe_call G_is_chain (hr.mono (by decide)) rfl T.f_is_chain T.k_is_chain B_is_chain .nil pass0 (pa_cons (pv 0) pa_nil)) (pe_one (pe_cmpR op_eq (pe_ix ix_tup (pe_ix ix_list (pv 0) pe_int (fun _ _ => rfl)) pe_int (fun _ _ => rfl)) (pe_ix ix_tup (pe_ix ix_list (pv 0) (pe_un un_neg pe_int) (fun _ _ => rfl)) pe_int (fun _ _ => rfl)) (nomark _)))))), ?_⟩
      exact ⟨_, rfl, _, (.int b), rfl, (.int b), hz, fun H1 e1 => ⟨_, rfl, iteF (ex_q q rfl e1)⟩⟩
    | str b =>
      refine ⟨_, (pss_one (ps_ret (pe_and (pe_call G_is_chain (hr.mono (by decide)) rfl T.f_is_chain T.k_is_chain B_is_chain .nil pass0 (pa_cons (pv 0) pa_nil)) (pe_one (pe_cmpR op_eq (pe_ix ix_tup (pe_ix ix_list (pv 0) pe_int (fun _ _ => rfl)) pe_int (fun _ _ => rfl)) (pe_ix ix_tup (pe_ix ix_list (pv 0) (pe_un un_neg pe_int) (fun _ _ => rfl)) pe_int (fun _ _ => rfl)) (nomark _)))))), ?_⟩
      exact ⟨_, rfl, _, (.str b), rfl, (.str b), hz, fun H1 e1 => ⟨_, rfl, iteF (ex_q q rfl e1)⟩⟩
theorem ok_total_of {f : Addr} {fd : FuncData} (F : Fun K "total_of" "total_of" s_total_of f fd) (T' : TxtB P K mg fN fI fB fC fR fT cI fX) :
    FnOk P w K mg base CX0 1 f fd ["bounds"] (spTotal K) := by
  have T := T'.a
  refine F.ok sc_total_of (fun vs H Q E h => ?_) (fun cdv A outer s H vs Q E hr h => ?_)
  · obtain ⟨v, d, rfl, _⟩ := h
    rfl
  · obtain ⟨v, d, rfl, hd, hb, hn, hs, q⟩ := h
    cases hd with
    | @lst a xs ds ha hall =>
      have hlen := DpAll.len hall
      have hb : ∀ d ∈ ds, isBoundD d = true := hb
      have hn : ds.length ≤ 1000 := hn
      refine ⟨_, (pss_one (ps_ret (pe_callB (cr_sum rfl) (by rfl) T.b_sum (by decide +kernel) (pa_cons (pe_lc (own := [("bound", 1)]) (g := gName 1) (tt := tYes) (te := tOp (rIxT K) (tVar 1) (tC (.int 3))) rfl sc_total_of.nd (pi_list (pv 0)) (blkOk_by (N := ["bounds", "bound"]) (sc := defScope s_total_of) (by decide +kernel)) (fun _ _ _ _ _ => (pg_name (i := 1) sc_total_of.nd rfl (Or.inl rfl))) (fun _ _ _ _ _ => pts_nil) (fun _ _ _ _ _ => (pe_ix ix_tup (pv 1) pe_int (fun _ _ => rfl)))) pa_nil)))), ?_⟩
      refine ⟨_, rfl, a, rfl, ⟨xs, ha⟩, fun D hD => lcMapI (walk_list) (fun i => .int (limD (ds.getD i .none))) (Nat.lt_of_le_of_lt (by omega : xs.length ≤ 1000) (by decide)) (fun H' e => ex_l e ha) (fun _ => rfl) ?_ hD ?_⟩
      · intro i v hi H' e H2 e2 Q' q'
        obtain ⟨d, hd, hv⟩ := DpAll.get hall hi
        obtain ⟨p, x, y, k, rfl, sp, rfl, _⟩ := bound_at (Dp.ex (e.trans e2) hv) (hb d (List.mem_of_getElem? hd))
        refine ⟨_, rfl, p, _, 3, _, rfl, rfl, sp, at_lit (n := 3) rfl rfl, ?_⟩
        have z : ds.getD i .none = .tuple [.str "most", .str x, .str y, .int k] := by rw [List.getD_eq_getElem?_getD, hd]; rfl
        have g := q' H2 (Ex.refl _)
        rw [z] at g
        exact g
      · intro H2 e2 hD2
        refine ⟨D, (List.range xs.length).map fun i => limD (ds.getD i .none), rfl, SqL.of (by rw [hD2, List.map_map]; rfl), ?_⟩
        have e3 : ((List.range xs.length).map fun i => limD (ds.getD i .none)) = ds.map limD := by rw [hlen]; exact range_map ds limD
        rw [e3]
        exact q H2 e2
    | @tup a xs ds ha hall =>
      have hlen := DpAll.len hall
      have hb : ∀ d ∈ ds, isBoundD d = true := hb
      have hn : ds.length ≤ 1000 := hn
      refine ⟨_, (pss_one (ps_ret (pe_callB (cr_sum rfl) (by rfl) T.b_sum (by decide +kernel) (pa_cons (pe_lc (own := [("bound", 1)]) (g := gName 1) (tt := tYes) (te := tOp (rIxT K) (tVar 1) (tC (.int 3))) rfl sc_total_of.nd (pi_tup (pv 0)) (blkOk_by (N := ["bounds", "bound"]) (sc := defScope s_total_of) (by decide +kernel)) (fun _ _ _ _ _ => (pg_name (i := 1) sc_total_of.nd rfl (Or.inl rfl))) (fun _ _ _ _ _ => pts_nil) (fun _ _ _ _ _ => (pe_ix ix_tup (pv 1) pe_int (fun _ _ => rfl)))) pa_nil)))), ?_⟩
      refine ⟨_, rfl, a, rfl, ⟨xs, ha⟩, fun D hD => lcMapI (walk_tup) (fun i => .int (limD (ds.getD i .none))) (Nat.lt_of_le_of_lt (by omega : xs.length ≤ 1000) (by decide)) (fun H' e => ex_t e ha) (fun _ => rfl) ?_ hD ?_⟩
      · intro i v hi H' e H2 e2 Q' q'
        obtain ⟨d, hd, hv⟩ := DpAll.get hall hi
        obtain ⟨p, x, y, k, rfl, sp, rfl, _⟩ := bound_at (Dp.ex (e.trans e2) hv) (hb d (List.mem_of_getElem? hd))
        refine ⟨_, rfl, p, _, 3, _, rfl, rfl, sp, at_lit (n := 3) rfl rfl, ?_⟩
        have z : ds.getD i .none = .tuple [.str "most", .str x, .str y, .int k] := by rw [List.getD_eq_getElem?_getD, hd]; rfl
        have g := q' H2 (Ex.refl _)
        rw [z] at g
        exact g
      · intro H2 e2 hD2
        refine ⟨D, (List.range xs.length).map fun i => limD (ds.getD i .none), rfl, SqL.of (by rw [hD2, List.map_map]; rfl), ?_⟩
        have e3 : ((List.range xs.length).map fun i => limD (ds.getD i .none)) = ds.map limD := by rw [hlen]; exact range_map ds limD
        rw [e3]
        exact q H2 e2
    | non => exact absurd hs (by rintro ⟨_, z⟩; cases z)
    | bl b => exact absurd hs (by rintro ⟨_, z⟩; cases z)
    | int b => exact absurd hs (by rintro ⟨_, z⟩; cases z)
    | str b => exact absurd hs (by rintro ⟨_, z⟩; cases z)
theorem ok_chain_sum {f : Addr} {fd : FuncData} (F : Fun K "chain_sum" "chain_sum" s_chain_sum f fd) (T : TxtB P K mg fN fI fB fC fR fT cI fX) (B : FB K fN fI fB fdN fdI fdB) (FC : Fun K "is_chain" "is_chain" s_is_chain fC fdC) (B_is_chain : Binds K fdC ["value"] [])
    (FT : Fun K "total_of" "total_of" s_total_of fT fdT) (B_total_of : Binds K fdT ["bounds"] []) : FnOk P w K mg base (L2.CX P w) 5 f fd ["bounds"] (spChainSum K cI) := by
  have G_is_chain : FnOk P w K mg base CX0 3 fC fdC ["value"] (spIsChain K) := ok_is_chain FC T.a B
  have G_total_of : FnOk P w K mg base CX0 1 fT fdT ["bounds"] (spTotal K) := ok_total_of FT T
  refine F.okX sc_chain_sum (fun vs H Q E h => ?_) (fun cdv A outer s H vs Q E hr h => ?_)
  · obtain ⟨v, d, rfl, _⟩ := h
    rfl
  · obtain ⟨v, d, rfl, hd, hz, q1, q2⟩ := h
    cases hd with
    | @lst a xs ds ha hall =>
      refine ⟨_, (pss_cons (ps_if (pt_not (pt_val (pe_call G_is_chain (hr.mono (by decide)) rfl T.f_is_chain T.k_is_chain B_is_chain .nil pass0 (pa_cons (pv 0) pa_nil)))) (pss_one (ps_raiseSup rfl T.e_InvalidChain hr (takes_of rfl rfl rfl rfl) (by exact (pa_cons (pv 0) pa_nil)))) pss_nil)
        (pss_one (ps_ret (pe_tup (pa_cons (pe_ix ix_tup (pe_ix ix_list (pv 0) pe_int (fun _ _ => rfl)) pe_int (fun _ _ => rfl)) (pa_cons (pe_ix ix_tup (pe_ix ix_list (pv 0) (pe_un un_neg pe_int) (fun _ _ => rfl)) pe_int (fun _ _ => rfl)) (pa_cons (pe_call G_total_of (hr.mono (by decide)) rfl T.f_total_of T.k_total_of B_total_of .nil pass0 (pa_cons (pv 0) pa_nil)) pa_nil))))))), ?_⟩
      refine ⟨_, rfl, _, .list ds, rfl, .lst ha hall, hz, fun H1 e1 => ⟨_, rfl, ?_⟩⟩
      cases hc : isChainD (.list ds) with
      | false => exact iteT' rfl ⟨_, rfl, _, rfl, fun dd hdd => q2 hc dd _ (e1.trans (Ex.new hdd)) (fresh_back e1 hdd) upd_same⟩
      | true =>
        refine iteF' rfl ?_
        obtain ⟨hne, hb, _⟩ := chain_parts (ds := ds) rfl hc
        obtain ⟨p, x, y, k, p2, x2, y2, k2, f1, s1, z1, f2, s2, z2⟩ := ends_at (e1 := e1) hall hne hb
        refine ⟨_, rfl, a, xs, 0, _, rfl, rfl, ex_l e1 ha, at_lit (n := 0) rfl f1, p, _, 1, _, rfl, rfl, s1, at_lit (n := 1) rfl rfl,
          _, rfl, 1, rfl, a, xs, -1, _, rfl, rfl, ex_l e1 ha, at_last f2, p2, _, 2, _, rfl, rfl, s2, at_lit (n := 2) rfl rfl,
          _, rfl, _, .list ds, rfl, Dp.ex e1 (.lst ha hall), (List.all_eq_true.mp hb), hz.2, ⟨ds, rfl⟩, fun H2 e2 => ⟨(by show 3 ≤ sizeLine; decide), fun t ht => ?_⟩⟩
        have g := q1 hc t _ ((e1.trans e2).trans (Ex.new ht)) (fresh_back (e1.trans e2) ht) upd_same
        show Q (.ref t) (upd H2 t (.tup [.str x, .str y2, .int (totalD ds)]))
        have h3 : endsD (.list ds) = (x, y2, totalD ds) := by
          show (fstD (ds.headD .none), sndD (ds.getLastD .none), totalD ds) = _
          rw [z1, z2]
        rw [h3] at g
        exact q1 hc t _ ((e1.trans e2).trans (Ex.new ht)) (fresh_back (e1.trans e2) ht) (by rw [h3]; exact upd_same)
    | @tup a xs ds ha hall =>
      refine ⟨_, (pss_cons (ps_if (pt_not (pt_val (pe_call G_is_chain (hr.mono (by decide)) rfl T.f_is_chain T.k_is_chain B_is_chain .nil pass0 (pa_cons (pv 0) pa_nil)))) (pss_one (ps_raiseSup rfl T.e_InvalidChain hr (takes_of rfl rfl rfl rfl) (by exact (pa_cons (pv 0) pa_nil)))) pss_nil)
        (pss_one (ps_ret (pe_tup (pa_cons (pe_ix ix_tup (pe_ix ix_tup (pv 0) pe_int (fun _ _ => rfl)) pe_int (fun _ _ => rfl)) (pa_cons (pe_ix ix_tup (pe_ix ix_tup (pv 0) (pe_un un_neg pe_int) (fun _ _ => rfl)) pe_int (fun _ _ => rfl)) (pa_cons (pe_call G_total_of (hr.mono (by decide)) rfl T.f_total_of T.k_total_of B_total_of .nil pass0 (pa_cons (pv 0) pa_nil)) pa_nil))))))), ?_⟩
      refine ⟨_, rfl, _, .tuple ds, rfl, .tup ha hall, hz, fun H1 e1 => ⟨_, rfl, ?_⟩⟩
      cases hc : isChainD (.tuple ds) with
      | false => exact iteT' rfl ⟨_, rfl, _, rfl, fun dd hdd => q2 hc dd _ (e1.trans (Ex.new hdd)) (fresh_back e1 hdd) upd_same⟩
      | true =>
        refine iteF' rfl ?_
        obtain ⟨hne, hb, _⟩ := chain_parts (ds := ds) rfl hc
        obtain ⟨p, x, y, k, p2, x2, y2, k2, f1, s1, z1, f2, s2, z2⟩ := ends_at (e1 := e1) hall hne hb
        refine ⟨_, rfl, a, xs, 0, _, rfl, rfl, ex_t e1 ha, at_lit (n := 0) rfl f1, p, _, 1, _, rfl, rfl, s1, at_lit (n := 1) rfl rfl,
          _, rfl, 1, rfl, a, xs, -1, _, rfl, rfl, ex_t e1 ha, at_last f2, p2, _, 2, _, rfl, rfl, s2, at_lit (n := 2) rfl rfl,
          _, rfl, _, .tuple ds, rfl, Dp.ex e1 (.tup ha hall), (List.all_eq_true.mp hb), hz.2, ⟨ds, rfl⟩, fun H2 e2 => ⟨(by show 3 ≤ sizeLine; decide), fun t ht => ?_⟩⟩
        have g := q1 hc t _ ((e1.trans e2).trans (Ex.new ht)) (fresh_back (e1.trans e2) ht) upd_same
        show Q (.ref t) (upd H2 t (.tup [.str x, .str y2, .int (totalD ds)]))
        have h3 : endsD (.tuple ds) = (x, y2, totalD ds) := by
          show (fstD (ds.headD .none), sndD (ds.getLastD .none), totalD ds) = _
          rw [z1, z2]
        rw [h3] at g
        exact q1 hc t _ ((e1.trans e2).trans (Ex.new ht)) (fresh_back (e1.trans e2) ht) (by rw [h3]; exact upd_same)
    | non =>
      refine ⟨_, (pss_cons (ps_if (pt_not (pt_val (pe_call G_is_chain (hr.mono (by decide)) rfl T.f_is_chain T.k_is_chain B_is_chain .nil pass0 (pa_cons (pv 0) pa_nil)))) (pss_one (ps_raiseSup rfl T.e_InvalidChain hr (takes_of rfl rfl rfl rfl) (by exact (pa_cons (pv 0) pa_nil)))) pss_nil)
        (pss_one (ps_ret (pe_tup (pa_cons (pe_ix ix_tup (pe_ix ix_list (pv 0) pe_int (fun _ _ => rfl)) pe_int (fun _ _ => rfl)) (pa_cons (pe_ix ix_tup (pe_ix ix_list (pv 0) (pe_un un_neg pe_int) (fun _ _ => rfl)) pe_int (fun _ _ => rfl)) (pa_cons (pe_call G_total_of (hr.mono (by decide)) rfl T.f_total_of T.k_total_of B_total_of .nil pass0 (pa_cons (pv 0) pa_nil)) pa_nil))))))), ?_⟩
      exact ⟨_, rfl, _, (.none), rfl, (.non), hz, fun H1 e1 => ⟨_, rfl, iteT' rfl ⟨_, rfl, _, rfl, fun dd hdd => q2 rfl dd _ (e1.trans (Ex.new hdd)) (fresh_back e1 hdd) upd_same⟩⟩⟩
    | bl b =>
      refine ⟨_, (pss_cons (ps_if (pt_not (pt_val (pe_call G_is_chain (hr.mono (by decide)) rfl T.f_is_chain T.k_is_chain B_is_chain .nil pass0 (pa_cons (pv 0) pa_nil)))) (pss_one (ps_raiseSup rfl T.e_InvalidChain hr (takes_of rfl rfl rfl rfl) (by exact (pa_cons (pv 0) pa_nil)))) pss_nil)
        (pss_one (ps_ret (pe_tup (pa_cons (pe_ix ix_tup (pe_ix ix_list (pv 0) pe_int (fun _ _ => rfl)) pe_int (fun _ _ => rfl)) (pa_cons (pe_ix ix_tup (pe_ix ix_list (pv 0) (pe_un un_neg pe_int) (fun _ _ => rfl)) pe_int (fun _ _ => rfl)) (pa_cons (pe_call G_total_of (hr.mono (by decide)) rfl T.f_total_of T.k_total_of B_total_of .nil pass0 (pa_cons (pv 0) pa_nil)) pa_nil))))))), ?_⟩
      exact ⟨_, rfl, _, (.bool b), rfl, (.bl b), hz, fun H1 e1 => ⟨_, rfl, iteT' rfl ⟨_, rfl, _, rfl, fun dd hdd => q2 rfl dd _ (e1.trans (Ex.new hdd)) (fresh_back e1 hdd) upd_same⟩⟩⟩
    | int b =>
      refine ⟨_, (pss_cons (ps_if (pt_not (pt_val (pe_call G_is_chain (hr.mono (by decide)) rfl T.f_is_chain T.k_is_chain B_is_chain .nil pass0 (pa_cons (pv 0) pa_nil)))) (pss_one (ps_raiseSup rfl T.e_InvalidChain hr (takes_of rfl rfl rfl rfl) (by exact (pa_cons (pv 0) pa_nil)))) pss_nil)
        (pss_one (ps_ret (pe_tup (pa_cons (pe_ix ix_tup (pe_ix ix_list (pv 0) pe_int (fun _ _ => rfl)) pe_int (fun _ _ => rfl)) (pa_cons (pe_ix ix_tup (pe_ix ix_list (pv 0) (pe_un un_neg pe_int) (fun _ _ => rfl)) pe_int (fun _ _ => rfl)) (pa_cons (pe_call G_total_of (hr.mono (by decide)) rfl T.f_total_of T.k_total_of B_total_of .nil pass0 (pa_cons (pv 0) pa_nil)) pa_nil))))))), ?_⟩
      exact ⟨_, rfl, _, (.int b), rfl, (.int b), hz, fun H1 e1 => ⟨_, rfl, iteT' rfl ⟨_, rfl, _, rfl, fun dd hdd => q2 rfl dd _ (e1.trans (Ex.new hdd)) (fresh_back e1 hdd) upd_same⟩⟩⟩
    | str b =>
      refine ⟨_, (pss_cons (ps_if (pt_not (pt_val (pe_call G_is_chain (hr.mono (by decide)) rfl T.f_is_chain T.k_is_chain B_is_chain .nil pass0 (pa_cons (pv 0) pa_nil)))) (pss_one (ps_raiseSup rfl T.e_InvalidChain hr (takes_of rfl rfl rfl rfl) (by exact (pa_cons (pv 0) pa_nil)))) pss_nil)
        (pss_one (ps_ret (pe_tup (pa_cons (pe_ix ix_tup (pe_ix ix_list (pv 0) pe_int (fun _ _ => rfl)) pe_int (fun _ _ => rfl)) (pa_cons (pe_ix ix_tup (pe_ix ix_list (pv 0) (pe_un un_neg pe_int) (fun _ _ => rfl)) pe_int (fun _ _ => rfl)) (pa_cons (pe_call G_total_of (hr.mono (by decide)) rfl T.f_total_of T.k_total_of B_total_of .nil pass0 (pa_cons (pv 0) pa_nil)) pa_nil))))))), ?_⟩
      exact ⟨_, rfl, _, (.str b), rfl, (.str b), hz, fun H1 e1 => ⟨_, rfl, iteT' rfl ⟨_, rfl, _, rfl, fun dd hdd => q2 rfl dd _ (e1.trans (Ex.new hdd)) (fresh_back e1 hdd) upd_same⟩⟩⟩
theorem ok_ring_sum {f : Addr} {fd : FuncData} (F : Fun K "ring_sum" "ring_sum" s_ring_sum f fd) (T : TxtB P K mg fN fI fB fC fR fT cI fX) (B : FB K fN fI fB fdN fdI fdB) (FC : Fun K "is_chain" "is_chain" s_is_chain fC fdC) (BC : Binds K fdC ["value"] [])
    (FR : Fun K "is_ring" "is_ring" s_is_ring fR fdR) (B_is_ring : Binds K fdR ["value"] []) (FT : Fun K "total_of" "total_of" s_total_of fT fdT) (B_total_of : Binds K fdT ["bounds"] []) : FnOk P w K mg base (L2.CX P w) 5 f fd ["bounds"] (spRingSum K cI) := by
  have G_is_ring : FnOk P w K mg base CX0 4 fR fdR ["value"] (spIsRing K) := ok_is_ring FR T B FC BC
  have G_total_of : FnOk P w K mg base CX0 1 fT fdT ["bounds"] (spTotal K) := ok_total_of FT T
  refine F.okX sc_ring_sum (fun vs H Q E h => ?_) (fun cdv A outer s H vs Q E hr h => ?_)
  · obtain ⟨v, d, rfl, _⟩ := h
    rfl
  · obtain ⟨v, d, rfl, hd, hz, q1, q2⟩ := h
    cases hd with
    | @lst a xs ds ha hall =>
      refine ⟨_, (pss_cons (ps_if (pt_not (pt_val (pe_call G_is_ring (hr.mono (by decide)) rfl T.f_is_ring T.k_is_ring B_is_ring .nil pass0 (pa_cons (pv 0) pa_nil)))) (pss_one (ps_raiseSup rfl T.e_InvalidChain hr (takes_of rfl rfl rfl rfl) (by exact (pa_cons (pv 0) pa_nil)))) pss_nil)
        (pss_one (ps_ret (pe_call G_total_of (hr.mono (by decide)) rfl T.f_total_of T.k_total_of B_total_of .nil pass0 (pa_cons (pv 0) pa_nil))))), ?_⟩
      refine ⟨_, rfl, _, .list ds, rfl, .lst ha hall, hz, fun H1 e1 => ⟨_, rfl, ?_⟩⟩
      cases hc : isRingD (.list ds) with
      | false => exact iteT' rfl ⟨_, rfl, _, rfl, fun dd hdd => q2 hc dd _ (e1.trans (Ex.new hdd)) (fresh_back e1 hdd) upd_same⟩
      | true =>
        refine iteF' rfl ?_
        have hc2 : isChainD (.list ds) = true := (Bool.and_eq_true_iff.mp hc).1
        obtain ⟨hne, hb, _⟩ := chain_parts (ds := ds) rfl hc2
        exact ⟨_, rfl, _, .list ds, rfl, Dp.ex e1 (.lst ha hall), (List.all_eq_true.mp hb), hz.2, ⟨ds, rfl⟩, fun H2 e2 => q1 hc H2 (e1.trans e2)⟩
    | @tup a xs ds ha hall =>
      refine ⟨_, (pss_cons (ps_if (pt_not (pt_val (pe_call G_is_ring (hr.mono (by decide)) rfl T.f_is_ring T.k_is_ring B_is_ring .nil pass0 (pa_cons (pv 0) pa_nil)))) (pss_one (ps_raiseSup rfl T.e_InvalidChain hr (takes_of rfl rfl rfl rfl) (by exact (pa_cons (pv 0) pa_nil)))) pss_nil)
        (pss_one (ps_ret (pe_call G_total_of (hr.mono (by decide)) rfl T.f_total_of T.k_total_of B_total_of .nil pass0 (pa_cons (pv 0) pa_nil))))), ?_⟩
      refine ⟨_, rfl, _, .tuple ds, rfl, .tup ha hall, hz, fun H1 e1 => ⟨_, rfl, ?_⟩⟩
      cases hc : isRingD (.tuple ds) with
      | false => exact iteT' rfl ⟨_, rfl, _, rfl, fun dd hdd => q2 hc dd _ (e1.trans (Ex.new hdd)) (fresh_back e1 hdd) upd_same⟩
      | true =>
        refine iteF' rfl ?_
        have hc2 : isChainD (.tuple ds) = true := (Bool.and_eq_true_iff.mp hc).1
        obtain ⟨hne, hb, _⟩ := chain_parts (ds := ds) rfl hc2
        exact ⟨_, rfl, _, .tuple ds, rfl, Dp.ex e1 (.tup ha hall), (List.all_eq_true.mp hb), hz.2, ⟨ds, rfl⟩, fun H2 e2 => q1 hc H2 (e1.trans e2)⟩
    | non =>
      refine ⟨_, (pss_cons (ps_if (pt_not (pt_val (pe_call G_is_ring (hr.mono (by decide)) rfl T.f_is_ring T.k_is_ring B_is_ring .nil pass0 (pa_cons (pv 0) pa_nil)))) (pss_one (ps_raiseSup rfl T.e_InvalidChain hr (takes_of rfl rfl rfl rfl) (by exact (pa_cons (pv 0) pa_nil)))) pss_nil)
        (pss_one (ps_ret (pe_call G_total_of (hr.mono (by decide)) rfl T.f_total_of T.k_total_of B_total_of .nil pass0 (pa_cons (pv 0) pa_nil))))), ?_⟩
      exact ⟨_, rfl, _, (.none), rfl, (.non), hz, fun H1 e1 => ⟨_, rfl, iteT' rfl ⟨_, rfl, _, rfl, fun dd hdd => q2 rfl dd _ (e1.trans (Ex.new hdd)) (fresh_back e1 hdd) upd_same⟩⟩⟩
    | bl b =>
      refine ⟨_, (pss_cons (ps_if (pt_not (pt_val (pe_call G_is_ring (hr.mono (by decide)) rfl T.f_is_ring T.k_is_ring B_is_ring .nil pass0 (pa_cons (pv 0) pa_nil)))) (pss_one (ps_raiseSup rfl T.e_InvalidChain hr (takes_of rfl rfl rfl rfl) (by exact (pa_cons (pv 0) pa_nil)))) pss_nil)
        (pss_one (ps_ret (pe_call G_total_of (hr.mono (by decide)) rfl T.f_total_of T.k_total_of B_total_of .nil pass0 (pa_cons (pv 0) pa_nil))))), ?_⟩
      exact ⟨_, rfl, _, (.bool b), rfl, (.bl b), hz, fun H1 e1 => ⟨_, rfl, iteT' rfl ⟨_, rfl, _, rfl, fun dd hdd => q2 rfl dd _ (e1.trans (Ex.new hdd)) (fresh_back e1 hdd) upd_same⟩⟩⟩
    | int b =>
      refine ⟨_, (pss_cons (ps_if (pt_not (pt_val (pe_call G_is_ring (hr.mono (by decide)) rfl T.f_is_ring T.k_is_ring B_is_ring .nil pass0 (pa_cons (pv 0) pa_nil)))) (pss_one (ps_raiseSup rfl T.e_InvalidChain hr (takes_of rfl rfl rfl rfl) (by exact (pa_cons (pv 0) pa_nil)))) pss_nil)
        (pss_one (ps_ret (pe_call G_total_of (hr.mono (by decide)) rfl T.f_total_of T.k_total_of B_total_of .nil pass0 (pa_cons (pv 0) pa_nil))))), ?_⟩
      exact ⟨_, rfl, _, (.int b), rfl, (.int b), hz, fun H1 e1 => ⟨_, rfl, iteT' rfl ⟨_, rfl, _, rfl, fun dd hdd => q2 rfl dd _ (e1.trans (Ex.new hdd)) (fresh_back e1 hdd) upd_same⟩⟩⟩
    | str b =>
      refine ⟨_, (pss_cons (ps_if (pt_not (pt_val (pe_call G_is_ring (hr.mono (by decide)) rfl T.f_is_ring T.k_is_ring B_is_ring .nil pass0 (pa_cons (pv 0) pa_nil)))) (pss_one (ps_raiseSup rfl T.e_InvalidChain hr (takes_of rfl rfl rfl rfl) (by exact (pa_cons (pv 0) pa_nil)))) pss_nil)
        (pss_one (ps_ret (pe_call G_total_of (hr.mono (by decide)) rfl T.f_total_of T.k_total_of B_total_of .nil pass0 (pa_cons (pv 0) pa_nil))))), ?_⟩
      exact ⟨_, rfl, _, (.str b), rfl, (.str b), hz, fun H1 e1 => ⟨_, rfl, iteT' rfl ⟨_, rfl, _, rfl, fun dd hdd => q2 rfl dd _ (e1.trans (Ex.new hdd)) (fresh_back e1 hdd) upd_same⟩⟩⟩
end
end K7
set_option maxRecDepth 100000
set_option maxHeartbeats 4000000
namespace K7
open PySem L2 Evl
/-! ### the draws -/
/-- all but b is as it was, and b's first item is as it was -/
structure Kp (b : Addr) (H H' : Hp) : Prop where
  k : ∀ a o, a ≠ b → H a = some o → H' a = some o
  fst : ∀ v r, H b = some (.lst (v :: r)) → ∃ r', H' b = some (.lst (v :: r'))
theorem Kp.at {b : Addr} {H H' : Hp} (x : Kp b H H') {a : Addr} {o : HO} (n : a ≠ b) (h : H a = some o) : H' a = some o := x.k a o n h
theorem Kp.refl (b : Addr) (H : Hp) : Kp b H H := ⟨fun _ _ _ h => h, fun _ r h => ⟨r, h⟩⟩
theorem Kp.trans {b : Addr} {H H1 H2 : Hp} (x : Kp b H H1) (y : Kp b H1 H2) : Kp b H H2 :=
  ⟨fun a o n h => y.at n (x.at n h), fun v r h => by
    obtain ⟨r1, h1⟩ := x.fst v r h
    exact y.fst v r1 h1⟩
theorem Kp.ex {b : Addr} {H H1 : Hp} (x : Ex H H1) : Kp b H H1 := ⟨fun a o _ h => x a o h, fun v r h => ⟨r, x _ _ h⟩⟩
theorem Kp.set {b : Addr} {H : Hp} {v : V} {r r' : List V} (h : H b = some (.lst (v :: r))) : Kp b H (upd H b (.lst (v :: r'))) :=
  ⟨fun a u n h => by
    rw [upd_ne n]
    exact h, fun u q hu => by
    rw [h] at hu
    cases hu
    exact ⟨r', upd_same⟩⟩
/-- at b the box of a script's cells; its turns are at most n -/
structure BxD (b c : Addr) (ns : List Int) (i : Nat) (r m t : Int) (n : Nat) (H : Hp) : Prop where
  box : H b = some (.lst [.ref c, .int (i : Int), .int r, .int m, .int t])
  nc : c ≠ b
  cells : H c = some (.lst (ns.map V.int))
  r0 : 0 ≤ r
  m0 : 0 ≤ m
  m1 : m < 2147483648
  t0 : 0 ≤ t
  t1 : t ≤ (n : Int)
def Bx (b : Addr) (n : Nat) (H : Hp) : Prop := ∃ c ns i r m t, BxD b c ns i r m t n H
theorem Bx.mono {b : Addr} {n k : Nat} {H : Hp} (x : Bx b n H) (h : n ≤ k) : Bx b k H := by
  obtain ⟨c, ns, i, r, m, t, X⟩ := x
  exact ⟨c, ns, i, r, m, t, X.box, X.nc, X.cells, X.r0, X.m0, X.m1, X.t0, by have := X.t1; omega⟩
theorem Bx.ex {b : Addr} {n : Nat} {H H1 : Hp} (x : Bx b n H) (e : Ex H H1) : Bx b n H1 := by
  obtain ⟨c, ns, i, r, m, t, X⟩ := x
  exact ⟨c, ns, i, r, m, t, e _ _ X.box, X.nc, e _ _ X.cells, X.r0, X.m0, X.m1, X.t0, X.t1⟩
/-- what is new since H may change -/
theorem Kp.mut {b l : Addr} {H H' : Hp} {o : HO} (x : Kp b H H') (hl : H l = none) (hn : l ≠ b) : Kp b H (upd H' l o) :=
  ⟨fun a u n h => by
    rw [upd_ne (ne_of_none h hl)]
    exact x.at n h, fun v r h => by
    obtain ⟨r1, h1⟩ := x.fst v r h
    exact ⟨r1, by rw [upd_ne hn.symm]; exact h1⟩⟩
theorem Bx.ne {b l : Addr} {n : Nat} {H : Hp} (x : Bx b n H) (hl : H l = none) : l ≠ b := by
  obtain ⟨c, ns, i, r, m, t, X⟩ := x
  exact (ne_of_none X.box hl).symm
theorem Bx.mut {b l : Addr} {n0 n : Nat} {H H' : Hp} {o : HO} (x0 : Bx b n0 H) (hl : H l = none) (k : Kp b H H') (x : Bx b n H') : Bx b n (upd H' l o) := by
  have hn := x0.ne hl
  obtain ⟨c0, ns0, i0, r0, m0, t0, X0⟩ := x0
  obtain ⟨c, ns, i, r, m, t, X⟩ := x
  obtain ⟨r', h'⟩ := k.fst _ _ X0.box
  have e := X.box.symm.trans h'
  have ec : c = c0 := by
    cases e
    rfl
  have ncl : c ≠ l := by
    rw [ec]
    exact ne_of_none X0.cells hl
  exact ⟨c, ns, i, r, m, t, by rw [upd_ne hn.symm]; exact X.box, X.nc, by rw [upd_ne ncl]; exact X.cells, X.r0, X.m0, X.m1, X.t0, X.t1⟩
theorem cut_ints (ns : List Int) (lo hi : Option Int) : ∃ ms : List Int, cutV (ns.map V.int) lo hi = ms.map V.int := by
  unfold cutV
  rw [← List.map_drop, ← List.map_take]
  exact ⟨_, rfl⟩
abbrev s_law_integer : Stmt := top 18
theorem sc_law_integer : FnScope ["told"] ["told"] (defScope s_law_integer) := ⟨rfl, rfl, rfl, by decide +kernel, rfl, by decide +kernel, by decide +kernel⟩
abbrev s_law_box : Stmt := top 19
theorem sc_law_box : FnScope ["script"] ["script"] (defScope s_law_box) := ⟨rfl, rfl, rfl, by decide +kernel, rfl, by decide +kernel, by decide +kernel⟩
abbrev s_law_mixed : Stmt := top 20
theorem sc_law_mixed : FnScope ["seed", "turn", "once"] ["seed", "turn"] (defScope s_law_mixed) := ⟨rfl, rfl, rfl, by decide +kernel, rfl, by decide +kernel, by decide +kernel⟩
abbrev s_law_take : Stmt := top 21
theorem sc_law_take : FnScope ["box", "size", "cell", "digit"] ["box", "size"] (defScope s_law_take) := ⟨rfl, rfl, rfl, by decide +kernel, rfl, by decide +kernel, by decide +kernel⟩
abbrev s_law_far : Stmt := top 24
theorem sc_law_far : FnScope ["box", "total", "turn"] ["box"] (defScope s_law_far) := ⟨rfl, rfl, rfl, by decide +kernel, rfl, by decide +kernel, by decide +kernel⟩
abbrev s_law_slack : Stmt := top 26
theorem sc_law_slack : FnScope ["box", "kind"] ["box"] (defScope s_law_slack) := ⟨rfl, rfl, rfl, by decide +kernel, rfl, by decide +kernel, by decide +kernel⟩
def spLawInt (K : PySem.W.Frag) : Sp := spD (fun _ => True) isIntD K
def spBox (K : PySem.W.Frag) : Sp := fun vs H Q _ => ∃ (a : Addr) (ns : List Int), vs = [.ref a] ∧ SqL K H a (ns.map V.int) ∧ ∀ b H', Ex H H' → H b = none → Bx b 4 H' → Q (.ref b) H'
def spMixed : Sp := fun vs H Q _ => ∃ s t : Int, vs = [.int s, .int t] ∧ 0 ≤ s ∧ s < 2147483648 ∧ 0 ≤ t ∧ t ≤ 1000001 ∧ ∀ z : Int, Q (.int z) H
def spTake : Sp := fun vs H Q _ => ∃ (b : Addr) (size : Int) (n : Nat), vs = [.ref b, .int size] ∧ Bx b n H ∧ n ≤ 1000000 ∧ 0 < size ∧ size < 1073741824 ∧
  ∀ (d : Int) H', Kp b H H' → Bx b (n + 1) H' → 0 ≤ d → d < size → Q (.int d) H'
structure TxtD (P : Program) (K : PySem.W.Frag) (mg : Str → Option Value) (fM fK fF fS : Addr) : Prop where
  b_isinstance : mg "isinstance" = none
  b_int : mg "int" = none
  b_bool : mg "bool" = none
  b_list : mg "list" = none
  b_len : mg "len" = none
  b_range : mg "range" = none
  f__law_mixed : mg "_law_mixed" = some (.ref fM)
  k__law_mixed : PySem.W.keepIn K (.ref fM) = true
  f__law_take : mg "_law_take" = some (.ref fK)
  k__law_take : PySem.W.keepIn K (.ref fK) = true
  f__law_far : mg "_law_far" = some (.ref fF)
  k__law_far : PySem.W.keepIn K (.ref fF) = true
  f__law_slack : mg "_law_slack" = some (.ref fS)
  k__law_slack : PySem.W.keepIn K (.ref fS) = true
section
variable {P : Program} {w : World} {K : PySem.W.Frag} {mg : Str → Option Value} {base : Heap} {fM fK fF fS : Addr} {fdM fdK fdF fdS : FuncData}
theorem ok_law_integer {f : Addr} {fd : FuncData} (F : Fun K "_law_integer" "_law_integer" s_law_integer f fd) (T : TxtD P K mg fM fK fF fS) : FnOk P w K mg base CX0 1 f fd ["told"] (spLawInt K) := by
  refine F.ok sc_law_integer (fun vs H Q E h => ?_) (fun cdv A outer s H vs Q E hr h => ?_)
  · obtain ⟨v, d, rfl, _⟩ := h
    rfl
  · obtain ⟨v, d, rfl, hd, _, q⟩ := h
    refine ⟨_, (pss_one (ps_ret (pe_and (pe_callB call_isi (by rfl) T.b_isinstance (by decide +kernel) (pa_cons (pv 0) (pa_cons (pe_bltn (v := .ty "int") (by rfl) T.b_int (by decide +kernel) rfl) pa_nil))) (pe_one (pe_not (pe_callB call_isi (by rfl) T.b_isinstance (by decide +kernel) (pa_cons (pv 0) (pa_cons (pe_bltn (v := .ty "bool") (by rfl) T.b_bool (by decide +kernel) rfl) pa_nil)))))))), ?_⟩
    refine ⟨_, rfl, v, _, _, _, _, rfl, .ty "int", dp_ty hd, kit_int d, _, rfl, ?_⟩
    cases e : isIntLikeD d with
    | false => exact iteF (ex_q q (by show (isIntLikeD d && _) = false; rw [e]; rfl) (Ex.refl _))
    | true =>
      refine iteT ⟨_, rfl, v, _, _, _, _, rfl, .ty "bool", dp_ty hd, kit_bool d, _, rfl, ?_⟩
      exact ex_q q (by show (isIntLikeD d && _) = _; rw [e]; rfl) (Ex.refl _)
theorem ok_law_box {f : Addr} {fd : FuncData} (F : Fun K "_law_box" "_law_box" s_law_box f fd) (T : TxtD P K mg fM fK fF fS) : FnOk P w K mg base CX0 1 f fd ["script"] (spBox K) := by
  refine F.ok sc_law_box (fun vs H Q E h => ?_) (fun cdv A outer s H vs Q E hr h => ?_)
  · obtain ⟨a, ns, rfl, _⟩ := h
    rfl
  · obtain ⟨a, ns, rfl, ha, q⟩ := h
    refine ⟨_, (pss_one (ps_ret (pe_lst (pa_cons (pe_callTy call_list_of (by rfl) T.b_list (by decide +kernel) (pa_cons (pe_slice sl_list (pv 0) po_none (po_some pe_int)) pa_nil)) (pa_cons pe_int (pa_cons pe_int (pa_cons pe_int (pa_cons pe_int pa_nil)))))))), ?_⟩
    obtain ⟨ms, hms⟩ : ∃ ms : List Int, cutV (ns.map V.int) none (some 63) = ms.map V.int := cut_ints ns none (some 63)
    refine ⟨_, rfl, 63, rfl, a, _, rfl, ha, fun p hp => ⟨p, _, rfl, .inl (SqL.of upd_same), fun c hc => ⟨(by show 5 ≤ sizeLine; decide), fun b hb => ?_⟩⟩⟩
    have npc : c ≠ p := fun z => by
      rw [z, upd_same] at hc
      cases hc
    have ncb : c ≠ b := fun z => by
      rw [z, upd_same] at hb
      cases hb
    have e : Ex H (upd (upd (upd H p (.lst (cutV (ns.map V.int) none (some 63)))) c (.lst (cutV (ns.map V.int) none (some 63)))) b (.lst [.ref c, .int 0, .int 0, .int 0, .int 4])) := ((Ex.new hp).trans (Ex.new hc)).trans (Ex.new hb)
    refine q b _ e (fresh_back ((Ex.new hp).trans (Ex.new hc)) hb) ⟨c, ms, 0, 0, 0, 4, upd_same, ncb, ?_, by decide, by decide, by decide, by decide, by decide⟩
    rw [upd_ne ncb, upd_same, hms]
theorem ok_law_mixed {f : Addr} {fd : FuncData} (F : Fun K "_law_mixed" "_law_mixed" s_law_mixed f fd) (T : TxtD P K mg fM fK fF fS) : FnOk P w K mg base CX0 1 f fd ["seed", "turn"] spMixed := by
  refine F.ok sc_law_mixed (fun vs H Q E h => ?_) (fun cdv A outer s H vs Q E hr h => ?_)
  · obtain ⟨s, t, rfl, _⟩ := h
    rfl
  · obtain ⟨s, t, rfl, s0, s1, t0, t1, q⟩ := h
    refine ⟨_, (pss_cons (ps_set (i := 2) sc_law_mixed.nd rfl (Or.inl rfl) (pe_op op_modN (pe_callTy call_int1 (by rfl) T.b_int (by decide +kernel) (pa_cons (pe_op op_add (pe_op op_add (pe_op op_mul (pe_op op_add (pv 0) (pe_op op_mul (pv 1) pe_int)) pe_int) (pe_op op_mul (pe_op op_mul (pv 1) (pv 1)) pe_int)) pe_int) pa_nil)) pe_int))
        (pss_one (ps_ret (pe_op op_modN (pe_callTy call_int1 (by rfl) T.b_int (by decide +kernel) (pa_cons (pe_op op_add (pe_op op_mul (pe_op op_mul (pe_op op_add (pe_op op_modN (pv 2) pe_int) pe_int) (pe_op op_add (pe_op op_fdivN (pv 2) pe_int) pe_int)) pe_int) (pv 2)) pa_nil)) pe_int)))), ?_⟩
    refine ⟨_, rfl, _, rfl, _, _, rfl, rfl, .inr (by decide), _, _, rfl, rfl, _, _, rfl, rfl, .inr (by decide), _, rfl, _, rfl, _, _, rfl, rfl, .inl (by constructor <;> omega), _, _, rfl, rfl, .inr (by decide), _, _, rfl, rfl, _, _, rfl, rfl,
      .inl ⟨_, rfl, _, _, rfl, rfl, (by show (2147483629 : Int) ≠ 0; decide), ?_⟩⟩
    dsimp only
    generalize hz : Int.fmod _ 2147483629 = z
    have z0 : 0 ≤ z ∧ z < 2147483629 := by
      rw [← hz, Int.fmod_eq_emod_of_nonneg _ (by decide)]
      exact ⟨Int.emod_nonneg _ (by decide), Int.emod_lt_of_pos _ (by decide)⟩
    refine ⟨_, rfl, _, _, rfl, rfl, (by show (46337 : Int) ≠ 0; decide), _, _, rfl, rfl, _, rfl, _, _, rfl, rfl, ⟨by decide, by decide⟩, _, _, rfl, rfl, _, _, rfl, rfl, .inl ?_, _, _, rfl, rfl, .inr (by decide), _, rfl, _, _, rfl, rfl,
      .inl ⟨_, rfl, _, _, rfl, rfl, (by show (2147483587 : Int) ≠ 0; decide), q _⟩⟩
    have h2 : 0 ≤ Int.fmod z 46337 ∧ Int.fmod z 46337 < 46337 := by
      rw [Int.fmod_eq_emod_of_nonneg _ (by decide)]
      exact ⟨Int.emod_nonneg _ (by decide), Int.emod_lt_of_pos _ (by decide)⟩
    constructor <;> omega
theorem ok_law_take {f : Addr} {fd : FuncData} (F : Fun K "_law_take" "_law_take" s_law_take f fd) (T : TxtD P K mg fM fK fF fS) (FM : Fun K "_law_mixed" "_law_mixed" s_law_mixed fM fdM) (B__law_mixed : Binds K fdM ["seed", "turn"] []) :
    FnOk P w K mg base CX0 2 f fd ["box", "size"] spTake := by
  have G__law_mixed : FnOk P w K mg base CX0 1 fM fdM ["seed", "turn"] spMixed := ok_law_mixed FM T
  refine F.ok sc_law_take (fun vs H Q E h => ?_) (fun cdv A outer s H vs Q E hr h => ?_)
  · obtain ⟨b, size, n, rfl, _⟩ := h
    rfl
  · obtain ⟨b, size, n, rfl, ⟨c, ns, i, r, m, t, X⟩, hn, s0, s1, q⟩ := h
    refine ⟨_, (pss_cons (ps_asg (pe_op op_add (pe_ix ix_list (pv 0) pe_int (fun _ _ => rfl)) pe_int) (pg_sub (pv 0) pe_int set_list))
        (Evl.pss_cut (ps_if (PW.pt (pw_and (pt_cmpR op_eq (pe_ix ix_list (pv 0) pe_int (fun _ _ => rfl)) pe_int (nomark _)) (pw_and (pt_cmpR op_gt (pe_ix ix_list (pv 0) pe_int (fun _ _ => rfl)) pe_int (nomark _)) (pw_and1 (pt_cmpR op_lt (pe_ix ix_list (pv 0) pe_int (fun _ _ => rfl)) (pe_callB call_len_seq (by rfl) T.b_len (by decide +kernel) (pa_cons (pe_ix ix_list (pv 0) pe_int (fun _ _ => rfl)) pa_nil)) (nomark _)))))) (pss_cons (ps_set (i := 2) sc_law_take.nd rfl (Or.inl rfl) (pe_ix ix_list (pe_ix ix_list (pv 0) pe_int (fun _ _ => rfl)) (pe_ix ix_list (pv 0) pe_int (fun _ _ => rfl)) (fun _ _ => rfl)))
        (pss_cons (ps_asg (pe_op op_add (pe_ix ix_list (pv 0) pe_int (fun _ _ => rfl)) pe_int) (pg_sub (pv 0) pe_int set_list))
        (pss_cons (ps_asg (pe_op op_modN (pe_callTy call_int1 (by rfl) T.b_int (by decide +kernel) (pa_cons (pe_op op_add (pe_op op_mul (pe_ix ix_list (pv 0) pe_int (fun _ _ => rfl)) pe_int) (pv 2)) pa_nil)) pe_int) (pg_sub (pv 0) pe_int set_list))
        (pss_one (ps_if (pt_cmpR op_ge (pv 2) (pe_op op_pow pe_int pe_int) (nomark _)) (pss_one (ps_asg (pv 2) (pg_sub (pv 0) pe_int set_list))) (pss_one (ps_asg pe_int (pg_sub (pv 0) pe_int set_list)))))))) pss_nil)
        (pss_cons (ps_if (pt_cmpR op_gt (pe_ix ix_list (pv 0) pe_int (fun _ _ => rfl)) pe_int (nomark _)) (pss_cons (ps_set (i := 3) sc_law_take.nd rfl (Or.inl rfl) (pe_op op_modN (pe_callTy call_int1 (by rfl) T.b_int (by decide +kernel) (pa_cons (pe_ix ix_list (pv 0) pe_int (fun _ _ => rfl)) pa_nil)) (pv 1)))
        (pss_cons (ps_asg (pe_op op_fdivN (pe_callTy call_int1 (by rfl) T.b_int (by decide +kernel) (pa_cons (pe_ix ix_list (pv 0) pe_int (fun _ _ => rfl)) pa_nil)) (pv 1)) (pg_sub (pv 0) pe_int set_list))
        (pss_one (ps_ret (pv 3))))) pss_nil)
        (pss_one (ps_ret (pe_op op_modN (pe_callTy call_int1 (by rfl) T.b_int (by decide +kernel) (pa_cons (pe_op op_fdivN (pe_call G__law_mixed (hr.mono (by decide)) rfl T.f__law_mixed T.k__law_mixed B__law_mixed .nil pass0 (pa_cons (pe_ix ix_list (pv 0) pe_int (fun _ _ => rfl)) (pa_cons (pe_ix ix_list (pv 0) pe_int (fun _ _ => rfl)) pa_nil))) pe_int) pa_nil)) (pv 1))))))), ?_⟩
    refine ⟨_, rfl, b, _, 4, _, rfl, rfl, SqL.of X.box, at_lit (n := 4) rfl rfl, _, _, rfl, rfl, _, rfl, b, _, 4, 4, rfl, rfl, X.box, rfl, ?_⟩
    generalize hH1 : upd H b _ = H1
    have hb1 : H1 b = some (.lst [.ref c, .int (i : Int), .int r, .int m, .int (t + 1)]) := by rw [← hH1]; exact upd_same
    have k1 : Kp b H H1 := by rw [← hH1]; exact Kp.set X.box
    have hc1 : H1 c = some (.lst (ns.map V.int)) := k1.at X.nc X.cells
    have X1 : BxD b c ns i r m (t + 1) (n + 1) H1 := ⟨hb1, X.nc, hc1, X.r0, X.m0, X.m1, by have := X.t0; omega, by have := X.t1; omega⟩
    refine ⟨fun σ' H' => (∃ x, σ' = [some (.ref b), some (.int size), x, none]) ∧ Kp b H H' ∧ Bx b (n + 1) H', ?_, ?_⟩
    · have hM : ∀ {Z : Prop}, Z → Z := fun z => z
      have fin : (∃ x, [some (V.ref b), some (V.int size), none, none] = [some (V.ref b), some (.int size), x, none]) ∧ Kp b H H1 ∧ Bx b (n + 1) H1 := ⟨⟨none, rfl⟩, k1, _, _, _, _, _, _, X1⟩
      refine ⟨_, rfl, b, _, 2, _, rfl, rfl, SqL.of hb1, at_lit (n := 2) rfl rfl, rfl, _, rfl, ?_⟩
      refine ite2 (fun h1 => ?_) (fun h1 => iteF fin)
      refine ⟨_, rfl, b, _, 4, _, rfl, rfl, SqL.of hb1, at_lit (n := 4) rfl rfl, _, _, rfl, rfl, _, rfl, ?_⟩
      refine ite2 (fun h2 => ?_) (fun h2 => iteF fin)
      refine ⟨_, rfl, b, _, 1, _, rfl, rfl, SqL.of hb1, at_lit (n := 1) rfl rfl, _, rfl, b, _, 0, _, rfl, rfl, SqL.of hb1, at_lit (n := 0) rfl rfl, c, _, rfl, .inl (SqL.of hc1), _, _, rfl, rfl, _, rfl, ?_⟩
      refine ite2 (fun h3 => ?_) (fun h3 => fin)
      have hi : (i : Int) < ((ns.map V.int).length : Nat) := of_decide_eq_true h3
      rw [List.length_map] at hi
      obtain ⟨cell, hcell⟩ : ∃ z : Int, ns[i]? = some z := ⟨ns[i]'(by omega), by simp⟩
      have hcell' : (ns.map V.int)[i]? = some (.int cell) := by rw [List.getElem?_map, hcell]; rfl
      refine ⟨_, rfl, b, _, 0, _, rfl, rfl, SqL.of hb1, at_lit (n := 0) rfl rfl, _, rfl, b, _, 1, _, rfl, rfl, SqL.of hb1, at_lit (n := 1) rfl rfl, c, _, i, _, rfl, rfl, SqL.of hc1, at_lit (n := i) rfl hcell', ?_⟩
      refine ⟨_, rfl, b, _, 1, _, rfl, rfl, SqL.of hb1, at_lit (n := 1) rfl rfl, _, _, rfl, rfl, _, rfl, b, _, 1, 1, rfl, rfl, hb1, rfl, ?_⟩
      generalize hH2 : upd H1 b _ = H2
      have hb2 : H2 b = some (.lst [.ref c, .int ((i : Int) + 1), .int r, .int m, .int (t + 1)]) := by rw [← hH2]; exact upd_same
      have k2 : Kp b H H2 := k1.trans (by rw [← hH2]; exact Kp.set hb1)
      refine ⟨_, rfl, b, _, 3, _, rfl, rfl, SqL.of hb2, at_lit (n := 3) rfl rfl, _, _, rfl, rfl, .inr (by decide), _, rfl, _, _, rfl, rfl, .inl ⟨_, rfl, _, _, rfl, rfl, (by show (2147483563 : Int) ≠ 0; decide), _, rfl, b, _, 3, 3, rfl, rfl, hb2, rfl, ?_⟩⟩
      dsimp only
      generalize hm' : Int.fmod _ 2147483563 = m'
      have m0 : 0 ≤ m' ∧ m' < 2147483563 := by
        rw [← hm', Int.fmod_eq_emod_of_nonneg _ (by decide)]
        exact ⟨Int.emod_nonneg _ (by decide), Int.emod_lt_of_pos _ (by decide)⟩
      generalize hH3 : upd H2 b _ = H3
      have hb3 : H3 b = some (.lst [.ref c, .int ((i : Int) + 1), .int r, .int m', .int (t + 1)]) := by rw [← hH3]; exact upd_same
      have k3 : Kp b H H3 := k2.trans (by rw [← hH3]; exact Kp.set hb2)
      refine ⟨_, rfl, _, _, rfl, rfl, ⟨by decide, by decide, by decide⟩, _, _, rfl, rfl, _, rfl, ?_⟩
      refine ite2 (fun h4 => ?_) (fun h4 => ?_)
      · have hge : (10 : Int) ^ 18 ≤ cell := of_decide_eq_true h4
        refine ⟨_, rfl, _, rfl, b, _, 2, 2, rfl, rfl, hb3, rfl, ⟨_, rfl⟩, k3.trans (Kp.set hb3), c, ns, i + 1, cell, m', t + 1, upd_same, X.nc, ?_, by omega, by omega, by omega, by have := X.t0; omega, by have := X.t1; omega⟩
        rw [upd_ne X.nc]
        exact k3.at X.nc X.cells
      · refine ⟨_, rfl, b, _, 4, 4, rfl, rfl, hb3, rfl, ⟨_, rfl⟩, k3.trans (Kp.set hb3), c, ns, i + 1, r, m', 0, upd_same, X.nc, ?_, X.r0, by omega, by omega, by omega, by omega⟩
        rw [upd_ne X.nc]
        exact k3.at X.nc X.cells
    · rintro σ' H' ⟨⟨x, rfl⟩, k2, c, ns, i, r, m, t, Y⟩
      refine ⟨_, rfl, b, _, 2, _, rfl, rfl, SqL.of Y.box, at_lit (n := 2) rfl rfl, _, _, rfl, rfl, _, rfl, ?_⟩
      refine ite2 (fun h1 => ?_) (fun h1 => ?_)
      · have hr1 : 0 < r := of_decide_eq_true h1
        refine ⟨_, rfl, b, _, 2, _, rfl, rfl, SqL.of Y.box, at_lit (n := 2) rfl rfl, .inl ⟨_, rfl, _, rfl, _, _, rfl, rfl, by omega, ?_⟩⟩
        refine ⟨_, rfl, b, _, 2, _, rfl, rfl, SqL.of Y.box, at_lit (n := 2) rfl rfl, .inl ⟨_, rfl, _, rfl, _, _, rfl, rfl, ⟨by omega, by omega⟩, _, rfl, b, _, 2, 2, rfl, rfl, Y.box, rfl, _, rfl, ?_⟩⟩
        refine q _ _ (k2.trans (Kp.set Y.box)) ⟨c, ns, i, _, m, t, upd_same, Y.nc, ?_, ?_, Y.m0, Y.m1, Y.t0, Y.t1⟩ ?_ ?_
        · rw [upd_ne Y.nc]
          exact Y.cells
        · rw [Int.fdiv_eq_ediv_of_nonneg _ (by omega)]
          exact Int.ediv_nonneg Y.r0 (by omega)
        · rw [Int.fmod_eq_emod_of_nonneg _ (by omega)]
          exact Int.emod_nonneg _ (by omega)
        · rw [Int.fmod_eq_emod_of_nonneg _ (by omega)]
          exact Int.emod_lt_of_pos _ s0
      · refine ⟨_, rfl, b, _, 3, _, rfl, rfl, SqL.of Y.box, at_lit (n := 3) rfl rfl, _, rfl, b, _, 4, _, rfl, rfl, SqL.of Y.box, at_lit (n := 4) rfl rfl, m, t, rfl, Y.m0, Y.m1, Y.t0, by have := Y.t1; omega, fun z => ?_⟩
        refine ⟨_, _, rfl, rfl, ⟨by decide, by decide⟩, .inl ⟨_, rfl, _, rfl, _, _, rfl, rfl, by omega, ?_⟩⟩
        refine q _ _ k2 ⟨c, ns, i, r, m, t, Y⟩ ?_ ?_
        · rw [Int.fmod_eq_emod_of_nonneg _ (by omega)]
          exact Int.emod_nonneg _ (by omega)
        · rw [Int.fmod_eq_emod_of_nonneg _ (by omega)]
          exact Int.emod_lt_of_pos _ s0
end
end K7
set_option maxRecDepth 100000
set_option maxHeartbeats 4000000
namespace K7
open PySem L2 Evl
/-! ### names, over their signs -/
def nameL (l : List Nat) : Bool := decide (1 ≤ l.length ∧ l.length ≤ 8) && (decide (l.headD 0 ∈ letters.cps.toList) && l.all fun c => decide (c ∈ signs.cps.toList))
theorem isName_L (z : Str) : isNameS z = nameL z.cps.toList := by
  unfold isNameS nameL
  have : z.length = z.cps.toList.length := by show z.cps.size = _; simp
  rw [this]
theorem nameL_iff {l : List Nat} : nameL l = true ↔ (1 ≤ l.length ∧ l.length ≤ 8) ∧ l.headD 0 ∈ letters.cps.toList ∧ ∀ c ∈ l, c ∈ signs.cps.toList := by
  unfold nameL
  simp only [Bool.and_eq_true, decide_eq_true_eq, List.all_eq_true]
def lawSigns : Str := "0123456789abcdefghijklmnopqrstuvwxyz"
theorem lawSign (k : Nat) (h : k < 36) : ∃ c, lawSigns.cps.toList[k]? = some c ∧ c ∈ signs.cps.toList ∧ (10 ≤ k → c ∈ letters.cps.toList) := by
  have all : ∀ i : Fin 36, (match lawSigns.cps.toList[i.val]? with | some c => decide (c ∈ signs.cps.toList) && (decide (i.val < 10) || decide (c ∈ letters.cps.toList)) | none => false) = true := by decide +kernel
  have g := all ⟨k, h⟩
  dsimp only at g
  cases e : lawSigns.cps.toList[k]? with
  | none => rw [e] at g; cases g
  | some c =>
    rw [e] at g
    simp only [Bool.and_eq_true, Bool.or_eq_true, decide_eq_true_eq] at g
    exact ⟨c, rfl, g.1, fun z => g.2.resolve_left (by omega)⟩
theorem lawSigns_len : lawSigns.length ≤ sizeLine := by decide +kernel
theorem name_len {z : Str} (h : isNameS z = true) : 1 ≤ z.length ∧ z.length ≤ 8 := by
  rw [isName_L, nameL_iff] at h
  have : z.length = z.cps.toList.length := by show z.cps.size = _; simp
  omega
theorem line8 {z : Str} (h : isNameS z = true) : z.length ≤ sizeLine := Nat.le_trans (name_len h).2 (by decide)
theorem str_app (x y : Str) : (x ++ y).cps.toList = x.cps.toList ++ y.cps.toList := by
  show (x.cps ++ y.cps).toList = _
  simp
theorem str_len (z : Str) : z.cps.toList.length = z.length := by show _ = z.cps.size; simp
theorem cut_to {z : Str} {k : Nat} (h : k ≤ z.length) : (cutS z none (some (k : Int))).cps.toList = z.cps.toList.take k := by
  unfold cutS
  rw [HT.sIx_none, HT.sIx_nat]
  simp only [Nat.sub_zero, List.drop_zero, Nat.min_eq_left h]
theorem cut_from {z : Str} {k : Nat} (h : k ≤ z.length) : (cutS z (some (k : Int)) none).cps.toList = z.cps.toList.drop k := by
  unfold cutS
  rw [HT.sIx_none, HT.sIx_nat, Nat.min_eq_left h]
  show (z.cps.toList.drop k).take (z.length - k) = _
  exact List.take_of_length_le (by rw [List.length_drop, str_len]; exact Nat.le_refl _)
/-- one sign of a name exchanged -/
theorem name_put {e w : Str} {k c : Nat} (he : isNameS e = true) (hk : k < e.length) (hc : c ∈ signs.cps.toList) (h0 : k = 0 → c ∈ letters.cps.toList)
    (hw : w.cps.toList = e.cps.toList.take k ++ [c] ++ e.cps.toList.drop (k + 1)) : isNameS w = true := by
  rw [isName_L, nameL_iff] at he ⊢
  have hl := str_len e
  obtain ⟨⟨h1, h2⟩, h3, h4⟩ := he
  rw [hw]
  refine ⟨?_, ?_, ?_⟩
  · simp only [List.length_append, List.length_take, List.length_drop, List.length_cons, List.length_nil]
    omega
  · cases k with
    | zero => simpa using h0 rfl
    | succ k =>
      cases hE : e.cps.toList with
      | nil => rw [hE] at h1; simp at h1
      | cons a r =>
        rw [hE] at h3
        simpa using h3
  · intro d hd
    simp only [List.mem_append, List.mem_singleton] at hd
    rcases hd with (hd | hd) | hd
    · exact h4 d (List.mem_of_mem_take hd)
    · rw [hd]; exact hc
    · exact h4 d (List.mem_of_mem_drop hd)
theorem name_one {c : Nat} (hc : c ∈ letters.cps.toList) (hs : c ∈ signs.cps.toList) : isNameS ⟨#[c]⟩ = true := by
  rw [isName_L, nameL_iff]
  exact ⟨⟨Nat.le_refl 1, (by decide : 1 ≤ 8)⟩, hc, fun d hd => by rw [List.mem_singleton.mp hd]; exact hs⟩
theorem name_more {z : Str} {c : Nat} (hz : isNameS z = true) (hl : z.length < 8) (hc : c ∈ signs.cps.toList) : isNameS (z ++ ⟨#[c]⟩) = true := by
  rw [isName_L, nameL_iff] at hz ⊢
  obtain ⟨⟨h1, h2⟩, h3, h4⟩ := hz
  have hl' := str_len z
  rw [str_app]
  refine ⟨?_, ?_, ?_⟩
  · rw [List.length_append]
    show 1 ≤ z.cps.toList.length + 1 ∧ z.cps.toList.length + 1 ≤ 8
    omega
  · cases hE : z.cps.toList with
    | nil => rw [hE] at h1; simp at h1
    | cons a r =>
      rw [hE] at h3
      exact h3
  · intro d hd
    rcases List.mem_append.mp hd with hd | hd
    · exact h4 d hd
    · rw [List.mem_singleton.mp hd]
      exact hc
theorem add_len (x : Str) (c : Nat) : (x ++ (⟨#[c]⟩ : Str)).length = x.length + 1 := by
  have h := str_len (x ++ (⟨#[c]⟩ : Str))
  rw [str_app, List.length_append, str_len] at h
  exact h.symm
abbrev s_law_name : Stmt := top 22
theorem sc_law_name : FnScope ["box", "names", "signs", "elder", "place", "least", "size", "text", "turn"] ["box", "names"] (defScope s_law_name) := ⟨rfl, rfl, rfl, by decide +kernel, rfl, by decide +kernel, by decide +kernel⟩
abbrev s_law_names : Stmt := top 23
theorem sc_law_names : FnScope ["box", "count", "names", "turn", "name", "one"] ["box", "count"] (defScope s_law_names) := ⟨rfl, rfl, rfl, by decide +kernel, rfl, by decide +kernel, by decide +kernel⟩
def spFar : Sp := fun vs H Q _ => ∃ (b : Addr) (n : Nat), vs = [.ref b] ∧ Bx b n H ∧ n + 7 ≤ 1000000 ∧ ∀ (z : Int) H', Kp b H H' → Bx b (n + 7) H' → Q (.int z) H'
def spSlack : Sp := fun vs H Q _ => ∃ (b : Addr) (n : Nat), vs = [.ref b] ∧ Bx b n H ∧ n + 8 ≤ 1000000 ∧ ∀ (z : Int) H', Kp b H H' → Bx b (n + 8) H' → Q (.int z) H'
/-- names so far at l: all are names, none twice -/
structure Nms (l : Addr) (xs : List Str) (H : Hp) : Prop where
  at_ : H l = some (.lst (xs.map V.str))
  nm : ∀ z ∈ xs, isNameS z = true
  nd : xs.Nodup
def spName : Sp := fun vs H Q _ => ∃ (b l : Addr) (n : Nat) (xs : List Str), vs = [.ref b, .ref l] ∧ Bx b n H ∧ n + 20 ≤ 1000000 ∧ l ≠ b ∧ Nms l xs H ∧ xs.length ≤ 1000 ∧
  ∀ (z : Str) H', isNameS z = true → Kp b H H' → Bx b (n + 20) H' → Q (.str z) H'
def spNames : Sp := fun vs H Q _ => ∃ (b : Addr) (n k : Nat), vs = [.ref b, .int (k : Int)] ∧ Bx b n H ∧ n + 20 * k ≤ 1000000 ∧ k ≤ 7 ∧
  ∀ (l : Addr) (xs : List Str) H', H l = none → l ≠ b → Nms l xs H' → xs.length = k → Kp b H H' → Bx b (n + 20 * k) H' → Q (.ref l) H'
structure FD (K : PySem.W.Frag) (fM fK fF fS : Addr) (fdM fdK fdF fdS : FuncData) : Prop where
  FM : Fun K "_law_mixed" "_law_mixed" s_law_mixed fM fdM
  BM : Binds K fdM ["seed", "turn"] []
  FK : Fun K "_law_take" "_law_take" s_law_take fK fdK
  BK : Binds K fdK ["box", "size"] []
  FF : Fun K "_law_far" "_law_far" s_law_far fF fdF
  BF : Binds K fdF ["box"] []
  FS : Fun K "_law_slack" "_law_slack" s_law_slack fS fdS
  BS : Binds K fdS ["box"] []
section
variable {P : Program} {w : World} {K : PySem.W.Frag} {mg : Str → Option Value} {base : Heap} {fM fK fF fS : Addr} {fdM fdK fdF fdS : FuncData}
theorem ok_law_far {f : Addr} {fd : FuncData} (F : Fun K "_law_far" "_law_far" s_law_far f fd) (T : TxtD P K mg fM fK fF fS) (D : FD K fM fK fF fS fdM fdK fdF fdS) : FnOk P w K mg base CX0 3 f fd ["box"] spFar := by
  have G__law_take : FnOk P w K mg base CX0 2 fK fdK ["box", "size"] spTake := ok_law_take D.FK T D.FM D.BM
  have B__law_take := D.BK
  refine F.ok sc_law_far (fun vs H Q E h => ?_) (fun cdv A outer s H vs Q E hr h => ?_)
  · obtain ⟨b, n, rfl, _⟩ := h
    rfl
  · obtain ⟨b, n, rfl, X, hn, q⟩ := h
    refine ⟨_, (pss_cons (ps_set (i := 1) sc_law_far.nd rfl (Or.inl rfl) pe_int)
        (pss_cons (ps_for PassesOwn.never rfl (pi_range1 rfl T.b_range (pa_cons pe_int pa_nil)) (pg_name (i := 2) sc_law_far.nd rfl (Or.inl rfl)) (pss_one (ps_set (i := 1) sc_law_far.nd rfl (Or.inl rfl) (pe_op op_add (pe_op op_mul (pv 1) (pe_op op_pow pe_int pe_int)) (pe_call G__law_take (hr.mono (by decide)) rfl T.f__law_take T.k__law_take B__law_take .nil pass0 (pa_cons (pv 0) (pa_cons (pe_op op_pow pe_int pe_int) pa_nil)))))))
        (pss_one (ps_ret (pv 1))))), ?_⟩
    refine ⟨7, rfl, by decide, by decide, for_range (lo := 0) (n := 7) (fun i σ H' => (∃ (z : Int) (v : Option V), σ = [some (.ref b), some (.int z), v]) ∧ Kp b H H' ∧ Bx b (n + i) H') ⟨⟨0, none, rfl⟩, Kp.refl _ _, X⟩ ?_ ?_⟩
    · rintro i σ H' hi ⟨⟨z, v, rfl⟩, k1, X1⟩
      refine ⟨_, rfl, _, _, rfl, rfl, ⟨by decide, by decide, by decide⟩, _, _, rfl, rfl, .inr (by decide), _, rfl, _, _, rfl, rfl, ⟨by decide, by decide, by decide⟩, b, _, n + i, rfl, X1, by omega, by decide, by decide, fun d H2 k2 X2 d0 d1 => ⟨_, _, rfl, rfl, ⟨_, _, rfl⟩, k1.trans k2, X2⟩⟩
    · rintro σ H' ⟨⟨z, v, rfl⟩, k1, X1⟩
      exact ⟨_, rfl, q z H' k1 X1⟩
theorem ok_law_slack {f : Addr} {fd : FuncData} (F : Fun K "_law_slack" "_law_slack" s_law_slack f fd) (T : TxtD P K mg fM fK fF fS) (D : FD K fM fK fF fS fdM fdK fdF fdS) : FnOk P w K mg base CX0 4 f fd ["box"] spSlack := by
  have G__law_take : FnOk P w K mg base CX0 2 fK fdK ["box", "size"] spTake := ok_law_take D.FK T D.FM D.BM
  have B__law_take := D.BK
  have G__law_far : FnOk P w K mg base CX0 3 fF fdF ["box"] spFar := ok_law_far D.FF T D
  have B__law_far := D.BF
  refine F.ok sc_law_slack (fun vs H Q E h => ?_) (fun cdv A outer s H vs Q E hr h => ?_)
  · obtain ⟨b, n, rfl, _⟩ := h
    rfl
  · obtain ⟨b, n, rfl, X, hn, q⟩ := h
    refine ⟨_, (pss_cons (ps_set (i := 1) sc_law_slack.nd rfl (Or.inl rfl) (pe_call G__law_take (hr.mono (by decide)) rfl T.f__law_take T.k__law_take B__law_take .nil pass0 (pa_cons (pv 0) (pa_cons pe_int pa_nil))))
        (pss_cons (ps_if (pt_cmpR op_eq (pv 1) pe_int (nomark _)) (pss_one (ps_ret (pe_call G__law_far (hr.mono (by decide)) rfl T.f__law_far T.k__law_far B__law_far .nil pass0 (pa_cons (pv 0) pa_nil)))) pss_nil)
        (pss_one (ps_ret (pe_ix ix_list (pe_lst (pa_cons pe_int (pa_cons pe_int (pa_cons pe_int (pa_cons pe_int (pa_cons pe_int (pa_cons pe_int (pa_cons pe_int (pa_cons pe_int (pa_cons pe_int (pa_cons pe_int (pa_cons pe_int pa_nil)))))))))))) (pv 1) (fun _ _ => rfl)))))), ?_⟩
    refine ⟨_, rfl, b, 12, n, rfl, X, by omega, by decide, by decide, fun d H1 k1 X1 d0 d1 => ?_⟩
    refine ⟨_, rfl, rfl, _, rfl, ?_⟩
    refine ite2 (fun h1 => ?_) (fun h1 => ?_)
    · exact ⟨_, rfl, b, n + 1, rfl, X1, by omega, fun z H2 k2 X2 => q z H2 (k1.trans k2) (X2.mono (by omega))⟩
    · have hd : d ≠ 11 := fun z => h1 (decide_eq_true (by rw [z]))
      refine ⟨(by show 11 ≤ sizeLine; decide), fun p hp => ?_⟩
      have e1 := Ex.new (o := .lst [.int 0, .int 0, .int 0, .int 0, .int 0, .int 1, .int 1, .int 1, .int 2, .int 3, .int 5]) hp
      obtain ⟨z, hz⟩ : ∃ z : Int, ([.int 0, .int 0, .int 0, .int 0, .int 0, .int 1, .int 1, .int 1, .int 2, .int 3, .int 5] : List V)[d.toNat]? = some (.int z) := by
        have hk : d.toNat < 11 := by omega
        generalize d.toNat = k at hk
        match k, hk with
        | 0, _ => exact ⟨_, rfl⟩ | 1, _ => exact ⟨_, rfl⟩ | 2, _ => exact ⟨_, rfl⟩ | 3, _ => exact ⟨_, rfl⟩ | 4, _ => exact ⟨_, rfl⟩ | 5, _ => exact ⟨_, rfl⟩
        | 6, _ => exact ⟨_, rfl⟩ | 7, _ => exact ⟨_, rfl⟩ | 8, _ => exact ⟨_, rfl⟩ | 9, _ => exact ⟨_, rfl⟩ | 10, _ => exact ⟨_, rfl⟩
      exact ⟨_, rfl, p, _, d, _, rfl, rfl, SqL.of upd_same, at_lit (n := d.toNat) (by omega) hz, q z _ (k1.trans (Kp.ex e1)) ((X1.mono (by omega)).ex e1)⟩
theorem ok_law_name {f : Addr} {fd : FuncData} (F : Fun K "_law_name" "_law_name" s_law_name f fd) (T : TxtD P K mg fM fK fF fS) (D : FD K fM fK fF fS fdM fdK fdF fdS) : FnOk P w K mg base CX0 3 f fd ["box", "names"] spName := by
  have G__law_take : FnOk P w K mg base CX0 2 fK fdK ["box", "size"] spTake := ok_law_take D.FK T D.FM D.BM
  have B__law_take := D.BK
  refine F.ok sc_law_name (fun vs H Q E h => ?_) (fun cdv A outer s H vs Q E hr h => ?_)
  · obtain ⟨b, l, n, xs, rfl, _⟩ := h
    rfl
  · obtain ⟨b, l, n, xs, rfl, X, hn, hlb, N, hxs, q⟩ := h
    refine ⟨_, (pss_cons (ps_set (i := 2) sc_law_name.nd rfl (Or.inl rfl) pe_str)
        (Evl.pss_cut (ps_if (PW.pt (pw_and (pt_truth (pv 1) (by intro _; rfl)) (pw_and1 (pt_cmpR op_eq (pe_call G__law_take (hr.mono (by decide)) rfl T.f__law_take T.k__law_take B__law_take .nil pass0 (pa_cons (pv 0) (pa_cons pe_int pa_nil))) pe_int (nomark _))))) (pss_cons (ps_set (i := 3) sc_law_name.nd rfl (Or.inl rfl) (pe_ix ix_list (pv 1) (pe_call G__law_take (hr.mono (by decide)) rfl T.f__law_take T.k__law_take B__law_take .nil pass0 (pa_cons (pv 0) (pa_cons (pe_callB call_len_seq (by rfl) T.b_len (by decide +kernel) (pa_cons (pv 1) pa_nil)) pa_nil))) (fun _ _ => rfl)))
        (pss_cons (ps_set (i := 4) sc_law_name.nd rfl (Or.inl rfl) (pe_call G__law_take (hr.mono (by decide)) rfl T.f__law_take T.k__law_take B__law_take .nil pass0 (pa_cons (pv 0) (pa_cons (pe_callB call_len_str (by rfl) T.b_len (by decide +kernel) (pa_cons (pv 3) pa_nil)) pa_nil))))
        (pss_cons (ps_set (i := 5) sc_law_name.nd rfl (Or.inl rfl) (pe_op op_mul pe_int (pe_callTy call_int1 (by rfl) T.b_int (by decide +kernel) (pa_cons (pe_cmpR op_eq (pv 4) pe_int (nomark _)) pa_nil))))
        (pss_one (ps_ret (pe_op op_add_str (pe_op op_add_str (pe_slice sl_str (pv 3) po_none (po_some (pv 4))) (pe_ix ix_str (pv 2) (pe_op op_add (pv 5) (pe_call G__law_take (hr.mono (by decide)) rfl T.f__law_take T.k__law_take B__law_take .nil pass0 (pa_cons (pv 0) (pa_cons (pe_op op_sub pe_int (pv 5)) pa_nil)))) (fun _ _ => rfl))) (pe_slice sl_str (pv 3) (po_some (pe_op op_add (pv 4) pe_int)) po_none))))))) pss_nil)
        (pss_cons (ps_set (i := 6) sc_law_name.nd rfl (Or.inl rfl) (pe_call G__law_take (hr.mono (by decide)) rfl T.f__law_take T.k__law_take B__law_take .nil pass0 (pa_cons (pv 0) (pa_cons pe_int pa_nil))))
        (Evl.pss_cut (ps_if (pt_cmpR op_eq (pv 6) pe_int (nomark _)) (pss_one (ps_set (i := 6) sc_law_name.nd rfl (Or.inl rfl) (pe_call G__law_take (hr.mono (by decide)) rfl T.f__law_take T.k__law_take B__law_take .nil pass0 (pa_cons (pv 0) (pa_cons pe_int pa_nil))))) pss_nil)
        (pss_cons (ps_set (i := 7) sc_law_name.nd rfl (Or.inl rfl) (pe_ix ix_str (pv 2) (pe_op op_add pe_int (pe_call G__law_take (hr.mono (by decide)) rfl T.f__law_take T.k__law_take B__law_take .nil pass0 (pa_cons (pv 0) (pa_cons pe_int pa_nil)))) (fun _ _ => rfl)))
        (pss_cons (ps_for PassesOwn.never rfl (pi_range1 rfl T.b_range (pa_cons (pv 6) pa_nil)) (pg_name (i := 8) sc_law_name.nd rfl (Or.inl rfl)) (pss_one (ps_set (i := 7) sc_law_name.nd rfl (Or.inl rfl) (pe_op op_add_str (pv 7) (pe_ix ix_str (pv 2) (pe_call G__law_take (hr.mono (by decide)) rfl T.f__law_take T.k__law_take B__law_take .nil pass0 (pa_cons (pv 0) (pa_cons pe_int pa_nil))) (fun _ _ => rfl))))))
        (pss_one (ps_ret (pv 7))))))))), ?_⟩
    refine ⟨fun σ' H' => σ' = [some (.ref b), some (.ref l), some (.str lawSigns), none, none, none, none, none, none] ∧ Kp b H H' ∧ Bx b (n + 1) H', ?_, ?_⟩
    · refine ⟨_, rfl, !xs.isEmpty, .inl ⟨_, SqL.of N.at_, by cases xs <;> rfl⟩, ?_⟩
      refine ite2 (fun h1 => ?_) (fun h1 => iteF ⟨rfl, Kp.refl _ _, X.mono (by omega)⟩)
      refine ⟨_, rfl, b, 3, n, rfl, X, by omega, by decide, by decide, fun d H1 k1 X1 d0 d1 => ⟨rfl, _, rfl, ?_⟩⟩
      refine ite2 (fun h2 => ?_) (fun h2 => ⟨rfl, k1, X1⟩)
      have hl1 := k1.at hlb N.at_
      have hpos : 0 < xs.length := by
        cases xs with
        | nil => cases h1
        | cons _ _ => simp
      have hlm : ((xs.map V.str).length : Int) = (xs.length : Nat) := by rw [List.length_map]
      refine ⟨_, rfl, _, rfl, _, rfl, l, _, rfl, .inl (SqL.of hl1), b, _, n + 1, rfl, X1, by omega, by omega, by omega, fun i H2 k2 X2 i0 i1 => ?_⟩
      obtain ⟨e, he⟩ : ∃ e, xs[i.toNat]? = some e := ⟨xs[i.toNat]'(by omega), by simp⟩
      have hl2 := k2.at hlb hl1
      have ne : isNameS e = true := N.nm e (List.mem_of_getElem? he)
      have le := name_len ne
      refine ⟨l, _, i, .str e, rfl, rfl, SqL.of hl2, at_lit (n := i.toNat) (by omega) (by rw [List.getElem?_map, he]; rfl), ?_⟩
      refine ⟨_, rfl, _, rfl, e, rfl, line8 ne, b, _, n + 1 + 1, rfl, X2, by omega, by omega, by omega, fun place H3 k3 X3 p0 p1 => ?_⟩
      obtain ⟨k, rfl⟩ : ∃ k : Nat, place = (k : Int) := ⟨place.toNat, by omega⟩
      refine ⟨_, rfl, rfl, .inr ⟨_, rfl, _, _, rfl, rfl, .inl (by constructor <;> decide), ?_⟩⟩
      generalize hL : (10 : Int) * (if decide (V.int (k : Int) = V.int 0) = true then 1 else 0) = least
      have hleast : (k = 0 ∧ least = 10) ∨ (k ≠ 0 ∧ least = 0) := by
        by_cases h0 : k = 0
        · left
          refine ⟨h0, ?_⟩
          rw [← hL, h0]
          rfl
        · right
          refine ⟨h0, ?_⟩
          rw [← hL, decide_eq_false (fun z => h0 (by have := V.int.inj z; omega))]
          rfl
      refine ⟨_, rfl, _, rfl, _, rfl, e, rfl, line8 ne, _, rfl, _, rfl, _, rfl, _, rfl, _, _, rfl, rfl, b, _, n + 1 + 1 + 1, rfl, X3, by omega, by omega, by omega, fun d4 H4 k4 X4 c0 c1 => ?_⟩
      obtain ⟨c, hc, hcs, hcl⟩ := lawSign (least + d4).toNat (by omega)
      refine ⟨_, _, rfl, rfl, lawSigns, _, c, rfl, rfl, lawSigns_len, at_lit (n := (least + d4).toNat) (by omega) hc, _, _, rfl, rfl, ?_, _, rfl, _, rfl, _, _, rfl, rfl, _, rfl, e, rfl, line8 ne, _, _, rfl, rfl, ?_, ?_⟩
      · have := cutS_length e none (some (k : Int))
        show (cutS e none (some (k : Int))).length + 1 ≤ sizeLine
        exact Nat.le_trans (by omega : _ ≤ 9) (by decide)
      · have h1 := cutS_length e none (some (k : Int))
        have h2 := cutS_length e (some ((k : Int) + 1)) none
        rw [add_len]
        exact Nat.le_trans (by omega : _ ≤ 17) (by decide)
      · refine q _ _ (name_put (c := c) ne (by omega : k < e.length) hcs (fun z => hcl (by omega)) ?_) (((k1.trans k2).trans k3).trans k4) (X4.mono (by omega))
        rw [str_app, str_app, cut_to (by omega), show ((k : Int) + 1) = ((k + 1 : Nat) : Int) by omega, cut_from (by omega)]
    · rintro σ' H1 ⟨rfl, k1, X1⟩
      refine ⟨_, rfl, b, 3, n + 1, rfl, X1, by omega, by decide, by decide, fun d H2 k2 X2 d0 d1 => ?_⟩
      refine ⟨fun σ' H' => (∃ s : Nat, s ≤ 7 ∧ σ' = [some (.ref b), some (.ref l), some (.str lawSigns), none, none, none, some (.int (s : Int)), none, none]) ∧ Kp b H H' ∧ Bx b (n + 1 + 1 + 1) H', ?_, ?_⟩
      · refine ⟨_, rfl, rfl, _, rfl, ?_⟩
        refine ite2 (fun h1 => ?_) (fun h1 => ?_)
        · refine ⟨_, rfl, b, 8, n + 1 + 1, rfl, X2, by omega, by decide, by decide, fun d3 H3 k3 X3 c0 c1 => ?_⟩
          exact ⟨⟨d3.toNat, by omega, by rw [show ((d3.toNat : Nat) : Int) = d3 by omega]; rfl⟩, (k1.trans k2).trans k3, X3⟩
        · exact ⟨⟨d.toNat, by omega, by rw [show ((d.toNat : Nat) : Int) = d by omega]; rfl⟩, k1.trans k2, X2.mono (by omega)⟩
      · rintro σ' H3 ⟨⟨s, hs, rfl⟩, k3, X3⟩
        refine ⟨_, rfl, _, rfl, b, 26, n + 1 + 1 + 1, rfl, X3, by omega, by decide, by decide, fun d4 H4 k4 X4 c0 c1 => ?_⟩
        obtain ⟨c, hc, hcs, hcl⟩ := lawSign (10 + d4).toNat (by omega)
        refine ⟨_, _, rfl, rfl, lawSigns, _, c, rfl, rfl, lawSigns_len, at_lit (n := (10 + d4).toNat) (by omega) hc, ?_⟩
        refine ⟨_, rfl, (s : Int), rfl, by omega, by omega, for_range (lo := 0) (n := (s : Int).toNat) (fun i σ H' => (∃ (z : Str) (v : Option V), z.length = i + 1 ∧ isNameS z = true ∧ σ = [some (.ref b), some (.ref l), some (.str lawSigns), none, none, none, some (.int (s : Int)), some (.str z), v]) ∧ Kp b H H' ∧ Bx b (n + 4 + i) H')
          ⟨⟨_, none, rfl, name_one (hcl (by omega)) hcs, rfl⟩, k3.trans k4, X4⟩ ?_ ?_⟩
        · rintro i σ H' hi ⟨⟨z, v, hz, hnz, rfl⟩, k5, X5⟩
          refine ⟨_, rfl, _, rfl, _, rfl, b, 36, n + 4 + i, rfl, X5, by omega, by decide, by decide, fun d6 H6 k6 X6 e0 e1 => ?_⟩
          obtain ⟨c6, hc6, hcs6, _⟩ := lawSign d6.toNat (by omega)
          refine ⟨lawSigns, _, c6, rfl, rfl, lawSigns_len, at_lit (n := d6.toNat) (by omega) hc6, _, _, rfl, rfl, ?_, ⟨_, _, ?_, name_more hnz (by omega) hcs6, rfl⟩, k5.trans k6, X6.mono (by omega)⟩
          · show z.length + 1 ≤ sizeLine
            exact Nat.le_trans (by omega : _ ≤ 9) (by decide)
          · rw [add_len, hz]
        · rintro σ H' ⟨⟨z, v, hz, hnz, rfl⟩, k5, X5⟩
          exact ⟨_, rfl, q z H' hnz k5 (X5.mono (by omega))⟩
end
end K7
set_option maxRecDepth 100000
set_option maxHeartbeats 4000000
namespace K7
open PySem L2 Evl
theorem inV_strs (z : Str) (xs : List Str) : inV (.str z) (xs.map V.str) = decide (z ∈ xs) := by
  induction xs with
  | nil => rfl
  | cons a r ih =>
    show (eqV (.str a) (.str z) || inV (.str z) (r.map V.str)) = _
    rw [ih]
    show ((a == z) || decide (z ∈ r)) = _
    by_cases h : a = z
    · subst h
      simp
    · have h2 : ¬ z = a := fun q => h q.symm
      simp [h, h2]
theorem flat_strs (xs : List Str) : (xs.map V.str).all flatV = true := by
  rw [List.all_map]
  exact List.all_eq_true.mpr fun _ _ => rfl
def ten : List Str := ["a", "b", "c", "d", "e", "f", "g", "h", "i", "j"]
theorem ten_nd : ten.Nodup := by decide +kernel
theorem ten_nm : ∀ z ∈ ten, isNameS z = true := by decide +kernel
theorem spare {xs : List Str} (h : xs.length < 10) : ∃ z r, ten.filter (fun y => !decide (y ∈ xs)) = z :: r := by
  cases e : ten.filter (fun y => !decide (y ∈ xs)) with
  | cons z r => exact ⟨z, r, rfl⟩
  | nil =>
    have sub : ten ⊆ xs := fun y hy => by
      have g := List.filter_eq_nil_iff.mp e y hy
      simpa using g
    have := List.Nodup.length_le_of_subset ten_nd sub
    have t : ten.length = 10 := rfl
    omega
/-! ### heights -/
structure Hts (d : Addr) (xs : List Str) (f : Str → Int) (H : Hp) : Prop where
  at_ : ∃ kvs : List (Key × V), H d = some (.dK kvs) ∧ ∀ x ∈ xs, valV kvs (.inr x) = some (.int (f x))
def spHeights : Sp := fun vs H Q _ => ∃ (b l : Addr) (n : Nat) (xs : List Str), vs = [.ref b, .ref l] ∧ Bx b n H ∧ n + 60 ≤ 1000000 ∧ l ≠ b ∧ Nms l xs H ∧ xs.length ≤ 7 ∧
  ∀ (d : Addr) (f : Str → Int) H', H d = none → Hts d xs f H' → Kp b H H' → Bx b (n + 60) H' → Q (.ref d) H'
/-! ### rows -/
abbrev Row := Str × Str × Int
def RowAt (H : Hp) (v : V) (d : Row) : Prop := ∃ p, v = .ref p ∧ H p = some (.tup [.str "most", .str d.1, .str d.2.1, .int d.2.2])
def RowsAt (H : Hp) (vs : List V) (ds : List Row) : Prop := vs.length = ds.length ∧ ∀ (j : Nat) (v : V) (d : Row), vs[j]? = some v → ds[j]? = some d → RowAt H v d
def bD (d : Row) : PyData := .tuple [.str "most", .str d.1, .str d.2.1, .int d.2.2]
def TK (H H' : Hp) : Prop := ∀ p xs, H p = some (.tup xs) → H' p = some (.tup xs)
theorem RowsAt.keep {H H' : Hp} {vs : List V} {ds : List Row} (r : RowsAt H vs ds) (t : TK H H') : RowsAt H' vs ds :=
  ⟨r.1, fun j v d h1 h2 => by
    obtain ⟨p, e, hp⟩ := r.2 j v d h1 h2
    exact ⟨p, e, t _ _ hp⟩⟩
theorem Kp.tup {b : Addr} {n : Nat} {H H' : Hp} (k : Kp b H H') (x : Bx b n H) : TK H H' := fun p xs h => by
  obtain ⟨c, ns, i, r, m, t, X⟩ := x
  exact k.at (ne_of h X.box (by intro z; cases z)) h
theorem TK.ex {H H' : Hp} (e : Ex H H') : TK H H' := fun p xs h => e _ _ h
theorem TK.trans {H H1 H2 : Hp} (a : TK H H1) (b : TK H1 H2) : TK H H2 := fun p xs h => b p xs (a p xs h)
theorem TK.lst {H : Hp} {l : Addr} {xs : List V} {o : HO} (h : H l = some (.lst xs)) : TK H (upd H l o) := fun p ys hp => by
  rw [upd_ne (ne_of hp h (by intro z; cases z))]
  exact hp
theorem RowsAt.snoc {H : Hp} {vs : List V} {ds : List Row} {v : V} {d : Row} (r : RowsAt H vs ds) (h : RowAt H v d) : RowsAt H (vs ++ [v]) (ds ++ [d]) := by
  refine ⟨by simp [r.1], fun j u e h1 h2 => ?_⟩
  by_cases hj : j < vs.length
  · rw [List.getElem?_append_left hj] at h1
    rw [List.getElem?_append_left (by rw [← r.1]; exact hj)] at h2
    exact r.2 j u e h1 h2
  · rw [List.getElem?_append_right (by omega)] at h1
    rw [List.getElem?_append_right (by rw [← r.1]; omega), ← r.1] at h2
    have hz : j - vs.length = 0 := by
      cases q : j - vs.length with
      | zero => rfl
      | succ k => rw [q] at h1; simp at h1
    rw [hz] at h1 h2
    cases h1
    cases h2
    exact h
theorem RowsAt.dp {K : PySem.W.Frag} {H : Hp} : ∀ {vs : List V} {ds : List Row}, RowsAt H vs ds → DpAll K H vs (ds.map bD)
  | [], [], _ => .nil
  | [], _ :: _, r => absurd r.1 (by simp)
  | _ :: _, [], r => absurd r.1 (by simp)
  | v :: vs, d :: ds, r => by
    obtain ⟨p, rfl, hp⟩ := r.2 0 v d rfl rfl
    refine .cons (.tup (SqT.of hp) (.cons (.str _) (.cons (.str _) (.cons (.str _) (.cons (.int _) .nil))))) (RowsAt.dp ⟨by simpa using r.1, fun j u e h1 h2 => r.2 (j + 1) u e (by simpa using h1) (by simpa using h2)⟩)
/-- the rows are bounds between different names of xs, each begins where the one before it ends -/
structure RowsOk (xs : List Str) (ds : List Row) : Prop where
  n1 : ∀ d ∈ ds, d.1 ∈ xs ∧ d.2.1 ∈ xs ∧ d.1 ≠ d.2.1
  ln : ∀ (j : Nat) (d e : Row), ds[j]? = some d → ds[j + 1]? = some e → d.2.1 = e.1
  ne : ds ≠ []
  le : ds.length ≤ 40
def okRow (f : Str → Int) (d : Row) : Bool := decide (f d.1 - f d.2.1 ≤ d.2.2)
def spFulfilled : Sp := fun vs H Q _ => ∃ (r d : Addr) (xs : List Str) (f : Str → Int) (us : List V) (ds : List Row), vs = [.ref r, .ref d] ∧ H r = some (.lst us) ∧ RowsAt H us ds ∧ (∀ e ∈ ds, e.1 ∈ xs ∧ e.2.1 ∈ xs) ∧ ds.length ≤ 40 ∧ Hts d xs f H ∧
  ∀ H', Ex H H' → Q (.bl (ds.all (okRow f))) H'
def spChain : Sp := fun vs H Q _ => ∃ (b l d : Addr) (n : Nat) (xs : List Str) (f : Str → Int), vs = [.ref b, .ref l, .ref d] ∧ Bx b n H ∧ n + 400 ≤ 1000000 ∧ l ≠ b ∧ Nms l xs H ∧ 2 ≤ xs.length ∧ xs.length ≤ 7 ∧ d ≠ b ∧ Hts d xs f H ∧
  ∀ (r : Addr) (us : List V) (ds : List Row) H', H r = none → H' r = some (.lst us) → RowsAt H' us ds → RowsOk xs ds → Kp b H H' → Bx b (n + 400) H' → Q (.ref r) H'
abbrev s_law_heights : Stmt := top 25
theorem sc_law_heights : FnScope ["box", "names", "heights", "level", "name"] ["box", "names"] (defScope s_law_heights) := ⟨rfl, rfl, rfl, by decide +kernel, rfl, by decide +kernel, by decide +kernel⟩
abbrev s_law_fulfilled : Stmt := top 27
theorem sc_law_fulfilled : FnScope ["rows", "times", "row"] ["rows", "times"] (defScope s_law_fulfilled) := ⟨rfl, rfl, rfl, by decide +kernel, rfl, by decide +kernel, by decide +kernel⟩
abbrev s_law_chain : Stmt := top 28
theorem sc_law_chain : FnScope ["box", "names", "heights", "size", "closed", "free", "places", "turn", "rows", "k", "x", "y"] ["box", "names", "heights"] (defScope s_law_chain) := ⟨rfl, rfl, rfl, by decide +kernel, rfl, by decide +kernel, by decide +kernel⟩
structure TxtF (P : Program) (K : PySem.W.Frag) (mg : Str → Option Value) (fM fK fF fS fA : Addr) : Prop extends TxtD P K mg fM fK fF fS where
  b_all : mg "all" = none
  f__law_name : mg "_law_name" = some (.ref fA)
  k__law_name : PySem.W.keepIn K (.ref fA) = true
section
variable {P : Program} {w : World} {K : PySem.W.Frag} {mg : Str → Option Value} {base : Heap} {fM fK fF fS fA : Addr} {fdM fdK fdF fdS fdA : FuncData}
theorem ok_law_names {f : Addr} {fd : FuncData} (F : Fun K "_law_names" "_law_names" s_law_names f fd) (T : TxtF P K mg fM fK fF fS fA) (D : FD K fM fK fF fS fdM fdK fdF fdS)
    (FA : Fun K "_law_name" "_law_name" s_law_name fA fdA) (B__law_name : Binds K fdA ["box", "names"] []) : FnOk P w K mg base CX0 4 f fd ["box", "count"] spNames := by
  have G__law_name : FnOk P w K mg base CX0 3 fA fdA ["box", "names"] spName := ok_law_name FA T.toTxtD D
  refine F.ok sc_law_names (fun vs H Q E h => ?_) (fun cdv A outer s H vs Q E hr h => ?_)
  · obtain ⟨b, n, k, rfl, _⟩ := h
    rfl
  · obtain ⟨b, n, k, rfl, X, hn, hk, q⟩ := h
    refine ⟨_, (pss_cons (ps_set (i := 2) sc_law_names.nd rfl (Or.inr rfl) (pe_lst pa_nil))
        (pss_cons (ps_for PassesOwn.never rfl (pi_range1 rfl T.b_range (pa_cons (pv 1) pa_nil)) (pg_name (i := 3) sc_law_names.nd rfl (Or.inl rfl)) (pss_cons (ps_set (i := 4) sc_law_names.nd rfl (Or.inl rfl) (pe_call G__law_name (hr.mono (by decide)) rfl T.f__law_name T.k__law_name B__law_name .nil pass0 (pa_cons (pv 0) (pa_cons (pv 2) pa_nil))))
        (pss_cons (ps_if (pt_cmpR op_in_seq (pv 4) (pv 2) rfl) (pss_one (ps_set (i := 4) sc_law_names.nd rfl (Or.inl rfl) (pe_ix ix_list (pe_lc (own := [("one", 5)]) (g := gName 5) (tt := tTest (tOp (rIn K true) (tVar 5) (tVar 2))) rfl sc_law_names.nd (pi_list (pe_lst (pa_cons pe_str (pa_cons pe_str (pa_cons pe_str (pa_cons pe_str (pa_cons pe_str (pa_cons pe_str (pa_cons pe_str (pa_cons pe_str (pa_cons pe_str (pa_cons pe_str pa_nil)))))))))))) (blkOk_by (N := ["box", "count", "names", "turn", "name", "one"]) (sc := defScope s_law_names) (by decide +kernel)) (fun _ _ _ _ _ => (pg_name (i := 5) sc_law_names.nd rfl (Or.inl rfl))) (fun _ _ _ _ _ => (pts_one (pt_cmpR op_notIn_seq (pv 5) (pv 2) rfl))) (fun _ _ _ _ _ => (pv 5))) pe_int (fun _ _ => rfl)))) pss_nil)
        (pss_one (ps_expr (pe_bm PySem.F.plainAttrs_list PySem.F.slot_list_append PySem.F.type_list_append mt_append (pv 2) (pa_cons (pv 4) pa_nil)))))))
        (pss_one (ps_ret (pv 2))))), ?_⟩
    refine ⟨Nat.zero_le _, fun l hl => ?_⟩
    have hlb := X.ne hl
    refine ⟨_, rfl, (k : Int), rfl, by omega, by omega, for_range (lo := 0) (n := (k : Int).toNat) (fun i σ H' => ∃ xs : List Str, (∃ (v u : Option V), σ = [some (.ref b), some (.int (k : Int)), some (.ref l), v, u, none]) ∧ Nms l xs H' ∧ xs.length = i ∧ Kp b H H' ∧ Bx b (n + 20 * i) H')
      ⟨[], ⟨none, none, rfl⟩, ⟨upd_same, fun _ h => absurd h (List.not_mem_nil), List.nodup_nil⟩, rfl, Kp.ex (Ex.new hl), X.ex (Ex.new hl)⟩ ?_ ?_⟩
    · rintro i σ H' hi ⟨xs, ⟨v, u, rfl⟩, N, hx, k1, X1⟩
      refine ⟨_, rfl, _, rfl, b, l, n + 20 * i, xs, rfl, X1, by omega, hlb, N, by omega, fun z H2 nz k2 X2 => ?_⟩
      have hl2 := k2.at hlb N.at_
      have app : ∀ (y : Str) (H3 : Hp) (o1 : Option V), Kp b H H3 → Bx b (n + 20 * (i + 1)) H3 → H3 l = some (.lst (xs.map V.str)) → isNameS y = true → y ∉ xs →
          ∃ ys : List Str, (∃ (v u : Option V), [some (V.ref b), some (.int (k : Int)), some (.ref l), o1, some (.str y), none] = [some (.ref b), some (.int (k : Int)), some (.ref l), v, u, none]) ∧ Nms l ys (upd H3 l (.lst (xs.map V.str ++ [.str y]))) ∧ ys.length = i + 1 ∧ Kp b H (upd H3 l (.lst (xs.map V.str ++ [.str y]))) ∧ Bx b (n + 20 * (i + 1)) (upd H3 l (.lst (xs.map V.str ++ [.str y]))) := by
        intro y H3 o1 k3 X3 hl3 ny hy
        refine ⟨xs ++ [y], ⟨_, _, rfl⟩, ⟨by rw [upd_same, List.map_append]; rfl, ?_, ?_⟩, by simp [hx], k3.mut hl hlb, Bx.mut X hl k3 X3⟩
        · intro w' hw
          rcases List.mem_append.mp hw with hw | hw
          · exact N.nm w' hw
          · rw [List.mem_singleton.mp hw]; exact ny
        · rw [List.nodup_append]
          refine ⟨N.nd, by simp, ?_⟩
          intro a ha c hc e
          rw [List.mem_singleton.mp hc] at e
          exact hy (e ▸ ha)
      refine ⟨_, rfl, _, rfl, l, _, rfl, .inl (SqL.of hl2), rfl, flat_strs xs, _, rfl, ?_⟩
      rw [show (if false = true then !inV (.str z) (xs.map V.str) else inV (.str z) (xs.map V.str)) = decide (z ∈ xs) from inV_strs z xs]
      refine ite2 (fun h1 => ?_) (fun h1 => ?_)
      · -- a name that stands there already: the first spare letter
        obtain ⟨y, r, hy⟩ := spare (xs := xs) (by omega)
        have ym : y ∈ ten.filter (fun y => !decide (y ∈ xs)) := by rw [hy]; exact List.mem_cons_self
        obtain ⟨ym1, ym2⟩ := List.mem_filter.mp ym
        refine ⟨(by show 10 ≤ sizeLine; decide), fun t ht => ⟨t, rfl, ⟨_, SqL.of upd_same⟩, fun D hD => ?_⟩⟩
        have e3 : Ex H2 (upd H2 t (.lst (ten.map V.str))) := Ex.new ht
        have hl3 := e3 _ _ hl2
        refine lc_it (walk_list (xs := ten.map V.str)) (fun j H' => Ex (upd H2 t (.lst (ten.map V.str))) H' ∧ H' D = some (.lst (((ten.take j).filter (fun y => !decide (y ∈ xs))).map V.str))) ⟨Ex.new hD, upd_same⟩ (fun j H' _ p => SqL.of (p.1 _ _ upd_same)) ?_ ?_
        · rintro j v2 H' H4 hj ⟨e4, hd4⟩ ⟨rfl, hv2⟩
          obtain ⟨c, hc, rfl⟩ : ∃ c, ten[j]? = some c ∧ v2 = .str c := by
            rw [List.getElem?_map] at hv2
            cases e : ten[j]? with
            | none => rw [e] at hv2; cases hv2
            | some c => rw [e] at hv2; exact ⟨c, rfl, (Option.some.inj hv2).symm⟩
          refine ⟨rfl, _, rfl, _, rfl, l, _, rfl, .inl (SqL.of (e4 _ _ hl3)), rfl, flat_strs xs, _, rfl, ?_⟩
          rw [show (if true = true then !inV (.str c) (xs.map V.str) else inV (.str c) (xs.map V.str)) = !decide (c ∈ xs) from congrArg (!·) (inV_strs c xs)]
          have hstep : (ten.take (j + 1)).filter (fun y => !decide (y ∈ xs)) = (ten.take j).filter (fun y => !decide (y ∈ xs)) ++ (if c ∈ xs then [] else [c]) := by
            rw [List.take_add_one, hc, Option.toList_some, List.filter_append]
            congr 1
            by_cases hcx : c ∈ xs
            · simp [hcx]
            · simp [hcx]
          by_cases hcx : c ∈ xs
          · rw [decide_eq_true hcx]
            refine iteF ⟨e4, ?_⟩
            rw [hstep, if_pos hcx, List.append_nil]
            exact hd4
          · rw [decide_eq_false hcx]
            refine iteT ⟨_, rfl, _, hd4, ?_, e4.mut hD, ?_⟩
            · rw [List.length_map]
              have h1 := List.length_filter_le (fun y => !decide (y ∈ xs)) (ten.take j)
              rw [List.length_take] at h1
              have t : ten.length = 10 := rfl
              exact Nat.lt_of_le_of_lt (by omega : _ ≤ 10) (by decide)
            · rw [upd_same, hstep, if_neg hcx, List.map_append]
              rfl
        · rintro H4 ⟨e4, hd4⟩
          have hd5 : H4 D = some (.lst ((y :: r).map V.str)) := by
            rw [hd4, ← hy]
            rfl
          refine ⟨D, _, 0, .str y, rfl, rfl, SqL.of hd5, at_lit (n := 0) rfl rfl, ?_⟩
          have hl4 := e4 _ _ hl3
          refine ⟨_, rfl, .inl ⟨rfl, _, SqL.of hl4⟩, _, rfl, l, _, _, rfl, rfl, hl4, ?_, ?_⟩
          · rw [List.length_map]
            exact Nat.lt_of_le_of_lt (by omega : _ ≤ 1000) (by decide)
          · exact app y H4 _ ((k1.trans k2).trans (Kp.ex (e3.trans e4))) ((X2.mono (by omega)).ex (e3.trans e4)) hl4 (ten_nm y ym1) (by simpa using ym2)
      · have hzx : z ∉ xs := of_decide_eq_false (by simpa using h1)
        refine ⟨_, rfl, .inl ⟨rfl, _, SqL.of hl2⟩, _, rfl, l, _, _, rfl, rfl, hl2, ?_, ?_⟩
        · rw [List.length_map]
          exact Nat.lt_of_le_of_lt (by omega : _ ≤ 1000) (by decide)
        · exact app z H2 _ (k1.trans k2) (X2.mono (by omega)) hl2 nz hzx
    · rintro σ H' ⟨xs, ⟨v, u, rfl⟩, N, hx, k1, X1⟩
      exact ⟨_, rfl, q l xs H' hl hlb N (by omega) k1 (X1.mono (by omega))⟩
end
end K7
set_option maxRecDepth 100000
set_option maxHeartbeats 4000000
namespace K7
open PySem L2 Evl
/-- the pieces of a walk through names: ps are places, two neighbours differ -/
structure Plc (m : Nat) (ps : List Int) : Prop where
  rg : ∀ p ∈ ps, 0 ≤ p ∧ p < (m : Int)
  df : ∀ (j : Nat) (p q : Int), ps[j]? = some p → ps[j + 1]? = some q → p ≠ q
theorem Plc.snoc {m : Nat} {ps : List Int} {q : Int} (h : Plc m ps) (hq : 0 ≤ q ∧ q < (m : Int)) (hl : ∀ p, ps[ps.length - 1]? = some p → p ≠ q) : Plc m (ps ++ [q]) := by
  refine ⟨fun p hp => ?_, fun j p r h1 h2 => ?_⟩
  · rcases List.mem_append.mp hp with hp | hp
    · exact h.rg p hp
    · rw [List.mem_singleton.mp hp]; exact hq
  · have hj2 := (List.getElem?_eq_some_iff.mp h2).1
    rw [List.length_append, List.length_singleton] at hj2
    rw [List.getElem?_append_left (by omega)] at h1
    by_cases hj : j + 1 < ps.length
    · rw [List.getElem?_append_left hj] at h2
      exact h.df j p r h1 h2
    · have e : j + 1 = ps.length := by omega
      rw [List.getElem?_append_right (by omega), e, Nat.sub_self] at h2
      cases h2
      exact hl p (by rw [show ps.length - 1 = j by omega]; exact h1)
theorem next_place {m : Nat} {p t : Int} (hm : 2 ≤ m) (hp : 0 ≤ p ∧ p < (m : Int)) (h0 : 0 ≤ t) (h1 : t < (m : Int) - 1) : 0 ≤ (p + 1 + t).fmod (m : Int) ∧ (p + 1 + t).fmod (m : Int) < (m : Int) ∧ p ≠ (p + 1 + t).fmod (m : Int) := by
  rw [Int.fmod_eq_emod_of_nonneg _ (by omega)]
  refine ⟨Int.emod_nonneg _ (by omega), Int.emod_lt_of_pos _ (by omega), fun e => ?_⟩
  by_cases h : p + 1 + t < (m : Int)
  · rw [Int.emod_eq_of_lt (by omega) h] at e
    omega
  · rw [show (p + 1 + t) = (p + 1 + t - m) + m by omega, Int.add_emod_right, Int.emod_eq_of_lt (by omega) (by omega)] at e
    omega
section
variable {P : Program} {w : World} {K : PySem.W.Frag} {mg : Str → Option Value} {base : Heap} {fM fK fF fS fA : Addr} {fdM fdK fdF fdS fdA : FuncData}
theorem ok_law_heights {f : Addr} {fd : FuncData} (F : Fun K "_law_heights" "_law_heights" s_law_heights f fd) (T : TxtF P K mg fM fK fF fS fA) (D : FD K fM fK fF fS fdM fdK fdF fdS) : FnOk P w K mg base CX0 4 f fd ["box", "names"] spHeights := by
  have G__law_take : FnOk P w K mg base CX0 2 fK fdK ["box", "size"] spTake := ok_law_take D.FK T.toTxtD D.FM D.BM
  have B__law_take := D.BK
  have G__law_far : FnOk P w K mg base CX0 3 fF fdF ["box"] spFar := ok_law_far D.FF T.toTxtD D
  have B__law_far := D.BF
  refine F.ok sc_law_heights (fun vs H Q E h => ?_) (fun cdv A outer s H vs Q E hr h => ?_)
  · obtain ⟨b, l, n, xs, rfl, _⟩ := h
    rfl
  · obtain ⟨b, l, n, xs, rfl, X, hn, hlb, N, hx, q⟩ := h
    refine ⟨_, (pss_cons (ps_set (i := 2) sc_law_heights.nd rfl (Or.inl rfl) pe_dnewK)
        (pss_cons (ps_set (i := 3) sc_law_heights.nd rfl (Or.inl rfl) (pe_call G__law_take (hr.mono (by decide)) rfl T.f__law_take T.k__law_take B__law_take .nil pass0 (pa_cons (pv 0) (pa_cons pe_int pa_nil))))
        (pss_cons (ps_for PassesOwn.never rfl (pi_list (pv 1)) (pg_name (i := 4) sc_law_heights.nd rfl (Or.inl rfl)) (pss_cons (ps_dput (hu_of hr) (pv 2) (pv 4) pe_int rfl)
        (pss_one (ps_if (PW.pt (pw_and (pt_cmpR op_gt (pv 3) pe_int (nomark _)) (pw_and1 (pt_cmpR op_eq (pe_call G__law_take (hr.mono (by decide)) rfl T.f__law_take T.k__law_take B__law_take .nil pass0 (pa_cons (pv 0) (pa_cons pe_int pa_nil))) pe_int (nomark _))))) (pss_one (ps_dput (hu_of hr) (pv 2) (pv 4) (pe_op op_sub (pe_call G__law_far (hr.mono (by decide)) rfl T.f__law_far T.k__law_far B__law_far .nil pass0 (pa_cons (pv 0) pa_nil)) (pe_op op_mul pe_int (pe_op op_pow pe_int pe_int))) rfl)) (pss_one (ps_if (pt_cmpR op_gt (pv 3) pe_int (nomark _)) (pss_one (ps_dput (hu_of hr) (pv 2) (pv 4) (pe_op op_sub (pe_call G__law_take (hr.mono (by decide)) rfl T.f__law_take T.k__law_take B__law_take .nil pass0 (pa_cons (pv 0) (pa_cons pe_int pa_nil))) pe_int) rfl)) pss_nil))))))
        (pss_one (ps_ret (pv 2)))))), ?_⟩
    refine fun d hd => ?_
    have hdb := X.ne hd
    refine ⟨_, rfl, b, 3, n, rfl, X.ex (Ex.new hd), by omega, by decide, by decide, fun lev H1 k1 X1 lv0 lv1 => ?_⟩
    have kd : Kp b H H1 := (Kp.ex (Ex.new hd)).trans k1
    have hd1 : H1 d = some (.dK []) := k1.at hdb upd_same
    refine ⟨_, rfl, l, rfl, ⟨_, SqL.of (kd.at hlb N.at_)⟩, for_list (K := K) (a := l) (xs := xs.map V.str) (fun i σ H' => (∃ v : Option V, σ = [some (.ref b), some (.ref l), some (.ref d), some (.int lev), v]) ∧ (∃ kvs : List (Key × V), H' d = some (.dK kvs) ∧ kvs.length ≤ 2 * i ∧ ∀ x ∈ xs.take i, ∃ z : Int, valV kvs (.inr x) = some (.int z)) ∧ Kp b H H' ∧ Bx b (n + 1 + 8 * i) H')
      ⟨⟨none, rfl⟩, ⟨[], hd1, Nat.le_refl _, fun x h => absurd h (by simp)⟩, kd, X1⟩ (fun i σ H' _ p => SqL.of (p.2.2.1.at hlb N.at_)) ?_ ?_⟩
    · rintro i y σ H' hi ⟨⟨v, rfl⟩, ⟨kvs, hk, hkl, hall⟩, k2, X2⟩
      obtain ⟨z, hz, rfl⟩ : ∃ z, xs[i]? = some z ∧ y = .str z := by
        rw [List.getElem?_map] at hi
        cases e : xs[i]? with
        | none => rw [e] at hi; cases hi
        | some c => rw [e] at hi; exact ⟨c, rfl, (Option.some.inj hi).symm⟩
      have hi7 : i < xs.length := (List.getElem?_eq_some_iff.mp hz).1
      refine ⟨_, rfl, _, rfl, d, _, rfl, DPut.k (k := Sum.inr z) hk (Nat.lt_of_le_of_lt (by omega : _ ≤ 100) (by decide)), ?_⟩
      generalize hH3 : upd H' d (.dK (putK kvs (.inr z) (.int 0))) = H3
      have hd3 : H3 d = some (.dK (putK kvs (.inr z) (.int 0))) := by rw [← hH3]; exact upd_same
      have k3 : Kp b H H3 := by rw [← hH3]; exact k2.mut hd hdb
      have X3 : Bx b (n + 1 + 8 * i) H3 := by rw [← hH3]; exact Bx.mut X hd k2 X2
      have l3 := length_putK kvs (.inr z) (.int 0)
      have fin0 : ∀ (u : Int) (kv2 : List (Key × V)), (∀ x, valV kv2 (.inr x) = if x = z then some (V.int u) else valV kvs (.inr x)) → ∀ x ∈ xs.take (i + 1), ∃ t : Int, valV kv2 (.inr x) = some (.int t) := by
        intro u kv2 hv x hxm
        rw [hv]
        by_cases e : x = z
        · exact ⟨u, by rw [if_pos e]⟩
        · rw [if_neg e]
          rw [List.take_add_one, hz, Option.toList_some] at hxm
          rcases List.mem_append.mp hxm with hxm | hxm
          · exact hall x hxm
          · exact absurd (List.mem_singleton.mp hxm) e
      have hv1 : ∀ x, valV (putK kvs (.inr z) (.int 0)) (.inr x) = if x = z then some (V.int 0) else valV kvs (.inr x) := fun x => by
        rw [valV_put]
        by_cases e : x = z
        · subst e
          simp
        · rw [if_neg e, if_neg (fun q => e (Sum.inr.inj q))]
      -- a height put anew
      have put : ∀ (u : Int) (H5 : Hp), Kp b H H5 → Bx b (n + 1 + 8 * (i + 1)) H5 → H5 d = some (.dK (putK kvs (.inr z) (.int 0))) →
          (∃ v : Option V, [some (V.ref b), some (.ref l), some (.ref d), some (.int lev), some (.str z)] = [some (.ref b), some (.ref l), some (.ref d), some (.int lev), v]) ∧ (∃ kv : List (Key × V), (upd H5 d (.dK (putK (putK kvs (.inr z) (.int 0)) (.inr z) (.int u)))) d = some (.dK kv) ∧ kv.length ≤ 2 * (i + 1) ∧ ∀ x ∈ xs.take (i + 1), ∃ t : Int, valV kv (.inr x) = some (.int t)) ∧ Kp b H (upd H5 d (.dK (putK (putK kvs (.inr z) (.int 0)) (.inr z) (.int u)))) ∧ Bx b (n + 1 + 8 * (i + 1)) (upd H5 d (.dK (putK (putK kvs (.inr z) (.int 0)) (.inr z) (.int u)))) := by
        intro u H5 k5 X5 h5
        refine ⟨⟨_, rfl⟩, ⟨_, upd_same, ?_, fin0 u _ fun x => ?_⟩, k5.mut hd hdb, Bx.mut X hd k5 X5⟩
        · have l4 := length_putK (putK kvs (.inr z) (.int 0)) (.inr z) (.int u)
          omega
        · rw [valV_put, hv1]
          by_cases e : x = z
          · subst e
            simp
          · rw [if_neg e, if_neg (fun q => e (Sum.inr.inj q)), if_neg e]
      have l5 : (putK kvs (.inr z) (.int 0)).length < sizeLine := Nat.lt_of_le_of_lt (by omega : _ ≤ 100) (by decide)
      -- if level > 0 and take(12) == 0 .. elif level > 0 ..
      refine ⟨_, rfl, _, _, rfl, rfl, _, rfl, ?_⟩
      refine ite2 (fun h1 => ?_) (fun h1 => iteF ?_)
      · have hlev : 0 < lev := of_decide_eq_true h1
        refine ⟨_, rfl, b, 12, _, rfl, X3, by omega, by decide, by decide, fun t H4 k4 X4 t0 t1 => ⟨rfl, _, rfl, ?_⟩⟩
        have hd4 := k4.at hdb hd3
        refine ite2 (fun h2 => ?_) (fun h2 => ?_)
        · refine ⟨_, rfl, b, _, rfl, X4, by omega, fun u H5 k5 X5 => ⟨_, _, rfl, rfl, ⟨by decide, by decide, by decide⟩, _, _, rfl, rfl, .inl ⟨by decide, by decide⟩, _, _, rfl, rfl, _, rfl, _, rfl, d, _, rfl, DPut.k (k := Sum.inr z) (k5.at hdb hd4) l5, ?_⟩⟩
          exact put _ H5 ((k3.trans k4).trans k5) (X5.mono (by omega)) (k5.at hdb hd4)
        · refine ⟨_, rfl, _, _, rfl, rfl, _, rfl, ?_⟩
          refine iteT' h1 ⟨_, rfl, b, 7, _, rfl, X4, by omega, by decide, by decide, fun t2 H5 k5 X5 t3 t4 => ⟨_, _, rfl, rfl, _, rfl, _, rfl, d, _, rfl, DPut.k (k := Sum.inr z) (k5.at hdb hd4) l5, ?_⟩⟩
          exact put _ H5 ((k3.trans k4).trans k5) (X5.mono (by omega)) (k5.at hdb hd4)
      · refine ⟨_, rfl, _, _, rfl, rfl, _, rfl, ?_⟩
        refine iteF' (by simpa using h1) ?_
        exact ⟨⟨_, rfl⟩, ⟨_, hd3, by omega, fin0 0 _ hv1⟩, k3, X3.mono (by omega)⟩
    · rintro σ H' ⟨⟨v, rfl⟩, ⟨kvs, hk, hkl, hall⟩, k2, X2⟩
      rw [List.length_map, List.take_length] at hall
      rw [List.length_map] at X2
      refine ⟨_, rfl, q d (fun x => match valV kvs (.inr x) with | some (.int z) => z | _ => 0) H' hd ⟨kvs, hk, fun x hxm => ?_⟩ k2 (X2.mono (by omega))⟩
      obtain ⟨z, hz⟩ := hall x hxm
      rw [hz]
theorem ok_law_fulfilled {f : Addr} {fd : FuncData} (F : Fun K "_law_fulfilled" "_law_fulfilled" s_law_fulfilled f fd) (T : TxtF P K mg fM fK fF fS fA) : FnOk P w K mg base CX0 1 f fd ["rows", "times"] spFulfilled := by
  refine F.ok sc_law_fulfilled (fun vs H Q E h => ?_) (fun cdv A outer s H vs Q E hr h => ?_)
  · obtain ⟨r, d, xs, f, us, ds, rfl, _⟩ := h
    rfl
  · obtain ⟨r, d, xs, f, us, ds, rfl, hr1, R, hin, hle, ⟨kvs, hd, hf⟩, q⟩ := h
    refine ⟨_, (pss_one (ps_ret (pe_callB (cr_all rfl) (by rfl) T.b_all (by decide +kernel) (pa_cons (pe_lc (own := [("row", 2)]) (g := gName 2) (tt := tYes) (te := tOp (rI0 fun i j => .bl (decide (i ≤ j))) (tOp (rI0 fun i j => .int (i - j)) (tDGet (tVar 1) (tOp (rIxT K) (tVar 2) (tC (.int 1)))) (tDGet (tVar 1) (tOp (rIxT K) (tVar 2) (tC (.int 2))))) (tOp (rIxT K) (tVar 2) (tC (.int 3)))) rfl sc_law_fulfilled.nd (pi_list (pv 0)) (blkOk_by (N := ["rows", "times", "row"]) (sc := defScope s_law_fulfilled) (by decide +kernel)) (fun _ _ _ _ _ => (pg_name (i := 2) sc_law_fulfilled.nd rfl (Or.inl rfl))) (fun _ _ _ _ _ => pts_nil) (fun _ _ _ _ _ => (pe_cmpR op_le (pe_op op_sub (pe_dget (hu_of hr) (pv 1) (pe_ix ix_tup (pv 2) pe_int (fun _ _ => rfl)) (fun _ _ => rfl)) (pe_dget (hu_of hr) (pv 1) (pe_ix ix_tup (pv 2) pe_int (fun _ _ => rfl)) (fun _ _ => rfl))) (pe_ix ix_tup (pv 2) pe_int (fun _ _ => rfl)) (nomark _)))) pa_nil)))), ?_⟩
    have hl := R.1
    refine ⟨_, rfl, r, rfl, ⟨_, SqL.of hr1⟩, fun D hD => lcMapI (walk_list) (fun i => .bl (okRow f (ds.getD i ("", "", 0)))) (Nat.lt_of_le_of_lt (by omega : us.length ≤ 100) (by decide)) (fun H' e => SqL.of (e _ _ hr1)) (fun _ => rfl) ?_ hD ?_⟩
    · intro i v hi H' e H2 e2 Q' q'
      have hi2 : i < ds.length := by rw [← hl]; exact (List.getElem?_eq_some_iff.mp hi).1
      obtain ⟨a, ha⟩ : ∃ a, ds[i]? = some a := ⟨ds[i], by simp [hi2]⟩
      obtain ⟨p, rfl, hp⟩ := R.2 i v a hi ha
      have hp2 := (e.trans e2) _ _ hp
      have hd2 := (e.trans e2) _ _ hd
      have ha2 := hin a (List.mem_of_getElem? ha)
      have g1 : DGet H2 d (kV (Sum.inr a.1)) (some (.int (f a.1))) := by
        rw [← hf a.1 ha2.1]
        exact DGet.k hd2
      have g2 : DGet H2 d (kV (Sum.inr a.2.1)) (some (.int (f a.2.1))) := by
        rw [← hf a.2.1 ha2.2]
        exact DGet.k hd2
      refine ⟨_, rfl, _, rfl, p, _, 1, _, rfl, rfl, SqT.of hp2, at_lit (n := 1) rfl rfl, d, _, rfl, g1, _, rfl, _, rfl, p, _, 2, _, rfl, rfl, SqT.of hp2, at_lit (n := 2) rfl rfl, d, _, rfl, g2, _, _, rfl, rfl, _, rfl, p, _, 3, _, rfl, rfl, SqT.of hp2, at_lit (n := 3) rfl rfl, _, _, rfl, rfl, ?_⟩
      have z : ds.getD i ("", "", 0) = a := by rw [List.getD_eq_getElem?_getD, ha]; rfl
      have g := q' H2 (Ex.refl _)
      rw [z] at g
      exact g
    · intro H2 e2 hD2
      refine ⟨D, (List.range us.length).map fun i => okRow f (ds.getD i ("", "", 0)), rfl, SqL.of (by rw [hD2, List.map_map]; rfl), ?_⟩
      refine ex_q q ?_ e2
      rw [hl]
      have e : ((List.range ds.length).map fun i => okRow f (ds.getD i ("", "", 0))) = ds.map (okRow f) := by
        apply List.ext_getElem?
        intro i
        rw [List.getElem?_map, List.getElem?_map]
        by_cases h : i < ds.length
        · simp [h]
        · simp [h]
      rw [e, List.all_map]
      rfl
end
end K7
set_option maxRecDepth 100000
set_option maxHeartbeats 8000000
namespace K7
open PySem L2 Evl
theorem Kp.fresh {b p : Addr} {n : Nat} {H H' : Hp} (k : Kp b H H') (x : Bx b n H') (h : H' p = none) : H p = none := by
  cases e : H p with
  | none => rfl
  | some o =>
    have g := k.at (x.ne h) e
    rw [h] at g
    cases g
def nmAt (xs : List Str) (ps : List Int) (j : Nat) : Str := xs.getD (ps.getD j 0).toNat ""
theorem nmAt_of {xs : List Str} {ps : List Int} (P : Plc xs.length ps) {j : Nat} {p : Int} (h : ps[j]? = some p) : xs[p.toNat]? = some (nmAt xs ps j) := by
  have r := P.rg p (List.mem_of_getElem? h)
  have e : ps.getD j 0 = p := by rw [List.getD_eq_getElem?_getD, h]; rfl
  unfold nmAt
  rw [e]
  have hl : p.toNat < xs.length := by omega
  simp [hl]
theorem nd_str {xs : List Str} (hN : xs.Nodup) {i j : Nat} {x : Str} (a : xs[i]? = some x) (b : xs[j]? = some x) : i = j := nd_ix hN a b
theorem rowsOk_of {xs : List Str} {ps : List Int} {ds : List Row} (hN : xs.Nodup) (P : Plc xs.length ps) (hl : ds.length + 1 = ps.length) (h2 : 2 ≤ ps.length) (h3 : ps.length ≤ 40)
    (hd : ∀ (j : Nat) (d : Row), ds[j]? = some d → d.1 = nmAt xs ps j ∧ d.2.1 = nmAt xs ps (j + 1)) : RowsOk xs ds := by
  have look : ∀ j, j < ps.length → ∃ p, ps[j]? = some p := fun j h => ⟨ps[j], by simp [h]⟩
  refine ⟨fun d hm => ?_, fun j d e h1 h2 => ?_, fun z => ?_, by omega⟩
  · obtain ⟨j, hj⟩ := List.getElem?_of_mem hm
    have hjl := (List.getElem?_eq_some_iff.mp hj).1
    obtain ⟨p, hp⟩ := look j (by omega)
    obtain ⟨q, hq⟩ := look (j + 1) (by omega)
    obtain ⟨e1, e2⟩ := hd j d hj
    have n1 := nmAt_of P hp
    have n2 := nmAt_of P hq
    have rp := P.rg p (List.mem_of_getElem? hp)
    have rq := P.rg q (List.mem_of_getElem? hq)
    rw [e1, e2]
    refine ⟨List.mem_of_getElem? n1, List.mem_of_getElem? n2, fun z => ?_⟩
    rw [← z] at n2
    have := nd_str hN n1 n2
    exact P.df j p q hp hq (by omega)
  · rw [(hd j d h1).2, (hd (j + 1) e h2).1]
  · rw [z] at hl
    simp at hl
    omega
section
variable {P : Program} {w : World} {K : PySem.W.Frag} {mg : Str → Option Value} {base : Heap} {fM fK fF fS fA : Addr} {fdM fdK fdF fdS fdA : FuncData}
theorem ok_law_chain {f : Addr} {fd : FuncData} (F : Fun K "_law_chain" "_law_chain" s_law_chain f fd) (T : TxtF P K mg fM fK fF fS fA) (D : FD K fM fK fF fS fdM fdK fdF fdS) : FnOk P w K mg base CX0 5 f fd ["box", "names", "heights"] spChain := by
  have G__law_take : FnOk P w K mg base CX0 2 fK fdK ["box", "size"] spTake := ok_law_take D.FK T.toTxtD D.FM D.BM
  have B__law_take := D.BK
  have G__law_slack : FnOk P w K mg base CX0 4 fS fdS ["box"] spSlack := ok_law_slack D.FS T.toTxtD D
  have B__law_slack := D.BS
  refine F.ok sc_law_chain (fun vs H Q E h => ?_) (fun cdv A outer s H vs Q E hr h => ?_)
  · obtain ⟨b, l, d, n, xs, f, rfl, _⟩ := h
    rfl
  · obtain ⟨b, l, d, n, xs, f, rfl, X, hn, hlb, N, hx2, hx7, hdb, ⟨kvs, hkv, hf⟩, q⟩ := h
    refine ⟨_, (pss_cons (ps_set (i := 3) sc_law_chain.nd rfl (Or.inl rfl) (pe_op op_add pe_int (pe_call G__law_take (hr.mono (by decide)) rfl T.f__law_take T.k__law_take B__law_take .nil pass0 (pa_cons (pv 0) (pa_cons pe_int pa_nil)))))
        (Evl.pss_cut (ps_if (pt_cmpR op_eq (pe_call G__law_take (hr.mono (by decide)) rfl T.f__law_take T.k__law_take B__law_take .nil pass0 (pa_cons (pv 0) (pa_cons pe_int pa_nil))) pe_int (nomark _)) (pss_one (ps_set (i := 3) sc_law_chain.nd rfl (Or.inl rfl) (pe_op op_add pe_int (pe_call G__law_take (hr.mono (by decide)) rfl T.f__law_take T.k__law_take B__law_take .nil pass0 (pa_cons (pv 0) (pa_cons pe_int pa_nil)))))) pss_nil)
        (pss_cons (ps_set (i := 4) sc_law_chain.nd rfl (Or.inl rfl) (pe_call G__law_take (hr.mono (by decide)) rfl T.f__law_take T.k__law_take B__law_take .nil pass0 (pa_cons (pv 0) (pa_cons pe_int pa_nil))))
        (pss_cons (ps_set (i := 5) sc_law_chain.nd rfl (Or.inl rfl) (pe_call G__law_take (hr.mono (by decide)) rfl T.f__law_take T.k__law_take B__law_take .nil pass0 (pa_cons (pv 0) (pa_cons pe_int pa_nil))))
        (pss_cons (ps_set (i := 6) sc_law_chain.nd rfl (Or.inl rfl) (pe_lst (pa_cons (pe_call G__law_take (hr.mono (by decide)) rfl T.f__law_take T.k__law_take B__law_take .nil pass0 (pa_cons (pv 0) (pa_cons (pe_callB call_len_seq (by rfl) T.b_len (by decide +kernel) (pa_cons (pv 1) pa_nil)) pa_nil))) pa_nil)))
        (pss_cons (ps_for PassesOwn.never rfl (pi_range1 rfl T.b_range (pa_cons (pv 3) pa_nil)) (pg_name (i := 7) sc_law_chain.nd rfl (Or.inl rfl)) (pss_one (ps_expr (pe_bm PySem.F.plainAttrs_list PySem.F.slot_list_append PySem.F.type_list_append mt_append (pv 6) (pa_cons (pe_op op_modN (pe_callTy call_int1 (by rfl) T.b_int (by decide +kernel) (pa_cons (pe_op op_add (pe_op op_add (pe_ix ix_list (pv 6) (pv 7) (fun _ _ => rfl)) pe_int) (pe_call G__law_take (hr.mono (by decide)) rfl T.f__law_take T.k__law_take B__law_take .nil pass0 (pa_cons (pv 0) (pa_cons (pe_op op_sub (pe_callB call_len_seq (by rfl) T.b_len (by decide +kernel) (pa_cons (pv 1) pa_nil)) pe_int) pa_nil)))) pa_nil)) (pe_callB call_len_seq (by rfl) T.b_len (by decide +kernel) (pa_cons (pv 1) pa_nil))) pa_nil)))))
        (Evl.pss_cut (ps_if (PW.pt (pw_and (pt_cmpR op_gt (pv 4) pe_int (nomark _)) (pw_and1 (pt_cmpR op_ne (pe_ix ix_list (pv 6) pe_int (fun _ _ => rfl)) (pe_ix ix_list (pv 6) (pv 3) (fun _ _ => rfl)) (nomark _))))) (pss_one (ps_expr (pe_bm PySem.F.plainAttrs_list PySem.F.slot_list_append PySem.F.type_list_append mt_append (pv 6) (pa_cons (pe_ix ix_list (pv 6) pe_int (fun _ _ => rfl)) pa_nil)))) pss_nil)
        (pss_cons (ps_set (i := 8) sc_law_chain.nd rfl (Or.inl rfl) (pe_lst pa_nil))
        (pss_cons (ps_for PassesOwn.never rfl (pi_range1 rfl T.b_range (pa_cons (pe_op op_sub (pe_callB call_len_seq (by rfl) T.b_len (by decide +kernel) (pa_cons (pv 6) pa_nil)) pe_int) pa_nil)) (pg_name (i := 9) sc_law_chain.nd rfl (Or.inl rfl)) (pss_cons (ps_par (i := 10) (j := 11) (by rfl) sc_law_chain.nd rfl rfl (by decide) rfl rfl (pa_cons (pe_ix ix_list (pv 1) (pe_ix ix_list (pv 6) (pv 9) (fun _ _ => rfl)) (fun _ _ => rfl)) (pa_cons (pe_ix ix_list (pv 1) (pe_ix ix_list (pv 6) (pe_op op_add (pv 9) pe_int) (fun _ _ => rfl)) (fun _ _ => rfl)) pa_nil)) (by rfl))
        (pss_one (ps_if (pt_cmpR op_eq (pv 5) pe_int (nomark _)) (pss_one (ps_expr (pe_bm PySem.F.plainAttrs_list PySem.F.slot_list_append PySem.F.type_list_append mt_append (pv 8) (pa_cons (pe_tup (pa_cons pe_str (pa_cons (pv 10) (pa_cons (pv 11) (pa_cons (pe_op op_sub (pe_call G__law_take (hr.mono (by decide)) rfl T.f__law_take T.k__law_take B__law_take .nil pass0 (pa_cons (pv 0) (pa_cons pe_int pa_nil))) pe_int) pa_nil))))) pa_nil)))) (pss_one (ps_expr (pe_bm PySem.F.plainAttrs_list PySem.F.slot_list_append PySem.F.type_list_append mt_append (pv 8) (pa_cons (pe_tup (pa_cons pe_str (pa_cons (pv 10) (pa_cons (pv 11) (pa_cons (pe_op op_add (pe_op op_sub (pe_dget (hu_of hr) (pv 2) (pv 10) (fun _ _ => rfl)) (pe_dget (hu_of hr) (pv 2) (pv 11) (fun _ _ => rfl))) (pe_call G__law_slack (hr.mono (by decide)) rfl T.f__law_slack T.k__law_slack B__law_slack .nil pass0 (pa_cons (pv 0) pa_nil))) pa_nil))))) pa_nil))))))))
        (pss_one (ps_ret (pv 8)))))))))))), ?_⟩
    have hlm : (xs.map V.str).length = xs.length := List.length_map _
    refine ⟨_, rfl, b, 8, n, rfl, X, by omega, by decide, by decide, fun t1 H1 k1 X1 t10 t11 => ⟨_, _, rfl, rfl, ?_⟩⟩
    refine ⟨fun σ' H' => (∃ s : Nat, 1 ≤ s ∧ s ≤ 30 ∧ σ' = [some (.ref b), some (.ref l), some (.ref d), some (.int (s : Int)), none, none, none, none, none, none, none, none]) ∧ Kp b H H' ∧ Bx b (n + 3) H', ?_, ?_⟩
    · refine ⟨_, rfl, b, 10, _, rfl, X1, by omega, by decide, by decide, fun t2 H2 k2 X2 t20 t21 => ⟨rfl, _, rfl, ?_⟩⟩
      refine ite2 (fun h1 => ?_) (fun h1 => ?_)
      · refine ⟨_, rfl, b, 11, _, rfl, X2, by omega, by decide, by decide, fun t3 H3 k3 X3 t30 t31 => ⟨_, _, rfl, rfl, ?_⟩⟩
        exact ⟨⟨(20 + t3).toNat, by omega, by omega, by rw [show (((20 + t3).toNat : Nat) : Int) = 20 + t3 by omega]; rfl⟩, (k1.trans k2).trans k3, X3⟩
      · exact ⟨⟨(1 + t1).toNat, by omega, by omega, by rw [show (((1 + t1).toNat : Nat) : Int) = 1 + t1 by omega]; rfl⟩, k1.trans k2, X2.mono (by omega)⟩
    · rintro σ' H3 ⟨⟨s, hs1, hs30, rfl⟩, k3, X3⟩
      refine ⟨_, rfl, b, 3, _, rfl, X3, by omega, by decide, by decide, fun cl H4 k4 X4 c0 c1 => ?_⟩
      refine ⟨_, rfl, b, 3, _, rfl, X4, by omega, by decide, by decide, fun fr H5 k5 X5 f0 f1 => ?_⟩
      have k35 := (k3.trans k4).trans k5
      refine ⟨_, rfl, _, rfl, l, _, rfl, .inl (SqL.of (k35.at hlb N.at_)), b, _, _, rfl, X5, by omega, by omega, by omega, fun p0 H6 k6 X6 p00 p01 => ⟨Nat.le_trans (by decide : 1 ≤ 2) (by decide), fun pl hpl => ?_⟩⟩
      have k36 := k35.trans k6
      have hpl0 : H pl = none := k36.fresh X6 hpl
      have plb : pl ≠ b := X6.ne hpl
      have k37 : Kp b H (upd H6 pl (.lst [.int p0])) := k36.trans (Kp.ex (Ex.new hpl))
      refine ⟨_, rfl, (s : Int), rfl, by omega, by omega, for_range (lo := 0) (n := (s : Int).toNat) (fun i σ H' => ∃ ps : List Int, ps.length = i + 1 ∧ Plc xs.length ps ∧ H' pl = some (.lst (ps.map V.int)) ∧ (∃ v : Option V, σ = [some (.ref b), some (.ref l), some (.ref d), some (.int (s : Int)), some (.int cl), some (.int fr), some (.ref pl), v, none, none, none, none]) ∧ Kp b H H' ∧ Bx b (n + 6 + i) H')
        ⟨[p0], rfl, ⟨fun p hp => by rw [List.mem_singleton.mp hp]; omega, fun j p r a1 a2 => by simp at a2⟩, upd_same, ⟨none, rfl⟩, k37, X6.ex (Ex.new hpl)⟩ ?_ ?_⟩
      · rintro i σ H' hi ⟨ps, hps, PL, hp1, ⟨v, rfl⟩, k7, X7⟩
        obtain ⟨p, hp⟩ : ∃ p, ps[i]? = some p := ⟨ps[i]'(by omega), by simp⟩
        have rp := PL.rg p (List.mem_of_getElem? hp)
        have hl7 := k7.at hlb N.at_
        refine ⟨_, rfl, .inl ⟨rfl, _, SqL.of hp1⟩, _, rfl, _, rfl, pl, _, _, .int p, rfl, rfl, SqL.of hp1, at_lit (n := i) (by omega) (by rw [List.getElem?_map, hp]; rfl), _, _, rfl, rfl, _, rfl, _, rfl, l, _, rfl, .inl (SqL.of hl7), _, _, rfl, rfl, b, _, _, rfl, X7, by omega, by omega, by omega, fun t H8 k8 X8 t0 t1 => ?_⟩
        have hl8 := k8.at hlb hl7
        have hp8 := k8.at plb hp1
        obtain ⟨r0, r1, r2⟩ := next_place (m := xs.length) (by omega) rp t0 (by omega)
        refine ⟨_, _, rfl, rfl, .inl ⟨_, rfl, _, rfl, l, _, rfl, .inl (SqL.of hl8), _, _, rfl, rfl, by omega, pl, _, _, rfl, rfl, hp8, ?_, ?_⟩⟩
        · rw [List.length_map]
          exact Nat.lt_of_le_of_lt (by omega : _ ≤ 1000) (by decide)
        · rw [hlm]
          refine ⟨ps ++ [(p + 1 + t).fmod ((xs.length : Nat) : Int)], by simp [hps], PL.snoc ⟨r0, r1⟩ (fun p' hp' => ?_), by rw [upd_same, List.map_append]; rfl, ⟨_, rfl⟩, (k7.trans k8).mut hpl0 plb, Bx.mut X hpl0 (k7.trans k8) X8⟩
          rw [hps] at hp'
          have e : p' = p := by
            have := hp'.symm.trans (show ps[i + 1 - 1]? = some p from hp)
            exact Option.some.inj this
          rw [e]
          exact r2
      · rintro σ H7 ⟨ps, hps, PL, hp7, ⟨v, rfl⟩, k7, X7⟩
        have hps' : ps.length = s + 1 := by omega
        obtain ⟨pa, hpa⟩ : ∃ p, ps[0]? = some p := ⟨ps[0]'(by omega), by simp⟩
        obtain ⟨pz, hpz⟩ : ∃ p, ps[s]? = some p := ⟨ps[s]'(by omega), by simp⟩
        refine ⟨fun σ' H' => ∃ ps : List Int, 2 ≤ ps.length ∧ ps.length ≤ 32 ∧ Plc xs.length ps ∧ H' pl = some (.lst (ps.map V.int)) ∧ (∃ v : Option V, σ' = [some (.ref b), some (.ref l), some (.ref d), some (.int (s : Int)), some (.int cl), some (.int fr), some (.ref pl), v, none, none, none, none]) ∧ Kp b H H' ∧ Bx b (n + 40) H', ?_, ?_⟩
        · have fin : ∃ ps' : List Int, 2 ≤ ps'.length ∧ ps'.length ≤ 32 ∧ Plc xs.length ps' ∧ H7 pl = some (.lst (ps'.map V.int)) ∧ (∃ v' : Option V, [some (.ref b), some (.ref l), some (.ref d), some (.int (s : Int)), some (.int cl), some (.int fr), some (.ref pl), v, none, none, none, none] = [some (.ref b), some (.ref l), some (.ref d), some (.int (s : Int)), some (.int cl), some (.int fr), some (.ref pl), v', none, none, none, none]) ∧ Kp b H H7 ∧ Bx b (n + 40) H7 :=
            ⟨ps, by omega, by omega, PL, hp7, ⟨v, rfl⟩, k7, X7.mono (by omega)⟩
          refine ⟨_, rfl, _, _, rfl, rfl, _, rfl, ?_⟩
          refine ite2 (fun h1 => ?_) (fun h1 => iteF fin)
          refine ⟨_, rfl, pl, _, 0, .int pa, rfl, rfl, SqL.of hp7, at_lit (n := 0) rfl (by rw [List.getElem?_map, hpa]; rfl), _, rfl, _, rfl, pl, _, (s : Int), .int pz, rfl, rfl, SqL.of hp7, at_lit (n := s) rfl (by rw [List.getElem?_map, hpz]; rfl), rfl, _, rfl, ?_⟩
          refine ite2 (fun h2 => ?_) (fun h2 => fin)
          refine ⟨_, rfl, .inl ⟨rfl, _, SqL.of hp7⟩, _, rfl, pl, _, 0, .int pa, rfl, rfl, SqL.of hp7, at_lit (n := 0) rfl (by rw [List.getElem?_map, hpa]; rfl), pl, _, _, rfl, rfl, hp7, ?_, ?_⟩
          · rw [List.length_map]
            exact Nat.lt_of_le_of_lt (by omega : _ ≤ 1000) (by decide)
          · refine ⟨ps ++ [pa], by simp; omega, by simp; omega, PL.snoc (PL.rg pa (List.mem_of_getElem? hpa)) (fun p' hp' => ?_), by rw [upd_same, List.map_append]; rfl, ⟨_, rfl⟩, k7.mut hpl0 plb, Bx.mut X hpl0 k7 (X7.mono (by omega))⟩
            rw [hps'] at hp'
            have e : p' = pz := Option.some.inj (hp'.symm.trans (show ps[s + 1 - 1]? = some pz from hpz))
            rw [e]
            intro z
            rw [z, decide_eq_true rfl] at h2
            cases h2
        · rintro σ' H8 ⟨ps, hp2, hp32, PL, hp8, ⟨v, rfl⟩, k8, X8⟩
          refine ⟨Nat.zero_le _, fun rl hrl => ?_⟩
          have hrl0 : H rl = none := k8.fresh X8 hrl
          have rlb : rl ≠ b := X8.ne hrl
          have rpl : pl ≠ rl := ne_of_none hp8 hrl
          have e9 := Ex.new (o := .lst []) hrl
          have hcnt : (((ps.map V.int).length : Nat) : Int) - 1 = ((ps.length - 1 : Nat) : Int) := by rw [List.length_map]; omega
          refine ⟨_, rfl, pl, _, rfl, .inl (SqL.of (e9 _ _ hp8)), _, _, rfl, rfl, _, rfl, by omega, by omega, for_range (lo := 0) (fun i σ H' => ∃ (us : List V) (ds : List Row), H' rl = some (.lst us) ∧ RowsAt H' us ds ∧ ds.length = i ∧ (∀ (j : Nat) (dd : Row), ds[j]? = some dd → dd.1 = nmAt xs ps j ∧ dd.2.1 = nmAt xs ps (j + 1)) ∧ H' pl = some (.lst (ps.map V.int)) ∧ (∃ (v u x y : Option V), σ = [some (.ref b), some (.ref l), some (.ref d), some (.int (s : Int)), some (.int cl), some (.int fr), some (.ref pl), v, some (.ref rl), u, x, y]) ∧ Kp b H H' ∧ Bx b (n + 40 + 9 * i) H')
            ⟨[], [], upd_same, ⟨rfl, fun j v d h => by simp at h⟩, rfl, fun j d h => by simp at h, e9 _ _ hp8, ⟨v, none, none, none, rfl⟩, k8.trans (Kp.ex e9), X8.ex e9⟩ ?_ ?_⟩
          · rintro i σ H' hi ⟨us, ds, hrl1, R, hdl, hnm, hp9, ⟨v, u, x, y, rfl⟩, k9, X9⟩
            have hi' : i + 1 < ps.length := by omega
            have hus := R.1
            obtain ⟨p, hp⟩ : ∃ p, ps[i]? = some p := ⟨ps[i]'(by omega), by simp⟩
            obtain ⟨p', hp'⟩ : ∃ p, ps[i + 1]? = some p := ⟨ps[i + 1]'(by omega), by simp⟩
            have rp := PL.rg p (List.mem_of_getElem? hp)
            have rp' := PL.rg p' (List.mem_of_getElem? hp')
            have n1 := nmAt_of PL hp
            have n2 := nmAt_of PL hp'
            have hl9 := k9.at hlb N.at_
            refine ⟨_, rfl, _, rfl, _, rfl, pl, _, _, .int p, rfl, rfl, SqL.of hp9, at_lit (n := i) (by omega) (by rw [List.getElem?_map, hp]; rfl), l, _, p, .str (nmAt xs ps i), rfl, rfl, SqL.of hl9, at_lit (n := p.toNat) (by omega) (by rw [List.getElem?_map, n1]; rfl),
              _, rfl, _, rfl, _, rfl, _, _, rfl, rfl, pl, _, _, .int p', rfl, rfl, SqL.of hp9, at_lit (n := i + 1) (by omega) (by rw [List.getElem?_map, hp']; rfl), l, _, p', .str (nmAt xs ps (i + 1)), rfl, rfl, SqL.of hl9, at_lit (n := p'.toNat) (by omega) (by rw [List.getElem?_map, n2]; rfl), _, _, rfl, ?_⟩
            have fin : ∀ (z : Int) (H2 : Hp) (tp : Addr), Kp b H' H2 → Bx b (n + 40 + 9 * (i + 1)) H2 → H2 tp = none →
                ∃ (us' : List V) (ds' : List Row), (upd (upd H2 tp (.tup [.str "most", .str (nmAt xs ps i), .str (nmAt xs ps (i + 1)), .int z])) rl (.lst (us ++ [.ref tp]))) rl = some (.lst us') ∧ RowsAt (upd (upd H2 tp (.tup [.str "most", .str (nmAt xs ps i), .str (nmAt xs ps (i + 1)), .int z])) rl (.lst (us ++ [.ref tp]))) us' ds' ∧ ds'.length = i + 1 ∧ (∀ (j : Nat) (dd : Row), ds'[j]? = some dd → dd.1 = nmAt xs ps j ∧ dd.2.1 = nmAt xs ps (j + 1)) ∧
                (upd (upd H2 tp (.tup [.str "most", .str (nmAt xs ps i), .str (nmAt xs ps (i + 1)), .int z])) rl (.lst (us ++ [.ref tp]))) pl = some (.lst (ps.map V.int)) ∧ (∃ (v' u' x' y' : Option V), [some (.ref b), some (.ref l), some (.ref d), some (.int (s : Int)), some (.int cl), some (.int fr), some (.ref pl), v, some (.ref rl), some (.int (0 + (i : Int))), some (.str (nmAt xs ps i)), some (.str (nmAt xs ps (i + 1)))] = [some (.ref b), some (.ref l), some (.ref d), some (.int (s : Int)), some (.int cl), some (.int fr), some (.ref pl), v', some (.ref rl), u', x', y']) ∧
                Kp b H (upd (upd H2 tp (.tup [.str "most", .str (nmAt xs ps i), .str (nmAt xs ps (i + 1)), .int z])) rl (.lst (us ++ [.ref tp]))) ∧ Bx b (n + 40 + 9 * (i + 1)) (upd (upd H2 tp (.tup [.str "most", .str (nmAt xs ps i), .str (nmAt xs ps (i + 1)), .int z])) rl (.lst (us ++ [.ref tp]))) := by
              intro z H2 tp k2 X2 htp
              have e2 := Ex.new (o := .tup [.str "most", .str (nmAt xs ps i), .str (nmAt xs ps (i + 1)), .int z]) htp
              have hrl2 := e2 _ _ (k2.at rlb hrl1)
              have R2 := ((R.keep (k2.tup X9)).keep (TK.ex e2)).keep (TK.lst (o := .lst (us ++ [.ref tp])) hrl2)
              have ntp : tp ≠ rl := (ne_of_none (k2.at rlb hrl1) htp).symm
              have k3 := (k9.trans k2).trans (Kp.ex e2)
              refine ⟨_, ds ++ [(nmAt xs ps i, nmAt xs ps (i + 1), z)], upd_same, R2.snoc ⟨tp, rfl, by rw [upd_ne ntp, upd_same]⟩, by simp [hdl], fun j dd hj => ?_, ?_, ⟨_, _, _, _, rfl⟩, k3.mut hrl0 rlb, Bx.mut X hrl0 k3 (X2.ex e2)⟩
              · by_cases hji : j < ds.length
                · rw [List.getElem?_append_left hji] at hj
                  exact hnm j dd hj
                · have hjl := (List.getElem?_eq_some_iff.mp hj).1
                  rw [List.length_append, List.length_singleton] at hjl
                  have e : j = ds.length := by omega
                  rw [List.getElem?_append_right (by omega), e, Nat.sub_self] at hj
                  cases hj
                  rw [e, hdl]
                  exact ⟨rfl, rfl⟩
              · rw [upd_ne rpl]
                exact e2 _ _ (k2.at plb hp9)
            have hlen : us.length < sizeLine := Nat.lt_of_le_of_lt (by omega : _ ≤ 1000) (by decide)
            refine ⟨_, rfl, rfl, _, rfl, ?_⟩
            refine ite2 (fun h1 => ?_) (fun h1 => ?_)
            · refine ⟨_, rfl, .inl ⟨rfl, _, SqL.of hrl1⟩, _, rfl, _, rfl, _, rfl, b, 9, _, rfl, X9, by omega, by decide, by decide, fun t H2 k2 X2 t0 t1 => ⟨_, _, rfl, rfl, (by show 4 ≤ sizeLine; decide), fun tp htp => ?_⟩⟩
              exact ⟨rl, us, _, rfl, rfl, Ex.new htp _ _ (k2.at rlb hrl1), hlen, fin _ H2 tp k2 (X2.mono (by omega)) htp⟩
            · have hd9 := k9.at hdb hkv
              have g1 : DGet H' d (kV (Sum.inr (nmAt xs ps i))) (some (.int (f (nmAt xs ps i)))) := by
                rw [← hf _ (List.mem_of_getElem? n1)]
                exact DGet.k hd9
              have g2 : DGet H' d (kV (Sum.inr (nmAt xs ps (i + 1)))) (some (.int (f (nmAt xs ps (i + 1))))) := by
                rw [← hf _ (List.mem_of_getElem? n2)]
                exact DGet.k hd9
              refine ⟨_, rfl, .inl ⟨rfl, _, SqL.of hrl1⟩, _, rfl, _, rfl, _, rfl, _, rfl, d, _, rfl, g1, _, rfl, _, rfl, d, _, rfl, g2, _, _, rfl, rfl, _, rfl, b, _, rfl, X9, by omega, fun t H2 k2 X2 => ⟨_, _, rfl, rfl, (by show 4 ≤ sizeLine; decide), fun tp htp => ?_⟩⟩
              exact ⟨rl, us, _, rfl, rfl, Ex.new htp _ _ (k2.at rlb hrl1), hlen, fin _ H2 tp k2 (X2.mono (by omega)) htp⟩
          · rintro σ H9 ⟨us, ds, hrl1, R, hdl, hnm, hp9, ⟨v, u, x, y, rfl⟩, k9, X9⟩
            have hdl' : ds.length + 1 = ps.length := by omega
            exact ⟨_, rfl, q rl us ds H9 hrl0 hrl1 R (rowsOk_of N.nd PL hdl' hp2 (by omega) hnm) k9 (X9.mono (by omega))⟩
end
end K7
set_option maxRecDepth 100000
set_option maxHeartbeats 4000000
namespace L2
open PySem PySem.Spec PyProof.Rows
/-- isinstance(e, c), e the exception that the suite holds, with a dict of its own -/
def rIsX (K : PySem.W.Frag) (a : Addr) (cls : Value) (d : Option Addr) : List V → Hp → VK → Prop := fun xs H Q => ∃ (D dd : Addr) (fs : List (Str × V)) (c : V) (cv : Value) (b : Bool),
  cls = .ref D ∧ d = some dd ∧ H dd = some (.xd fs) ∧ ExcC K D ∧ xs = [.ref a, c] ∧ ClsV c cv ∧ PySem.W.kitOne K (.ref D) cv = some b ∧ Q (.bl b) H
theorem call_isX {X : Cx} {a : Addr} {oe : Obj} {cls : Value} {d : Option Addr} {pn : List (Addr × Obj)} (hz : Zc cls d oe) (hf : ∃ vs, oe.data = .fields vs) : CallR (X.suite a ((a, oe) :: pn)) (.builtin "isinstance") (rIsX X.K a cls d) := by
  intro pins s σ H xs us Q I r h
  obtain ⟨D, dd, fs, c, cv, b, rfl, rfl, hdd, C, rfl, hcv, e, q⟩ := h
  obtain ⟨u1, u2, rfl, r1, r2⟩ := vals2 r
  have e2 := hcv.eq r2
  subst e2
  cases (show u1 = Value.ref a from r1)
  obtain ⟨hget, _⟩ := I.pin (a, oe) (List.mem_append.mpr (.inl List.mem_cons_self))
  obtain ⟨vs, hv⟩ := hf
  have hx : ObjOk X.prog X.w H s.heap dd (.xd fs) := I.hok dd _ hdd
  obtain ⟨mA, hns, _⟩ := hx
  obtain ⟨od, ho, _⟩ := lookIn_ns hns
  have J : PySem.W.InstAt s.heap a oe D (some od) := ⟨hget, hz.1, by unfold PySem.W.notCls; rw [hv] <;> rfl, by rw [hz.2]; exact ho⟩
  have hcl : (PySem.W.clsIn X.K D).isSome = true := by
    obtain ⟨cd, hc, _⟩ := PySem.W.any_some C.hd
    rw [hc]
    rfl
  exact PySem.W.kia_one (PySem.W.kitx_exc hcl C.hg C.hk C.hs C.ha C.hn C.ht C.hm) I.kIn J e (fun z => nomatch z) fun tk => ⟨.bl b, H, I.kept (t' := tk) fun _ _ z => z, rfl, q⟩
end L2
namespace K7
open PySem L2 Evl
abbrev s_law_asked : Stmt := top 32
theorem sc_law_asked : FnScope ["way", "rows", "raised"] ["way", "rows"] (defScope s_law_asked) := ⟨rfl, rfl, rfl, by decide +kernel, rfl, by decide +kernel, by decide +kernel⟩
def endsP (d : PyData) : PyData := .tuple [.str (endsD d).1, .str (endsD d).2.1, .int (endsD d).2.2]
def askedD (way : Int) (d : PyData) : PyData :=
  if way = 0 then (if isChainD d then .tuple [.str "told", endsP d] else .tuple [.str "refused", d])
  else (if isRingD d then .tuple [.str "told", .int (endsD d).2.2] else .tuple [.str "refused", d])
def spAsked (K : PySem.W.Frag) : Sp := fun vs H Q _ => ∃ (way : Int) (v : V) (d : PyData), vs = [.int way, v] ∧ Dp K H v d ∧ szL d ∧ ∀ v' H', Ex H H' → Dp K H' v' (askedD way d) → Q v' H'
structure TxtI (P : Program) (K : PySem.W.Frag) (mg : Str → Option Value) (fN fI fB fC fR fT cI fX cR cL fCS fRS : Addr) : Prop extends TxtB P K mg fN fI fB fC fR fT cI fX where
  c_RingclauseError : mg "RingclauseError" = some (.ref cR)
  c_InvalidChain : mg "InvalidChain" = some (.ref cI)
  c_InvalidLiteral : mg "InvalidLiteral" = some (.ref cL)
  te : PySem.W.exmOne K (.ref cI) (.ref cR) = some true
  xc : ExcC K cI
  xf : XfC K cI
  noF : PySem.W.findIn K (.ref cI) "bounds" = some none
  k1 : PySem.W.kitOne K (.ref cI) (.ref cI) = some true
  k2 : PySem.W.kitOne K (.ref cI) (.ref cL) = some false
  b_isinstance : mg "isinstance" = none
  f_chain_sum : mg "chain_sum" = some (.ref fCS)
  k_chain_sum : PySem.W.keepIn K (.ref fCS) = true
  f_ring_sum : mg "ring_sum" = some (.ref fRS)
  k_ring_sum : PySem.W.keepIn K (.ref fRS) = true
/-- the program's defs -/
structure FP (K : PySem.W.Frag) (fN fI fB fC fR fT fCS fRS : Addr) (fdN fdI fdB fdC fdR fdT fdCS fdRS : FuncData) : Prop extends FB K fN fI fB fdN fdI fdB where
  FC : Fun K "is_chain" "is_chain" s_is_chain fC fdC
  BC : Binds K fdC ["value"] []
  FR : Fun K "is_ring" "is_ring" s_is_ring fR fdR
  BR : Binds K fdR ["value"] []
  FT : Fun K "total_of" "total_of" s_total_of fT fdT
  BT : Binds K fdT ["bounds"] []
  FCS : Fun K "chain_sum" "chain_sum" s_chain_sum fCS fdCS
  BCS : Binds K fdCS ["bounds"] []
  FRS : Fun K "ring_sum" "ring_sum" s_ring_sum fRS fdRS
  BRS : Binds K fdRS ["bounds"] []
section
variable {P : Program} {w : World} {K : PySem.W.Frag} {mg : Str → Option Value} {base : Heap} {fN fI fB fC fR fT cI fX cR cL fCS fRS : Addr} {fdN fdI fdB fdC fdR fdT fdCS fdRS : FuncData}
def t_suite (K : PySem.W.Frag) (cI cL : Addr) : Addr → Value → Option Addr → TS := fun a cls d =>
  tSeq (tIfS (tAnd (tB (tCB (rIsX K a cls d) (tCons (tVar 2) (tCons (tC (.ref cI)) tNil)))) (tNot (tB (tCB (rIsX K a cls d) (tCons (tVar 2) (tCons (tC (.ref cL)) tNil))))))
    (tRet (tTup (tCons (tC (.str "refused")) (tCons (tXf a cls d cI "bounds" (tVar 2)) tNil)))) tNext) (tRet (tTup (tCons (tC (.str "other")) (tCons (tC .non) tNil))))
def t_body (K : PySem.W.Frag) (cI : Addr) : WX → TS := fun W =>
  tSeq (tIfS (tTest (tOp rEq (tVar 0) (tC (.int 0)))) (tRet (tTup (tCons (tC (.str "told")) (tCons (tCallS (spChainSum K cI) (WE W) (tCons (tVar 1) tNil)) tNil)))) tNext)
    (tRet (tTup (tCons (tC (.str "told")) (tCons (tCallS (spRingSum K cI) (WE W) (tCons (tVar 1) tNil)) tNil))))
theorem ok_law_asked {f : Addr} {fd : FuncData} (F : Fun K "_law_asked" "_law_asked" s_law_asked f fd) (T : TxtI P K mg fN fI fB fC fR fT cI fX cR cL fCS fRS) (B : FP K fN fI fB fC fR fT fCS fRS fdN fdI fdB fdC fdR fdT fdCS fdRS) : FnOk P w K mg base CX0 6 f fd ["way", "rows"] (spAsked K) := by
  have G_chain_sum : FnOk P w K mg base (L2.CX P w) 5 fCS fdCS ["bounds"] (spChainSum K cI) := ok_chain_sum B.FCS T.toTxtB B.toFB B.FC B.BC B.FT B.BT
  have G_ring_sum : FnOk P w K mg base (L2.CX P w) 5 fRS fdRS ["bounds"] (spRingSum K cI) := ok_ring_sum B.FRS T.toTxtB B.toFB B.FC B.BC B.FR B.BR B.FT B.BT
  refine F.ok sc_law_asked (fun vs H Q E h => ?_) (fun cdv A outer s H vs Q E hr h => ?_)
  · obtain ⟨way, v, d, rfl, _⟩ := h
    rfl
  · obtain ⟨way, v, d, rfl, hd, hz, q⟩ := h
    have hr5 : Room 5 _ := hr.mono (by decide)
    refine ⟨_, pss_one (ps_try_as (i := 2) (tb := t_body K cI) (ts := t_suite K cI cL) (Wout := fun _ _ _ _ => False) rfl rfl sc_law_asked.nd rfl rfl ⟨rfl, by decide, Or.inl T.c_RingclauseError⟩ takes0
      (fun W pn xe tk _ => pss_cons (ps_if (pt_cmpR op_eq (pv 0) pe_int (nomark _)) (pss_one (ps_ret (pe_tup (pa_cons pe_str (pa_cons (by exact (pe_callS G_chain_sum hr5 rfl T.f_chain_sum T.k_chain_sum B.BCS (fun σ => L2.passAt tk σ) (by exact (pa_cons (pv 1) pa_nil)))) pa_nil))))) pss_nil)
        (pss_one (ps_ret (pe_tup (pa_cons pe_str (pa_cons (by exact (pe_callS G_ring_sum hr5 rfl T.f_ring_sum T.k_ring_sum B.BRS (fun σ => L2.passAt tk σ) (by exact (pa_cons (pv 1) pa_nil)))) pa_nil))))))
      (fun a oe cls d pn hz hf => pss_cons (ps_if (PW.pt (pw_and (pt_val (pe_callB (call_isX hz hf) (by rfl) T.b_isinstance (by decide +kernel) (by exact (pa_cons (pv 2) (pa_cons (pe_glob (v := .ref cI) rfl T.c_InvalidChain rfl) pa_nil)))))
        (pw_and1 (pt_not (pt_val (pe_callB (call_isX hz hf) (by rfl) T.b_isinstance (by decide +kernel) (by exact (pa_cons (pv 2) (pa_cons (pe_glob (v := .ref cL) rfl T.c_InvalidLiteral rfl) pa_nil)))))))))
        (pss_one (ps_ret (pe_tup (pa_cons pe_str (pa_cons (by exact (pe_xf T.xf T.noF hz hf (pv 2))) pa_nil))))) pss_nil)
        (pss_one (ps_ret (pe_tup (pa_cons pe_str (pa_cons pe_non pa_nil))))))), ?_⟩
    -- an InvalidChain that is caught
    have caught : ∀ (dd : Addr) (H' : Hp), Ex H H' → H' dd = some (.xd [("bounds", v)]) → (∀ v' H'', Ex H H'' → Dp K H'' v' (.tuple [.str "refused", d]) → Q v' H'') →
        wAs K (.ref cR) 2 (t_suite K cI cL) (fun _ _ _ _ => False) { nx := fun _ H' => Q .non H', rt := Q } (.ref cI) (some dd) [some (.int way), some v, none] H' := by
      intro dd H' e hdd q'
      refine ⟨true, T.te, fun _ a0 ha0 => ?_, fun z => nomatch z⟩
      refine ⟨_, rfl, cI, dd, _, _, _, true, rfl, rfl, hdd, T.xc, rfl, .own cI, T.k1, true, rfl, ?_⟩
      refine iteT ⟨_, rfl, cI, dd, _, _, _, false, rfl, rfl, hdd, T.xc, rfl, .own cL, T.k2, false, rfl, ?_⟩
      refine iteT' rfl ⟨_, rfl, rfl, rfl, dd, _, v, rfl, hdd, by simp [List.lookup], (by show 2 ≤ sizeLine; decide), fun t ht => ?_⟩
      have e2 : Ex H' (upd H' t (.tup [.str "refused", v])) := Ex.new ht
      exact q' _ _ (e.trans e2) (.tup (SqT.of upd_same) (.cons (.str _) (.cons (Dp.ex (e.trans e2) hd) .nil)))
    refine ⟨_, rfl, rfl, _, rfl, ?_⟩
    by_cases hw : way = 0
    · subst hw
      refine iteT' (decide_eq_true rfl) ⟨_, rfl, v, d, rfl, hd, hz, fun hc p H' e _ hp => ⟨(by show 2 ≤ sizeLine; decide), fun t ht => ?_⟩, fun hc dd H' e _ hdd => caught dd H' e hdd fun v' H'' e' hv' => q v' H'' e' ?_⟩
      · refine q _ _ (e.trans (Ex.new ht)) ?_
        rw [show askedD 0 d = .tuple [.str "told", endsP d] by unfold askedD; rw [if_pos rfl, if_pos hc]]
        exact .tup (SqT.of upd_same) (.cons (.str _) (.cons (.tup (SqT.of (Ex.new ht _ _ hp)) (.cons (.str _) (.cons (.str _) (.cons (.int _) .nil)))) .nil))
      · rw [show askedD 0 d = .tuple [.str "refused", d] by unfold askedD; rw [if_pos rfl, if_neg (by rw [hc]; decide)]]
        exact hv'
    · refine iteF' (decide_eq_false fun z => hw (V.int.inj z)) ⟨_, rfl, v, d, rfl, hd, hz, fun hc H' e => ⟨(by show 2 ≤ sizeLine; decide), fun t ht => ?_⟩, fun hc dd H' e _ hdd => caught dd H' e hdd fun v' H'' e' hv' => q v' H'' e' ?_⟩
      · refine q _ _ (e.trans (Ex.new ht)) ?_
        rw [show askedD way d = .tuple [.str "told", .int (endsD d).2.2] by unfold askedD; rw [if_neg hw, if_pos hc]]
        exact .tup (SqT.of upd_same) (.cons (.str _) (.cons (.int _) .nil))
      · rw [show askedD way d = .tuple [.str "refused", d] by unfold askedD; rw [if_neg hw, if_neg (by rw [hc]; decide)]]
        exact hv'
end
end K7
set_option maxRecDepth 100000
set_option maxHeartbeats 8000000
namespace K7
open PySem L2 Evl
/-! ### texts that are no names -/
theorem nm_cons {z : Str} (h : isNameS z = true) : ∃ c r, z.cps.toList = c :: r ∧ c ∈ letters.cps.toList ∧ z.length ≤ 8 := by
  unfold isNameS at h
  obtain ⟨h1, h2⟩ := Bool.and_eq_true_iff.mp h
  obtain ⟨h3, h4⟩ := Bool.and_eq_true_iff.mp h2
  have h1' := of_decide_eq_true h1
  have h3' := of_decide_eq_true h3
  cases e : z.cps.toList with
  | nil =>
    have : z.length = 0 := by
      show z.cps.size = 0
      rw [← Array.length_toList, e]; rfl
    omega
  | cons c r =>
    rw [e] at h3'
    exact ⟨c, r, rfl, h3', h1'.2⟩
theorem no_head {z : Str} {c : Nat} {r : List Nat} (e : z.cps.toList = c :: r) (h : c ∉ letters.cps.toList) : isNameS z = false := by
  unfold isNameS
  rw [e, show decide ((c :: r).headD 0 ∈ letters.cps.toList) = false from decide_eq_false h, Bool.false_and, Bool.and_false]
theorem no_len {z : Str} (h : 8 < z.length) : isNameS z = false := by
  unfold isNameS
  rw [show decide (1 ≤ z.length ∧ z.length ≤ 8) = false from decide_eq_false (by omega), Bool.false_and]
theorem no_sign {z : Str} {c : Nat} (hm : c ∈ z.cps.toList) (h : c ∉ signs.cps.toList) : isNameS z = false := by
  unfold isNameS
  have e : (z.cps.toList.all fun c => decide (c ∈ signs.cps.toList)) = false := List.all_eq_false.mpr ⟨c, hm, by simpa using h⟩
  rw [e, Bool.and_false, Bool.and_false]
theorem let_range {c : Nat} (h : c ∈ letters.cps.toList) : 97 ≤ c ∧ c ≤ 122 := (by decide +kernel : ∀ c ∈ letters.cps.toList, 97 ≤ c ∧ c ≤ 122) c h
theorem up_let {c : Nat} (h : c ∈ letters.cps.toList) : c - 32 ∉ letters.cps.toList := by
  intro z
  have a := let_range h
  have b := let_range z
  omega
theorem str_cons {z : Str} {c : Nat} {r : List Nat} (e : z.cps.toList = c :: r) : z = (⟨#[c]⟩ : Str) ++ ⟨r.toArray⟩ := by
  apply Str.ext'
  rw [Str.cps_append]
  apply Array.toList_inj.mp
  rw [e]
  simp
theorem no_upper {z : Str} (h : isNameS z = true) : isNameS (Txt.upper z) = false := by
  obtain ⟨c, r, e, hc, _⟩ := nm_cons h
  have a := let_range hc
  refine no_head (c := c - 32) (r := (Txt.upper ⟨r.toArray⟩).cps.toList) ?_ (up_let hc)
  rw [str_cons e, PySem.W.KOpn.upper_app, PySem.W.KOpn.upper_one (by omega), if_pos a, Str.cps_append]
  simp
theorem no_long {z : Str} (h : isNameS z = true) : isNameS (z ++ ("abcdefgh" : Str)) = false := by
  obtain ⟨c, r, e, hc, _⟩ := nm_cons h
  refine no_len ?_
  rw [Str.length_append]
  have : 1 ≤ z.length := by
    show 1 ≤ z.cps.size
    rw [← Array.length_toList, e]
    simp
  have : ("abcdefgh" : Str).length = 8 := by decide +kernel
  omega
theorem no_one (z : Str) : isNameS (("1" : Str) ++ z) = false := by
  refine no_head (c := 49) (r := z.cps.toList) ?_ (by decide +kernel)
  rw [Str.cps_append, Array.toList_append, show ("1" : Str).cps.toList = [49] by decide +kernel]
  rfl
theorem no_dash (z : Str) : isNameS (z ++ ("-" : Str)) = false := by
  refine no_sign (c := 45) ?_ (by decide +kernel)
  rw [Str.cps_append, Array.toList_append, show ("-" : Str).cps.toList = [45] by decide +kernel]
  exact List.mem_append_right _ List.mem_cons_self
theorem no_empty : isNameS ("" : Str) = false := by decide +kernel
/-! ### texts of ordinary signs -/
theorem sok_iff {z : Str} : PyData.strOk z = true ↔ ∀ c ∈ z.cps.toList, c < 1114112 := by
  unfold PyData.strOk
  rw [← Array.all_toList, List.all_eq_true]
  exact ⟨fun h c hc => of_decide_eq_true (h c hc), fun h c hc => decide_eq_true (h c hc)⟩
theorem nm_signs {z : Str} (h : isNameS z = true) : ∀ c ∈ z.cps.toList, c < 128 := by
  unfold isNameS at h
  obtain ⟨_, h2⟩ := Bool.and_eq_true_iff.mp h
  obtain ⟨_, h4⟩ := Bool.and_eq_true_iff.mp h2
  intro c hc
  have := of_decide_eq_true (List.all_eq_true.mp h4 c hc)
  exact (by decide +kernel : ∀ c ∈ signs.cps.toList, c < 128) c this
theorem sok_nm {z : Str} (h : isNameS z = true) : PyData.strOk z = true := sok_iff.mpr fun c hc => by
  have := nm_signs h c hc
  omega
theorem sok_app {a b : Str} (ha : PyData.strOk a = true) (hb : PyData.strOk b = true) : PyData.strOk (a ++ b) = true := sok_iff.mpr fun c hc => by
  rw [Str.cps_append, Array.toList_append] at hc
  rcases List.mem_append.mp hc with h | h
  · exact sok_iff.mp ha c h
  · exact sok_iff.mp hb c h
theorem sok_cut {z : Str} (h : PyData.strOk z = true) (lo hi : Option Int) : PyData.strOk (cutS z lo hi) = true := sok_iff.mpr fun c hc => by
  have hc' : c ∈ ((z.cps.toList.drop (HT.sIx z.length 0 lo)).take (HT.sIx z.length z.length hi - HT.sIx z.length 0 lo)) := by
    unfold cutS at hc
    simpa using hc
  exact sok_iff.mp h c (List.mem_of_mem_drop (List.mem_of_mem_take hc'))
theorem up_small : ∀ l : List Nat, (∀ c ∈ l, c < 128) → ∀ c ∈ (Txt.upper ⟨l.toArray⟩).cps.toList, c < 128
  | [], _, c, hc => by
    have e : Txt.upper (⟨([] : List Nat).toArray⟩ : Str) = ⟨#[]⟩ := by decide +kernel
    rw [e] at hc
    cases hc
  | d :: r, h, c, hc => by
    have hd := h d List.mem_cons_self
    have e : (⟨(d :: r).toArray⟩ : Str) = (⟨#[d]⟩ : Str) ++ ⟨r.toArray⟩ := str_cons (z := ⟨(d :: r).toArray⟩) rfl
    rw [e, PySem.W.KOpn.upper_app, PySem.W.KOpn.upper_one hd, Str.cps_append, Array.toList_append] at hc
    rcases List.mem_append.mp hc with q | q
    · have q' : c = if 97 ≤ d ∧ d ≤ 122 then d - 32 else d := by simpa using q
      rw [q']
      split <;> omega
    · exact up_small r (fun x hx => h x (List.mem_cons_of_mem _ hx)) c q
theorem sok_upper {z : Str} (h : isNameS z = true) : PyData.strOk (Txt.upper z) = true := sok_iff.mpr fun c hc => by
  have := up_small z.cps.toList (nm_signs h) c hc
  omega
end K7
set_option maxRecDepth 100000
set_option maxHeartbeats 8000000
namespace K7
open PySem L2 Evl
abbrev s_law_odd : Stmt := top 29
theorem sc_law_odd : FnScope ["row", "kind", "x", "y", "k"] ["row", "kind"] (defScope s_law_odd) := ⟨rfl, rfl, rfl, by decide +kernel, rfl, by decide +kernel, by decide +kernel⟩
theorem mkT {K : PySem.W.Frag} {H : Hp} {vs : List V} {ds : List PyData} (A : DpAll K H vs ds) {t : Addr} (ht : H t = none) : Dp K (upd H t (.tup vs)) (.ref t) (.tuple ds) :=
  .tup (SqT.of upd_same) (DpAll.ex (Ex.new ht) A)
theorem mkL {K : PySem.W.Frag} {H : Hp} {vs : List V} {ds : List PyData} (A : DpAll K H vs ds) {t : Addr} (ht : H t = none) : Dp K (upd H t (.lst vs)) (.ref t) (.list ds) :=
  .lst (SqL.of upd_same) (DpAll.ex (Ex.new ht) A)
theorem pick {K : PySem.W.Frag} {H : Hp} {l : Addr} {vs : List V} {ds : List PyData} {i : Int} (h : H l = some (.lst vs)) (A : DpAll K H vs ds) (h0 : 0 ≤ i) (h1 : i < ds.length) {Q : VK}
    (q : ∀ v d, d ∈ ds → Dp K H v d → Q v H) : rIxL K (.ref l) (.int i) H Q := by
  have hl := DpAll.len A
  obtain ⟨n, rfl⟩ := Int.eq_ofNat_of_zero_le h0
  have hn : n < vs.length := by omega
  have hv : vs[n]? = some vs[n] := by simp [hn]
  obtain ⟨d, hd, D⟩ := DpAll.get A hv
  exact ⟨l, vs, (n : Int), vs[n], rfl, rfl, SqL.of h, at_lit rfl hv, q _ d (List.mem_of_getElem? hd) D⟩
theorem DpAll.e2 {K : PySem.W.Frag} {H H' : Hp} {vs : List V} {ds : List PyData} (A : DpAll K H vs ds) (e : Ex H H') : DpAll K H' vs ds := DpAll.ex e A
theorem DpAll.snoc {K : PySem.W.Frag} {H : Hp} {v : V} {d : PyData} : ∀ {vs : List V} {ds : List PyData}, DpAll K H vs ds → Dp K H v d → DpAll K H (vs ++ [v]) (ds ++ [d])
  | _, _, .nil, D => .cons D .nil
  | _, _, .cons a b, D => .cons a (DpAll.snoc b D)
theorem addT {K : PySem.W.Frag} {H : Hp} {vs us : List V} {ds es : List PyData} (B : DpAll K H vs ds) (A : DpAll K H us es) {t : Addr} (ht : H t = none) : DpAll K (upd H t (.tup us)) (vs ++ [.ref t]) (ds ++ [.tuple es]) :=
  DpAll.snoc (DpAll.ex (Ex.new ht) B) (mkT A ht)
theorem addL {K : PySem.W.Frag} {H : Hp} {vs us : List V} {ds es : List PyData} (B : DpAll K H vs ds) (A : DpAll K H us es) {t : Addr} (ht : H t = none) : DpAll K (upd H t (.lst us)) (vs ++ [.ref t]) (ds ++ [.list es]) :=
  DpAll.snoc (DpAll.ex (Ex.new ht) B) (mkL A ht)
/-- an item that is no bound -/
def Sh (n : Nat) (d : PyData) : Prop := d.canLay0 = true ∧ d.depth ≤ n
theorem Sh.all {n : Nat} : ∀ {ds : List PyData}, (∀ d ∈ ds, Sh n d) → PyData.canLayAll0 ds = true ∧ PyData.depthAll ds ≤ n
  | [], _ => ⟨by simp [PyData.canLayAll0], by simp [PyData.depthAll]⟩
  | d :: ds, h => by
    have a := h d List.mem_cons_self
    have b := Sh.all (ds := ds) fun x hx => h x (List.mem_cons_of_mem _ hx)
    refine ⟨?_, ?_⟩
    · rw [PyData.canLayAll0, a.1, b.1]
      rfl
    · rw [PyData.depthAll]
      exact Nat.max_le.mpr ⟨a.2, b.2⟩
theorem Sh.list {n : Nat} {ds : List PyData} (h : ∀ d ∈ ds, Sh n d) : Sh (n + 1) (.list ds) := ⟨by rw [PyData.canLay0]; exact (Sh.all h).1, by rw [PyData.depth]; exact Nat.succ_le_succ (Sh.all h).2⟩
theorem Sh.tuple {n : Nat} {ds : List PyData} (h : ∀ d ∈ ds, Sh n d) : Sh (n + 1) (.tuple ds) := ⟨by rw [PyData.canLay0]; exact (Sh.all h).1, by rw [PyData.depth]; exact Nat.succ_le_succ (Sh.all h).2⟩
theorem Sh.mono {n m : Nat} {d : PyData} (h : Sh n d) (l : n ≤ m) : Sh m d := ⟨h.1, Nat.le_trans h.2 l⟩
def OddD (d : PyData) : Prop := (isBoundD d = false ∧ szD d) ∧ Sh 8 d
theorem odd_4 {a b c e : PyData} (h : (isMostD a && (isNameD b && (isNameD c && (!sameD b c && isIntD e)))) = false) (z : ∀ d ∈ [a, b, c, e], szS d) : isBoundD (.tuple [a, b, c, e]) = false ∧ szD (.tuple [a, b, c, e]) := ⟨h, z⟩
def spOdd (K : PySem.W.Frag) : Sp := fun vs H Q _ => ∃ (v : V) (d : Row) (kind : Int), vs = [v, .int kind] ∧ RowAt H v d ∧ isNameS d.1 = true ∧ isNameS d.2.1 = true ∧ 0 ≤ kind ∧ kind < 22 ∧
  ∀ v' d' H', Ex H H' → Dp K H' v' d' → OddD d' → Q v' H'
section
variable {P : Program} {w : World} {K : PySem.W.Frag} {mg : Str → Option Value} {base : Heap}
theorem szS_small {z : Str} (h : z.length ≤ 100) : szS (.str z) := Nat.le_trans h (by decide)
theorem ok_law_odd {f : Addr} {fd : FuncData} (F : Fun K "_law_odd" "_law_odd" s_law_odd f fd) : FnOk P w K mg base CX0 1 f fd ["row", "kind"] (spOdd K) := by
  refine F.ok sc_law_odd (fun vs H Q E h => ?_) (fun cdv A outer s H vs Q E hr h => ?_)
  · obtain ⟨v, d, kind, rfl, _⟩ := h
    rfl
  · obtain ⟨v, ⟨x, y, k⟩, kind, rfl, ⟨p, rfl, hp⟩, hx, hy, k0, k22, q⟩ := h
    refine ⟨_, (pss_cons (ps_par3 (i := 2) (j := 3) (l := 4) rfl sc_law_odd.nd rfl rfl rfl (by decide) (by decide) (by decide) rfl rfl rfl (pa_cons (pe_ix ix_tup (pv 0) pe_int (fun _ _ => rfl)) (pa_cons (pe_ix ix_tup (pv 0) pe_int (fun _ _ => rfl)) (pa_cons (pe_ix ix_tup (pv 0) pe_int (fun _ _ => rfl)) pa_nil))) (by rfl))
        (pss_cons (ps_if (pt_cmpR op_lt (pv 1) pe_int (nomark _)) (pss_one (ps_ret (pe_ix ix_list (pe_lst (pa_cons (pe_tup (pa_cons pe_str (pa_cons (pv 2) pa_nil))) (pa_cons (pe_tup (pa_cons pe_str (pa_cons (pv 3) pa_nil))) (pa_cons (pe_tup (pa_cons pe_str (pa_cons (pv 2) (pa_cons (pv 2) (pa_cons (pv 4) pa_nil))))) (pa_cons (pe_tup (pa_cons pe_str (pa_cons (pv 2) (pa_cons (pv 3) pa_nil)))) (pa_cons (pe_tup (pa_cons pe_str (pa_cons (pv 2) (pa_cons (pv 3) (pa_cons (pv 4) (pa_cons (pv 4) pa_nil)))))) pa_nil)))))) (pv 1) (fun _ _ => rfl)))) pss_nil)
        (pss_cons (ps_if (pt_cmpR op_lt (pv 1) pe_int (nomark _)) (pss_one (ps_ret (pe_ix ix_list (pe_lst (pa_cons (pe_lst (pa_cons pe_str (pa_cons (pv 2) (pa_cons (pv 3) (pa_cons (pv 4) pa_nil))))) (pa_cons (pe_tup (pa_cons pe_str (pa_cons (pv 2) (pa_cons (pv 3) (pa_cons pe_non pa_nil))))) (pa_cons (pe_tup (pa_cons pe_str (pa_cons (pv 2) (pa_cons (pv 3) (pa_cons pe_str pa_nil))))) (pa_cons (pe_tup (pa_cons pe_str (pa_cons (pv 2) (pa_cons (pv 3) (pa_cons (pv 4) pa_nil))))) (pa_cons (pe_tup (pa_cons pe_str (pa_cons (pe_upper (pv 2)) (pa_cons (pv 3) (pa_cons (pv 4) pa_nil))))) pa_nil)))))) (pe_op op_sub (pv 1) pe_int) (fun _ _ => rfl)))) pss_nil)
        (pss_cons (ps_if (pt_cmpR op_lt (pv 1) pe_int (nomark _)) (pss_one (ps_ret (pe_ix ix_list (pe_lst (pa_cons (pe_tup (pa_cons pe_str (pa_cons (pv 2) (pa_cons pe_str (pa_cons (pv 4) pa_nil))))) (pa_cons (pe_tup (pa_cons pe_str (pa_cons (pv 2) (pa_cons (pe_op op_add_str (pv 3) pe_str) (pa_cons (pv 4) pa_nil))))) (pa_cons (pe_tup (pa_cons pe_str (pa_cons (pv 2) (pa_cons (pe_op op_add_str pe_str (pe_slice sl_str (pv 3) (po_some pe_int) po_none)) (pa_cons (pv 4) pa_nil))))) (pa_cons (pe_tup (pa_cons pe_str (pa_cons pe_int (pa_cons (pv 3) (pa_cons (pv 4) pa_nil))))) (pa_cons (pe_tup (pa_cons pe_str (pa_cons (pv 2) (pa_cons (pe_tup (pa_cons (pv 3) pa_nil)) (pa_cons (pv 4) pa_nil))))) pa_nil)))))) (pe_op op_sub (pv 1) pe_int) (fun _ _ => rfl)))) pss_nil)
        (pss_cons (ps_if (pt_cmpR op_lt (pv 1) pe_int (nomark _)) (pss_one (ps_ret (pe_ix ix_list (pe_lst (pa_cons pe_non (pa_cons pe_int (pa_cons pe_str (pa_cons (pe_tup pa_nil) (pa_cons (pe_tup (pa_cons pe_str (pa_cons (pe_op op_add_str (pv 2) pe_str) (pa_cons (pv 3) (pa_cons (pv 4) pa_nil))))) pa_nil)))))) (pe_op op_sub (pv 1) pe_int) (fun _ _ => rfl)))) pss_nil)
        (pss_one (ps_ret (pe_ix ix_list (pe_lst (pa_cons (pe_tup (pa_cons pe_str (pa_cons (pe_lst (pa_cons (pv 2) pa_nil)) (pa_cons (pv 3) (pa_cons (pv 4) pa_nil))))) (pa_cons (pe_tup (pa_cons pe_str (pa_cons (pv 2) (pa_cons (pv 3) (pa_cons pe_bl pa_nil))))) pa_nil))) (pe_op op_sub (pv 1) pe_int) (fun _ _ => rfl))))))))), ?_⟩
    obtain ⟨cx, rx, ex, lx, l8⟩ := nm_cons hx
    obtain ⟨cy, ry, ey, ly, m8⟩ := nm_cons hy
    dsimp only at hp hx hy ex ey l8 m8
    have zx : szS (.str x) := szS_small (by omega)
    have zy : szS (.str y) := szS_small (by omega)
    have zl : ∀ s : String, (Str.ofString s).length ≤ 100 → szS (.str s) := fun s h => szS_small h
    have zm : szS (.str "most") := zl "most" (by decide +kernel)
    have zm2 : szS (.str "least") := zl "least" (by decide +kernel)
    have zm3 : szS (.str "yes") := zl "yes" (by decide +kernel)
    have zm4 : szS (.str "no") := zl "no" (by decide +kernel)
    have z4 : szS (.str "4") := zl "4" (by decide +kernel)
    have z0 : szS (.str "") := zl "" (by decide +kernel)
    have sx : PyData.strOk x = true := sok_nm hx
    have sy : PyData.strOk y = true := sok_nm hy
    have su : PyData.strOk (Txt.upper x) = true := sok_upper hx
    have s1 : PyData.strOk (y ++ ("abcdefgh" : Str)) = true := sok_app sy (by decide +kernel)
    have s2 : PyData.strOk (("1" : Str) ++ cutS y (some 1) none) = true := sok_app (by decide +kernel) (sok_cut sy _ _)
    have s3 : PyData.strOk (x ++ ("-" : Str)) = true := sok_app sx (by decide +kernel)
    have w1 : PyData.strOk ("most" : Str) = true := by decide +kernel
    have w2 : PyData.strOk ("yes" : Str) = true := by decide +kernel
    have w3 : PyData.strOk ("no" : Str) = true := by decide +kernel
    have w4 : PyData.strOk ("least" : Str) = true := by decide +kernel
    have w5 : PyData.strOk ("4" : Str) = true := by decide +kernel
    have w6 : PyData.strOk ("" : Str) = true := by decide +kernel
    have zi : ∀ i : Int, szS (.int i) := fun _ => trivial
    have zn : szS .none := trivial
    have z2 : ∀ {a b : PyData}, szS a → szS b → ∀ d ∈ [a, b], szS d := fun h1 h2 d hd => by
      simp only [List.mem_cons, List.not_mem_nil, or_false] at hd
      rcases hd with rfl | rfl <;> assumption
    have z3 : ∀ {a b c : PyData}, szS a → szS b → szS c → ∀ d ∈ [a, b, c], szS d := fun h1 h2 h3 d hd => by
      simp only [List.mem_cons, List.not_mem_nil, or_false] at hd
      rcases hd with rfl | rfl | rfl <;> assumption
    have z44 : ∀ {a b c e : PyData}, szS a → szS b → szS c → szS e → ∀ d ∈ [a, b, c, e], szS d := fun h1 h2 h3 h4 d hd => by
      simp only [List.mem_cons, List.not_mem_nil, or_false] at hd
      rcases hd with rfl | rfl | rfl | rfl <;> assumption
    refine ⟨_, rfl, p, _, 1, _, rfl, rfl, SqT.of hp, at_lit (n := 1) rfl rfl, _, rfl, p, _, 2, _, rfl, rfl, SqT.of hp, at_lit (n := 2) rfl rfl, _, rfl, p, _, 3, _, rfl, rfl, SqT.of hp, at_lit (n := 3) rfl rfl, _, _, _, rfl, ?_⟩
    refine ⟨_, rfl, _, _, rfl, rfl, _, rfl, ?_⟩
    --BR
    refine ite2 (fun h1 => ?_) (fun h1 => ?_)
    · have k5 := of_decide_eq_true h1
      refine ⟨_, rfl, (by show 2 ≤ sizeLine; decide), fun t0 h0 => ?_⟩
      have ba0 := addT (K := K) DpAll.nil (.cons (.str ("yes" : Str)) (.cons (.str x) .nil)) h0
      refine ⟨_, rfl, (by show 2 ≤ sizeLine; decide), fun t1 h1 => ?_⟩
      have ba1 := addT (K := K) ba0 (.cons (.str ("no" : Str)) (.cons (.str y) .nil)) h1
      refine ⟨_, rfl, _, rfl, _, rfl, (by show 4 ≤ sizeLine; decide), fun t2 h2 => ?_⟩
      have ba2 := addT (K := K) ba1 (.cons (.str ("most" : Str)) (.cons (.str x) (.cons (.str x) (.cons (.int k) .nil)))) h2
      refine ⟨_, rfl, _, rfl, (by show 3 ≤ sizeLine; decide), fun t3 h3 => ?_⟩
      have ba3 := addT (K := K) ba2 (.cons (.str ("most" : Str)) (.cons (.str x) (.cons (.str y) .nil))) h3
      refine ⟨_, rfl, _, rfl, _, rfl, _, rfl, (by show 5 ≤ sizeLine; decide), fun t4 h4 => ?_⟩
      have ba4 := addT (K := K) ba3 (.cons (.str ("most" : Str)) (.cons (.str x) (.cons (.str y) (.cons (.int k) (.cons (.int k) .nil))))) h4
      refine ⟨(by show 5 ≤ sizeLine; decide), fun l hl => ⟨_, rfl, ?_⟩⟩
      refine pick upd_same (DpAll.ex (Ex.new hl) ba4) (by omega) (by show _ < ((5 : Nat) : Int); omega) fun v d hd D => q v d _ ((((((Ex.new h0).trans (Ex.new h1)).trans (Ex.new h2)).trans (Ex.new h3)).trans (Ex.new h4)).trans (Ex.new hl)) D ?_
      simp only [List.nil_append, List.cons_append, List.mem_cons, List.not_mem_nil, or_false] at hd
      rcases hd with rfl | rfl | rfl | rfl | rfl
      · refine ⟨?_, by simp [Sh, PyData.canLay0, PyData.canLayAll0, PyData.depth, PyData.depthAll, sx, sy, su, s1, s2, s3, w1, w2, w3, w4, w5, w6]⟩
        exact ⟨rfl, z2 zm3 zx⟩
      · refine ⟨?_, by simp [Sh, PyData.canLay0, PyData.canLayAll0, PyData.depth, PyData.depthAll, sx, sy, su, s1, s2, s3, w1, w2, w3, w4, w5, w6]⟩
        exact ⟨rfl, z2 zm4 zy⟩
      · refine ⟨?_, by simp [Sh, PyData.canLay0, PyData.canLayAll0, PyData.depth, PyData.depthAll, sx, sy, su, s1, s2, s3, w1, w2, w3, w4, w5, w6]⟩
        exact odd_4 (by simp [sameD]) (z44 zm zx zx (zi k))
      · refine ⟨?_, by simp [Sh, PyData.canLay0, PyData.canLayAll0, PyData.depth, PyData.depthAll, sx, sy, su, s1, s2, s3, w1, w2, w3, w4, w5, w6]⟩
        exact ⟨rfl, z3 zm zx zy⟩
      · refine ⟨?_, by simp [Sh, PyData.canLay0, PyData.canLayAll0, PyData.depth, PyData.depthAll, sx, sy, su, s1, s2, s3, w1, w2, w3, w4, w5, w6]⟩
        exact ⟨rfl, fun d hd => by
          simp only [List.mem_cons, List.not_mem_nil, or_false] at hd
          rcases hd with rfl | rfl | rfl | rfl | rfl
          · exact zm
          · exact zx
          · exact zy
          · exact zi k
          · exact zi k⟩
    have k5 : ¬ kind < 5 := fun z => h1 (decide_eq_true z)
    refine ⟨_, rfl, _, _, rfl, rfl, _, rfl, ?_⟩
    refine ite2 (fun h2 => ?_) (fun h2 => ?_)
    · have k10 := of_decide_eq_true h2
      refine ⟨_, rfl, _, rfl, _, rfl, (by show 4 ≤ sizeLine; decide), fun t0 h0 => ?_⟩
      have bb0 := addL (K := K) DpAll.nil (.cons (.str ("most" : Str)) (.cons (.str x) (.cons (.str y) (.cons (.int k) .nil)))) h0
      refine ⟨_, rfl, _, rfl, (by show 4 ≤ sizeLine; decide), fun t1 h1 => ?_⟩
      have bb1 := addT (K := K) bb0 (.cons (.str ("most" : Str)) (.cons (.str x) (.cons (.str y) (.cons .non .nil)))) h1
      refine ⟨_, rfl, _, rfl, (by show 4 ≤ sizeLine; decide), fun t2 h2 => ?_⟩
      have bb2 := addT (K := K) bb1 (.cons (.str ("most" : Str)) (.cons (.str x) (.cons (.str y) (.cons (.str ("4" : Str)) .nil)))) h2
      refine ⟨_, rfl, _, rfl, _, rfl, (by show 4 ≤ sizeLine; decide), fun t3 h3 => ?_⟩
      have bb3 := addT (K := K) bb2 (.cons (.str ("least" : Str)) (.cons (.str x) (.cons (.str y) (.cons (.int k) .nil)))) h3
      refine ⟨_, rfl, ⟨x, rfl⟩, x, rfl, rfl, (by omega), _, rfl, _, rfl, (by show 4 ≤ sizeLine; decide), fun t4 h4 => ?_⟩
      have bb4 := addT (K := K) bb3 (.cons (.str ("most" : Str)) (.cons (.str (Txt.upper x)) (.cons (.str y) (.cons (.int k) .nil)))) h4
      refine ⟨(by show 5 ≤ sizeLine; decide), fun l hl => ⟨_, rfl, _, _, rfl, rfl, ?_⟩⟩
      refine pick upd_same (DpAll.ex (Ex.new hl) bb4) (by omega) (by show _ < ((5 : Nat) : Int); omega) fun v d hd D => q v d _ ((((((Ex.new h0).trans (Ex.new h1)).trans (Ex.new h2)).trans (Ex.new h3)).trans (Ex.new h4)).trans (Ex.new hl)) D ?_
      simp only [List.nil_append, List.cons_append, List.mem_cons, List.not_mem_nil, or_false] at hd
      rcases hd with rfl | rfl | rfl | rfl | rfl
      · refine ⟨?_, by simp [Sh, PyData.canLay0, PyData.canLayAll0, PyData.depth, PyData.depthAll, sx, sy, su, s1, s2, s3, w1, w2, w3, w4, w5, w6]⟩
        exact ⟨rfl, trivial⟩
      · refine ⟨?_, by simp [Sh, PyData.canLay0, PyData.canLayAll0, PyData.depth, PyData.depthAll, sx, sy, su, s1, s2, s3, w1, w2, w3, w4, w5, w6]⟩
        exact odd_4 (by simp [isIntD, isIntLikeD]) (z44 zm zx zy zn)
      · refine ⟨?_, by simp [Sh, PyData.canLay0, PyData.canLayAll0, PyData.depth, PyData.depthAll, sx, sy, su, s1, s2, s3, w1, w2, w3, w4, w5, w6]⟩
        exact odd_4 (by simp [isIntD, isIntLikeD]) (z44 zm zx zy z4)
      · refine ⟨?_, by simp [Sh, PyData.canLay0, PyData.canLayAll0, PyData.depth, PyData.depthAll, sx, sy, su, s1, s2, s3, w1, w2, w3, w4, w5, w6]⟩
        exact odd_4 (by rw [show isMostD (.str "least") = false by decide +kernel, Bool.false_and]) (z44 zm2 zx zy (zi k))
      · refine ⟨?_, by simp [Sh, PyData.canLay0, PyData.canLayAll0, PyData.depth, PyData.depthAll, sx, sy, su, s1, s2, s3, w1, w2, w3, w4, w5, w6]⟩
        exact odd_4 (by rw [show isNameD (.str (Txt.upper x)) = false from no_upper hx]; simp) (z44 zm (szS_small (by have := PyProof.Rows.len_upper x; omega)) zy (zi k))
    have k10 : ¬ kind < 10 := fun z => h2 (decide_eq_true z)
    have le1 : ("abcdefgh" : Str).length = 8 := by decide +kernel
    have le2 : ("1" : Str).length = 1 := by decide +kernel
    have le3 : ("-" : Str).length = 1 := by decide +kernel
    have le4 : (cutS y (some 1) none).length ≤ y.length := by
      show (List.toArray _).size ≤ y.cps.size
      rw [List.size_toArray, List.length_take, List.length_drop, Array.length_toList]
      omega
    refine ⟨_, rfl, _, _, rfl, rfl, _, rfl, ?_⟩
    refine ite2 (fun h3 => ?_) (fun h3 => ?_)
    · have k15 := of_decide_eq_true h3
      refine ⟨_, rfl, _, rfl, (by show 4 ≤ sizeLine; decide), fun t0 h0 => ?_⟩
      have bc0 := addT (K := K) DpAll.nil (.cons (.str ("most" : Str)) (.cons (.str x) (.cons (.str ("" : Str)) (.cons (.int k) .nil)))) h0
      refine ⟨_, rfl, _, rfl, _, _, rfl, rfl, (by exact Nat.le_trans (by omega : _ ≤ 100) (by decide)), _, rfl, (by show 4 ≤ sizeLine; decide), fun t1 h1 => ?_⟩
      have bc1 := addT (K := K) bc0 (.cons (.str ("most" : Str)) (.cons (.str x) (.cons (.str (y ++ ("abcdefgh" : Str))) (.cons (.int k) .nil)))) h1
      refine ⟨_, rfl, _, rfl, _, rfl, y, rfl, (by exact Nat.le_trans (by omega : _ ≤ 100) (by decide)), _, _, rfl, rfl, (by exact Nat.le_trans (by omega : _ ≤ 100) (by decide)), _, rfl, (by show 4 ≤ sizeLine; decide), fun t2 h2 => ?_⟩
      have bc2 := addT (K := K) bc1 (.cons (.str ("most" : Str)) (.cons (.str x) (.cons (.str (("1" : Str) ++ cutS y (some 1) none)) (.cons (.int k) .nil)))) h2
      refine ⟨_, rfl, _, rfl, (by show 4 ≤ sizeLine; decide), fun t3 h3 => ?_⟩
      have bc3 := addT (K := K) bc2 (.cons (.str ("most" : Str)) (.cons (.int 3) (.cons (.str y) (.cons (.int k) .nil)))) h3
      refine ⟨_, rfl, _, rfl, (by show 1 ≤ sizeLine; decide), fun u4 g4 => ?_⟩
      have n4 := mkT (K := K) (DpAll.cons (.str y) .nil) g4
      refine ⟨_, rfl, (by show 4 ≤ sizeLine; decide), fun t4 h4 => ?_⟩
      have bc4 := addT (K := K) (DpAll.ex (Ex.new g4) bc3) (.cons (.str ("most" : Str)) (.cons (.str x) (.cons n4 (.cons (.int k) .nil)))) h4
      refine ⟨(by show 5 ≤ sizeLine; decide), fun l hl => ⟨_, rfl, _, _, rfl, rfl, ?_⟩⟩
      refine pick upd_same (DpAll.ex (Ex.new hl) bc4) (by omega) (by show _ < ((5 : Nat) : Int); omega) fun v d hd D => q v d _ (((((((Ex.new h0).trans (Ex.new h1)).trans (Ex.new h2)).trans (Ex.new h3)).trans (Ex.new g4)).trans (Ex.new h4)).trans (Ex.new hl)) D ?_
      simp only [List.nil_append, List.cons_append, List.mem_cons, List.not_mem_nil, or_false] at hd
      rcases hd with rfl | rfl | rfl | rfl | rfl
      · refine ⟨?_, by simp [Sh, PyData.canLay0, PyData.canLayAll0, PyData.depth, PyData.depthAll, sx, sy, su, s1, s2, s3, w1, w2, w3, w4, w5, w6]⟩
        exact odd_4 (by rw [show isNameD (.str "") = false from no_empty]; simp) (z44 zm zx z0 (zi k))
      · refine ⟨?_, by simp [Sh, PyData.canLay0, PyData.canLayAll0, PyData.depth, PyData.depthAll, sx, sy, su, s1, s2, s3, w1, w2, w3, w4, w5, w6]⟩
        exact odd_4 (by rw [show isNameD (.str (y ++ ("abcdefgh" : Str))) = false from no_long hy]; simp) (z44 zm zx (szS_small (by rw [Str.length_append]; omega)) (zi k))
      · refine ⟨?_, by simp [Sh, PyData.canLay0, PyData.canLayAll0, PyData.depth, PyData.depthAll, sx, sy, su, s1, s2, s3, w1, w2, w3, w4, w5, w6]⟩
        exact odd_4 (by rw [show isNameD (.str (("1" : Str) ++ cutS y (some 1) none)) = false from no_one _]; simp) (z44 zm zx (szS_small (by rw [Str.length_append]; omega)) (zi k))
      · refine ⟨?_, by simp [Sh, PyData.canLay0, PyData.canLayAll0, PyData.depth, PyData.depthAll, sx, sy, su, s1, s2, s3, w1, w2, w3, w4, w5, w6]⟩
        exact odd_4 (by simp [isNameD]) (z44 zm (zi 3) zy (zi k))
      · refine ⟨?_, by simp [Sh, PyData.canLay0, PyData.canLayAll0, PyData.depth, PyData.depthAll, sx, sy, su, s1, s2, s3, w1, w2, w3, w4, w5, w6]⟩
        exact odd_4 (by simp [isNameD]) (z44 zm zx trivial (zi k))
    have k15 : ¬ kind < 15 := fun z => h3 (decide_eq_true z)
    refine ⟨_, rfl, _, _, rfl, rfl, _, rfl, ?_⟩
    refine ite2 (fun h4 => ?_) (fun h4 => ?_)
    · have k20 := of_decide_eq_true h4
      have bd0 := DpAll.snoc (DpAll.nil (K := K) (H := H)) .non
      have bd1 := DpAll.snoc bd0 (.int 7)
      have bd2 := DpAll.snoc bd1 (.str ("most" : Str))
      refine ⟨(by show 0 ≤ sizeLine; decide), fun t3 h3 => ?_⟩
      have bd3 := addT (K := K) bd2 .nil h3
      refine ⟨_, rfl, _, _, rfl, rfl, (by exact Nat.le_trans (by omega : _ ≤ 100) (by decide)), _, rfl, _, rfl, (by show 4 ≤ sizeLine; decide), fun t4 h4 => ?_⟩
      have bd4 := addT (K := K) bd3 (.cons (.str ("most" : Str)) (.cons (.str (x ++ ("-" : Str))) (.cons (.str y) (.cons (.int k) .nil)))) h4
      refine ⟨(by show 5 ≤ sizeLine; decide), fun l hl => ⟨_, rfl, _, _, rfl, rfl, ?_⟩⟩
      refine pick upd_same (DpAll.ex (Ex.new hl) bd4) (by omega) (by show _ < ((5 : Nat) : Int); omega) fun v d hd D => q v d _ (((Ex.new h3).trans (Ex.new h4)).trans (Ex.new hl)) D ?_
      simp only [List.nil_append, List.cons_append, List.mem_cons, List.not_mem_nil, or_false] at hd
      rcases hd with rfl | rfl | rfl | rfl | rfl
      · refine ⟨?_, by simp [Sh, PyData.canLay0, PyData.canLayAll0, PyData.depth, PyData.depthAll, sx, sy, su, s1, s2, s3, w1, w2, w3, w4, w5, w6]⟩
        exact ⟨rfl, trivial⟩
      · refine ⟨?_, by simp [Sh, PyData.canLay0, PyData.canLayAll0, PyData.depth, PyData.depthAll, sx, sy, su, s1, s2, s3, w1, w2, w3, w4, w5, w6]⟩
        exact ⟨rfl, trivial⟩
      · refine ⟨?_, by simp [Sh, PyData.canLay0, PyData.canLayAll0, PyData.depth, PyData.depthAll, sx, sy, su, s1, s2, s3, w1, w2, w3, w4, w5, w6]⟩
        exact ⟨rfl, trivial⟩
      · refine ⟨?_, by simp [Sh, PyData.canLay0, PyData.canLayAll0, PyData.depth, PyData.depthAll, sx, sy, su, s1, s2, s3, w1, w2, w3, w4, w5, w6]⟩
        exact ⟨rfl, fun d hd => nomatch hd⟩
      · refine ⟨?_, by simp [Sh, PyData.canLay0, PyData.canLayAll0, PyData.depth, PyData.depthAll, sx, sy, su, s1, s2, s3, w1, w2, w3, w4, w5, w6]⟩
        exact odd_4 (by rw [show isNameD (.str (x ++ ("-" : Str))) = false from no_dash _]; simp) (z44 zm (szS_small (by rw [Str.length_append]; omega)) zy (zi k))
    have k20 : ¬ kind < 20 := fun z => h4 (decide_eq_true z)
    refine ⟨_, rfl, (by show 1 ≤ sizeLine; decide), fun u0 g0 => ?_⟩
    have n0 := mkL (K := K) (DpAll.cons (.str x) .nil) g0
    refine ⟨_, rfl, _, rfl, (by show 4 ≤ sizeLine; decide), fun t0 h0 => ?_⟩
    have be0 := addT (K := K) DpAll.nil (.cons (.str ("most" : Str)) (.cons n0 (.cons (.str y) (.cons (.int k) .nil)))) h0
    refine ⟨_, rfl, _, rfl, (by show 4 ≤ sizeLine; decide), fun t1 h1 => ?_⟩
    have be1 := addT (K := K) be0 (.cons (.str ("most" : Str)) (.cons (.str x) (.cons (.str y) (.cons (.bl true) .nil)))) h1
    refine ⟨(by show 2 ≤ sizeLine; decide), fun l hl => ⟨_, rfl, _, _, rfl, rfl, ?_⟩⟩
    refine pick upd_same (DpAll.ex (Ex.new hl) be1) (by omega) (by show _ < ((2 : Nat) : Int); omega) fun v d hd D => q v d _ ((((Ex.new g0).trans (Ex.new h0)).trans (Ex.new h1)).trans (Ex.new hl)) D ?_
    simp only [List.nil_append, List.cons_append, List.mem_cons, List.not_mem_nil, or_false] at hd
    rcases hd with rfl | rfl
    · refine ⟨?_, by simp [Sh, PyData.canLay0, PyData.canLayAll0, PyData.depth, PyData.depthAll, sx, sy, su, s1, s2, s3, w1, w2, w3, w4, w5, w6]⟩
      exact odd_4 (by simp [isNameD]) (z44 zm trivial zy (zi k))
    · refine ⟨?_, by simp [Sh, PyData.canLay0, PyData.canLayAll0, PyData.depth, PyData.depthAll, sx, sy, su, s1, s2, s3, w1, w2, w3, w4, w5, w6]⟩
      exact odd_4 (by simp [isIntD, isBoolD]) (z44 zm zx zy trivial)
end
end K7
set_option maxRecDepth 100000
set_option maxHeartbeats 8000000
namespace K7
open PySem L2 Evl
abbrev s_law_copy : Stmt := top 31
theorem sc_law_copy : FnScope ["bent", "copied", "item"] ["bent"] (defScope s_law_copy) := ⟨rfl, rfl, rfl, by decide +kernel, rfl, by decide +kernel, by decide +kernel⟩
structure TxtC (mg : Str → Option Value) : Prop where
  b_isinstance : mg "isinstance" = none
  b_list : mg "list" = none
def spCopy (K : PySem.W.Frag) : Sp := fun vs H Q _ => ∃ (v : V) (d : PyData), vs = [v] ∧ Dp K H v d ∧ szL d ∧ ∀ v' H', Ex H H' → Dp K H' v' d → Q v' H'
section
variable {P : Program} {w : World} {K : PySem.W.Frag} {mg : Str → Option Value} {base : Heap}
theorem DpAll.take {H : Hp} : ∀ {vs : List V} {ds : List PyData}, DpAll K H vs ds → ∀ {i : Nat}, DpAll K H (vs.take i) (ds.take i)
  | _, _, _, 0 => .nil
  | _, _, .nil, _ + 1 => .nil
  | _, _, .cons a b, _ + 1 => .cons a (DpAll.take b)
theorem DpAll.get2 {H : Hp} {vs : List V} {ds : List PyData} (h : DpAll K H vs ds) {i : Nat} {v : V} (e : vs[i]? = some v) : ∃ d, ds[i]? = some d ∧ Dp K H v d ∧ ds.take (i + 1) = ds.take i ++ [d] := by
  obtain ⟨d, h1, h2⟩ := DpAll.get h e
  exact ⟨d, h1, h2, by rw [List.take_add_one, h1]; rfl⟩
def rmH (H : Hp) (r : Addr) : Hp := fun a => if a = r then none else H a
theorem rm_ex {H : Hp} {r : Addr} : Ex (rmH H r) H := fun a x h => by
  unfold rmH at h
  by_cases e : a = r
  · rw [if_pos e] at h; cases h
  · rw [if_neg e] at h; exact h
theorem rm_of {H H' : Hp} {r : Addr} (e : Ex H H') (n : H r = none) : Ex H (rmH H' r) := fun a x h => by
  have ne : a ≠ r := fun z => by rw [z, n] at h; cases h
  show (if a = r then none else H' a) = some x
  rw [if_neg ne]
  exact e a x h
theorem rm_upd {H : Hp} {r : Addr} {o : HO} : rmH (upd H r o) r = rmH H r := by
  funext a
  unfold rmH
  by_cases e : a = r
  · rw [if_pos e, if_pos e]
  · rw [if_neg e, if_neg e, upd_ne e]
theorem rm_mono {H H' : Hp} {r : Addr} (e : Ex H H') : Ex (rmH H r) (rmH H' r) := fun a x h => by
  unfold rmH at h ⊢
  by_cases z : a = r
  · rw [if_pos z] at h; cases h
  · rw [if_neg z] at h ⊢; exact e a x h
theorem dp_list {H : Hp} {v : V} {d : PyData} (h : Dp K H v d) (e : isListD d = true) : ∃ a xs ds, v = .ref a ∧ d = .list ds ∧ SqL K H a xs ∧ DpAll K H xs ds := by
  cases h with
  | lst h a => exact ⟨_, _, _, rfl, rfl, h, a⟩
  | _ => simp [isListD] at e
theorem Ex.late {H H' : Hp} {r : Addr} {o o' : HO} (e : Ex H H') (n : H r = none) (h : H' r = some o) : Ex H (upd H' r o') := fun a x ha => by
  have ne : a ≠ r := fun z => by rw [z, n] at ha; cases ha
  rw [upd_ne ne]
  exact e a x ha
theorem ok_law_copy {f : Addr} {fd : FuncData} (F : Fun K "_law_copy" "_law_copy" s_law_copy f fd) (T : TxtC mg) : FnOk P w K mg base CX0 1 f fd ["bent"] (spCopy K) := by
  refine F.ok sc_law_copy (fun vs H Q E h => ?_) (fun cdv A outer s H vs Q E hr h => ?_)
  · obtain ⟨v, d, rfl, _⟩ := h
    rfl
  · obtain ⟨v, d, rfl, hd, hz, q⟩ := h
    refine ⟨_, (pss_cons (ps_if (pt_not (pt_val (pe_callB call_isi (by rfl) T.b_isinstance (by decide +kernel) (pa_cons (pv 0) (pa_cons (pe_bltn (v := .ty "list") (by rfl) T.b_list (by decide +kernel) rfl) pa_nil))))) (pss_one (ps_ret (pv 0))) pss_nil)
        (pss_cons (ps_set (i := 1) sc_law_copy.nd rfl (Or.inl rfl) (pe_lst pa_nil))
        (pss_cons (ps_for PassesOwn.never rfl (pi_list (pv 0)) (pg_name (i := 2) sc_law_copy.nd rfl (Or.inl rfl)) (pss_one (ps_if (pt_val (pe_callB call_isi (by rfl) T.b_isinstance (by decide +kernel) (pa_cons (pv 2) (pa_cons (pe_bltn (v := .ty "list") (by rfl) T.b_list (by decide +kernel) rfl) pa_nil)))) (pss_one (ps_expr (pe_bm PySem.F.plainAttrs_list PySem.F.slot_list_append PySem.F.type_list_append mt_append (pv 1) (pa_cons (pe_callTy call_list_of (by rfl) T.b_list (by decide +kernel) (pa_cons (pv 2) pa_nil)) pa_nil)))) (pss_one (ps_expr (pe_bm PySem.F.plainAttrs_list PySem.F.slot_list_append PySem.F.type_list_append mt_append (pv 1) (pa_cons (pv 2) pa_nil)))))))
        (pss_one (ps_ret (pv 1)))))), ?_⟩
    refine ⟨_, rfl, v, _, _, _, _, rfl, .ty "list", dp_ty hd, kit_list d, _, rfl, ?_⟩
    cases hd with
    | @lst a xs ds ha hall =>
      have hl := DpAll.len hall
      have hz2 : ds.length ≤ 1000 := hz.2
      refine iteF' rfl ?_
      refine ⟨(by show 0 ≤ sizeLine; decide), fun r hrn => ?_⟩
      have hrr : upd H r (.lst []) r = some (.lst []) := upd_same
      refine ⟨_, rfl, a, rfl, ⟨_, ex_l (Ex.new hrn) ha⟩, for_list (K := K) (a := a) (xs := xs) (fun i σ H' => (∃ u : Option V, σ = [some (.ref a), some (.ref r), u]) ∧ (∃ us : List V, H' r = some (.lst us) ∧ us.length ≤ i ∧ DpAll K (rmH H' r) us (ds.take i)) ∧ Ex H H')
        ⟨⟨none, rfl⟩, ⟨[], hrr, Nat.le_refl _, .nil⟩, Ex.new hrn⟩ (fun i σ H' _ p => ex_l p.2.2 ha) ?_ ?_⟩
      · rintro i y σ H' hi ⟨⟨u, rfl⟩, ⟨us, hru, hul, hus⟩, e⟩
        obtain ⟨d, hdi, hdd, htk⟩ := DpAll.get2 hall hi
        have hix := (List.getElem?_eq_some_iff.mp hi).1
        have hsz : us.length < sizeLine := Nat.lt_of_le_of_lt (by omega : _ ≤ 1000) (by decide)
        refine ⟨_, rfl, y, _, _, _, _, rfl, .ty "list", dp_ty (Dp.ex e hdd), kit_list d, _, rfl, ?_⟩
        by_cases hL : isListD d = true
        · obtain ⟨b, ys, es, rfl, rfl, hb, hys⟩ := dp_list hdd hL
          refine iteT' hL ⟨_, rfl, .inl ⟨rfl, _, SqL.of hru⟩, _, rfl, b, ys, rfl, .inl (ex_l e hb), fun l hl2 => ?_⟩
          have nl : l ≠ r := fun z => by rw [z, hru] at hl2; cases hl2
          have e2 := Ex.new (o := .lst ys) hl2
          have hru2 := e2 _ _ hru
          refine ⟨r, us, _, rfl, rfl, hru2, hsz, ⟨⟨_, rfl⟩, ⟨_, upd_same, by simp; omega, ?_⟩, Ex.late (e.trans e2) hrn hru2⟩⟩
          rw [rm_upd, htk]
          refine DpAll.snoc (DpAll.ex (rm_mono e2) hus) (.lst (SqL.of ?_) (DpAll.ex ((rm_of e hrn).trans (rm_mono e2)) hys))
          show (if l = r then none else upd H' l (.lst ys) l) = _
          rw [if_neg nl, upd_same]
        · refine iteF' (by simpa using hL) ⟨_, rfl, .inl ⟨rfl, _, SqL.of hru⟩, _, rfl, r, us, _, rfl, rfl, hru, hsz, ⟨⟨_, rfl⟩, ⟨_, upd_same, by simp; omega, ?_⟩, Ex.late e hrn hru⟩⟩
          rw [rm_upd, htk]
          exact DpAll.snoc hus (Dp.ex (rm_of e hrn) hdd)
      · rintro σ H' ⟨⟨u, rfl⟩, ⟨us, hru, hul, hus⟩, e⟩
        rw [hl, List.take_length] at hus
        exact ⟨_, rfl, q _ _ e (.lst (SqL.of hru) (DpAll.ex rm_ex hus))⟩
    | _ => first | (refine iteT' rfl ⟨_, rfl, q _ _ (Ex.refl _) ?_⟩; constructor; done) | (refine iteT' rfl ⟨_, rfl, q _ _ (Ex.refl _) ?_⟩; constructor <;> assumption)
end
end K7
set_option maxRecDepth 100000
set_option maxHeartbeats 8000000
namespace K7
open PySem L2 Evl
def NmsOk (xs : List Str) : Prop := ∀ z ∈ xs, isNameS z = true
theorem nm_len {z : Str} (h : isNameS z = true) : z.length ≤ 8 := by
  obtain ⟨_, _, _, _, l⟩ := nm_cons h
  exact l
theorem bd_bound {d : Row} (h1 : isNameS d.1 = true) (h2 : isNameS d.2.1 = true) (n : d.1 ≠ d.2.1) : isBoundD (bD d) = true := by
  show (isMostD (.str "most") && (isNameS d.1 && (isNameS d.2.1 && (!decide (d.1 = d.2.1) && isIntD (.int d.2.2))))) = true
  rw [h1, h2, show decide (d.1 = d.2.1) = false from decide_eq_false n, show isMostD (.str "most") = true by decide +kernel]
  rfl
theorem bd_loop {x : Str} {k : Int} : isBoundD (bD (x, x, k)) = false := by
  show (isMostD (.str "most") && (isNameS x && (isNameS x && (!decide (x = x) && isIntD (.int k))))) = false
  simp
theorem bd_sz {d : Row} (h1 : isNameS d.1 = true) (h2 : isNameS d.2.1 = true) : szD (bD d) := by
  intro x hx
  have l1 := nm_len h1
  have l2 := nm_len h2
  simp only [List.mem_cons, List.not_mem_nil, or_false] at hx
  rcases hx with rfl | rfl | rfl | rfl
  · exact szS_small (by decide +kernel)
  · exact szS_small (by omega)
  · exact szS_small (by omega)
  · trivial
theorem links_of : ∀ {ds : List Row}, (∀ (j : Nat) (d e : Row), ds[j]? = some d → ds[j + 1]? = some e → d.2.1 = e.1) → linksD (ds.map bD) = true
  | [], _ => rfl
  | [_], _ => rfl
  | d :: e :: r, h => by
    have l := links_of (ds := e :: r) fun j a b h1 h2 => h (j + 1) a b h1 h2
    show (decide (d.2.1 = e.1) && linksD ((e :: r).map bD)) = true
    rw [l, show decide (d.2.1 = e.1) = true from decide_eq_true (h 0 d e rfl rfl)]
    rfl
theorem no_links {a b : PyData} (h : linkD a b = false) : ∀ {A B : List PyData}, linksD (A ++ a :: b :: B) = false
  | [], B => by
    show (linkD a b && _) = false
    rw [h, Bool.false_and]
  | [x], B => by
    show (linkD x a && linksD (a :: b :: B)) = false
    rw [show linksD (a :: b :: B) = (linkD a b && linksD (b :: B)) from rfl, h, Bool.false_and, Bool.and_false]
  | x :: y :: A, B => by
    show (linkD x y && linksD (y :: A ++ a :: b :: B)) = false
    rw [no_links h (A := y :: A), Bool.and_false]
theorem no_chain_item {v d : PyData} (h : d ∈ (seqD v).getD []) (n : isBoundD d = false) : isChainD v = false := by
  unfold isChainD
  cases e : seqD v with
  | none => rfl
  | some ds =>
    rw [e] at h
    have : ds.all isBoundD = false := List.all_eq_false.mpr ⟨d, h, by rw [n]; decide⟩
    show (!ds.isEmpty && (ds.all isBoundD && linksD ds)) = false
    rw [this, Bool.false_and, Bool.and_false]
theorem no_chain_link {v : PyData} (h : linksD ((seqD v).getD []) = false) : isChainD v = false := by
  unfold isChainD
  cases e : seqD v with
  | none => rfl
  | some ds =>
    rw [e] at h
    show (!ds.isEmpty && (ds.all isBoundD && linksD ds)) = false
    rw [show linksD ds = false from h, Bool.and_false, Bool.and_false]
theorem no_chain_seq {v : PyData} (h : seqD v = none) : isChainD v = false := by
  unfold isChainD
  rw [h]
theorem no_chain_nil {v : PyData} (h : seqD v = some []) : isChainD v = false := by
  unfold isChainD
  rw [h]
  rfl
theorem rows_bound {xs : List Str} {ds : List Row} (N : NmsOk xs) (R : RowsOk xs ds) : ∀ d ∈ ds, isBoundD (bD d) = true := fun d hd =>
  bd_bound (N _ (R.n1 d hd).1) (N _ (R.n1 d hd).2.1) (R.n1 d hd).2.2
theorem rows_chain {xs : List Str} {ds : List Row} (N : NmsOk xs) (R : RowsOk xs ds) {v : PyData} (h : seqD v = some (ds.map bD)) : isChainD v = true := by
  unfold isChainD
  rw [h]
  show (!(ds.map bD).isEmpty && ((ds.map bD).all isBoundD && linksD (ds.map bD))) = true
  rw [links_of R.ln, show (ds.map bD).all isBoundD = true from ?_, show (ds.map bD).isEmpty = false from ?_]
  · rfl
  · cases ds with
    | nil => exact absurd rfl R.ne
    | cons d r => rfl
  · rw [List.all_map]
    exact List.all_eq_true.mpr fun d hd => rows_bound N R d hd
theorem rows_sz {xs : List Str} {ds : List Row} (N : NmsOk xs) (R : RowsOk xs ds) {v : PyData} (h : seqD v = some (ds.map bD)) : szL v := by
  unfold szL
  rw [h]
  refine ⟨fun x hx => ?_, ?_⟩
  · obtain ⟨d, hd, rfl⟩ := List.mem_map.mp (show x ∈ ds.map bD from hx)
    exact bd_sz (N _ (R.n1 d hd).1) (N _ (R.n1 d hd).2.1)
  · show (ds.map bD).length ≤ 1000
    rw [List.length_map]
    have := R.le
    omega
theorem cut_take (vs : List V) (i : Nat) (h : i ≤ vs.length) : cutV vs none (some (i : Int)) = vs.take i := by
  unfold cutV
  rw [HT.sIx_nat, HT.sIx_none, Nat.min_eq_left h, Nat.sub_zero, List.drop_zero]
theorem cut_drop (vs : List V) (i : Nat) (h : i ≤ vs.length) : cutV vs (some (i : Int)) none = vs.drop i := by
  unfold cutV
  rw [HT.sIx_nat, HT.sIx_none, Nat.min_eq_left h]
  exact List.take_of_length_le (by rw [List.length_drop]; omega)
theorem DpAll.drop {K : PySem.W.Frag} {H : Hp} : ∀ {vs : List V} {ds : List PyData}, DpAll K H vs ds → ∀ {i : Nat}, DpAll K H (vs.drop i) (ds.drop i)
  | _, _, h, 0 => h
  | _, _, .nil, _ + 1 => .nil
  | _, _, .cons _ b, _ + 1 => DpAll.drop b
theorem DpAll.app {K : PySem.W.Frag} {H : Hp} : ∀ {vs us : List V} {ds es : List PyData}, DpAll K H vs ds → DpAll K H us es → DpAll K H (vs ++ us) (ds ++ es)
  | _, _, _, _, .nil, b => b
  | _, _, _, _, .cons x a, b => .cons x (DpAll.app a b)
end K7
set_option maxRecDepth 100000
set_option maxHeartbeats 8000000
namespace K7
open PySem L2 Evl
abbrev s_law_bent : Stmt := top 30
theorem sc_law_bent : FnScope ["box", "rows", "kind", "at", "bent", "row"] ["box", "rows"] (defScope s_law_bent) := ⟨rfl, rfl, rfl, by decide +kernel, rfl, by decide +kernel, by decide +kernel⟩
def rListOf (K : PySem.W.Frag) : List V → Hp → VK → Prop := fun xs H Q => ∃ p ys, xs = [.ref p] ∧ (SqL K H p ys ∨ SqT K H p ys) ∧ ∀ l, H l = none → Q (.ref l) (upd H l (.lst ys))
structure TxtN (P : Program) (K : PySem.W.Frag) (mg : Str → Option Value) (fM fK fF fS fO : Addr) : Prop extends TxtD P K mg fM fK fF fS where
  b_tuple : mg "tuple" = none
  f__law_odd : mg "_law_odd" = some (.ref fO)
  k__law_odd : PySem.W.keepIn K (.ref fO) = true
def spBent (K : PySem.W.Frag) : Sp := fun vs H Q _ => ∃ (b r : Addr) (n : Nat) (xs : List Str) (us : List V) (ds : List Row), vs = [.ref b, .ref r] ∧ Bx b n H ∧ n + 5 ≤ 1000000 ∧ r ≠ b ∧ H r = some (.lst us) ∧ RowsAt H us ds ∧ RowsOk xs ds ∧ NmsOk xs ∧
  ∀ v' d' H', Dp K H' v' d' → isChainD d' = false → (szL d' ∧ Sh 20 d') → Kp b H H' → Bx b (n + 5) H' → Q v' H'
section
variable {P : Program} {w : World} {K : PySem.W.Frag} {mg : Str → Option Value} {base : Heap} {fM fK fF fS fO : Addr} {fdM fdK fdF fdS fdO : FuncData}
theorem rowAt_get {H : Hp} {us : List V} {ds : List Row} (R : RowsAt H us ds) {i : Nat} (h : i < us.length) : ∃ v d, us[i]? = some v ∧ ds[i]? = some d ∧ RowAt H v d := by
  have hl := R.1
  have e1 : us[i]? = some us[i] := by simp [h]
  have e2 : ds[i]? = some ds[i] := by simp [show i < ds.length by omega]
  exact ⟨_, _, e1, e2, R.2 i _ _ e1 e2⟩
theorem rows_at1 {H H' : Hp} {v : V} {d : Row} (h : RowAt H v d) (e : Ex H H') : RowAt H' v d := by
  obtain ⟨p, e1, hp⟩ := h
  exact ⟨p, e1, e _ _ hp⟩
theorem rows_ex {H H' : Hp} {vs : List V} {ds : List Row} (h : RowsAt H vs ds) (e : Ex H H') : RowsAt H' vs ds := h.keep (TK.ex e)
theorem RowAt.keep {H H' : Hp} {v : V} {d : Row} (h : RowAt H v d) (t : TK H H') : RowAt H' v d := by
  obtain ⟨p, e1, hp⟩ := h
  exact ⟨p, e1, t _ _ hp⟩
def lD (d : Row) : PyData := .list [.str "most", .str d.1, .str d.2.1, .int d.2.2]
theorem lcRows {J : It} {G : Hp → Prop} {te : TE} {σ : L2.St} {H1 : Hp} {us : List V} {ds : List Row} (w : Walk J us.length G (YAt us)) {j : Nat} {vs : List Nat} (hz : us.length ≤ 1000) (hG : ∀ H', Ex H1 H' → G H')
    (hw : ∀ v, wipe ((wipe σ vs).set j (some v)) vs = wipe σ vs) (R : RowsAt H1 us ds)
    (he : ∀ (p : Addr) (d : Row), d ∈ ds → ∀ H', H' p = some (.tup [.str "most", .str d.1, .str d.2.1, .int d.2.2]) → ∀ Q : VK, (∀ l, H' l = none → Q (.ref l) (upd H' l (.lst [.str "most", .str d.1, .str d.2.1, .int d.2.2]))) → te ((wipe σ vs).set j (some (.ref p))) H' Q)
    {Qd : Hp → Prop} {D : Addr} (hD : H1 D = none) (k : ∀ H' acc, Ex H1 H' → H' D = some (.lst acc) → DpAll K H' acc (ds.map lD) → Qd H') :
    ∃ W : Nat → Nat → Hp → Prop, (∃ m, W 0 m (upd H1 D (.lst []))) ∧ ∀ i m H, W i m H →
      (J.stop i H ∧ Qd H) ∨ (J.go i H ∧ ∃ Nx : Hp → Prop, (∀ H', Nx H' → ∃ m', m' < m ∧ W (i + 1) m' H') ∧ ∀ x H', J.yld i H x H' → gName j x (wipe σ vs) H' fun σ2 H2 => wipe σ2 vs = wipe σ vs ∧ tYes σ2 H2 fun b H3 =>
        if b = true then te σ2 H3 fun y H4 => ∃ acc, H4 D = some (.lst acc) ∧ acc.length < sizeLine ∧ Nx (upd H4 D (.lst (acc ++ [y]))) else Nx H3) := by
  refine lc_it w (fun i H => Ex H1 H ∧ ∃ acc : List V, H D = some (.lst acc) ∧ acc.length ≤ i ∧ DpAll K (rmH H D) acc ((ds.map lD).take i)) ⟨Ex.new hD, [], upd_same, Nat.le_refl _, .nil⟩ (fun i H _ p => hG H p.1) ?_ (fun H p => ?_)
  · rintro i x H H' hi ⟨e, acc, ha, hal, A⟩ ⟨rfl, hx⟩
    obtain ⟨v, d, h1, h2, hp⟩ := rowAt_get R hi
    rw [hx] at h1
    cases h1
    obtain ⟨p, rfl, hp⟩ := hp
    have hpH := e _ _ hp
    unfold gName tYes
    dsimp only
    refine ⟨hw _, ?_⟩
    rw [if_pos rfl]
    refine he p d (List.mem_of_getElem? h2) H' hpH _ fun l hl => ?_
    have nl : l ≠ D := fun z => by rw [z, ha] at hl; cases hl
    have e2 := Ex.new (o := .lst [.str "most", .str d.1, .str d.2.1, .int d.2.2]) hl
    have ha2 := e2 _ _ ha
    refine ⟨acc, ha2, Nat.lt_of_le_of_lt (by omega : _ ≤ 1000) (by decide), Ex.late (e.trans e2) hD ha2, _, upd_same, by simp; omega, ?_⟩
    rw [rm_upd, List.take_add_one, show (ds.map lD)[i]? = some (lD d) by rw [List.getElem?_map, h2]; rfl]
    refine DpAll.snoc (DpAll.ex (rm_mono e2) A) (.lst (SqL.of ?_) (.cons (.str _) (.cons (.str _) (.cons (.str _) (.cons (.int _) .nil)))))
    show (if l = D then none else upd H' l (.lst _) l) = _
    rw [if_neg nl, upd_same]
  · obtain ⟨e, acc, ha, hal, A⟩ := p
    rw [R.1, show ds.length = (ds.map lD).length by simp, List.take_length] at A
    exact k H acc e ha (DpAll.ex rm_ex A)
theorem sok_most : PyData.strOk ("most" : Str) = true := by decide +kernel
theorem sok_empty : PyData.strOk ("" : Str) = true := by decide +kernel
theorem sok_xy : PyData.strOk ("x-y<=1" : Str) = true := by decide +kernel
theorem sh_row {d : Row} {n : Nat} (h1 : isNameS d.1 = true) (h2 : isNameS d.2.1 = true) : Sh (n + 1) (bD d) := by
  have s1 := sok_nm h1
  have s2 := sok_nm h2
  simp [bD, Sh, PyData.canLay0, PyData.canLayAll0, PyData.depth, PyData.depthAll, s1, s2, sok_most]
theorem sh_rows {xs : List Str} {ds : List Row} {n : Nat} (N : NmsOk xs) (O : RowsOk xs ds) : ∀ x ∈ ds.map bD, Sh (n + 1) x := fun x hx => by
  obtain ⟨d, hd, rfl⟩ := List.mem_map.mp hx
  exact sh_row (N _ (O.n1 d hd).1) (N _ (O.n1 d hd).2.1)
theorem ok_law_bent {f : Addr} {fd : FuncData} (F : Fun K "_law_bent" "_law_bent" s_law_bent f fd) (T : TxtN P K mg fM fK fF fS fO) (D : FD K fM fK fF fS fdM fdK fdF fdS)
    (FO : Fun K "_law_odd" "_law_odd" s_law_odd fO fdO) (B__law_odd : Binds K fdO ["row", "kind"] []) : FnOk P w K mg base CX0 3 f fd ["box", "rows"] (spBent K) := by
  have G__law_take : FnOk P w K mg base CX0 2 fK fdK ["box", "size"] spTake := ok_law_take D.FK T.toTxtD D.FM D.BM
  have B__law_take := D.BK
  have G__law_odd : FnOk P w K mg base CX0 1 fO fdO ["row", "kind"] (spOdd K) := ok_law_odd FO
  refine F.ok sc_law_bent (fun vs H Q E h => ?_) (fun cdv A outer s H vs Q E hr h => ?_)
  · obtain ⟨b, r, n, xs, us, ds, rfl, _⟩ := h
    rfl
  · obtain ⟨b, r, n, xs, us, ds, rfl, X, hn, hrb, hr0, R, O, N, q⟩ := h
    refine ⟨_, (pss_cons (ps_set (i := 2) sc_law_bent.nd rfl (Or.inl rfl) (pe_call G__law_take (hr.mono (by decide)) rfl T.f__law_take T.k__law_take B__law_take .nil pass0 (pa_cons (pv 0) (pa_cons pe_int pa_nil))))
        (pss_cons (ps_set (i := 3) sc_law_bent.nd rfl (Or.inl rfl) (pe_call G__law_take (hr.mono (by decide)) rfl T.f__law_take T.k__law_take B__law_take .nil pass0 (pa_cons (pv 0) (pa_cons (pe_callB call_len_seq (by rfl) T.b_len (by decide +kernel) (pa_cons (pv 1) pa_nil)) pa_nil))))
        (pss_cons (ps_if (pt_cmpR op_lt (pv 2) pe_int (nomark _)) (pss_cons (ps_set (i := 4) sc_law_bent.nd rfl (Or.inl rfl) (pe_op op_cat (pe_op op_cat (pe_slice sl_list (pv 1) po_none (po_some (pv 3))) (pe_lst (pa_cons (pe_call G__law_odd (hr.mono (by decide)) rfl T.f__law_odd T.k__law_odd B__law_odd .nil pass0 (pa_cons (pe_ix ix_list (pv 1) (pv 3) (fun _ _ => rfl)) (pa_cons (pe_call G__law_take (hr.mono (by decide)) rfl T.f__law_take T.k__law_take B__law_take .nil pass0 (pa_cons (pv 0) (pa_cons pe_int pa_nil))) pa_nil))) pa_nil))) (pe_slice sl_list (pv 1) (po_some (pe_op op_add (pv 3) pe_int)) po_none)))
        (pss_cons (ps_if (pt_cmpR op_lt (pv 2) pe_int (nomark _)) (pss_one (ps_ret (pe_callTy call_tuple_of (by rfl) T.b_tuple (by decide +kernel) (pa_cons (pv 4) pa_nil)))) pss_nil)
        (pss_one (ps_ret (pv 4))))) pss_nil)
        (pss_cons (ps_if (PW.pt (pw_and (pt_cmpR op_eq (pv 2) pe_int (nomark _)) (pw_and1 (pt_cmpR op_eq (pe_callB call_len_seq (by rfl) T.b_len (by decide +kernel) (pa_cons (pv 1) pa_nil)) pe_int (nomark _))))) (pss_one (ps_ret (pe_tup (pa_cons (pe_ix ix_list (pv 1) pe_int (fun _ _ => rfl)) (pa_cons (pe_ix ix_list (pv 1) pe_int (fun _ _ => rfl)) pa_nil))))) pss_nil)
        (pss_cons (ps_if (pt_cmpR op_eq (pv 2) pe_int (nomark _)) (pss_one (ps_ret (pe_callTy call_tuple_of (by rfl) T.b_tuple (by decide +kernel) (pa_cons (pe_op op_cat (pe_op op_cat (pe_slice sl_list (pv 1) po_none (po_some (pv 3))) (pe_lst (pa_cons (pe_tup (pa_cons pe_str (pa_cons (pe_ix ix_tup (pe_ix ix_list (pv 1) (pv 3) (fun _ _ => rfl)) pe_int (fun _ _ => rfl)) (pa_cons (pe_ix ix_tup (pe_ix ix_list (pv 1) (pv 3) (fun _ _ => rfl)) pe_int (fun _ _ => rfl)) (pa_cons (pe_ix ix_tup (pe_ix ix_list (pv 1) (pv 3) (fun _ _ => rfl)) pe_int (fun _ _ => rfl)) pa_nil))))) pa_nil))) (pe_slice sl_list (pv 1) (po_some (pe_op op_add (pv 3) pe_int)) po_none)) pa_nil)))) pss_nil)
        (pss_cons (ps_if (pt_cmpR op_eq (pv 2) pe_int (nomark _)) (pss_one (ps_ret (pe_lc (own := [("row", 5)]) (g := gName 5) (tt := tYes) (te := tCB (rListOf K) (tCons (tVar 5) tNil)) rfl sc_law_bent.nd (pi_list (pv 1)) (blkOk_by (N := ["box", "rows", "kind", "at", "bent", "row"]) (sc := defScope s_law_bent) (by decide +kernel)) (fun _ _ _ _ _ => (pg_name (i := 5) sc_law_bent.nd rfl (Or.inl rfl))) (fun _ _ _ _ _ => pts_nil) (fun _ _ _ _ _ => (pe_callTy call_list_of (by rfl) T.b_list (by decide +kernel) (pa_cons (pv 5) pa_nil)))))) pss_nil)
        (pss_one (ps_ret (pe_ix ix_list (pe_lst (pa_cons (pe_lst pa_nil) (pa_cons (pe_tup pa_nil) (pa_cons (pe_ix ix_list (pv 1) (pv 3) (fun _ _ => rfl)) (pa_cons pe_non (pa_cons pe_int (pa_cons pe_str (pa_cons (pe_lst (pa_cons (pe_callTy call_list_of (by rfl) T.b_list (by decide +kernel) (pa_cons (pv 1) pa_nil)) pa_nil)) (pa_cons pe_str pa_nil))))))))) (pe_op op_sub (pv 2) pe_int) (fun _ _ => rfl)))))))))), ?_⟩
    have hlen := R.1
    have hle := O.le
    have hpos : 0 < ds.length := List.length_pos_iff.mpr O.ne
    have sz : ∀ k : Nat, k ≤ 1000 → k ≤ sizeLine := fun k h => Nat.le_trans h (by decide)
    refine ⟨_, rfl, b, 14, n, rfl, X, by omega, by decide, by decide, fun kind H1 k1 X1 c0 c1 => ?_⟩
    refine ⟨_, rfl, _, rfl, r, us, rfl, .inl (SqL.of (k1.at hrb hr0)), b, _, _, rfl, X1, by omega, by omega, by omega, fun at_ H2 k2 X2 a0 a1 => ?_⟩
    obtain ⟨i, rfl⟩ := Int.eq_ofNat_of_zero_le a0
    have hi : i < us.length := by omega
    have kk := k1.trans k2
    have hr2 := kk.at hrb hr0
    have R2 : RowsAt H2 us ds := R.keep (kk.tup X)
    obtain ⟨v, d, hv, hd, hvd⟩ := rowAt_get R2 hi
    have hdm : d ∈ ds := List.mem_of_getElem? hd
    have hnm := O.n1 d hdm
    have nx := N _ hnm.1
    have ny := N _ hnm.2.1
    refine ⟨_, rfl, _, _, rfl, rfl, _, rfl, ?_⟩
    refine ite2 (fun h4 => ?_) (fun h4 => ?_)
    · refine ⟨_, rfl, _, rfl, _, rfl, r, us, rfl, SqL.of hr2, fun p1 hp1 => ?_⟩
      rw [cut_take us i (by omega)]
      have e1 := Ex.new (o := .lst (us.take i)) hp1
      have n1 := X2.ne hp1
      refine ⟨_, rfl, _, rfl, r, us, _, v, rfl, rfl, SqL.of (e1 _ _ hr2), at_lit rfl hv, _, rfl, b, 22, _, rfl, X2.ex e1, by omega, by decide, by decide, fun kd H3 k3 X3 z0 z1 => ?_⟩
      refine ⟨v, d, kd, rfl, (rows_at1 hvd e1).keep (k3.tup (X2.ex e1)), nx, ny, z0, z1, fun v' d' H4 e4 D4 O4 => ?_⟩
      refine ⟨(by show 1 ≤ sizeLine; decide), fun p2 hp2 => ?_⟩
      have e5 := Ex.new (o := .lst [v']) hp2
      have g1 : upd H4 p2 (.lst [v']) p1 = some (.lst (us.take i)) := e5 _ _ (e4 _ _ (k3.at n1 upd_same))
      refine ⟨p1, p2, _, _, rfl, rfl, g1, upd_same, sz _ (by simp; omega), fun p3 hp3 => ?_⟩
      have e6 := Ex.new (o := .lst (us.take i ++ [v'])) hp3
      have gr : ∀ H', Ex H4 H' → H' r = some (.lst us) := fun H' e => e _ _ (e4 _ _ (k3.at hrb (e1 _ _ hr2)))
      refine ⟨_, rfl, _, rfl, _, _, rfl, rfl, _, rfl, r, us, rfl, SqL.of (gr _ (e5.trans e6)), fun p4 hp4 => ?_⟩
      rw [show ((i : Int) + 1) = ((i + 1 : Nat) : Int) by omega, cut_drop us (i + 1) (by omega)] at *
      have e7 := Ex.new (o := .lst (us.drop (i + 1))) hp4
      refine ⟨p3, p4, _, _, rfl, rfl, e7 _ _ upd_same, upd_same, sz _ (by simp; omega), fun p5 hp5 => ?_⟩
      have e8 := Ex.new (o := .lst ((us.take i ++ [v']) ++ us.drop (i + 1))) hp5
      have eN := ((e5.trans e6).trans e7).trans e8
      have R3 : RowsAt H3 us ds := (rows_ex R2 e1).keep (k3.tup (X2.ex e1))
      have A4 : DpAll K H4 us (ds.map bD) := DpAll.ex e4 R3.dp
      have A5 := DpAll.ex eN (DpAll.app (DpAll.app (DpAll.take A4 (i := i)) (.cons D4 .nil)) (DpAll.drop A4 (i := i + 1)))
      have kN := (((kk.trans (Kp.ex e1)).trans k3).trans (Kp.ex e4)).trans (Kp.ex eN)
      have XN := (X3.ex e4).ex eN
      have nc : isChainD (.list ((ds.map bD).take i ++ [d'] ++ (ds.map bD).drop (i + 1))) = false := no_chain_item (d := d') (by simp [seqD]) O4.1.1
      have shn : ∀ x ∈ (ds.map bD).take i ++ [d'] ++ (ds.map bD).drop (i + 1), Sh 19 x := fun x hx => by
        rcases List.mem_append.mp hx with hx | hx
        · rcases List.mem_append.mp hx with hx | hx
          · exact sh_rows N O x (List.mem_of_mem_take hx)
          · rw [List.mem_singleton.mp hx]; exact O4.2.mono (by decide)
        · exact sh_rows N O x (List.mem_of_mem_drop hx)
      have szn : szL (.list ((ds.map bD).take i ++ [d'] ++ (ds.map bD).drop (i + 1))) := by
        refine ⟨fun x hx => ?_, ?_⟩
        · rcases List.mem_append.mp (show x ∈ (ds.map bD).take i ++ [d'] ++ (ds.map bD).drop (i + 1) from hx) with hx | hx
          · rcases List.mem_append.mp hx with hx | hx
            · exact (rows_sz N O (v := .list (ds.map bD)) rfl).1 x (List.mem_of_mem_take hx)
            · rw [List.mem_singleton.mp hx]; exact O4.1.2
          · exact (rows_sz N O (v := .list (ds.map bD)) rfl).1 x (List.mem_of_mem_drop hx)
        · show ((ds.map bD).take i ++ [d'] ++ (ds.map bD).drop (i + 1)).length ≤ 1000
          simp
          omega
      refine ⟨_, rfl, _, _, rfl, rfl, _, rfl, ?_⟩
      refine ite2 (fun h2 => ?_) (fun h2 => ?_)
      · refine ⟨_, rfl, p5, _, rfl, .inl ⟨SqL.of upd_same, fun p6 hp6 => ?_⟩⟩
        have e9 := Ex.new (o := .tup ((us.take i ++ [v']) ++ us.drop (i + 1))) hp6
        exact q _ (.tuple _) _ (.tup (SqT.of upd_same) (DpAll.ex e9 A5)) nc ⟨szn, Sh.tuple shn⟩ (kN.trans (Kp.ex e9)) ((XN.ex e9).mono (by omega))
      · exact ⟨_, rfl, q _ (.list _) _ (.lst (SqL.of upd_same) A5) nc ⟨szn, Sh.list shn⟩ kN (XN.mono (by omega))⟩
    · refine ⟨_, rfl, rfl, _, rfl, ?_⟩
      refine ite2 (fun hk4 => ?_) (fun hk4 => iteF ?_)
      · refine ⟨_, rfl, r, us, rfl, .inl (SqL.of hr2), rfl, _, rfl, ?_⟩
        refine ite2 (fun hl1 => ?_) (fun hl1 => ?_)
        · obtain ⟨v0, d0, g1, g2, p0, rfl, hp0⟩ := rowAt_get R2 (i := 0) (by omega)
          refine ⟨_, rfl, r, us, 0, _, rfl, rfl, SqL.of hr2, at_lit (n := 0) rfl g1, _, rfl, r, us, 0, _, rfl, rfl, SqL.of hr2, at_lit (n := 0) rfl g1, (by show 2 ≤ sizeLine; decide), fun p hp => ?_⟩
          have e1 := Ex.new (o := .tup [.ref p0, .ref p0]) hp
          have hd0 := List.mem_of_getElem? g2
          have D0 : Dp K H2 (.ref p0) (bD d0) := .tup (SqT.of hp0) (.cons (.str _) (.cons (.str _) (.cons (.str _) (.cons (.int _) .nil))))
          refine q _ (.tuple [bD d0, bD d0]) _ (.tup (SqT.of upd_same) (.cons (Dp.ex e1 D0) (.cons (Dp.ex e1 D0) .nil))) ?_ ?_ (kk.trans (Kp.ex e1)) ((X2.ex e1).mono (by omega))
          · refine no_chain_link ?_
            refine no_links (A := []) (B := []) ?_
            exact decide_eq_false fun z => (O.n1 d0 hd0).2.2 z.symm
          · refine ⟨⟨fun x hx => ?_, by show 2 ≤ 1000; decide⟩, Sh.tuple (n := 19) fun x hx => by
              simp only [List.mem_cons, List.not_mem_nil, or_false, or_self] at hx
              rw [hx]
              exact sh_row (N _ (O.n1 d0 hd0).1) (N _ (O.n1 d0 hd0).2.1)⟩
            have : x = bD d0 := by
              simp only [seqD, Option.getD_some, List.mem_cons, List.not_mem_nil, or_false, or_self] at hx
              exact hx
            rw [this]
            exact bd_sz (N _ (O.n1 d0 hd0).1) (N _ (O.n1 d0 hd0).2.1)
        · refine ⟨_, rfl, rfl, _, rfl, iteT' hk4 ?_⟩
          have hl2 : us.length ≠ 1 := fun z => hl1 (decide_eq_true (by rw [z]; rfl))
          obtain ⟨pr, rfl, hpr⟩ := hvd
          refine ⟨_, rfl, _, rfl, _, rfl, r, us, rfl, SqL.of hr2, fun p1 hp1 => ?_⟩
          rw [cut_take us i (by omega)]
          have e1 := Ex.new (o := .lst (us.take i)) hp1
          have hr3 := e1 _ _ hr2
          have hpr3 := e1 _ _ hpr
          refine ⟨_, rfl, _, rfl, r, us, _, _, rfl, rfl, SqL.of hr3, at_lit rfl hv, pr, _, 2, _, rfl, rfl, SqT.of hpr3, at_lit (n := 2) rfl rfl, _, rfl, _, rfl, r, us, _, _, rfl, rfl, SqL.of hr3, at_lit rfl hv, pr, _, 1, _, rfl, rfl, SqT.of hpr3, at_lit (n := 1) rfl rfl,
            _, rfl, _, rfl, r, us, _, _, rfl, rfl, SqL.of hr3, at_lit rfl hv, pr, _, 3, _, rfl, rfl, SqT.of hpr3, at_lit (n := 3) rfl rfl, (by show 4 ≤ sizeLine; decide), fun pt hpt => ?_⟩
          have e2 := Ex.new (o := .tup [.str "most", .str d.2.1, .str d.1, .int d.2.2]) hpt
          refine ⟨(by show 1 ≤ sizeLine; decide), fun p2 hp2 => ?_⟩
          have e3 := Ex.new (o := .lst [.ref pt]) hp2
          refine ⟨p1, p2, _, _, rfl, rfl, e3 _ _ (e2 _ _ upd_same), upd_same, sz _ (by simp; omega), fun p3 hp3 => ?_⟩
          have e4 := Ex.new (o := .lst (us.take i ++ [.ref pt])) hp3
          have e14 := ((e1.trans e2).trans e3).trans e4
          refine ⟨_, rfl, _, rfl, _, _, rfl, rfl, _, rfl, r, us, rfl, SqL.of (e14 _ _ hr2), fun p4 hp4 => ?_⟩
          rw [show ((i : Int) + 1) = ((i + 1 : Nat) : Int) by omega, cut_drop us (i + 1) (by omega)] at *
          have e5 := Ex.new (o := .lst (us.drop (i + 1))) hp4
          refine ⟨p3, p4, _, _, rfl, rfl, e5 _ _ upd_same, upd_same, sz _ (by simp; omega), fun p5 hp5 => ?_⟩
          have e6 := Ex.new (o := .lst ((us.take i ++ [.ref pt]) ++ us.drop (i + 1))) hp5
          refine ⟨p5, _, rfl, .inl ⟨SqL.of upd_same, fun p6 hp6 => ?_⟩⟩
          have e7 := Ex.new (o := .tup ((us.take i ++ [.ref pt]) ++ us.drop (i + 1))) hp6
          have eN := ((e14.trans e5).trans e6).trans e7
          have A2 : DpAll K H2 us (ds.map bD) := R2.dp
          have DT : Dp K _ (.ref pt) (bD (d.2.1, d.1, d.2.2)) := Dp.ex ((((e3.trans e4).trans e5).trans e6).trans e7) (.tup (SqT.of upd_same) (.cons (.str _) (.cons (.str _) (.cons (.str _) (.cons (.int _) .nil)))))
          have A5 := DpAll.app (DpAll.app (DpAll.take (DpAll.ex eN A2) (i := i)) (.cons DT .nil)) (DpAll.drop (DpAll.ex eN A2) (i := i + 1))
          refine q _ (.tuple _) _ (.tup (SqT.of upd_same) A5) ?_ ?_ (kk.trans (Kp.ex eN)) ((X2.ex eN).mono (by omega))
          · refine no_chain_link ?_
            show linksD ((ds.map bD).take i ++ [bD (d.2.1, d.1, d.2.2)] ++ (ds.map bD).drop (i + 1)) = false
            by_cases hlast : i + 1 < ds.length
            · have g : ds[i + 1]? = some ds[i + 1] := by simp [hlast]
              have lk := O.ln i d _ hd g
              have edr : (ds.map bD).drop (i + 1) = bD ds[i + 1] :: (ds.map bD).drop (i + 2) := by
                rw [List.drop_eq_getElem_cons (by simpa using hlast)]
                simp
              rw [edr, List.append_assoc, List.singleton_append]
              refine no_links ?_
              refine decide_eq_false fun z => ?_
              exact hnm.2.2 (show d.1 = d.2.1 from (show d.1 = ds[i + 1].1 from z).trans lk.symm)
            · obtain ⟨j, rfl⟩ : ∃ j, i = j + 1 := ⟨i - 1, by omega⟩
              have g : ds[j]? = some ds[j] := by simp [show j < ds.length by omega]
              have lk := O.ln j _ d g hd
              have edr : (ds.map bD).drop (j + 1 + 1) = [] := List.drop_eq_nil_of_le (by simp; omega)
              have etk : (ds.map bD).take (j + 1) = (ds.map bD).take j ++ [bD ds[j]] := by
                rw [List.take_add_one, List.getElem?_map, g]
                rfl
              rw [edr, etk, List.append_nil, List.append_assoc, List.singleton_append]
              refine no_links ?_
              refine decide_eq_false fun z => ?_
              exact hnm.2.2 (lk.symm.trans (show ds[j].2.1 = d.2.1 from z))
          · refine ⟨⟨fun x hx => ?_, ?_⟩, Sh.tuple (n := 19) fun x hx => ?_⟩
            rotate_left 2
            · rcases List.mem_append.mp (show x ∈ (ds.map bD).take i ++ [bD (d.2.1, d.1, d.2.2)] ++ (ds.map bD).drop (i + 1) from hx) with hx | hx
              · rcases List.mem_append.mp hx with hx | hx
                · exact sh_rows N O x (List.mem_of_mem_take hx)
                · rw [List.mem_singleton.mp hx]; exact sh_row (d := (d.2.1, d.1, d.2.2)) ny nx
              · exact sh_rows N O x (List.mem_of_mem_drop hx)
            · rcases List.mem_append.mp (show x ∈ (ds.map bD).take i ++ [bD (d.2.1, d.1, d.2.2)] ++ (ds.map bD).drop (i + 1) from hx) with hx | hx
              · rcases List.mem_append.mp hx with hx | hx
                · exact (rows_sz N O (v := .list (ds.map bD)) rfl).1 x (List.mem_of_mem_take hx)
                · rw [List.mem_singleton.mp hx]; exact bd_sz (d := (d.2.1, d.1, d.2.2)) ny nx
              · exact (rows_sz N O (v := .list (ds.map bD)) rfl).1 x (List.mem_of_mem_drop hx)
            · show ((ds.map bD).take i ++ [bD (d.2.1, d.1, d.2.2)] ++ (ds.map bD).drop (i + 1)).length ≤ 1000
              simp
              omega
      · refine ⟨_, rfl, rfl, _, rfl, iteF' (by simpa using hk4) ?_⟩
        refine ⟨_, rfl, rfl, _, rfl, ?_⟩
        refine ite2 (fun hk5 => ?_) (fun hk5 => ?_)
        · refine ⟨_, rfl, r, rfl, ⟨_, SqL.of hr2⟩, fun DD hDD => lcRows (K := K) (H1 := H2) walk_list (by omega) (fun H' e => SqL.of (e _ _ hr2)) (fun _ => rfl) R2 ?_ hDD ?_⟩
          · intro p d hdm H' hp Q' q'
            exact ⟨_, rfl, p, _, rfl, .inr (SqT.of hp), q'⟩
          · intro H' acc e ha A
            refine q _ (.list _) _ (.lst (SqL.of ha) A) ?_ ?_ (kk.trans (Kp.ex e)) ((X2.ex e).mono (by omega))
            · exact no_chain_item (d := lD d) (by show lD d ∈ ds.map lD; exact List.mem_map.mpr ⟨d, hdm, rfl⟩) rfl
            · refine ⟨⟨fun x hx => ?_, ?_⟩, Sh.list (n := 19) fun x hx => ?_⟩
              rotate_left 2
              · obtain ⟨y, hy, rfl⟩ := List.mem_map.mp (show x ∈ ds.map lD from hx)
                have s1 := sok_nm (N _ (O.n1 y hy).1)
                have s2 := sok_nm (N _ (O.n1 y hy).2.1)
                simp [lD, Sh, PyData.canLay0, PyData.canLayAll0, PyData.depth, PyData.depthAll, s1, s2, sok_most]
              · obtain ⟨y, _, rfl⟩ := List.mem_map.mp (show x ∈ ds.map lD from hx)
                trivial
              · show (ds.map lD).length ≤ 1000
                simp
                omega
        · have k6 : 6 ≤ kind := by
            have z1 : ¬ kind < 4 := fun z => h4 (decide_eq_true z)
            have z2 : kind ≠ 4 := fun z => hk4 (decide_eq_true (by rw [z]))
            have z3 : kind ≠ 5 := fun z => hk5 (decide_eq_true (by rw [z]))
            omega
          obtain ⟨pr, rfl, hpr⟩ := hvd
          refine ⟨(by show 0 ≤ sizeLine; decide), fun t0 h0 => ?_⟩
          refine ⟨(by show 0 ≤ sizeLine; decide), fun t1 h1 => ?_⟩
          have e0 := Ex.new (o := .lst []) h0
          have e1 := Ex.new (o := .tup []) h1
          have e01 := e0.trans e1
          refine ⟨_, rfl, _, rfl, r, us, _, _, rfl, rfl, SqL.of (e01 _ _ hr2), at_lit rfl hv, ?_⟩
          refine ⟨_, rfl, r, us, rfl, .inl (SqL.of (e01 _ _ hr2)), fun t2 h2 => ⟨(by show 1 ≤ sizeLine; decide), fun t3 h3 => ?_⟩⟩
          have e2 := Ex.new (o := .lst us) h2
          have e3 := Ex.new (o := .lst [.ref t2]) h3
          refine ⟨(by show 8 ≤ sizeLine; decide), fun l hl => ⟨_, rfl, _, _, rfl, rfl, ?_⟩⟩
          have e4 := Ex.new (o := .lst [.ref t0, .ref t1, .ref pr, .non, .int 7, .str "", .ref t3, .str "x-y<=1"]) hl
          have DR : Dp K H2 (.ref pr) (bD d) := .tup (SqT.of hpr) (.cons (.str _) (.cons (.str _) (.cons (.str _) (.cons (.int _) .nil))))
          have A2 : DpAll K H2 us (ds.map bD) := R2.dp
          have B0 := addL (K := K) DpAll.nil .nil h0
          have B1 := addT B0 .nil h1
          have B5 := DpAll.snoc (DpAll.snoc (DpAll.snoc (DpAll.snoc B1 (Dp.ex e01 DR)) .non) (.int 7)) (.str ("" : Str))
          have L2 := mkL (DpAll.ex e01 A2) h2
          have B6 := addL (DpAll.ex e2 B5) (.cons L2 .nil) h3
          have B7 := DpAll.snoc B6 (.str ("x-y<=1" : Str))
          have eN := ((e01.trans e2).trans e3).trans e4
          refine pick upd_same (DpAll.ex e4 B7) (by omega) (by show _ < ((8 : Nat) : Int); omega) fun v d' hd' D' => ?_
          have fin : isChainD d' = false → szL d' → Sh 20 d' → Q v _ := fun nc sz sh => q v d' _ D' nc ⟨sz, sh⟩ (kk.trans (Kp.ex eN)) ((X2.ex eN).mono (by omega))
          simp only [List.nil_append, List.cons_append, List.mem_cons, List.not_mem_nil, or_false] at hd'
          rcases hd' with rfl | rfl | rfl | rfl | rfl | rfl | rfl | rfl
          · exact fin (no_chain_nil rfl) ⟨fun x hx => absurd hx (by simp [seqD]), by show 0 ≤ 1000; decide⟩ (by simp [Sh, PyData.canLay0, PyData.canLayAll0, PyData.depth, PyData.depthAll, sok_empty, sok_xy])
          · exact fin (no_chain_nil rfl) ⟨fun x hx => absurd hx (by simp [seqD]), by show 0 ≤ 1000; decide⟩ (by simp [Sh, PyData.canLay0, PyData.canLayAll0, PyData.depth, PyData.depthAll, sok_empty, sok_xy])
          · refine fin (no_chain_item (d := .str "most") (by simp [bD, seqD]) rfl) ⟨fun x hx => ?_, by show 4 ≤ 1000; decide⟩ (sh_row (n := 19) nx ny)
            simp only [bD, seqD, Option.getD_some, List.mem_cons, List.not_mem_nil, or_false] at hx
            rcases hx with rfl | rfl | rfl | rfl <;> trivial
          · exact fin (no_chain_seq rfl) ⟨fun x hx => absurd hx (by simp [seqD]), by show 0 ≤ 1000; decide⟩ (by simp [Sh, PyData.canLay0, PyData.canLayAll0, PyData.depth, PyData.depthAll, sok_empty, sok_xy])
          · exact fin (no_chain_seq rfl) ⟨fun x hx => absurd hx (by simp [seqD]), by show 0 ≤ 1000; decide⟩ (by simp [Sh, PyData.canLay0, PyData.canLayAll0, PyData.depth, PyData.depthAll, sok_empty, sok_xy])
          · exact fin (no_chain_seq rfl) ⟨fun x hx => absurd hx (by simp [seqD]), by show 0 ≤ 1000; decide⟩ (by simp [Sh, PyData.canLay0, PyData.canLayAll0, PyData.depth, PyData.depthAll, sok_empty, sok_xy])
          · refine fin (no_chain_item (d := .list (ds.map bD)) (by simp [seqD]) rfl) ⟨fun x hx => ?_, by show 1 ≤ 1000; decide⟩ (Sh.list (n := 19) fun x hx => by rw [List.mem_singleton.mp hx]; exact Sh.list (n := 18) fun y hy => sh_rows (n := 17) N O y hy)
            simp only [seqD, Option.getD_some, List.mem_cons, List.not_mem_nil, or_false] at hx
            rw [hx]
            trivial
          · exact fin (no_chain_seq rfl) ⟨fun x hx => absurd hx (by simp [seqD]), by show 0 ≤ 1000; decide⟩ (by simp [Sh, PyData.canLay0, PyData.canLayAll0, PyData.depth, PyData.depthAll, sok_empty, sok_xy])
end
end K7
set_option maxRecDepth 100000
set_option maxHeartbeats 8000000
namespace K7
open PySem L2 Evl
abbrev s_law_refused : Stmt := top 35
theorem sc_law_refused : FnScope ["bent", "kept", "way"] ["bent"] (defScope s_law_refused) := ⟨rfl, rfl, rfl, by decide +kernel, rfl, by decide +kernel, by decide +kernel⟩
structure TxtO (K : PySem.W.Frag) (mg : Str → Option Value) (fC fA : Addr) : Prop where
  b_range : mg "range" = none
  f__law_copy : mg "_law_copy" = some (.ref fC)
  k__law_copy : PySem.W.keepIn K (.ref fC) = true
  f__law_asked : mg "_law_asked" = some (.ref fA)
  k__law_asked : PySem.W.keepIn K (.ref fA) = true
def spRefused (K : PySem.W.Frag) : Sp := fun vs H Q _ => ∃ (v : V) (d : PyData), vs = [v] ∧ Dp K H v d ∧ szL d ∧ Sh 20 d ∧ isChainD d = false ∧ ∀ H', Ex H H' → Q (.bl true) H'
theorem Sh.sh {n : Nat} {d : PyData} (h : Sh n d) (l : n ≤ 64) : PySem.SeqAt.shaped d = true := Bool.and_eq_true_iff.mpr ⟨h.1, decide_eq_true (Nat.le_trans h.2 l)⟩
theorem sh_str {n : Nat} {s : Str} (h : PyData.strOk s = true) : Sh n (.str s) := by simp [Sh, PyData.canLay0, PyData.depth, h]
theorem sh_int {n : Nat} {i : Int} : Sh n (.int i) := by simp [Sh, PyData.canLay0, PyData.depth]
theorem sh_pair {n : Nat} {a b : PyData} (h1 : Sh n a) (h2 : Sh n b) : Sh (n + 1) (.tuple [a, b]) := Sh.tuple fun x hx => by
  simp only [List.mem_cons, List.not_mem_nil, or_false] at hx
  rcases hx with rfl | rfl <;> assumption
theorem sh_trip {n : Nat} {a b c : PyData} (h1 : Sh n a) (h2 : Sh n b) (h3 : Sh n c) : Sh (n + 1) (.tuple [a, b, c]) := Sh.tuple fun x hx => by
  simp only [List.mem_cons, List.not_mem_nil, or_false] at hx
  rcases hx with rfl | rfl | rfl <;> assumption
theorem ne_same {K : PySem.W.Frag} {H : Hp} {x y : V} {d : PyData} {n : Nat} (hx : Dp K H x d) (hy : Dp K H y d) (s : Sh n d) (l : n ≤ 64) {Q : VK} (q : Q (.bl false) H) : rNeD K x y H Q :=
  ⟨d, d, hx, hy, s.sh l, s.sh l, by rw [PySem.SeqAt.eqv_refl d s.1]; exact q⟩
theorem eq_same {K : PySem.W.Frag} {H : Hp} {x y : V} {d : PyData} {n : Nat} (hx : Dp K H x d) (hy : Dp K H y d) (s : Sh n d) (l : n ≤ 64) {Q : VK} (q : Q (.bl true) H) : rEqD K x y H Q :=
  ⟨d, d, hx, hy, s.sh l, s.sh l, by rw [PySem.SeqAt.eqv_refl d s.1]; exact q⟩
theorem no_ring {d : PyData} (h : isChainD d = false) : isRingD d = false := by
  unfold isRingD
  rw [h, Bool.false_and]
theorem asked_no {d : PyData} (h : isChainD d = false) (way : Int) : askedD way d = .tuple [.str "refused", d] := by
  unfold askedD
  rw [h, no_ring h]
  simp
section
variable {P : Program} {w : World} {K : PySem.W.Frag} {mg : Str → Option Value} {base : Heap} {fC fA : Addr} {fdC fdA : FuncData}
theorem ok_law_refused {f : Addr} {fd : FuncData} (F : Fun K "_law_refused" "_law_refused" s_law_refused f fd) (T : TxtO K mg fC fA)
    (G__law_copy : FnOk P w K mg base CX0 1 fC fdC ["bent"] (spCopy K)) (B__law_copy : Binds K fdC ["bent"] [])
    (G__law_asked : FnOk P w K mg base CX0 6 fA fdA ["way", "rows"] (spAsked K)) (B__law_asked : Binds K fdA ["way", "rows"] []) : FnOk P w K mg base CX0 7 f fd ["bent"] (spRefused K) := by
  refine F.ok sc_law_refused (fun vs H Q E h => ?_) (fun cdv A outer s H vs Q E hr h => ?_)
  · obtain ⟨v, d, rfl, _⟩ := h
    rfl
  · obtain ⟨v, d, rfl, hd, hz, hs, hc, q⟩ := h
    refine ⟨_, (pss_cons (ps_set (i := 1) sc_law_refused.nd rfl (Or.inl rfl) (pe_call G__law_copy (hr.mono (by decide)) rfl T.f__law_copy T.k__law_copy B__law_copy .nil pass0 (pa_cons (pv 0) pa_nil)))
        (pss_cons (ps_for PassesOwn.never rfl (pi_range1 rfl T.b_range (pa_cons pe_int pa_nil)) (pg_name (i := 2) sc_law_refused.nd rfl (Or.inl rfl)) (pss_one (ps_if (PW.pt (pw_or (pt_cmpR (op_neD hr.units) (pe_call G__law_asked (hr.mono (by decide)) rfl T.f__law_asked T.k__law_asked B__law_asked .nil pass0 (pa_cons (pv 2) (pa_cons (pv 0) pa_nil))) (pe_tup (pa_cons pe_str (pa_cons (pv 1) pa_nil))) (nomark _)) (pw_or1 (pt_cmpR (op_neD hr.units) (pv 0) (pv 1) (nomark _))))) (pss_one (ps_ret pe_bl)) pss_nil)))
        (pss_one (ps_ret pe_bl)))), ?_⟩
    refine ⟨_, rfl, v, d, rfl, hd, hz, fun v1 H1 e1 D1 => ?_⟩
    refine ⟨2, rfl, by decide, by decide, for_range (lo := 0) (n := 2) (fun i σ H' => (∃ (u : Option V), σ = [some v, some v1, u]) ∧ Ex H1 H') ⟨⟨none, rfl⟩, Ex.refl _⟩ ?_ ?_⟩
    · rintro i σ H' hi ⟨⟨u, rfl⟩, e⟩
      refine ⟨_, rfl, _, rfl, _, v, d, rfl, Dp.ex (e1.trans e) hd, hz, fun v2 H2 e2 D2 => ?_⟩
      rw [asked_no hc] at D2
      refine ⟨_, rfl, (by show 2 ≤ sizeLine; decide), fun t ht => ?_⟩
      have e3 := Ex.new (o := .tup [.str "refused", v1]) ht
      have eN := (e.trans e2).trans e3
      have e2' := e.trans e2
      have DK : Dp K _ (.ref t) (.tuple [.str "refused", d]) := .tup (SqT.of (upd_same (H := H2) (a := t) (o := .tup [.str "refused", v1]))) (.cons (.str _) (.cons (Dp.ex eN D1) .nil))
      refine ne_same (n := 21) (Dp.ex e3 D2) DK (sh_pair (sh_str (by decide +kernel)) hs) (by decide) ?_
      refine ⟨_, rfl, iteF' rfl ⟨_, rfl, _, rfl, ?_⟩⟩
      refine ne_same (n := 20) (Dp.ex ((e1.trans e2').trans e3) hd) (Dp.ex eN D1) hs (by decide) ?_
      refine ⟨_, rfl, iteF' rfl ?_⟩
      exact ⟨⟨_, rfl⟩, eN⟩
    · rintro σ H' ⟨⟨u, rfl⟩, e⟩
      exact q _ (e1.trans e)
end
end K7
set_option maxRecDepth 100000
set_option maxHeartbeats 8000000
namespace K7
open PySem L2 Evl
/-! ### the sum of a chain of rows -/
def totR (ds : List Row) : Int := (ds.map fun d => d.2.2).sum
def fstR (ds : List Row) : Str := (ds.headD ("", "", 0)).1
def lstR (ds : List Row) : Str := (ds.getLastD ("", "", 0)).2.1
theorem totD_rows (ds : List Row) : totalD (ds.map bD) = totR ds := by
  unfold totalD totR
  rw [List.map_map]
  rfl
theorem fstD_rows : ∀ {ds : List Row}, ds ≠ [] → fstD ((ds.map bD).headD .none) = fstR ds
  | [], h => absurd rfl h
  | d :: _, _ => rfl
theorem sndD_rows {ds : List Row} (h : ds ≠ []) : sndD ((ds.map bD).getLastD .none) = lstR ds := by
  unfold lstR
  rw [List.getLastD_eq_getLast?, List.getLastD_eq_getLast?, List.getLast?_map, List.getLast?_eq_some_getLast h]
  rfl
theorem ends_rows {ds : List Row} (h : ds ≠ []) {D : PyData} (e : seqD D = some (ds.map bD)) : endsD D = (fstR ds, lstR ds, totR ds) := by
  unfold endsD
  rw [e]
  show (fstD ((ds.map bD).headD .none), sndD ((ds.map bD).getLastD .none), totalD (ds.map bD)) = _
  rw [fstD_rows h, sndD_rows h, totD_rows]
theorem ring_rows {xs : List Str} {ds : List Row} (N : NmsOk xs) (O : RowsOk xs ds) {D : PyData} (e : seqD D = some (ds.map bD)) : isRingD D = decide (fstR ds = lstR ds) := by
  unfold isRingD
  rw [rows_chain N O e, e, Bool.true_and]
  show decide (fstD ((ds.map bD).headD .none) = sndD ((ds.map bD).getLastD .none)) = _
  rw [fstD_rows O.ne, sndD_rows O.ne]
theorem tel (f : Str → Int) : ∀ {ds : List Row}, ds ≠ [] → (∀ (j : Nat) (d e : Row), ds[j]? = some d → ds[j + 1]? = some e → d.2.1 = e.1) → ds.all (okRow f) = true → f (fstR ds) - f (lstR ds) ≤ totR ds
  | [], h, _, _ => absurd rfl h
  | [d], _, _, h => by
    have a := of_decide_eq_true (show decide (f d.1 - f d.2.1 ≤ d.2.2) = true by simpa [okRow] using h)
    show f d.1 - f d.2.1 ≤ [d.2.2].sum
    rw [List.sum_singleton]
    exact a
  | d :: e :: r, _, l, h => by
    obtain ⟨h1, h2⟩ := Bool.and_eq_true_iff.mp (show (okRow f d && (e :: r).all (okRow f)) = true from h)
    have a := of_decide_eq_true (show decide (f d.1 - f d.2.1 ≤ d.2.2) = true from h1)
    have b := tel f (ds := e :: r) (by simp) (fun j x y p q => l (j + 1) x y p q) h2
    have c := l 0 d e rfl rfl
    have t : totR (d :: e :: r) = d.2.2 + totR (e :: r) := by simp [totR]
    have z : lstR (d :: e :: r) = lstR (e :: r) := by simp [lstR]
    rw [t, z]
    show f d.1 - f (lstR (e :: r)) ≤ _
    have b' : f e.1 - f (lstR (e :: r)) ≤ totR (e :: r) := b
    rw [← c] at b'
    omega
theorem fst_get {ds : List Row} {d : Row} (h : ds[0]? = some d) : fstR ds = d.1 := by
  cases ds with
  | nil => cases h
  | cons a r => cases h; rfl
theorem lst_get {ds : List Row} {d : Row} (h : ds[ds.length - 1]? = some d) : lstR ds = d.2.1 := by
  unfold lstR
  rw [List.getLastD_eq_getLast?, List.getLast?_eq_getElem?, h]
  rfl
theorem rangeR (ds : List Row) : ((List.range ds.length).map fun i => (ds.getD i ("", "", 0)).2.2) = ds.map fun d => d.2.2 := by
  apply List.ext_getElem?
  intro i
  rw [List.getElem?_map, List.getElem?_map]
  by_cases h : i < ds.length
  · rw [List.getElem?_range h]
    simp [h]
  · have h1 : (List.range ds.length)[i]? = none := by simp; omega
    have h2 : ds[i]? = none := by simp; omega
    rw [h1, h2]
    rfl
/-- what is told of a chain -/
theorem dp_told {K : PySem.W.Frag} {H : Hp} {v : V} {s x y : Str} {k : Int} (h : Dp K H v (.tuple [.str s, .tuple [.str x, .str y, .int k]])) :
    ∃ a b, v = .ref a ∧ SqT K H a [.str s, .ref b] ∧ SqT K H b [.str x, .str y, .int k] := by
  cases h with
  | tup h1 A =>
    cases A with
    | cons g1 r1 =>
    cases r1 with
    | cons g2 r2 =>
    cases r2
    cases g1
    cases g2 with
    | tup h2 B =>
      cases B with
      | cons g3 r3 =>
      cases r3 with
      | cons g4 r4 =>
      cases r4 with
      | cons g5 r5 =>
      cases r5
      cases g3
      cases g4
      cases g5
      exact ⟨_, _, rfl, h1, h2⟩
theorem dp_tint {K : PySem.W.Frag} {H : Hp} {v : V} {s : Str} {k : Int} (h : Dp K H v (.tuple [.str s, .int k])) : ∃ a, v = .ref a ∧ SqT K H a [.str s, .int k] := by
  cases h with
  | tup h1 A =>
    cases A with
    | cons g1 r1 =>
    cases r1 with
    | cons g2 r2 =>
    cases r2
    cases g1
    cases g2
    exact ⟨_, rfl, h1⟩
theorem SqT.ex2 {K : PySem.W.Frag} {H H' : Hp} {a : Addr} {xs : List V} (h : SqT K H a xs) (e : Ex H H') : SqT K H' a xs := ex_t e h
end K7
set_option maxRecDepth 100000
set_option maxHeartbeats 8000000
namespace K7
open PySem L2 Evl
abbrev s_law_sums_right : Stmt := top 33
theorem sc_law_sums_right : FnScope ["rows", "handed", "heights", "start", "goal", "total", "told", "ring", "row"] ["rows", "handed", "heights"] (defScope s_law_sums_right) := ⟨rfl, rfl, rfl, by decide +kernel, rfl, by decide +kernel, by decide +kernel⟩
structure TxtQ (K : PySem.W.Frag) (mg : Str → Option Value) (fA fI fU : Addr) : Prop where
  b_len : mg "len" = none
  b_sum : mg "sum" = none
  f__law_asked : mg "_law_asked" = some (.ref fA)
  k__law_asked : PySem.W.keepIn K (.ref fA) = true
  f__law_integer : mg "_law_integer" = some (.ref fI)
  k__law_integer : PySem.W.keepIn K (.ref fI) = true
  f__law_fulfilled : mg "_law_fulfilled" = some (.ref fU)
  k__law_fulfilled : PySem.W.keepIn K (.ref fU) = true
def spSums (K : PySem.W.Frag) : Sp := fun vs H Q _ => ∃ (r g : Addr) (v : V) (D : PyData) (xs : List Str) (us : List V) (ds : List Row) (f : Str → Int), vs = [.ref r, v, .ref g] ∧ H r = some (.lst us) ∧ RowsAt H us ds ∧ RowsOk xs ds ∧ NmsOk xs ∧
  Dp K H v D ∧ (D = .list (ds.map bD) ∨ D = .tuple (ds.map bD)) ∧ Hts g xs f H ∧ ∀ H', Ex H H' → Q (.bl true) H'
theorem hts_ex {g : Addr} {xs : List Str} {f : Str → Int} {H H' : Hp} (h : Hts g xs f H) (e : Ex H H') : Hts g xs f H' := by
  obtain ⟨kvs, h1, h2⟩ := h
  exact ⟨kvs, e _ _ h1, h2⟩
section
variable {P : Program} {w : World} {K : PySem.W.Frag} {mg : Str → Option Value} {base : Heap} {fA fI fU : Addr} {fdA fdI fdU : FuncData}
theorem ok_law_sums_right {f : Addr} {fd : FuncData} (F : Fun K "_law_sums_right" "_law_sums_right" s_law_sums_right f fd) (T : TxtQ K mg fA fI fU)
    (G__law_asked : FnOk P w K mg base CX0 6 fA fdA ["way", "rows"] (spAsked K)) (B__law_asked : Binds K fdA ["way", "rows"] [])
    (G__law_integer : FnOk P w K mg base CX0 1 fI fdI ["told"] (spLawInt K)) (B__law_integer : Binds K fdI ["told"] [])
    (G__law_fulfilled : FnOk P w K mg base CX0 1 fU fdU ["rows", "times"] spFulfilled) (B__law_fulfilled : Binds K fdU ["rows", "times"] []) : FnOk P w K mg base CX0 7 f fd ["rows", "handed", "heights"] (spSums K) := by
  refine F.ok sc_law_sums_right (fun vs H Q E h => ?_) (fun cdv A outer s H vs Q E hr h => ?_)
  · obtain ⟨r, g, v, D, xs, us, ds, f, rfl, _⟩ := h
    rfl
  · obtain ⟨r, g, v, D, xs, us, ds, f, rfl, hr0, R, O, N, DD, hD, hg, q⟩ := h
    refine ⟨_, (pss_cons (ps_par (i := 3) (j := 4) (by rfl) sc_law_sums_right.nd rfl rfl (by decide) rfl rfl (pa_cons (pe_ix ix_tup (pe_ix ix_list (pv 0) pe_int (fun _ _ => rfl)) pe_int (fun _ _ => rfl)) (pa_cons (pe_ix ix_tup (pe_ix ix_list (pv 0) (pe_op op_sub (pe_callB call_len_seq (by rfl) T.b_len (by decide +kernel) (pa_cons (pv 0) pa_nil)) pe_int) (fun _ _ => rfl)) pe_int (fun _ _ => rfl)) pa_nil)) (by rfl))
        (pss_cons (ps_set (i := 5) sc_law_sums_right.nd rfl (Or.inl rfl) (pe_callB (cr_sum rfl) (by rfl) T.b_sum (by decide +kernel) (pa_cons (pe_lc (own := [("row", 8)]) (g := gName 8) (tt := tYes) (te := tOp (rIxT K) (tVar 8) (tC (.int 3))) rfl sc_law_sums_right.nd (pi_list (pv 0)) (blkOk_by (N := ["rows", "handed", "heights", "start", "goal", "total", "told", "ring", "row"]) (sc := defScope s_law_sums_right) (by decide +kernel)) (fun _ _ _ _ _ => (pg_name (i := 8) sc_law_sums_right.nd rfl (Or.inl rfl))) (fun _ _ _ _ _ => pts_nil) (fun _ _ _ _ _ => (pe_ix ix_tup (pv 8) pe_int (fun _ _ => rfl)))) pa_nil)))
        (pss_cons (ps_set (i := 6) sc_law_sums_right.nd rfl (Or.inl rfl) (pe_call G__law_asked (hr.mono (by decide)) rfl T.f__law_asked T.k__law_asked B__law_asked .nil pass0 (pa_cons pe_int (pa_cons (pv 1) pa_nil))))
        (pss_cons (ps_if (PW.pt (pw_or (pt_cmpR (op_neD hr.units) (pv 6) (pe_tup (pa_cons pe_str (pa_cons (pe_tup (pa_cons (pv 3) (pa_cons (pv 4) (pa_cons (pv 5) pa_nil)))) pa_nil))) (nomark _)) (pw_or1 (pt_not (pt_val (pe_call G__law_integer (hr.mono (by decide)) rfl T.f__law_integer T.k__law_integer B__law_integer .nil pass0 (pa_cons (pe_ix ix_seq (pe_ix ix_tup (pv 6) pe_int (fun _ _ => rfl)) pe_int (fun _ _ => rfl)) pa_nil))))))) (pss_one (ps_ret pe_bl)) pss_nil)
        (pss_cons (ps_set (i := 7) sc_law_sums_right.nd rfl (Or.inl rfl) (pe_call G__law_asked (hr.mono (by decide)) rfl T.f__law_asked T.k__law_asked B__law_asked .nil pass0 (pa_cons pe_int (pa_cons (pv 1) pa_nil))))
        (pss_cons (ps_if (PW.pt (pw_and (pt_cmpR op_eq (pv 3) (pv 4) (nomark _)) (pw_and1 (PW.pt (pw_or (pt_cmpR (op_neD hr.units) (pv 7) (pe_tup (pa_cons pe_str (pa_cons (pv 5) pa_nil))) (nomark _)) (pw_or1 (pt_not (pt_val (pe_call G__law_integer (hr.mono (by decide)) rfl T.f__law_integer T.k__law_integer B__law_integer .nil pass0 (pa_cons (pe_ix ix_tup (pv 7) pe_int (fun _ _ => rfl)) pa_nil)))))))))) (pss_one (ps_ret pe_bl)) pss_nil)
        (pss_cons (ps_if (PW.pt (pw_and (pt_cmpR op_ne (pv 3) (pv 4) (nomark _)) (pw_and1 (pt_cmpR (op_neD hr.units) (pv 7) (pe_tup (pa_cons pe_str (pa_cons (pv 1) pa_nil))) (nomark _))))) (pss_one (ps_ret pe_bl)) pss_nil)
        (pss_one (ps_ret (pe_or (pe_not (pe_call G__law_fulfilled (hr.mono (by decide)) rfl T.f__law_fulfilled T.k__law_fulfilled B__law_fulfilled .nil pass0 (pa_cons (pv 0) (pa_cons (pv 2) pa_nil)))) (pe_one (pe_cmpR op_le (pe_op op_sub (pe_dget (hu_of hr) (pv 2) (pv 3) (fun _ _ => rfl)) (pe_dget (hu_of hr) (pv 2) (pv 4) (fun _ _ => rfl))) (pe_ix ix_seq (pe_ix ix_tup (pv 6) pe_int (fun _ _ => rfl)) pe_int (fun _ _ => rfl)) (nomark _))))))))))))), ?_⟩
    have hlen := R.1
    have hle := O.le
    have hpos : 0 < ds.length := List.length_pos_iff.mpr O.ne
    have hsq : seqD D = some (ds.map bD) := by rcases hD with rfl | rfl <;> rfl
    have hshD : Sh 20 D := by
      rcases hD with rfl | rfl
      · exact Sh.list (n := 19) (sh_rows N O)
      · exact Sh.tuple (n := 19) (sh_rows N O)
    have hch := rows_chain N O hsq
    have hri := ring_rows N O hsq
    have hen := ends_rows O.ne hsq
    have hsz : szL D := rows_sz N O hsq
    obtain ⟨v0, d0, g0, k0, p0, rfl, hp0⟩ := rowAt_get R (i := 0) (by omega)
    obtain ⟨v9, d9, g9, k9, p9, rfl, hp9⟩ := rowAt_get R (i := us.length - 1) (by omega)
    have hx := fst_get k0
    have hy := lst_get (ds := ds) (by rw [← hlen]; exact k9)
    have hd0 := O.n1 d0 (List.mem_of_getElem? k0)
    have hd9 := O.n1 d9 (List.mem_of_getElem? k9)
    rw [hx, hy] at hri hen
    have nx := N _ hd0.1
    have ny := N _ hd9.2.1
    refine ⟨_, rfl, r, us, 0, _, rfl, rfl, SqL.of hr0, at_lit (n := 0) rfl g0, p0, _, 1, _, rfl, rfl, SqT.of hp0, at_lit (n := 1) rfl rfl,
      _, rfl, _, rfl, r, us, rfl, .inl (SqL.of hr0), _, _, rfl, rfl, r, us, _, _, rfl, rfl, SqL.of hr0, at_lit (n := us.length - 1) (by omega) g9, p9, _, 2, _, rfl, rfl, SqT.of hp9, at_lit (n := 2) rfl rfl, _, _, rfl, ?_⟩
    refine ⟨_, rfl, r, rfl, ⟨us, SqL.of hr0⟩, fun L hL => lcMapI (walk_list) (fun i => .int ((ds.getD i ("", "", 0)).2.2)) (Nat.lt_of_le_of_lt (by omega : us.length ≤ 1000) (by decide)) (fun H' e => SqL.of (e _ _ hr0)) (fun _ => rfl) ?_ hL ?_⟩
    · intro i v hi H' e H2 e2 Q' q'
      obtain ⟨u, d, h1, h2, p, rfl, hp⟩ := rowAt_get R (i := i) (List.getElem?_eq_some_iff.mp hi).1
      rw [hi] at h1
      cases h1
      refine ⟨_, rfl, p, _, 3, _, rfl, rfl, SqT.of ((e.trans e2) _ _ hp), at_lit (n := 3) rfl rfl, ?_⟩
      have z : ds.getD i ("", "", 0) = d := by rw [List.getD_eq_getElem?_getD, h2]; rfl
      have g := q' H2 (Ex.refl _)
      rw [z] at g
      exact g
    · intro H1 e1 hL1
      refine ⟨L, (List.range us.length).map fun i => (ds.getD i ("", "", 0)).2.2, rfl, SqL.of (by rw [hL1, List.map_map]; rfl), ?_⟩
      rw [hlen, rangeR, show (ds.map fun d => d.2.2).sum = totR ds from rfl]
      refine ⟨_, rfl, 0, v, D, rfl, Dp.ex e1 DD, hsz, fun t1 H2 e2 D2 => ?_⟩
      rw [show askedD 0 D = .tuple [.str "told", endsP D] by unfold askedD; rw [if_pos rfl, if_pos hch], show endsP D = .tuple [.str d0.1, .str d9.2.1, .int (totR ds)] by unfold endsP; rw [hen]] at D2
      have so1 : ∀ {n : Nat}, Sh n (.str ("told" : Str)) := sh_str (by decide +kernel)
      have so2 : ∀ {n : Nat}, Sh n (.str ("refused" : Str)) := sh_str (by decide +kernel)
      have sx : ∀ {n : Nat}, Sh n (.str d0.1) := sh_str (sok_nm nx)
      have sy : ∀ {n : Nat}, Sh n (.str d9.2.1) := sh_str (sok_nm ny)
      -- told != ("told", (start, goal, total)) or not _law_integer(told[1][2])
      refine ⟨_, rfl, _, rfl, _, rfl, _, rfl, (by show 3 ≤ sizeLine; decide), fun t2 ht2 => ?_⟩
      have e3 := Ex.new (o := .tup [.str d0.1, .str d9.2.1, .int (totR ds)]) ht2
      refine ⟨(by show 2 ≤ sizeLine; decide), fun t3 ht3 => ?_⟩
      have e4 := Ex.new (o := .tup [.str "told", .ref t2]) ht3
      have e34 := e3.trans e4
      have DT := Dp.ex e34 D2
      have DW : Dp K _ (.ref t3) (.tuple [.str "told", .tuple [.str d0.1, .str d9.2.1, .int (totR ds)]]) :=
        .tup (SqT.of (upd_same (H := upd H2 t2 (.tup [.str d0.1, .str d9.2.1, .int (totR ds)])) (a := t3) (o := .tup [.str "told", .ref t2]))) (.cons (.str _) (.cons (.tup (SqT.of (e4 _ _ upd_same)) (.cons (.str _) (.cons (.str _) (.cons (.int _) .nil)))) .nil))
      refine ne_same (n := 2) DT DW (sh_pair so1 (sh_trip sx sy sh_int)) (by decide) ?_
      obtain ⟨a1, b1, rfl, ha1, hb1⟩ := dp_told DT
      refine ⟨_, rfl, iteF' rfl ⟨_, rfl, a1, _, 1, _, rfl, rfl, ha1, at_lit (n := 1) rfl rfl, .inr (.inl ⟨b1, _, 2, _, rfl, rfl, hb1, at_lit (n := 2) rfl rfl, _, .int (totR ds), rfl, .int _, trivial, fun H5 e5 => ?_⟩)⟩⟩
      refine ⟨_, rfl, ?_⟩
      refine iteF' rfl ?_
      -- ring = _law_asked(1, handed)
      have e25 := (e1.trans e2).trans (e34.trans e5)
      refine ⟨_, rfl, 1, v, D, rfl, Dp.ex e25 DD, hsz, fun t5 H6 e6 D6 => ?_⟩
      rw [show askedD 1 D = if isRingD D then .tuple [.str "told", .int (endsD D).2.2] else .tuple [.str "refused", D] from by unfold askedD; rw [if_neg (by decide)], hri, hen] at D6
      have e26 := e25.trans e6
      refine ⟨_, rfl, _, rfl, rfl, ?_⟩
      refine ⟨_, rfl, ?_⟩
      by_cases hxy : d0.1 = d9.2.1
      · rw [decide_eq_true hxy] at D6
        have D6' : Dp K H6 t5 (.tuple [.str "told", .int (totR ds)]) := D6
        refine iteT' (decide_eq_true (by rw [hxy])) ⟨_, rfl, _, rfl, (by show 2 ≤ sizeLine; decide), fun t6 ht6 => ?_⟩
        have e7 := Ex.new (o := .tup [.str "told", .int (totR ds)]) ht6
        have D7 := Dp.ex e7 D6'
        obtain ⟨a7, rfl, ha7⟩ := dp_tint D7
        refine ne_same (n := 1) D7 (.tup (SqT.of upd_same) (.cons (.str _) (.cons (.int _) .nil))) (sh_pair so1 sh_int) (by decide) ?_
        refine ⟨_, rfl, iteF' rfl ⟨_, rfl, a7, _, 1, _, rfl, rfl, ha7, at_lit (n := 1) rfl rfl, _, .int (totR ds), rfl, .int _, trivial, fun H8 e8 => ?_⟩⟩
        refine ⟨_, rfl, ?_⟩
        refine iteF' rfl ?_
        refine ⟨_, rfl, _, rfl, rfl, ?_⟩
        refine ⟨_, rfl, iteF' (by rw [hxy]; simp) (iteF ?_)⟩
        have eZ : Ex H H8 := (e26.trans e7).trans e8
        have hrZ := eZ _ _ hr0
        have RZ := rows_ex R eZ
        refine ⟨_, rfl, _, rfl, r, g, xs, f, us, ds, rfl, hrZ, RZ, fun e he => ⟨(O.n1 e he).1, (O.n1 e he).2.1⟩, hle, hts_ex hg eZ, fun H9 e9 => ?_⟩
        have eY := eZ.trans e9
        obtain ⟨kvs, hk1, hk2⟩ := hts_ex hg eY
        have g1 : DGet H9 g (kV (Sum.inr d0.1)) (some (.int (f d0.1))) := by
          rw [← hk2 _ hd0.1]
          exact DGet.k hk1
        have g2 : DGet H9 g (kV (Sum.inr d9.2.1)) (some (.int (f d9.2.1))) := by
          rw [← hk2 _ hd9.2.1]
          exact DGet.k hk1
        refine ⟨_, rfl, _, rfl, ?_⟩
        cases hal : ds.all (okRow f) with
        | false => exact iteT' rfl (q _ eY)
        | true =>
          have hb := tel f O.ne O.ln hal
          rw [hx, hy] at hb
          refine iteF' rfl ⟨_, rfl, _, rfl, g, _, rfl, g1, _, rfl, _, rfl, g, _, rfl, g2, _, _, rfl, rfl, _, rfl, a1, _, 1, _, rfl, rfl, SqT.ex2 ha1 ((((e5.trans e6).trans e7).trans e8).trans e9), at_lit (n := 1) rfl rfl, .inr (.inl ⟨b1, _, 2, _, rfl, rfl, SqT.ex2 hb1 ((((e5.trans e6).trans e7).trans e8).trans e9), at_lit (n := 2) rfl rfl, _, _, rfl, rfl, ?_⟩)⟩
          show Q (.bl (decide (f d0.1 - f d9.2.1 ≤ totR ds))) H9
          rw [decide_eq_true hb]
          exact q _ eY
      · rw [decide_eq_false hxy] at D6
        have D6' : Dp K H6 t5 (.tuple [.str "refused", D]) := D6
        refine iteF' (decide_eq_false fun z => hxy (V.str.inj z)) (iteF ?_)
        refine ⟨_, rfl, _, rfl, rfl, ?_⟩
        refine ⟨_, rfl, ?_⟩
        refine iteT' (by rw [decide_eq_false fun z => hxy (V.str.inj z)]; rfl) ⟨_, rfl, _, rfl, (by show 2 ≤ sizeLine; decide), fun t6 ht6 => ?_⟩
        have e7 := Ex.new (o := .tup [.str "refused", v]) ht6
        refine ne_same (n := 21) (Dp.ex e7 D6') (.tup (SqT.of upd_same) (.cons (.str _) (.cons (Dp.ex (e26.trans e7) DD) .nil))) (sh_pair so2 hshD) (by decide) ?_
        refine ⟨_, rfl, iteF' rfl ?_⟩
        have eZ : Ex H _ := e26.trans e7
        have hrZ := eZ _ _ hr0
        have RZ := rows_ex R eZ
        refine ⟨_, rfl, _, rfl, r, g, xs, f, us, ds, rfl, hrZ, RZ, fun e he => ⟨(O.n1 e he).1, (O.n1 e he).2.1⟩, hle, hts_ex hg eZ, fun H9 e9 => ?_⟩
        have eY := eZ.trans e9
        obtain ⟨kvs, hk1, hk2⟩ := hts_ex hg eY
        have g1 : DGet H9 g (kV (Sum.inr d0.1)) (some (.int (f d0.1))) := by
          rw [← hk2 _ hd0.1]
          exact DGet.k hk1
        have g2 : DGet H9 g (kV (Sum.inr d9.2.1)) (some (.int (f d9.2.1))) := by
          rw [← hk2 _ hd9.2.1]
          exact DGet.k hk1
        refine ⟨_, rfl, _, rfl, ?_⟩
        cases hal : ds.all (okRow f) with
        | false => exact iteT' rfl (q _ eY)
        | true =>
          have hb := tel f O.ne O.ln hal
          rw [hx, hy] at hb
          refine iteF' rfl ⟨_, rfl, _, rfl, g, _, rfl, g1, _, rfl, _, rfl, g, _, rfl, g2, _, _, rfl, rfl, _, rfl, a1, _, 1, _, rfl, rfl, SqT.ex2 ha1 (((e5.trans e6).trans e7).trans e9), at_lit (n := 1) rfl rfl, .inr (.inl ⟨b1, _, 2, _, rfl, rfl, SqT.ex2 hb1 (((e5.trans e6).trans e7).trans e9), at_lit (n := 2) rfl rfl, _, _, rfl, rfl, ?_⟩)⟩
          show Q (.bl (decide (f d0.1 - f d9.2.1 ≤ totR ds))) H9
          rw [decide_eq_true hb]
          exact q _ eY
end
end K7
set_option maxRecDepth 100000
set_option maxHeartbeats 8000000
namespace K7
open PySem L2 Evl
/-! ### parts of a chain -/
theorem ra_take {H : Hp} {us : List V} {ds : List Row} (R : RowsAt H us ds) (i : Nat) : RowsAt H (us.take i) (ds.take i) := by
  refine ⟨by rw [List.length_take, List.length_take, R.1], fun j v d h1 h2 => ?_⟩
  rw [List.getElem?_take] at h1 h2
  split at h1
  · rename_i hj
    rw [if_pos hj] at h2
    exact R.2 j v d h1 h2
  · cases h1
theorem ra_drop {H : Hp} {us : List V} {ds : List Row} (R : RowsAt H us ds) (i : Nat) : RowsAt H (us.drop i) (ds.drop i) := by
  refine ⟨by rw [List.length_drop, List.length_drop, R.1], fun j v d h1 h2 => ?_⟩
  rw [List.getElem?_drop] at h1 h2
  exact R.2 _ v d h1 h2
theorem ra_app {H : Hp} {us vs : List V} {ds es : List Row} (R : RowsAt H us ds) (S : RowsAt H vs es) : RowsAt H (us ++ vs) (ds ++ es) := by
  refine ⟨by rw [List.length_append, List.length_append, R.1, S.1], fun j v d h1 h2 => ?_⟩
  by_cases hj : j < us.length
  · rw [List.getElem?_append_left hj] at h1
    rw [List.getElem?_append_left (by rw [← R.1]; exact hj)] at h2
    exact R.2 j v d h1 h2
  · rw [List.getElem?_append_right (by omega)] at h1
    rw [List.getElem?_append_right (by have := R.1; omega), ← R.1] at h2
    exact S.2 _ v d h1 h2
theorem fst_app {A B : List Row} (h : A ≠ []) : fstR (A ++ B) = fstR A := by
  cases A with
  | nil => exact absurd rfl h
  | cons a r => rfl
theorem lst_app {A B : List Row} (h : B ≠ []) : lstR (A ++ B) = lstR B := by
  unfold lstR
  rw [List.getLastD_eq_getLast?, List.getLastD_eq_getLast?, List.getLast?_append, List.getLast?_eq_some_getLast h]
  rfl
theorem tot_app (A B : List Row) : totR (A ++ B) = totR A + totR B := by
  unfold totR
  rw [List.map_append, List.sum_append]
theorem lst_at {A : List Row} {d : Row} (h : A[A.length - 1]? = some d) : lstR A = d.2.1 := lst_get h
theorem ok_app {xs : List Str} {A B : List Row} (a : RowsOk xs A) (b : RowsOk xs B) (l : lstR A = fstR B) (h : A.length + B.length ≤ 40) : RowsOk xs (A ++ B) := by
  refine ⟨fun d hd => ?_, fun j d e h1 h2 => ?_, fun z => a.ne (List.append_eq_nil_iff.mp z).1, by rw [List.length_append]; exact h⟩
  · rcases List.mem_append.mp hd with q | q
    · exact a.n1 d q
    · exact b.n1 d q
  · by_cases q : j + 1 < A.length
    · rw [List.getElem?_append_left (by omega)] at h1
      rw [List.getElem?_append_left q] at h2
      exact a.ln j d e h1 h2
    · by_cases q2 : j + 1 = A.length
      · rw [List.getElem?_append_left (by omega)] at h1
        rw [List.getElem?_append_right (by omega), q2, Nat.sub_self] at h2
        rw [← lst_at (A := A) (d := d) (by rw [← q2]; exact h1), l]
        exact fst_get h2
      · rw [List.getElem?_append_right (by omega)] at h1
        rw [List.getElem?_append_right (by omega)] at h2
        exact b.ln (j - A.length) d e h1 (by rw [← h2]; congr 1; omega)
theorem ok_take {xs : List Str} {ds : List Row} (O : RowsOk xs ds) {i : Nat} (h : 0 < i) : RowsOk xs (ds.take i) := by
  have hl := List.length_pos_iff.mpr O.ne
  have := O.le
  refine ⟨fun d hd => O.n1 d (List.mem_of_mem_take hd), fun j d e h1 h2 => ?_, fun z => ?_, by rw [List.length_take]; omega⟩
  · rw [List.getElem?_take] at h1 h2
    split at h2
    · rw [if_pos (by omega)] at h1
      exact O.ln j d e h1 h2
    · cases h2
  · have z2 := congrArg List.length z
    rw [List.length_take, List.length_nil] at z2
    omega
theorem ok_drop {xs : List Str} {ds : List Row} (O : RowsOk xs ds) {i : Nat} (h : i < ds.length) : RowsOk xs (ds.drop i) := by
  have := O.le
  refine ⟨fun d hd => O.n1 d (List.mem_of_mem_drop hd), fun j d e h1 h2 => ?_, fun z => ?_, by rw [List.length_drop]; omega⟩
  · rw [List.getElem?_drop] at h1 h2
    exact O.ln (i + j) d e h1 h2
  · have z2 := congrArg List.length z
    rw [List.length_drop, List.length_nil] at z2
    omega
theorem mid_link {xs : List Str} {ds : List Row} (O : RowsOk xs ds) {i : Nat} (h0 : 0 < i) (h : i < ds.length) : lstR (ds.take i) = fstR (ds.drop i) := by
  obtain ⟨j, rfl⟩ : ∃ j, i = j + 1 := ⟨i - 1, by omega⟩
  have g1 : ds[j]? = some ds[j] := by simp [show j < ds.length by omega]
  have g2 : ds[j + 1]? = some ds[j + 1] := by simp [h]
  have l := O.ln j _ _ g1 g2
  rw [lst_at (A := ds.take (j + 1)) (d := ds[j]) (by rw [List.length_take, Nat.min_eq_left (by omega), List.getElem?_take, if_pos (by omega)]; exact g1), fst_get (ds := ds.drop (j + 1)) (d := ds[j + 1]) (by rw [List.getElem?_drop]; exact g2)]
  exact l
/-- a ring begun at another place -/
theorem ok_rot {xs : List Str} {ds : List Row} (O : RowsOk xs ds) (hc : fstR ds = lstR ds) {i : Nat} (h : i < ds.length) : RowsOk xs (ds.drop i ++ ds.take i) ∧ fstR (ds.drop i ++ ds.take i) = lstR (ds.drop i ++ ds.take i) ∧ totR (ds.drop i ++ ds.take i) = totR ds := by
  have td : ds.take i ++ ds.drop i = ds := List.take_append_drop i ds
  by_cases h0 : i = 0
  · subst h0
    simp only [List.drop_zero, List.take_zero, List.append_nil]
    exact ⟨O, hc, trivial⟩
  · have a := ok_take O (i := i) (by omega)
    have b := ok_drop O h
    have m := mid_link O (i := i) (by omega) h
    have f1 : fstR (ds.take i) = fstR ds := by
      rw [← fst_app (A := ds.take i) (B := ds.drop i) a.ne, td]
    have l1 : lstR (ds.drop i) = lstR ds := by
      rw [← lst_app (A := ds.take i) (B := ds.drop i) b.ne, td]
    refine ⟨ok_app b a (by rw [l1, f1, hc]) (by have := O.le; rw [List.length_drop, List.length_take]; omega), ?_, ?_⟩
    · rw [fst_app b.ne, lst_app a.ne, m]
    · rw [tot_app, Int.add_comm, ← tot_app, td]
end K7
set_option maxRecDepth 100000
set_option maxHeartbeats 8000000
namespace K7
open PySem L2 Evl
abbrev s_law_parts_right : Stmt := top 34
theorem sc_law_parts_right : FnScope ["box", "rows", "heights", "at", "whole", "first", "second", "turned"] ["box", "rows", "heights"] (defScope s_law_parts_right) := ⟨rfl, rfl, rfl, by decide +kernel, rfl, by decide +kernel, by decide +kernel⟩
structure TxtS (K : PySem.W.Frag) (mg : Str → Option Value) (fK fCS fRS fSR : Addr) : Prop where
  b_len : mg "len" = none
  b_list : mg "list" = none
  b_tuple : mg "tuple" = none
  f__law_take : mg "_law_take" = some (.ref fK)
  k__law_take : PySem.W.keepIn K (.ref fK) = true
  f_chain_sum : mg "chain_sum" = some (.ref fCS)
  k_chain_sum : PySem.W.keepIn K (.ref fCS) = true
  f_ring_sum : mg "ring_sum" = some (.ref fRS)
  k_ring_sum : PySem.W.keepIn K (.ref fRS) = true
  f__law_sums_right : mg "_law_sums_right" = some (.ref fSR)
  k__law_sums_right : PySem.W.keepIn K (.ref fSR) = true
def spParts : Sp := fun vs H Q _ => ∃ (b r g : Addr) (n : Nat) (xs : List Str) (us : List V) (ds : List Row) (f : Str → Int), vs = [.ref b, .ref r, .ref g] ∧ Bx b n H ∧ n + 1 ≤ 1000000 ∧ r ≠ b ∧ g ≠ b ∧ H r = some (.lst us) ∧ RowsAt H us ds ∧ RowsOk xs ds ∧ NmsOk xs ∧
  Hts g xs f H ∧ ∀ H', Kp b H H' → Bx b (n + 1) H' → Q (.bl true) H'
section
variable {P : Program} {w : World} {K : PySem.W.Frag} {mg : Str → Option Value} {base : Heap} {fK fCS fRS fSR cI : Addr} {fdK fdCS fdRS fdSR : FuncData}
theorem hts_kp {g b : Addr} {xs : List Str} {f : Str → Int} {H H' : Hp} (h : Hts g xs f H) (n : g ≠ b) (k : Kp b H H') : Hts g xs f H' := by
  obtain ⟨kvs, h1, h2⟩ := h
  exact ⟨kvs, k.at n h1, h2⟩
theorem ok_law_parts_right {f : Addr} {fd : FuncData} (F : Fun K "_law_parts_right" "_law_parts_right" s_law_parts_right f fd) (T : TxtS K mg fK fCS fRS fSR)
    (G__law_take : FnOk P w K mg base CX0 2 fK fdK ["box", "size"] spTake) (B__law_take : Binds K fdK ["box", "size"] [])
    (G_chain_sum : FnOk P w K mg base (L2.CX P w) 5 fCS fdCS ["bounds"] (spChainSum K cI)) (B_chain_sum : Binds K fdCS ["bounds"] [])
    (G_ring_sum : FnOk P w K mg base (L2.CX P w) 5 fRS fdRS ["bounds"] (spRingSum K cI)) (B_ring_sum : Binds K fdRS ["bounds"] [])
    (G__law_sums_right : FnOk P w K mg base CX0 7 fSR fdSR ["rows", "handed", "heights"] (spSums K)) (B__law_sums_right : Binds K fdSR ["rows", "handed", "heights"] []) :
    FnOk P w K mg base CX0 8 f fd ["box", "rows", "heights"] spParts := by
  refine F.ok sc_law_parts_right (fun vs H Q E h => ?_) (fun cdv A outer s H vs Q E hr h => ?_)
  · obtain ⟨b, r, g, n, xs, us, ds, f, rfl, _⟩ := h
    rfl
  · obtain ⟨b, r, g, n, xs, us, ds, f, rfl, X, hn, hrb, hgb, hr0, R, O, N, hg, q⟩ := h
    refine ⟨_, (pss_cons (ps_set (i := 3) sc_law_parts_right.nd rfl (Or.inl rfl) (pe_call G__law_take (hr.mono (by decide)) rfl T.f__law_take T.k__law_take B__law_take .nil pass0 (pa_cons (pv 0) (pa_cons (pe_callB call_len_seq (by rfl) T.b_len (by decide +kernel) (pa_cons (pv 1) pa_nil)) pa_nil))))
        (pss_cons (ps_if (pt_cmpR op_gt (pv 3) pe_int (nomark _)) (pss_cons (ps_par3 (i := 4) (j := 5) (l := 6) rfl sc_law_parts_right.nd rfl rfl rfl (by decide) (by decide) (by decide) rfl rfl rfl (pa_cons (pe_call G_chain_sum (hr.mono (by decide)) rfl T.f_chain_sum T.k_chain_sum B_chain_sum .nil passL (pa_cons (pe_callTy call_list_of (by rfl) T.b_list (by decide +kernel) (pa_cons (pv 1) pa_nil)) pa_nil)) (pa_cons (pe_call G_chain_sum (hr.mono (by decide)) rfl T.f_chain_sum T.k_chain_sum B_chain_sum .nil passL (pa_cons (pe_callTy call_tuple_of (by rfl) T.b_tuple (by decide +kernel) (pa_cons (pe_slice sl_list (pv 1) po_none (po_some (pv 3))) pa_nil)) pa_nil)) (pa_cons (pe_call G_chain_sum (hr.mono (by decide)) rfl T.f_chain_sum T.k_chain_sum B_chain_sum .nil passL (pa_cons (pe_slice sl_list (pv 1) (po_some (pv 3)) po_none) pa_nil)) pa_nil))) (by rfl))
        (pss_one (ps_if (PW.pt (pw_or (pt_cmpR op_ne (pe_ix ix_tup (pv 5) pe_int (fun _ _ => rfl)) (pe_ix ix_tup (pv 6) pe_int (fun _ _ => rfl)) (nomark _)) (pw_or1 (pt_cmpR (op_neD hr.units) (pe_tup (pa_cons (pe_ix ix_tup (pv 5) pe_int (fun _ _ => rfl)) (pa_cons (pe_ix ix_tup (pv 6) pe_int (fun _ _ => rfl)) (pa_cons (pe_op op_add (pe_ix ix_tup (pv 5) pe_int (fun _ _ => rfl)) (pe_ix ix_tup (pv 6) pe_int (fun _ _ => rfl))) pa_nil)))) (pv 4) (nomark _))))) (pss_one (ps_ret pe_bl)) pss_nil))) pss_nil)
        (pss_cons (ps_if (pt_cmpR op_ne (pe_ix ix_tup (pe_ix ix_list (pv 1) pe_int (fun _ _ => rfl)) pe_int (fun _ _ => rfl)) (pe_ix ix_tup (pe_ix ix_list (pv 1) (pe_op op_sub (pe_callB call_len_seq (by rfl) T.b_len (by decide +kernel) (pa_cons (pv 1) pa_nil)) pe_int) (fun _ _ => rfl)) pe_int (fun _ _ => rfl)) (nomark _)) (pss_one (ps_ret pe_bl)) pss_nil)
        (pss_cons (ps_set (i := 7) sc_law_parts_right.nd rfl (Or.inl rfl) (pe_op op_cat (pe_slice sl_list (pv 1) (po_some (pv 3)) po_none) (pe_slice sl_list (pv 1) po_none (po_some (pv 3)))))
        (pss_cons (ps_if (pt_cmpR op_ne (pe_call G_ring_sum (hr.mono (by decide)) rfl T.f_ring_sum T.k_ring_sum B_ring_sum .nil passL (pa_cons (pe_callTy call_list_of (by rfl) T.b_list (by decide +kernel) (pa_cons (pv 7) pa_nil)) pa_nil)) (pe_call G_ring_sum (hr.mono (by decide)) rfl T.f_ring_sum T.k_ring_sum B_ring_sum .nil passL (pa_cons (pe_callTy call_tuple_of (by rfl) T.b_tuple (by decide +kernel) (pa_cons (pv 1) pa_nil)) pa_nil)) (nomark _)) (pss_one (ps_ret pe_bl)) pss_nil)
        (pss_one (ps_ret (pe_call G__law_sums_right (hr.mono (by decide)) rfl T.f__law_sums_right T.k__law_sums_right B__law_sums_right .nil pass0 (pa_cons (pv 7) (pa_cons (pe_callTy call_tuple_of (by rfl) T.b_tuple (by decide +kernel) (pa_cons (pv 7) pa_nil)) (pa_cons (pv 2) pa_nil))))))))))), ?_⟩
    have hlen := R.1
    have hle := O.le
    have hpos : 0 < ds.length := List.length_pos_iff.mpr O.ne
    have td : ds.take (0 : Nat) = [] := rfl
    refine ⟨_, rfl, _, rfl, r, us, rfl, .inl (SqL.of hr0), b, _, n, rfl, X, by omega, by omega, by omega, fun at_ H1 k1 X1 a0 a1 => ?_⟩
    obtain ⟨i, rfl⟩ := Int.eq_ofNat_of_zero_le a0
    have hi : i < us.length := by omega
    have hid : i < ds.length := by omega
    have hr1 := k1.at hrb hr0
    have R1 : RowsAt H1 us ds := R.keep (k1.tup X)
    have hg1 := hts_kp hg hgb k1
    have DL : ∀ {l : Addr} {H' : Hp}, Ex H1 H' → H' l = some (.lst us) → Dp K H' (.ref l) (.list (ds.map bD)) := fun e h => .lst (SqL.of h) (DpAll.ex e R1.dp)
    have DT : ∀ {l : Addr} {H' : Hp}, Ex H1 H' → H' l = some (.tup us) → Dp K H' (.ref l) (.tuple (ds.map bD)) := fun e h => .tup (SqT.of h) (DpAll.ex e R1.dp)
    -- what follows the parts
    obtain ⟨v0, d0, g0, k0, p0, rfl, hp0⟩ := rowAt_get R1 (i := 0) (by omega)
    obtain ⟨v9, d9, g9, k9, p9, rfl, hp9⟩ := rowAt_get R1 (i := us.length - 1) (by omega)
    have hx := fst_get k0
    have hy := lst_get (ds := ds) (by rw [← hlen]; exact k9)
    have hcL : isChainD (.list (ds.map bD)) = true := rows_chain N O rfl
    refine ⟨_, rfl, _, _, rfl, rfl, _, rfl, ?_⟩
    refine ite2 (fun h0 => ?_) (fun h0 => ?_)
    · have i0 : 0 < i := by
        have := of_decide_eq_true h0
        omega
      have Oa := ok_take O i0
      have Ob := ok_drop O hid
      have hm := mid_link O i0 hid
      have tdd : ds.take i ++ ds.drop i = ds := List.take_append_drop i ds
      have f1 : fstR (ds.take i) = fstR ds := by rw [← fst_app (A := ds.take i) (B := ds.drop i) Oa.ne, tdd]
      have l1 : lstR (ds.drop i) = lstR ds := by rw [← lst_app (A := ds.take i) (B := ds.drop i) Ob.ne, tdd]
      have tt : totR (ds.take i) + totR (ds.drop i) = totR ds := by rw [← tot_app, tdd]
      have Ra := ra_take R1 i
      have Rb := ra_drop R1 i
      have hcA : isChainD (.tuple ((ds.take i).map bD)) = true := rows_chain N Oa rfl
      have hcB : isChainD (.list ((ds.drop i).map bD)) = true := rows_chain N Ob rfl
      refine ⟨_, rfl, r, us, rfl, .inl (SqL.of hr1), fun l hl => ?_⟩
      have e1 := Ex.new (o := .lst us) hl
      refine ⟨_, _, rfl, DL e1 upd_same, rows_sz N O rfl, fun _ pw_ H2 e2 _ hpw => ?_, fun z => by rw [hcL] at z; cases z⟩
      rw [ends_rows O.ne rfl] at hpw
      have e12 := e1.trans e2
      refine ⟨_, rfl, _, rfl, _, rfl, r, us, rfl, SqL.of (e12 _ _ hr1), fun l2 hl2 => ?_⟩
      rw [cut_take us i (by omega)]
      have e3 := Ex.new (o := .lst (us.take i)) hl2
      refine ⟨l2, _, rfl, .inl ⟨SqL.of upd_same, fun l3 hl3 => ?_⟩⟩
      have e4 := Ex.new (o := .tup (us.take i)) hl3
      have e14 := (e12.trans e3).trans e4
      refine ⟨_, .tuple ((ds.take i).map bD), rfl, .tup (SqT.of upd_same) (DpAll.ex e14 Ra.dp), rows_sz N Oa rfl, fun _ pf H3 e5 _ hpf => ?_, fun z => by rw [hcA] at z; cases z⟩
      rw [ends_rows Oa.ne rfl] at hpf
      have e15 := e14.trans e5
      refine ⟨_, rfl, _, rfl, _, rfl, r, us, rfl, SqL.of (e15 _ _ hr1), fun l4 hl4 => ?_⟩
      rw [cut_drop us i (by omega)]
      have e6 := Ex.new (o := .lst (us.drop i)) hl4
      have e16 := e15.trans e6
      refine ⟨_, .list ((ds.drop i).map bD), rfl, .lst (SqL.of upd_same) (DpAll.ex e16 Rb.dp), rows_sz N Ob rfl, fun _ ps H4 e7 _ hps => ?_, fun z => by rw [hcB] at z; cases z⟩
      rw [ends_rows Ob.ne rfl] at hps
      have e67 := e6.trans e7
      have e17 := e15.trans e67
      have hpf4 := e67 _ _ hpf
      have hpw4 := (((e3.trans e4).trans e5).trans e67) _ _ hpw
      refine ⟨_, _, _, rfl, ?_⟩
      refine ⟨_, rfl, pf, _, 1, _, rfl, rfl, SqT.of hpf4, at_lit (n := 1) rfl rfl, _, rfl, ps, _, 0, _, rfl, rfl, SqT.of hps, at_lit (n := 0) rfl rfl, rfl, ?_⟩
      refine ⟨_, rfl, iteF' (by rw [hm]; simp) ?_⟩
      refine ⟨_, rfl, pf, _, 0, _, rfl, rfl, SqT.of hpf4, at_lit (n := 0) rfl rfl, _, rfl, ps, _, 1, _, rfl, rfl, SqT.of hps, at_lit (n := 1) rfl rfl,
        _, rfl, pf, _, 2, _, rfl, rfl, SqT.of hpf4, at_lit (n := 2) rfl rfl, _, rfl, ps, _, 2, _, rfl, rfl, SqT.of hps, at_lit (n := 2) rfl rfl, _, _, rfl, rfl, (by show 3 ≤ sizeLine; decide), fun t ht => ?_⟩
      dsimp only at ht ⊢
      have e8 := Ex.new (o := .tup [.str (fstR (ds.take i)), .str (lstR (ds.drop i)), .int (totR (ds.take i) + totR (ds.drop i))]) ht
      have e18 := e17.trans e8
      have nx := N _ (O.n1 d0 (List.mem_of_getElem? k0)).1
      have ny := N _ (O.n1 d9 (List.mem_of_getElem? k9)).2.1
      refine ⟨_, rfl, ?_⟩
      refine ne_same (n := 1) (d := .tuple [.str (fstR ds), .str (lstR ds), .int (totR ds)]) (.tup (SqT.of (by rw [upd_same, f1, l1, tt])) (.cons (.str _) (.cons (.str _) (.cons (.int _) .nil)))) (.tup (SqT.of (e8 _ _ hpw4)) (.cons (.str _) (.cons (.str _) (.cons (.int _) .nil))))
        (sh_trip (sh_str (by rw [hx]; exact sok_nm nx)) (sh_str (by rw [hy]; exact sok_nm ny)) sh_int) (by decide) ?_
      refine ⟨_, rfl, iteF' rfl ?_⟩
      have eX : Ex H1 _ := e18
      have hrX := eX _ _ hr1
      refine ⟨_, rfl, r, us, 0, _, rfl, rfl, SqL.of hrX, at_lit (n := 0) rfl g0, p0, _, 1, _, rfl, rfl, SqT.of (eX _ _ hp0), at_lit (n := 1) rfl rfl,
        _, rfl, _, rfl, r, us, rfl, .inl (SqL.of hrX), _, _, rfl, rfl, r, us, _, _, rfl, rfl, SqL.of hrX, at_lit (n := us.length - 1) (by omega) g9, p9, _, 2, _, rfl, rfl, SqT.of (eX _ _ hp9), at_lit (n := 2) rfl rfl, rfl, ?_⟩
      refine ⟨_, rfl, ?_⟩
      by_cases hxy : d0.1 = d9.2.1
      · refine iteF' (by rw [hxy]; simp) ?_
        obtain ⟨O2, C2, T2⟩ := ok_rot O (by rw [hx, hy, hxy]) hid
        have R2 : RowsAt H1 (us.drop i ++ us.take i) (ds.drop i ++ ds.take i) := ra_app (ra_drop R1 i) (ra_take R1 i)
        refine ⟨_, rfl, _, rfl, _, rfl, r, us, rfl, SqL.of hrX, fun l1 hl1 => ?_⟩
        rw [cut_drop us i (by omega)]
        have e1 := Ex.new (o := .lst (us.drop i)) hl1
        refine ⟨_, rfl, _, rfl, _, rfl, r, us, rfl, SqL.of (e1 _ _ hrX), fun l2 hl2 => ?_⟩
        rw [cut_take us i (by omega)]
        have e2 := Ex.new (o := .lst (us.take i)) hl2
        refine ⟨l1, l2, _, _, rfl, rfl, e2 _ _ upd_same, upd_same, Nat.le_trans (by simp; omega : _ ≤ 1000) (by decide), fun l3 hl3 => ?_⟩
        have e3 := Ex.new (o := .lst (us.drop i ++ us.take i)) hl3
        have e13 := (e1.trans e2).trans e3
        refine ⟨_, rfl, l3, _, rfl, .inl (SqL.of upd_same), fun l4 hl4 => ?_⟩
        have e4 := Ex.new (o := .lst (us.drop i ++ us.take i)) hl4
        have eA := eX.trans (e13.trans e4)
        have hrot : isRingD (.list ((ds.drop i ++ ds.take i).map bD)) = true := by rw [ring_rows N O2 rfl]; exact decide_eq_true C2
        have hrin : isRingD (.tuple (ds.map bD)) = true := by rw [ring_rows N O rfl]; exact decide_eq_true (by rw [hx, hy, hxy])
        refine ⟨_, .list ((ds.drop i ++ ds.take i).map bD), rfl, .lst (SqL.of upd_same) (DpAll.ex eA R2.dp), rows_sz N O2 rfl, fun _ H5 e5 => ?_, fun z => by rw [hrot] at z; cases z⟩
        have eB := eA.trans e5
        refine ⟨_, rfl, r, us, rfl, .inl ⟨SqL.of (eB _ _ hr1), fun l5 hl5 => ?_⟩⟩
        have e6 := Ex.new (o := .tup us) hl5
        refine ⟨_, .tuple (ds.map bD), rfl, DT (eB.trans e6) upd_same, rows_sz N O rfl, fun _ H6 e7 => ?_, fun z => by rw [hrin] at z; cases z⟩
        refine ⟨rfl, _, rfl, iteF' (by rw [ends_rows O2.ne rfl, ends_rows O.ne rfl, T2]; simp) ?_⟩
        have eC := (e4.trans e5).trans (e6.trans e7)
        have hl3' : H6 l3 = some (.lst (us.drop i ++ us.take i)) := eC _ _ upd_same
        have eD := (eX.trans e13).trans eC
        refine ⟨_, rfl, _, rfl, l3, _, rfl, .inl ⟨SqL.of hl3', fun l6 hl6 => ?_⟩⟩
        have e8 := Ex.new (o := .tup (us.drop i ++ us.take i)) hl6
        have eE := eD.trans e8
        refine ⟨_, rfl, l3, g, _, .tuple ((ds.drop i ++ ds.take i).map bD), xs, _, _, f, rfl, e8 _ _ hl3', rows_ex R2 eE, O2, N, .tup (SqT.of upd_same) (DpAll.ex eE R2.dp), .inr rfl, hts_ex hg1 eE, fun H9 e9 => ?_⟩
        exact q _ (k1.trans (Kp.ex (eE.trans e9))) (X1.ex (eE.trans e9))
      · refine iteT' (by rw [decide_eq_false fun z => hxy (V.str.inj z)]; rfl) ?_
        exact q _ (k1.trans (Kp.ex eX)) (X1.ex eX)
    · have eX : Ex H1 _ := Ex.refl H1
      have hrX := eX _ _ hr1
      refine ⟨_, rfl, r, us, 0, _, rfl, rfl, SqL.of hrX, at_lit (n := 0) rfl g0, p0, _, 1, _, rfl, rfl, SqT.of (eX _ _ hp0), at_lit (n := 1) rfl rfl,
        _, rfl, _, rfl, r, us, rfl, .inl (SqL.of hrX), _, _, rfl, rfl, r, us, _, _, rfl, rfl, SqL.of hrX, at_lit (n := us.length - 1) (by omega) g9, p9, _, 2, _, rfl, rfl, SqT.of (eX _ _ hp9), at_lit (n := 2) rfl rfl, rfl, ?_⟩
      refine ⟨_, rfl, ?_⟩
      by_cases hxy : d0.1 = d9.2.1
      · refine iteF' (by rw [hxy]; simp) ?_
        obtain ⟨O2, C2, T2⟩ := ok_rot O (by rw [hx, hy, hxy]) hid
        have R2 : RowsAt H1 (us.drop i ++ us.take i) (ds.drop i ++ ds.take i) := ra_app (ra_drop R1 i) (ra_take R1 i)
        refine ⟨_, rfl, _, rfl, _, rfl, r, us, rfl, SqL.of hrX, fun l1 hl1 => ?_⟩
        rw [cut_drop us i (by omega)]
        have e1 := Ex.new (o := .lst (us.drop i)) hl1
        refine ⟨_, rfl, _, rfl, _, rfl, r, us, rfl, SqL.of (e1 _ _ hrX), fun l2 hl2 => ?_⟩
        rw [cut_take us i (by omega)]
        have e2 := Ex.new (o := .lst (us.take i)) hl2
        refine ⟨l1, l2, _, _, rfl, rfl, e2 _ _ upd_same, upd_same, Nat.le_trans (by simp; omega : _ ≤ 1000) (by decide), fun l3 hl3 => ?_⟩
        have e3 := Ex.new (o := .lst (us.drop i ++ us.take i)) hl3
        have e13 := (e1.trans e2).trans e3
        refine ⟨_, rfl, l3, _, rfl, .inl (SqL.of upd_same), fun l4 hl4 => ?_⟩
        have e4 := Ex.new (o := .lst (us.drop i ++ us.take i)) hl4
        have eA := eX.trans (e13.trans e4)
        have hrot : isRingD (.list ((ds.drop i ++ ds.take i).map bD)) = true := by rw [ring_rows N O2 rfl]; exact decide_eq_true C2
        have hrin : isRingD (.tuple (ds.map bD)) = true := by rw [ring_rows N O rfl]; exact decide_eq_true (by rw [hx, hy, hxy])
        refine ⟨_, .list ((ds.drop i ++ ds.take i).map bD), rfl, .lst (SqL.of upd_same) (DpAll.ex eA R2.dp), rows_sz N O2 rfl, fun _ H5 e5 => ?_, fun z => by rw [hrot] at z; cases z⟩
        have eB := eA.trans e5
        refine ⟨_, rfl, r, us, rfl, .inl ⟨SqL.of (eB _ _ hr1), fun l5 hl5 => ?_⟩⟩
        have e6 := Ex.new (o := .tup us) hl5
        refine ⟨_, .tuple (ds.map bD), rfl, DT (eB.trans e6) upd_same, rows_sz N O rfl, fun _ H6 e7 => ?_, fun z => by rw [hrin] at z; cases z⟩
        refine ⟨rfl, _, rfl, iteF' (by rw [ends_rows O2.ne rfl, ends_rows O.ne rfl, T2]; simp) ?_⟩
        have eC := (e4.trans e5).trans (e6.trans e7)
        have hl3' : H6 l3 = some (.lst (us.drop i ++ us.take i)) := eC _ _ upd_same
        have eD := (eX.trans e13).trans eC
        refine ⟨_, rfl, _, rfl, l3, _, rfl, .inl ⟨SqL.of hl3', fun l6 hl6 => ?_⟩⟩
        have e8 := Ex.new (o := .tup (us.drop i ++ us.take i)) hl6
        have eE := eD.trans e8
        refine ⟨_, rfl, l3, g, _, .tuple ((ds.drop i ++ ds.take i).map bD), xs, _, _, f, rfl, e8 _ _ hl3', rows_ex R2 eE, O2, N, .tup (SqT.of upd_same) (DpAll.ex eE R2.dp), .inr rfl, hts_ex hg1 eE, fun H9 e9 => ?_⟩
        exact q _ (k1.trans (Kp.ex (eE.trans e9))) (X1.ex (eE.trans e9))
      · refine iteT' (by rw [decide_eq_false fun z => hxy (V.str.inj z)]; rfl) ?_
        exact q _ (k1.trans (Kp.ex eX)) (X1.ex eX)
end
end K7
set_option maxRecDepth 100000
set_option maxHeartbeats 8000000
namespace K7
open PySem L2 Evl
abbrev s_law : Stmt := top 36
theorem sc_law : FnScope ["script", "box", "names", "heights", "rows", "handed", "turn"] ["script"] (defScope s_law) := ⟨rfl, rfl, rfl, by decide +kernel, rfl, by decide +kernel, by decide +kernel⟩
structure TxtL (K : PySem.W.Frag) (mg : Str → Option Value) (fBx fNm fHt fCh fK fSR fPR fRf fBt : Addr) : Prop where
  b_list : mg "list" = none
  b_tuple : mg "tuple" = none
  b_range : mg "range" = none
  f__law_box : mg "_law_box" = some (.ref fBx)
  k__law_box : PySem.W.keepIn K (.ref fBx) = true
  f__law_names : mg "_law_names" = some (.ref fNm)
  k__law_names : PySem.W.keepIn K (.ref fNm) = true
  f__law_heights : mg "_law_heights" = some (.ref fHt)
  k__law_heights : PySem.W.keepIn K (.ref fHt) = true
  f__law_chain : mg "_law_chain" = some (.ref fCh)
  k__law_chain : PySem.W.keepIn K (.ref fCh) = true
  f__law_take : mg "_law_take" = some (.ref fK)
  k__law_take : PySem.W.keepIn K (.ref fK) = true
  f__law_sums_right : mg "_law_sums_right" = some (.ref fSR)
  k__law_sums_right : PySem.W.keepIn K (.ref fSR) = true
  f__law_parts_right : mg "_law_parts_right" = some (.ref fPR)
  k__law_parts_right : PySem.W.keepIn K (.ref fPR) = true
  f__law_refused : mg "_law_refused" = some (.ref fRf)
  k__law_refused : PySem.W.keepIn K (.ref fRf) = true
  f__law_bent : mg "_law_bent" = some (.ref fBt)
  k__law_bent : PySem.W.keepIn K (.ref fBt) = true
def spLaw (K : PySem.W.Frag) : Sp := fun vs H Q _ => ∃ (a : Addr) (ns : List Int), vs = [.ref a] ∧ SqL K H a (ns.map V.int) ∧ ∀ H', Q (.bl true) H'
/-- the rows, what is handed in, the heights -/
structure Hd (p r g : Addr) (us : List V) (ds : List Row) (xs : List Str) (f : Str → Int) (H : Hp) : Prop where
  hp : H p = some (.lst us) ∨ H p = some (.tup us)
  hr : H r = some (.lst us)
  hR : RowsAt H us ds
  hg : Hts g xs f H
section
variable {P : Program} {w : World} {K : PySem.W.Frag} {mg : Str → Option Value} {base : Heap} {fBx fNm fHt fCh fK fSR fPR fRf fBt : Addr} {fdBx fdNm fdHt fdCh fdK fdSR fdPR fdRf fdBt : FuncData}
theorem Hd.kp {b p r g : Addr} {us : List V} {ds : List Row} {xs : List Str} {f : Str → Int} {H H' : Hp} {n : Nat} (h : Hd p r g us ds xs f H) (hp : p ≠ b) (hr : r ≠ b) (hg : g ≠ b) (X : Bx b n H) (k : Kp b H H') : Hd p r g us ds xs f H' :=
  ⟨h.hp.imp (k.at hp) (k.at hp), k.at hr h.hr, h.hR.keep (k.tup X), hts_kp h.hg hg k⟩
theorem Hd.ex {p r g : Addr} {us : List V} {ds : List Row} {xs : List Str} {f : Str → Int} {H H' : Hp} (h : Hd p r g us ds xs f H) (e : Ex H H') : Hd p r g us ds xs f H' :=
  ⟨h.hp.imp (e _ _) (e _ _), e _ _ h.hr, rows_ex h.hR e, hts_ex h.hg e⟩
theorem Hd.dp {p r g : Addr} {us : List V} {ds : List Row} {xs : List Str} {f : Str → Int} {H : Hp} (h : Hd p r g us ds xs f H) : ∃ D, Dp K H (.ref p) D ∧ (D = .list (ds.map bD) ∨ D = .tuple (ds.map bD)) := by
  rcases h.hp with q | q
  · exact ⟨_, .lst (SqL.of q) h.hR.dp, .inl rfl⟩
  · exact ⟨_, .tup (SqT.of q) h.hR.dp, .inr rfl⟩
theorem Hd.sq {p r g : Addr} {us : List V} {ds : List Row} {xs : List Str} {f : Str → Int} {H : Hp} (h : Hd p r g us ds xs f H) : SqL K H p us ∨ SqT K H p us := h.hp.imp SqL.of SqT.of
theorem ok_law {f : Addr} {fd : FuncData} (F : Fun K "law" "law" s_law f fd) (T : TxtL K mg fBx fNm fHt fCh fK fSR fPR fRf fBt)
    (G__law_box : FnOk P w K mg base CX0 1 fBx fdBx ["script"] (spBox K)) (B__law_box : Binds K fdBx ["script"] [])
    (G__law_names : FnOk P w K mg base CX0 4 fNm fdNm ["box", "count"] spNames) (B__law_names : Binds K fdNm ["box", "count"] [])
    (G__law_heights : FnOk P w K mg base CX0 4 fHt fdHt ["box", "names"] spHeights) (B__law_heights : Binds K fdHt ["box", "names"] [])
    (G__law_chain : FnOk P w K mg base CX0 5 fCh fdCh ["box", "names", "heights"] spChain) (B__law_chain : Binds K fdCh ["box", "names", "heights"] [])
    (G__law_take : FnOk P w K mg base CX0 2 fK fdK ["box", "size"] spTake) (B__law_take : Binds K fdK ["box", "size"] [])
    (G__law_sums_right : FnOk P w K mg base CX0 7 fSR fdSR ["rows", "handed", "heights"] (spSums K)) (B__law_sums_right : Binds K fdSR ["rows", "handed", "heights"] [])
    (G__law_parts_right : FnOk P w K mg base CX0 8 fPR fdPR ["box", "rows", "heights"] spParts) (B__law_parts_right : Binds K fdPR ["box", "rows", "heights"] [])
    (G__law_refused : FnOk P w K mg base CX0 7 fRf fdRf ["bent"] (spRefused K)) (B__law_refused : Binds K fdRf ["bent"] [])
    (G__law_bent : FnOk P w K mg base CX0 3 fBt fdBt ["box", "rows"] (spBent K)) (B__law_bent : Binds K fdBt ["box", "rows"] []) :
    FnOk P w K mg base CX0 9 f fd ["script"] (spLaw K) := by
  refine F.ok sc_law (fun vs H Q E h => ?_) (fun cdv A outer s H vs Q E hr h => ?_)
  · obtain ⟨a, ns, rfl, _⟩ := h
    rfl
  · obtain ⟨a, ns, rfl, hsq, q⟩ := h
    refine ⟨_, (pss_cons (ps_set (i := 1) sc_law.nd rfl (Or.inl rfl) (pe_call G__law_box (hr.mono (by decide)) rfl T.f__law_box T.k__law_box B__law_box .nil pass0 (pa_cons (pv 0) pa_nil)))
        (pss_cons (ps_set (i := 2) sc_law.nd rfl (Or.inl rfl) (pe_call G__law_names (hr.mono (by decide)) rfl T.f__law_names T.k__law_names B__law_names .nil pass0 (pa_cons (pv 1) (pa_cons (pe_op op_add pe_int (pe_call G__law_take (hr.mono (by decide)) rfl T.f__law_take T.k__law_take B__law_take .nil pass0 (pa_cons (pv 1) (pa_cons pe_int pa_nil)))) pa_nil))))
        (pss_cons (ps_set (i := 3) sc_law.nd rfl (Or.inl rfl) (pe_call G__law_heights (hr.mono (by decide)) rfl T.f__law_heights T.k__law_heights B__law_heights .nil pass0 (pa_cons (pv 1) (pa_cons (pv 2) pa_nil))))
        (pss_cons (ps_set (i := 4) sc_law.nd rfl (Or.inl rfl) (pe_call G__law_chain (hr.mono (by decide)) rfl T.f__law_chain T.k__law_chain B__law_chain .nil pass0 (pa_cons (pv 1) (pa_cons (pv 2) (pa_cons (pv 3) pa_nil)))))
        (pss_cons (ps_set (i := 5) sc_law.nd rfl (Or.inl rfl) (pe_callTy call_list_of (by rfl) T.b_list (by decide +kernel) (pa_cons (pv 4) pa_nil)))
        (Evl.pss_cut (ps_if (pt_cmpR op_eq (pe_call G__law_take (hr.mono (by decide)) rfl T.f__law_take T.k__law_take B__law_take .nil pass0 (pa_cons (pv 1) (pa_cons pe_int pa_nil))) pe_int (nomark _)) (pss_one (ps_set (i := 5) sc_law.nd rfl (Or.inl rfl) (pe_callTy call_tuple_of (by rfl) T.b_tuple (by decide +kernel) (pa_cons (pv 4) pa_nil)))) pss_nil)
        (pss_cons (ps_if (PW.pt (pw_or (pt_not (pt_val (pe_call G__law_sums_right (hr.mono (by decide)) rfl T.f__law_sums_right T.k__law_sums_right B__law_sums_right .nil pass0 (pa_cons (pv 4) (pa_cons (pv 5) (pa_cons (pv 3) pa_nil)))))) (pw_or1 (pt_cmpR (op_neD hr.units) (pe_callTy call_list_of (by rfl) T.b_list (by decide +kernel) (pa_cons (pv 5) pa_nil)) (pv 4) (nomark _))))) (pss_one (ps_ret pe_bl)) pss_nil)
        (pss_cons (ps_if (pt_not (pt_val (pe_call G__law_parts_right (hr.mono (by decide)) rfl T.f__law_parts_right T.k__law_parts_right B__law_parts_right .nil pass0 (pa_cons (pv 1) (pa_cons (pv 4) (pa_cons (pv 3) pa_nil)))))) (pss_one (ps_ret pe_bl)) pss_nil)
        (pss_cons (ps_for PassesOwn.never rfl (pi_range1 rfl T.b_range (pa_cons pe_int pa_nil)) (pg_name (i := 6) sc_law.nd rfl (Or.inl rfl)) (pss_one (ps_if (pt_not (pt_val (pe_call G__law_refused (hr.mono (by decide)) rfl T.f__law_refused T.k__law_refused B__law_refused .nil pass0 (pa_cons (pe_call G__law_bent (hr.mono (by decide)) rfl T.f__law_bent T.k__law_bent B__law_bent .nil pass0 (pa_cons (pv 1) (pa_cons (pv 4) pa_nil))) pa_nil)))) (pss_one (ps_ret pe_bl)) pss_nil)))
        (pss_one (ps_ret (pe_and (pe_call G__law_sums_right (hr.mono (by decide)) rfl T.f__law_sums_right T.k__law_sums_right B__law_sums_right .nil pass0 (pa_cons (pv 4) (pa_cons (pv 5) (pa_cons (pv 3) pa_nil)))) (pe_one (pe_cmpR (op_eqD hr.units) (pe_callTy call_list_of (by rfl) T.b_list (by decide +kernel) (pa_cons (pv 5) pa_nil)) (pv 4) (nomark _))))))))))))))), ?_⟩
    refine ⟨_, rfl, a, ns, rfl, hsq, fun b H1 e1 hb X1 => ?_⟩
    refine ⟨_, rfl, _, rfl, b, 6, 4, rfl, X1, by decide, by decide, by decide, fun k H2 k2 X2 c0 c1 => ⟨_, _, rfl, rfl, ?_⟩⟩
    obtain ⟨kk, rfl⟩ := Int.eq_ofNat_of_zero_le c0
    refine ⟨b, 5, 2 + kk, rfl, X2, by omega, by omega, fun l xs H3 hl hlb N hxl k3 X3 => ?_⟩
    refine ⟨_, rfl, _, rfl, b, l, _, xs, rfl, X3, by omega, hlb, N, by omega, fun d f H4 hd hg k4 X4 => ?_⟩
    have hdb := X3.ne hd
    have N4 : Nms l xs H4 := ⟨k4.at hlb N.at_, N.nm, N.nd⟩
    refine ⟨_, rfl, _, rfl, _, rfl, b, l, d, _, xs, f, rfl, X4, by omega, hlb, N4, by omega, by omega, hdb, hg, fun r us ds H5 hr hr5 R5 O k5 X5 => ?_⟩
    have hrb := X4.ne hr
    have NO : NmsOk xs := N.nm
    have hg5 := hts_kp hg hdb k5
    refine ⟨_, rfl, r, us, rfl, .inl (SqL.of hr5), fun hn hhn => ?_⟩
    have e6 := Ex.new (o := .lst us) hhn
    have hnb := X5.ne hhn
    have X6 := X5.ex e6
    refine ⟨fun σ' H' => ∃ p : Addr, σ' = [some (.ref a), some (.ref b), some (.ref l), some (.ref d), some (.ref r), some (.ref p), none] ∧ p ≠ b ∧ Hd p r d us ds xs f H' ∧ Bx b 1000 H', ?_, ?_⟩
    · refine ⟨_, rfl, b, 2, _, rfl, X6, by omega, by decide, by decide, fun z H7 k7 X7 z0 z1 => ?_⟩
      have hr7 := k7.at hrb (e6 _ _ hr5)
      have R7 := (rows_ex R5 e6).keep (k7.tup X6)
      have hg7 := hts_kp (hts_ex hg5 e6) hdb k7
      refine ⟨rfl, _, rfl, ?_⟩
      refine ite2 (fun h0 => ?_) (fun h0 => ?_)
      · refine ⟨_, rfl, r, us, rfl, .inl ⟨SqL.of hr7, fun p hp => ?_⟩⟩
        have e8 := Ex.new (o := .tup us) hp
        exact ⟨p, rfl, X7.ne hp, ⟨.inr upd_same, e8 _ _ hr7, rows_ex R7 e8, hts_ex hg7 e8⟩, (X7.ex e8).mono (by omega)⟩
      · exact ⟨hn, rfl, hnb, ⟨.inl (k7.at hnb upd_same), hr7, R7, hg7⟩, X7.mono (by omega)⟩
    · rintro σ' H6 ⟨p, rfl, hpb, S, X⟩
      -- _law_sums_right(rows, handed, heights) or list(handed) != rows
      have shR : Sh 20 (.list (ds.map bD)) := Sh.list (n := 19) (sh_rows NO O)
      obtain ⟨D, hD, hD2⟩ := S.dp (K := K)
      refine ⟨_, rfl, _, rfl, _, rfl, r, d, _, D, xs, us, ds, f, rfl, S.hr, S.hR, O, NO, hD, hD2, S.hg, fun H7 e7 => ?_⟩
      have S7 := S.ex e7
      refine ⟨_, rfl, iteF' rfl ⟨_, rfl, p, us, rfl, S7.sq, fun t1 ht1 => ?_⟩⟩
      have e8 := Ex.new (o := .lst us) ht1
      have S8 := S7.ex e8
      refine ⟨_, rfl, ?_⟩
      refine ne_same (n := 20) (.lst (SqL.of upd_same) S8.hR.dp) (.lst (SqL.of S8.hr) S8.hR.dp) shR (by decide) ?_
      refine ⟨_, rfl, iteF' rfl ?_⟩
      have X8 := (X.ex e7).ex e8
      -- _law_parts_right(box, rows, heights)
      refine ⟨_, rfl, _, rfl, _, rfl, b, r, d, 1000, xs, us, ds, f, rfl, X8, by omega, hrb, hdb, S8.hr, S8.hR, O, NO, S8.hg, fun H9 k9 X9 => ?_⟩
      have S9 := S8.kp hpb hrb hdb X8 k9
      refine ⟨_, rfl, iteF' rfl ?_⟩
      refine ⟨4, rfl, by decide, by decide, for_range (lo := 0) (n := 4) (fun i σ H' => (∃ u : Option V, σ = [some (.ref a), some (.ref b), some (.ref l), some (.ref d), some (.ref r), some (.ref p), u]) ∧ Hd p r d us ds xs f H' ∧ Bx b (1001 + 5 * i) H') ⟨⟨none, rfl⟩, S9, X9⟩ ?_ ?_⟩
      · rintro i σ H' hi ⟨⟨u, rfl⟩, S', X'⟩
        refine ⟨_, rfl, _, rfl, b, r, _, xs, us, ds, rfl, X', by omega, hrb, S'.hr, S'.hR, O, NO, fun v' d' H10 D10 nc sz k10 X10 => ?_⟩
        refine ⟨v', d', rfl, D10, sz.1, sz.2, nc, fun H11 e11 => ?_⟩
        refine ⟨_, rfl, iteF' rfl ?_⟩
        exact ⟨⟨_, rfl⟩, (S'.kp hpb hrb hdb X' k10).ex e11, (X10.ex e11).mono (by omega)⟩
      · rintro σ H' ⟨⟨u, rfl⟩, S', X'⟩
        obtain ⟨D', hD', hD2'⟩ := S'.dp (K := K)
        refine ⟨_, rfl, _, rfl, _, rfl, r, d, _, D', xs, us, ds, f, rfl, S'.hr, S'.hR, O, NO, hD', hD2', S'.hg, fun H12 e12 => ?_⟩
        have S12 := S'.ex e12
        refine ⟨_, rfl, iteT' rfl ⟨_, rfl, p, us, rfl, S12.sq, fun t1 ht1 => ?_⟩⟩
        have S13 := S12.ex (Ex.new (o := .lst us) ht1)
        refine ⟨_, rfl, ?_⟩
        exact eq_same (n := 20) (.lst (SqL.of upd_same) S13.hR.dp) (.lst (SqL.of S13.hr) S13.hR.dp) shR (by decide) (q _)
end
end K7
set_option maxRecDepth 100000
set_option maxHeartbeats 4000000
namespace K7
open PySem L2 Evl

theorem kit_self {K : PySem.W.Frag} {C : Addr} : PySem.W.kitOne K (.ref C) (.ref C) = some true := by
  unfold PySem.W.kitOne
  rw [if_pos (beq_self_eq_true _)]

theorem kit_other {K : PySem.W.Frag} {C D : Addr} (h1 : PySem.W.subIn K (.ref C) (.ref C) = some true) (h2 : PySem.W.subIn K (.ref C) (.ref D) = some false) (hdct : PySem.W.hasDictIn K D = true) (ht : PySem.W.typeIn K (.ref D) = some (.type "type")) : PySem.W.kitOne K (.ref C) (.ref D) = some false := by
  have ne : C ≠ D := fun z => by
    subst z
    rw [h1] at h2
    cases h2
  obtain ⟨cd, hc, _⟩ := PySem.W.any_some hdct
  have e2 : ((PySem.W.clsIn K D).isSome && PySem.W.typeIn K (.ref D) == some (.type "type")) = true := by rw [hc, ht] <;> rfl
  unfold PySem.W.kitOne
  rw [if_neg (fun z => ne (Value.ref.inj (eq_of_beq z)))]
  show (if ((PySem.W.clsIn K D).isSome && PySem.W.typeIn K (.ref D) == some (.type "type")) = true then PySem.W.subIn K (.ref C) (.ref D) else none) = some false
  rw [if_pos e2]
  exact h2

theorem all_mk {l : PySem.W.OpenLaw} {w : World} {K : PySem.W.Frag} {h : Heap} {mg : Str → Option Value} {fa cR cI cL fX f1 f2 f3 f4 f5 f6 f7 f8 f9 f10 f11 f12 f13 f14 f15 f16 f17 f18 f19 f20 f21 f22 f23 f24 f25 f26 f27 : Addr} (X : K.In h) (G : h.Ns mainGlobals mg) (hfa : mg "law" = some (.ref fa))
    {od0 an0 od1 an1 od2 an2 od3 an3 od4 an4 od5 an5 od6 an6 od7 an7 od8 an8 od9 an9 od10 an10 od11 an11 od12 an12 od13 an13 od14 an14 od15 an15 od16 an16 od17 an17 od18 an18 od19 an19 od20 an20 od21 an21 od22 an22 od23 an23 od24 an24 od25 an25 od26 an26 od27 an27 : Option Addr} {sl0 sl1 sl2 sl3 sl4 sl5 sl6 sl7 sl8 sl9 sl10 sl11 sl12 sl13 sl14 sl15 sl16 sl17 sl18 sl19 sl20 sl21 sl22 sl23 sl24 sl25 sl26 sl27 : Array (Option Value)} {oc0 dc0 pm0 ct0 oc1 kV1 dc1 pm1 cd1 ct1 oc2 kV2 dc2 pm2 cd2 ct2 oc3 kV3 dc3 pm3 cd3 ct3 oc4 kV4 dc4 pm4 cd4 ct4 oc5 kV5 dc5 pm5 cd5 ct5 oc6 kV6 dc6 pm6 cd6 ct6 oc7 kV7 dc7 pm7 cd7 ct7 oc8 kV8 dc8 pm8 cd8 ct8 oc9 kV9 dc9 pm9 cd9 ct9 oc10 kV10 dc10 pm10 cd10 ct10 oc11 kV11 dc11 pm11 cd11 ct11 oc12 kV12 dc12 pm12 cd12 ct12 oc13 kV13 dc13 pm13 cd13 ct13 oc14 kV14 dc14 pm14 cd14 ct14 oc15 kV15 dc15 pm15 cd15 ct15 oc16 kV16 dc16 pm16 cd16 ct16 oc17 kV17 dc17 pm17 cd17 ct17 oc18 kV18 dc18 pm18 cd18 ct18 oc19 kV19 dc19 pm19 cd19 ct19 oc20 kV20 dc20 pm20 cd20 ct20 oc21 kV21 dc21 pm21 cd21 ct21 oc22 kV22 dc22 pm22 cd22 ct22 oc23 kV23 dc23 pm23 cd23 ct23 oc24 kV24 dc24 pm24 cd24 ct24 oc25 kV25 dc25 pm25 cd25 ct25 oc26 kV26 dc26 pm26 cd26 ct26 oc27 kV27 dc27 pm27 cd27 ct27 : Value}
    {nm q : Str} {NN : Addr} {bs bm : List Value} {sn : List Str} {sub : List Value} {ab : Bool} {col : Option Bool} {dd : Option Addr} {m0 m1 m2 m3 m5 : Option Value} {cda cc : Addr}
    {cl0 ccl : Value} {cld cdd : Option Addr} {csl ccs : Array (Option Value)} {rvs : Array Value} {file : Str} {tf t1 t2 t3 : Tok}
    (a1 : PySem.W.nsIn K mainGlobals "is_name" = some (some (.ref f1)))
    (l1 : K.lookup f1 = some ⟨oc1, od1, .func (PySem.W.fnOf "is_name" "is_name" (defArgs s_is_name) (defBody s_is_name) (defScope s_is_name) .none kV1 dc1 pm1 an1 cd1 ct1), sl1⟩)
    (c1 : PySem.W.codeIn K cd1 "is_name" = true)
    (k1 : PySem.W.keepIn K (.ref f1) = true)
    (a2 : PySem.W.nsIn K mainGlobals "is_integer" = some (some (.ref f2)))
    (l2 : K.lookup f2 = some ⟨oc2, od2, .func (PySem.W.fnOf "is_integer" "is_integer" (defArgs s_is_integer) (defBody s_is_integer) (defScope s_is_integer) .none kV2 dc2 pm2 an2 cd2 ct2), sl2⟩)
    (c2 : PySem.W.codeIn K cd2 "is_integer" = true)
    (k2 : PySem.W.keepIn K (.ref f2) = true)
    (a3 : PySem.W.nsIn K mainGlobals "is_bound" = some (some (.ref f3)))
    (l3 : K.lookup f3 = some ⟨oc3, od3, .func (PySem.W.fnOf "is_bound" "is_bound" (defArgs s_is_bound) (defBody s_is_bound) (defScope s_is_bound) .none kV3 dc3 pm3 an3 cd3 ct3), sl3⟩)
    (c3 : PySem.W.codeIn K cd3 "is_bound" = true)
    (k3 : PySem.W.keepIn K (.ref f3) = true)
    (a4 : PySem.W.nsIn K mainGlobals "is_chain" = some (some (.ref f4)))
    (l4 : K.lookup f4 = some ⟨oc4, od4, .func (PySem.W.fnOf "is_chain" "is_chain" (defArgs s_is_chain) (defBody s_is_chain) (defScope s_is_chain) .none kV4 dc4 pm4 an4 cd4 ct4), sl4⟩)
    (c4 : PySem.W.codeIn K cd4 "is_chain" = true)
    (k4 : PySem.W.keepIn K (.ref f4) = true)
    (a5 : PySem.W.nsIn K mainGlobals "is_ring" = some (some (.ref f5)))
    (l5 : K.lookup f5 = some ⟨oc5, od5, .func (PySem.W.fnOf "is_ring" "is_ring" (defArgs s_is_ring) (defBody s_is_ring) (defScope s_is_ring) .none kV5 dc5 pm5 an5 cd5 ct5), sl5⟩)
    (c5 : PySem.W.codeIn K cd5 "is_ring" = true)
    (k5 : PySem.W.keepIn K (.ref f5) = true)
    (a6 : PySem.W.nsIn K mainGlobals "total_of" = some (some (.ref f6)))
    (l6 : K.lookup f6 = some ⟨oc6, od6, .func (PySem.W.fnOf "total_of" "total_of" (defArgs s_total_of) (defBody s_total_of) (defScope s_total_of) .none kV6 dc6 pm6 an6 cd6 ct6), sl6⟩)
    (c6 : PySem.W.codeIn K cd6 "total_of" = true)
    (k6 : PySem.W.keepIn K (.ref f6) = true)
    (a7 : PySem.W.nsIn K mainGlobals "chain_sum" = some (some (.ref f7)))
    (l7 : K.lookup f7 = some ⟨oc7, od7, .func (PySem.W.fnOf "chain_sum" "chain_sum" (defArgs s_chain_sum) (defBody s_chain_sum) (defScope s_chain_sum) .none kV7 dc7 pm7 an7 cd7 ct7), sl7⟩)
    (c7 : PySem.W.codeIn K cd7 "chain_sum" = true)
    (k7 : PySem.W.keepIn K (.ref f7) = true)
    (a8 : PySem.W.nsIn K mainGlobals "ring_sum" = some (some (.ref f8)))
    (l8 : K.lookup f8 = some ⟨oc8, od8, .func (PySem.W.fnOf "ring_sum" "ring_sum" (defArgs s_ring_sum) (defBody s_ring_sum) (defScope s_ring_sum) .none kV8 dc8 pm8 an8 cd8 ct8), sl8⟩)
    (c8 : PySem.W.codeIn K cd8 "ring_sum" = true)
    (k8 : PySem.W.keepIn K (.ref f8) = true)
    (a9 : PySem.W.nsIn K mainGlobals "_law_integer" = some (some (.ref f9)))
    (l9 : K.lookup f9 = some ⟨oc9, od9, .func (PySem.W.fnOf "_law_integer" "_law_integer" (defArgs s_law_integer) (defBody s_law_integer) (defScope s_law_integer) .none kV9 dc9 pm9 an9 cd9 ct9), sl9⟩)
    (c9 : PySem.W.codeIn K cd9 "_law_integer" = true)
    (k9 : PySem.W.keepIn K (.ref f9) = true)
    (a10 : PySem.W.nsIn K mainGlobals "_law_box" = some (some (.ref f10)))
    (l10 : K.lookup f10 = some ⟨oc10, od10, .func (PySem.W.fnOf "_law_box" "_law_box" (defArgs s_law_box) (defBody s_law_box) (defScope s_law_box) .none kV10 dc10 pm10 an10 cd10 ct10), sl10⟩)
    (c10 : PySem.W.codeIn K cd10 "_law_box" = true)
    (k10 : PySem.W.keepIn K (.ref f10) = true)
    (a11 : PySem.W.nsIn K mainGlobals "_law_mixed" = some (some (.ref f11)))
    (l11 : K.lookup f11 = some ⟨oc11, od11, .func (PySem.W.fnOf "_law_mixed" "_law_mixed" (defArgs s_law_mixed) (defBody s_law_mixed) (defScope s_law_mixed) .none kV11 dc11 pm11 an11 cd11 ct11), sl11⟩)
    (c11 : PySem.W.codeIn K cd11 "_law_mixed" = true)
    (k11 : PySem.W.keepIn K (.ref f11) = true)
    (a12 : PySem.W.nsIn K mainGlobals "_law_take" = some (some (.ref f12)))
    (l12 : K.lookup f12 = some ⟨oc12, od12, .func (PySem.W.fnOf "_law_take" "_law_take" (defArgs s_law_take) (defBody s_law_take) (defScope s_law_take) .none kV12 dc12 pm12 an12 cd12 ct12), sl12⟩)
    (c12 : PySem.W.codeIn K cd12 "_law_take" = true)
    (k12 : PySem.W.keepIn K (.ref f12) = true)
    (a13 : PySem.W.nsIn K mainGlobals "_law_name" = some (some (.ref f13)))
    (l13 : K.lookup f13 = some ⟨oc13, od13, .func (PySem.W.fnOf "_law_name" "_law_name" (defArgs s_law_name) (defBody s_law_name) (defScope s_law_name) .none kV13 dc13 pm13 an13 cd13 ct13), sl13⟩)
    (c13 : PySem.W.codeIn K cd13 "_law_name" = true)
    (k13 : PySem.W.keepIn K (.ref f13) = true)
    (a14 : PySem.W.nsIn K mainGlobals "_law_names" = some (some (.ref f14)))
    (l14 : K.lookup f14 = some ⟨oc14, od14, .func (PySem.W.fnOf "_law_names" "_law_names" (defArgs s_law_names) (defBody s_law_names) (defScope s_law_names) .none kV14 dc14 pm14 an14 cd14 ct14), sl14⟩)
    (c14 : PySem.W.codeIn K cd14 "_law_names" = true)
    (k14 : PySem.W.keepIn K (.ref f14) = true)
    (a15 : PySem.W.nsIn K mainGlobals "_law_far" = some (some (.ref f15)))
    (l15 : K.lookup f15 = some ⟨oc15, od15, .func (PySem.W.fnOf "_law_far" "_law_far" (defArgs s_law_far) (defBody s_law_far) (defScope s_law_far) .none kV15 dc15 pm15 an15 cd15 ct15), sl15⟩)
    (c15 : PySem.W.codeIn K cd15 "_law_far" = true)
    (k15 : PySem.W.keepIn K (.ref f15) = true)
    (a16 : PySem.W.nsIn K mainGlobals "_law_heights" = some (some (.ref f16)))
    (l16 : K.lookup f16 = some ⟨oc16, od16, .func (PySem.W.fnOf "_law_heights" "_law_heights" (defArgs s_law_heights) (defBody s_law_heights) (defScope s_law_heights) .none kV16 dc16 pm16 an16 cd16 ct16), sl16⟩)
    (c16 : PySem.W.codeIn K cd16 "_law_heights" = true)
    (k16 : PySem.W.keepIn K (.ref f16) = true)
    (a17 : PySem.W.nsIn K mainGlobals "_law_slack" = some (some (.ref f17)))
    (l17 : K.lookup f17 = some ⟨oc17, od17, .func (PySem.W.fnOf "_law_slack" "_law_slack" (defArgs s_law_slack) (defBody s_law_slack) (defScope s_law_slack) .none kV17 dc17 pm17 an17 cd17 ct17), sl17⟩)
    (c17 : PySem.W.codeIn K cd17 "_law_slack" = true)
    (k17 : PySem.W.keepIn K (.ref f17) = true)
    (a18 : PySem.W.nsIn K mainGlobals "_law_chain" = some (some (.ref f18)))
    (l18 : K.lookup f18 = some ⟨oc18, od18, .func (PySem.W.fnOf "_law_chain" "_law_chain" (defArgs s_law_chain) (defBody s_law_chain) (defScope s_law_chain) .none kV18 dc18 pm18 an18 cd18 ct18), sl18⟩)
    (c18 : PySem.W.codeIn K cd18 "_law_chain" = true)
    (k18 : PySem.W.keepIn K (.ref f18) = true)
    (a19 : PySem.W.nsIn K mainGlobals "_law_fulfilled" = some (some (.ref f19)))
    (l19 : K.lookup f19 = some ⟨oc19, od19, .func (PySem.W.fnOf "_law_fulfilled" "_law_fulfilled" (defArgs s_law_fulfilled) (defBody s_law_fulfilled) (defScope s_law_fulfilled) .none kV19 dc19 pm19 an19 cd19 ct19), sl19⟩)
    (c19 : PySem.W.codeIn K cd19 "_law_fulfilled" = true)
    (k19 : PySem.W.keepIn K (.ref f19) = true)
    (a20 : PySem.W.nsIn K mainGlobals "_law_odd" = some (some (.ref f20)))
    (l20 : K.lookup f20 = some ⟨oc20, od20, .func (PySem.W.fnOf "_law_odd" "_law_odd" (defArgs s_law_odd) (defBody s_law_odd) (defScope s_law_odd) .none kV20 dc20 pm20 an20 cd20 ct20), sl20⟩)
    (c20 : PySem.W.codeIn K cd20 "_law_odd" = true)
    (k20 : PySem.W.keepIn K (.ref f20) = true)
    (a21 : PySem.W.nsIn K mainGlobals "_law_bent" = some (some (.ref f21)))
    (l21 : K.lookup f21 = some ⟨oc21, od21, .func (PySem.W.fnOf "_law_bent" "_law_bent" (defArgs s_law_bent) (defBody s_law_bent) (defScope s_law_bent) .none kV21 dc21 pm21 an21 cd21 ct21), sl21⟩)
    (c21 : PySem.W.codeIn K cd21 "_law_bent" = true)
    (k21 : PySem.W.keepIn K (.ref f21) = true)
    (a22 : PySem.W.nsIn K mainGlobals "_law_copy" = some (some (.ref f22)))
    (l22 : K.lookup f22 = some ⟨oc22, od22, .func (PySem.W.fnOf "_law_copy" "_law_copy" (defArgs s_law_copy) (defBody s_law_copy) (defScope s_law_copy) .none kV22 dc22 pm22 an22 cd22 ct22), sl22⟩)
    (c22 : PySem.W.codeIn K cd22 "_law_copy" = true)
    (k22 : PySem.W.keepIn K (.ref f22) = true)
    (a23 : PySem.W.nsIn K mainGlobals "_law_asked" = some (some (.ref f23)))
    (l23 : K.lookup f23 = some ⟨oc23, od23, .func (PySem.W.fnOf "_law_asked" "_law_asked" (defArgs s_law_asked) (defBody s_law_asked) (defScope s_law_asked) .none kV23 dc23 pm23 an23 cd23 ct23), sl23⟩)
    (c23 : PySem.W.codeIn K cd23 "_law_asked" = true)
    (k23 : PySem.W.keepIn K (.ref f23) = true)
    (a24 : PySem.W.nsIn K mainGlobals "_law_sums_right" = some (some (.ref f24)))
    (l24 : K.lookup f24 = some ⟨oc24, od24, .func (PySem.W.fnOf "_law_sums_right" "_law_sums_right" (defArgs s_law_sums_right) (defBody s_law_sums_right) (defScope s_law_sums_right) .none kV24 dc24 pm24 an24 cd24 ct24), sl24⟩)
    (c24 : PySem.W.codeIn K cd24 "_law_sums_right" = true)
    (k24 : PySem.W.keepIn K (.ref f24) = true)
    (a25 : PySem.W.nsIn K mainGlobals "_law_parts_right" = some (some (.ref f25)))
    (l25 : K.lookup f25 = some ⟨oc25, od25, .func (PySem.W.fnOf "_law_parts_right" "_law_parts_right" (defArgs s_law_parts_right) (defBody s_law_parts_right) (defScope s_law_parts_right) .none kV25 dc25 pm25 an25 cd25 ct25), sl25⟩)
    (c25 : PySem.W.codeIn K cd25 "_law_parts_right" = true)
    (k25 : PySem.W.keepIn K (.ref f25) = true)
    (a26 : PySem.W.nsIn K mainGlobals "_law_refused" = some (some (.ref f26)))
    (l26 : K.lookup f26 = some ⟨oc26, od26, .func (PySem.W.fnOf "_law_refused" "_law_refused" (defArgs s_law_refused) (defBody s_law_refused) (defScope s_law_refused) .none kV26 dc26 pm26 an26 cd26 ct26), sl26⟩)
    (c26 : PySem.W.codeIn K cd26 "_law_refused" = true)
    (k26 : PySem.W.keepIn K (.ref f26) = true)
    (a27 : PySem.W.nsIn K mainGlobals "law" = some (some (.ref f27)))
    (l27 : K.lookup f27 = some ⟨oc27, od27, .func (PySem.W.fnOf "law" "law" (defArgs s_law) (defBody s_law) (defScope s_law) .none kV27 dc27 pm27 an27 cd27 ct27), sl27⟩)
    (c27 : PySem.W.codeIn K cd27 "law" = true)
    (k27 : PySem.W.keepIn K (.ref f27) = true)
    (z_isinstance : PySem.W.nsIn K mainGlobals "isinstance" = some none)
    (z_str : PySem.W.nsIn K mainGlobals "str" = some none)
    (z_int : PySem.W.nsIn K mainGlobals "int" = some none)
    (z_bool : PySem.W.nsIn K mainGlobals "bool" = some none)
    (z_tuple : PySem.W.nsIn K mainGlobals "tuple" = some none)
    (z_list : PySem.W.nsIn K mainGlobals "list" = some none)
    (z_len : PySem.W.nsIn K mainGlobals "len" = some none)
    (z_all : PySem.W.nsIn K mainGlobals "all" = some none)
    (z_sum : PySem.W.nsIn K mainGlobals "sum" = some none)
    (z_zip : PySem.W.nsIn K mainGlobals "zip" = some none)
    (z_range : PySem.W.nsIn K mainGlobals "range" = some none)
    (z_super : PySem.W.nsIn K mainGlobals "super" = some none)
    (aLt : PySem.W.nsIn K mainGlobals "LETTERS" = some (some (.str letters t1)))
    (aSg : PySem.W.nsIn K mainGlobals "SIGNS" = some (some (.str signs t2)))
    (aLn : PySem.W.nsIn K mainGlobals "LONGEST_NAME" = some (some (.int 8 t3)))
    (aR : PySem.W.nsIn K mainGlobals "RingclauseError" = some (some (.ref cR)))
    (aI : PySem.W.nsIn K mainGlobals "InvalidChain" = some (some (.ref cI)))
    (aL : PySem.W.nsIn K mainGlobals "InvalidLiteral" = some (some (.ref cL)))
    (xI : K.lookup cI = some (excClassObj nm q cI NN bs bm true sn sub ab col dd m0 m1 m2 m3 m5 "ValueError.__new__"))
    (rv : PySem.HandSPX.refsVE bm = true)
    (sa : PySem.W.findIn K (.ref cI) "__setattr__" = some (some (.builtin "object.__setattr__")))
    (ga : PySem.W.findIn K (.ref cI) "__getattribute__" = some (some (.builtin "BaseException.__getattribute__")))
    (gg : PySem.W.findIn K (.ref cI) "__getattr__" = some none)
    (nF : PySem.W.findIn K (.ref cI) "bounds" = some none)
    (iX : PySem.W.findIn K (.ref cI) "__init__" = some (some (.ref fX)))
    (tF : PySem.W.typeIn K (.ref fX) = some (.type "function"))
    (kI : PySem.W.keepIn K (.ref cI) = true)
    (eI : PySem.W.subIn K (.ref cI) (.type "BaseException") = some true)
    (vI : PySem.W.subIn K (.ref cI) (.type "ValueError") = some true)
    (yI : PySem.W.typeIn K (.ref cI) = some (.type "type"))
    (hI : PySem.W.hasDictIn K cI = true)
    (mI : PySem.W.mroIn K cI (.ref cI) = some true)
    (oq : PySem.W.nsIn K cStatics "thirdparty.any" = some none)
    (su : PySem.W.ks_superIn K cI cI "__init__" = some (some (.builtin "ValueError.__init__")))
    (hT : (l.prog.main.scope.names.lookup ("super" : Str)).isSome = false)
    (lX : K.lookup fX = some ⟨oc0, od0, .func (PySem.Sup.sFn "bounds" "not such a chain" "InvalidChain.__init__" ⟨11, 17, 11, 21⟩ ⟨11, 23, 11, 29⟩ ⟨12, 8, 12, 13⟩ ⟨12, 8, 12, 15⟩ ⟨12, 8, 12, 24⟩ ⟨12, 25, 12, 43⟩ ⟨12, 8, 12, 44⟩ ⟨12, 8, 12, 44⟩ ⟨13, 8, 13, 12⟩ ⟨13, 8, 13, 19⟩ ⟨13, 22, 13, 28⟩ ⟨13, 8, 13, 28⟩ dc0 pm0 an0 cda cc ct0), sl0⟩)
    (cX : PySem.W.codeIn K (.ref cda) "InvalidChain.__init__" = true)
    (lC : K.lookup cc = some ⟨cl0, cld, .cell (some (.ref cI)), csl⟩)
    (lD : K.lookup cda = some ⟨ccl, cdd, .fields rvs, ccs⟩)
    (rf : rvs[2]? = some (.str file tf))
    (fi : ((l.prog.main.file : Str) == file) = true)
    (eR : PySem.W.subIn K (.ref cR) (.type "BaseException") = some true)
    (hR : PySem.W.hasDictIn K cR = true)
    (yR : PySem.W.typeIn K (.ref cR) = some (.type "type"))
    (sR : PySem.W.subIn K (.ref cI) (.ref cR) = some true)
    (hL : PySem.W.hasDictIn K cL = true)
    (yL : PySem.W.typeIn K (.ref cL) = some (.type "type"))
    (sL : PySem.W.subIn K (.ref cI) (.ref cL) = some false)
    (sI : PySem.W.subIn K (.ref cI) (.ref cI) = some true)
    (ka : PySem.W.findIn K (.ref cI) "__class__" = some (some (.builtin "object.__class__")))
    (kn : PySem.W.specialIn K (.builtin "object.__class__") "__get__" = some (some (.builtin "getset_descriptor.__get__")))
    (kt : PySem.W.takesIn K (.builtin "object.__class__") = some true)
    (km : PySem.W.mroIn K cI (.type "object") = some true) :
    ∃ fd : FuncData, (∀ (s : Shared) (v : Value), BindsTo s fd ⟨[v], []⟩ [("script", v)]) ∧ ∀ base : Heap, K.In base → base.Ns mainGlobals mg → FnOk l.prog w K mg base CX0 9 fa fd ["script"] (spLaw K) := by
  have e := hfa.symm.trans (PySem.W.mg_of X G a27)
  cases e
  have g1 := PySem.W.mg_of X G a1
  have F1 := fun_mk (st := s_is_name) l1 c1 k1
  have b1 := F1.binds (ps := ["value"]) fun _ _ _ _ _ _ us hl => match us, hl with | [_], _ => rfl
  have g2 := PySem.W.mg_of X G a2
  have F2 := fun_mk (st := s_is_integer) l2 c2 k2
  have b2 := F2.binds (ps := ["value"]) fun _ _ _ _ _ _ us hl => match us, hl with | [_], _ => rfl
  have g3 := PySem.W.mg_of X G a3
  have F3 := fun_mk (st := s_is_bound) l3 c3 k3
  have b3 := F3.binds (ps := ["value"]) fun _ _ _ _ _ _ us hl => match us, hl with | [_], _ => rfl
  have g4 := PySem.W.mg_of X G a4
  have F4 := fun_mk (st := s_is_chain) l4 c4 k4
  have b4 := F4.binds (ps := ["value"]) fun _ _ _ _ _ _ us hl => match us, hl with | [_], _ => rfl
  have g5 := PySem.W.mg_of X G a5
  have F5 := fun_mk (st := s_is_ring) l5 c5 k5
  have b5 := F5.binds (ps := ["value"]) fun _ _ _ _ _ _ us hl => match us, hl with | [_], _ => rfl
  have g6 := PySem.W.mg_of X G a6
  have F6 := fun_mk (st := s_total_of) l6 c6 k6
  have b6 := F6.binds (ps := ["bounds"]) fun _ _ _ _ _ _ us hl => match us, hl with | [_], _ => rfl
  have g7 := PySem.W.mg_of X G a7
  have F7 := fun_mk (st := s_chain_sum) l7 c7 k7
  have b7 := F7.binds (ps := ["bounds"]) fun _ _ _ _ _ _ us hl => match us, hl with | [_], _ => rfl
  have g8 := PySem.W.mg_of X G a8
  have F8 := fun_mk (st := s_ring_sum) l8 c8 k8
  have b8 := F8.binds (ps := ["bounds"]) fun _ _ _ _ _ _ us hl => match us, hl with | [_], _ => rfl
  have g9 := PySem.W.mg_of X G a9
  have F9 := fun_mk (st := s_law_integer) l9 c9 k9
  have b9 := F9.binds (ps := ["told"]) fun _ _ _ _ _ _ us hl => match us, hl with | [_], _ => rfl
  have g10 := PySem.W.mg_of X G a10
  have F10 := fun_mk (st := s_law_box) l10 c10 k10
  have b10 := F10.binds (ps := ["script"]) fun _ _ _ _ _ _ us hl => match us, hl with | [_], _ => rfl
  have g11 := PySem.W.mg_of X G a11
  have F11 := fun_mk (st := s_law_mixed) l11 c11 k11
  have b11 := F11.binds (ps := ["seed", "turn"]) fun _ _ _ _ _ _ us hl => match us, hl with | [_, _], _ => rfl
  have g12 := PySem.W.mg_of X G a12
  have F12 := fun_mk (st := s_law_take) l12 c12 k12
  have b12 := F12.binds (ps := ["box", "size"]) fun _ _ _ _ _ _ us hl => match us, hl with | [_, _], _ => rfl
  have g13 := PySem.W.mg_of X G a13
  have F13 := fun_mk (st := s_law_name) l13 c13 k13
  have b13 := F13.binds (ps := ["box", "names"]) fun _ _ _ _ _ _ us hl => match us, hl with | [_, _], _ => rfl
  have g14 := PySem.W.mg_of X G a14
  have F14 := fun_mk (st := s_law_names) l14 c14 k14
  have b14 := F14.binds (ps := ["box", "count"]) fun _ _ _ _ _ _ us hl => match us, hl with | [_, _], _ => rfl
  have g15 := PySem.W.mg_of X G a15
  have F15 := fun_mk (st := s_law_far) l15 c15 k15
  have b15 := F15.binds (ps := ["box"]) fun _ _ _ _ _ _ us hl => match us, hl with | [_], _ => rfl
  have g16 := PySem.W.mg_of X G a16
  have F16 := fun_mk (st := s_law_heights) l16 c16 k16
  have b16 := F16.binds (ps := ["box", "names"]) fun _ _ _ _ _ _ us hl => match us, hl with | [_, _], _ => rfl
  have g17 := PySem.W.mg_of X G a17
  have F17 := fun_mk (st := s_law_slack) l17 c17 k17
  have b17 := F17.binds (ps := ["box"]) fun _ _ _ _ _ _ us hl => match us, hl with | [_], _ => rfl
  have g18 := PySem.W.mg_of X G a18
  have F18 := fun_mk (st := s_law_chain) l18 c18 k18
  have b18 := F18.binds (ps := ["box", "names", "heights"]) fun _ _ _ _ _ _ us hl => match us, hl with | [_, _, _], _ => rfl
  have g19 := PySem.W.mg_of X G a19
  have F19 := fun_mk (st := s_law_fulfilled) l19 c19 k19
  have b19 := F19.binds (ps := ["rows", "times"]) fun _ _ _ _ _ _ us hl => match us, hl with | [_, _], _ => rfl
  have g20 := PySem.W.mg_of X G a20
  have F20 := fun_mk (st := s_law_odd) l20 c20 k20
  have b20 := F20.binds (ps := ["row", "kind"]) fun _ _ _ _ _ _ us hl => match us, hl with | [_, _], _ => rfl
  have g21 := PySem.W.mg_of X G a21
  have F21 := fun_mk (st := s_law_bent) l21 c21 k21
  have b21 := F21.binds (ps := ["box", "rows"]) fun _ _ _ _ _ _ us hl => match us, hl with | [_, _], _ => rfl
  have g22 := PySem.W.mg_of X G a22
  have F22 := fun_mk (st := s_law_copy) l22 c22 k22
  have b22 := F22.binds (ps := ["bent"]) fun _ _ _ _ _ _ us hl => match us, hl with | [_], _ => rfl
  have g23 := PySem.W.mg_of X G a23
  have F23 := fun_mk (st := s_law_asked) l23 c23 k23
  have b23 := F23.binds (ps := ["way", "rows"]) fun _ _ _ _ _ _ us hl => match us, hl with | [_, _], _ => rfl
  have g24 := PySem.W.mg_of X G a24
  have F24 := fun_mk (st := s_law_sums_right) l24 c24 k24
  have b24 := F24.binds (ps := ["rows", "handed", "heights"]) fun _ _ _ _ _ _ us hl => match us, hl with | [_, _, _], _ => rfl
  have g25 := PySem.W.mg_of X G a25
  have F25 := fun_mk (st := s_law_parts_right) l25 c25 k25
  have b25 := F25.binds (ps := ["box", "rows", "heights"]) fun _ _ _ _ _ _ us hl => match us, hl with | [_, _, _], _ => rfl
  have g26 := PySem.W.mg_of X G a26
  have F26 := fun_mk (st := s_law_refused) l26 c26 k26
  have b26 := F26.binds (ps := ["bent"]) fun _ _ _ _ _ _ us hl => match us, hl with | [_], _ => rfl
  have g27 := PySem.W.mg_of X G a27
  have F27 := fun_mk (st := s_law) l27 c27 k27
  have b27 := F27.binds (ps := ["script"]) fun _ _ _ _ _ _ us hl => match us, hl with | [_], _ => rfl
  have n_isinstance := PySem.W.mg_none_of X G z_isinstance
  have n_str := PySem.W.mg_none_of X G z_str
  have n_int := PySem.W.mg_none_of X G z_int
  have n_bool := PySem.W.mg_none_of X G z_bool
  have n_tuple := PySem.W.mg_none_of X G z_tuple
  have n_list := PySem.W.mg_none_of X G z_list
  have n_len := PySem.W.mg_none_of X G z_len
  have n_all := PySem.W.mg_none_of X G z_all
  have n_sum := PySem.W.mg_none_of X G z_sum
  have n_zip := PySem.W.mg_none_of X G z_zip
  have n_range := PySem.W.mg_none_of X G z_range
  have n_super := PySem.W.mg_none_of X G z_super
  have sup : PySem.Sup.SupTxt K mg l.prog "InvalidChain" "bounds" "not such a chain" cI fX :=
    { gC := PySem.W.mg_of X G aI, ok := { bd := fun _ _ _ _ _ _ _ _ _ _ _ _ _ _ _ _ _ _ _ _ _ _ => rfl, lf := rfl, lc := rfl, ls := rfl, nd := by decide, ns := by decide }, cls := ⟨nm, q, NN, bs, bm, sn, sub, ab, col, dd, m0, m1, m2, m3, m5, xI, rv⟩,
      sa := sa, ga := ga, gg := gg, noF := nF, iC := iX, tF := tF, kC := kI, exC := eI, veC := vI, tyC := yI, hdC := hI, mC := mI, opq := oq, sup := su, htop := hT, mgS := n_super,
      fn := ⟨oc0, od0, _, dc0, pm0, an0, cda, cc, ct0, sl0, _, _, _, _, _, _, _, _, _, _, _, _, lX, fun _ _ => ⟨_, rfl⟩, cX, ⟨cl0, cld, csl, lC⟩, ⟨ccl, cdd, rvs, ccs, file, tf, lD, rf, fi⟩⟩ }
  have TA : TxtA K mg f1 f2 f3 := { b_isinstance := n_isinstance, b_str := n_str, b_int := n_int, b_bool := n_bool, b_tuple := n_tuple, b_list := n_list, b_len := n_len, b_all := n_all, b_sum := n_sum, b_zip := n_zip, b_range := n_range, f_is_name := g1, k_is_name := k1, f_is_integer := g2, k_is_integer := k2, f_is_bound := g3, k_is_bound := k3, letters := ⟨t1, PySem.W.mg_of X G aLt⟩, signs := ⟨t2, PySem.W.mg_of X G aSg⟩, longest := ⟨t3, PySem.W.mg_of X G aLn⟩ }
  have TB : TxtB l.prog K mg f1 f2 f3 f4 f5 f6 cI fX := { f_is_chain := g4, k_is_chain := k4, f_is_ring := g5, k_is_ring := k5, f_total_of := g6, k_total_of := k6, a := TA, e_InvalidChain := sup }
  have TI : TxtI l.prog K mg f1 f2 f3 f4 f5 f6 cI fX cR cL f7 f8 := { b_isinstance := n_isinstance, f_chain_sum := g7, k_chain_sum := k7, f_ring_sum := g8, k_ring_sum := k8, toTxtB := TB, c_RingclauseError := PySem.W.mg_of X G aR, c_InvalidChain := PySem.W.mg_of X G aI, c_InvalidLiteral := PySem.W.mg_of X G aL, te := PySem.W.exm_ref eR hR yR sR, xc := ⟨ga, gg, eI, hI, ka, kn, kt, km⟩, xf := ⟨ga, gg, eI, hI⟩, noF := nF, k1 := kit_self, k2 := kit_other sI sL hL yL }
  have PB : FB K f1 f2 f3 _ _ _ := ⟨F1, b1, F2, b2, F3, b3⟩
  have PP : FP K f1 f2 f3 f4 f5 f6 f7 f8 _ _ _ _ _ _ _ _ := { toFB := PB, FC := F4, BC := b4, FR := F5, BR := b5, FT := F6, BT := b6, FCS := F7, BCS := b7, FRS := F8, BRS := b8 }
  have TD : TxtD l.prog K mg f11 f12 f15 f17 := { b_isinstance := n_isinstance, b_int := n_int, b_bool := n_bool, b_list := n_list, b_len := n_len, b_range := n_range, f__law_mixed := g11, k__law_mixed := k11, f__law_take := g12, k__law_take := k12, f__law_far := g15, k__law_far := k15, f__law_slack := g17, k__law_slack := k17 }
  have PD : FD K f11 f12 f15 f17 _ _ _ _ := ⟨F11, b11, F12, b12, F15, b15, F17, b17⟩
  have TF : TxtF l.prog K mg f11 f12 f15 f17 f13 := { b_all := n_all, f__law_name := g13, k__law_name := k13, toTxtD := TD }
  have TC : TxtC mg := { b_isinstance := n_isinstance, b_list := n_list }
  have TN : TxtN l.prog K mg f11 f12 f15 f17 f20 := { b_tuple := n_tuple, f__law_odd := g20, k__law_odd := k20, toTxtD := TD }
  have TO : TxtO K mg f22 f23 := { b_range := n_range, f__law_copy := g22, k__law_copy := k22, f__law_asked := g23, k__law_asked := k23 }
  have TQ : TxtQ K mg f23 f9 f19 := { b_len := n_len, b_sum := n_sum, f__law_asked := g23, k__law_asked := k23, f__law_integer := g9, k__law_integer := k9, f__law_fulfilled := g19, k__law_fulfilled := k19 }
  have TS : TxtS K mg f12 f7 f8 f24 := { b_len := n_len, b_list := n_list, b_tuple := n_tuple, f__law_take := g12, k__law_take := k12, f_chain_sum := g7, k_chain_sum := k7, f_ring_sum := g8, k_ring_sum := k8, f__law_sums_right := g24, k__law_sums_right := k24 }
  have TL : TxtL K mg f10 f14 f16 f18 f12 f24 f25 f26 f21 := { b_list := n_list, b_tuple := n_tuple, b_range := n_range, f__law_box := g10, k__law_box := k10, f__law_names := g14, k__law_names := k14, f__law_heights := g16, k__law_heights := k16, f__law_chain := g18, k__law_chain := k18, f__law_take := g12, k__law_take := k12, f__law_sums_right := g24, k__law_sums_right := k24, f__law_parts_right := g25, k__law_parts_right := k25, f__law_refused := g26, k__law_refused := k26, f__law_bent := g21, k__law_bent := k21 }
  refine ⟨PySem.W.fnOf "law" "law" (defArgs s_law) (defBody s_law) (defScope s_law) .none kV27 dc27 pm27 an27 cd27 ct27, fun s v => .of_eq rfl, fun base _ _ => ?_⟩
  have Gtake := ok_law_take (P := l.prog) (w := w) (base := base) F12 TD F11 b11
  have Gask := ok_law_asked (P := l.prog) (w := w) (base := base) F23 TI PP
  have Gint := ok_law_integer (P := l.prog) (w := w) (base := base) F9 TD
  have Gful := ok_law_fulfilled (P := l.prog) (w := w) (base := base) F19 TF
  have Gcs := ok_chain_sum (P := l.prog) (w := w) (base := base) F7 TB PB F4 b4 F6 b6
  have Grs := ok_ring_sum (P := l.prog) (w := w) (base := base) F8 TB PB F4 b4 F5 b5 F6 b6
  have Gsr := ok_law_sums_right (P := l.prog) (w := w) (base := base) F24 TQ Gask b23 Gint b9 Gful b19
  have Gpr := ok_law_parts_right (P := l.prog) (w := w) (base := base) F25 TS Gtake b12 Gcs b7 Grs b8 Gsr b24
  have Gcp := ok_law_copy (P := l.prog) (w := w) (base := base) F22 TC
  have Grf := ok_law_refused (P := l.prog) (w := w) (base := base) F26 TO Gcp b22 Gask b23
  have Gbt := ok_law_bent (P := l.prog) (w := w) (base := base) F21 TN PD F20 b20
  have Gbx := ok_law_box (P := l.prog) (w := w) (base := base) F10 TD
  have Gnm := ok_law_names (P := l.prog) (w := w) (base := base) F14 TF PD F13 b13
  have Ght := ok_law_heights (P := l.prog) (w := w) (base := base) F16 TF PD
  have Gch := ok_law_chain (P := l.prog) (w := w) (base := base) F18 TF PD
  exact ok_law F27 TL Gbx b10 Gnm b14 Ght b16 Gch b18 Gtake b12 Gsr b24 Gpr b25 Grf b26 Gbt b21
theorem walk {l : PySem.W.OpenLaw} {q : Program} {loose : List Str} {XP : (Str → Option Value) → Heap → Prop} {YP : World → Heap → Prop} {d : DefRec} {K : Params → PySem.W.Frag} (hn : l.most = some 63) (hdf : d.params.defaults = [])
    (hY : ∀ (w : World) (h : Heap), YP w h → (K w.params).In h)
    (H : ∀ (w : World) (mg : Str → Option Value) (fa : Addr) (h : Heap), (K w.params).In h → h.Ns mainGlobals mg → mg d.name = some (.ref fa) →
      ∃ fd : FuncData, (∀ (s : Shared) (u : Value), BindsTo s fd ⟨[u], []⟩ [("script", u)]) ∧ ∀ base : Heap, (K w.params).In base → base.Ns mainGlobals mg → FnOk l.prog w (K w.params) mg base CX0 9 fa fd ["script"] (spLaw (K w.params))) :
    PySem.W.WalkO q loose XP YP l.row.toRowW d [] (fun f vs => PySem.call f vs) :=
  L2.walk_of (n := 63) (k := 9) (x := "script") (CX := fun _ => CX0) (sp := fun w => spLaw (K w.params)) hn (by decide) hdf ⟨rfl, by decide, by decide⟩ hY H (fun _ _ a ns hl _ hS => ⟨a, ns, rfl, hS, fun _ => rfl⟩) fun _ _ _ _ _ z => z
end K7
set_option maxRecDepth 100000
open PySem PySem.W PyProof.Rows in
set_option maxRecDepth 100000 in
set_option maxHeartbeats 0 in
theorem PySem.Challenge.cw_ringclause_k07_chain_sums_holds : PySem.Challenge.rw_ringclause_k07_chain_sums.Holds := by
  w_on; o_law; k_head; (case hw => w_witness2)
  k_fill
  refine K7.walk (l := PySem.Challenge.rw_ringclause_k07_chain_sums) rfl rfl (fun w h Y => PySem.W.kIn_of Y) ?F
  case F =>
    intro w mg fa h KX G hmg
    refine' K7.all_mk KX G hmg ?a1 ?l1 ?c1 ?k1 ?a2 ?l2 ?c2 ?k2 ?a3 ?l3 ?c3 ?k3 ?a4 ?l4 ?c4 ?k4 ?a5 ?l5 ?c5 ?k5 ?a6 ?l6 ?c6 ?k6 ?a7 ?l7 ?c7 ?k7 ?a8 ?l8 ?c8 ?k8 ?a9 ?l9 ?c9 ?k9 ?a10 ?l10 ?c10 ?k10 ?a11 ?l11 ?c11 ?k11 ?a12 ?l12 ?c12 ?k12 ?a13 ?l13 ?c13 ?k13 ?a14 ?l14 ?c14 ?k14 ?a15 ?l15 ?c15 ?k15 ?a16 ?l16 ?c16 ?k16 ?a17 ?l17 ?c17 ?k17 ?a18 ?l18 ?c18 ?k18 ?a19 ?l19 ?c19 ?k19 ?a20 ?l20 ?c20 ?k20 ?a21 ?l21 ?c21 ?k21 ?a22 ?l22 ?c22 ?k22 ?a23 ?l23 ?c23 ?k23 ?a24 ?l24 ?c24 ?k24 ?a25 ?l25 ?c25 ?k25 ?a26 ?l26 ?c26 ?k26 ?a27 ?l27 ?c27 ?k27 ?z_isinstance ?z_str ?z_int ?z_bool ?z_tuple ?z_list ?z_len ?z_all ?z_sum ?z_zip ?z_range ?z_super ?aLt ?aSg ?aLn ?aR ?aI ?aL ?xI ?rv ?sa ?ga ?gg ?nF ?iX ?tF ?kI ?eI ?vI ?yI ?hI ?mI ?oq ?su ?hT ?lX ?cX ?lC ?lD ?rf ?fi ?eR ?hR ?yR ?sR ?hL ?yL ?sL ?sI ?ka ?kn ?kt ?km
    (case a1 => k_is)
    (case l1 => k_is)
    (case c1 => k_is)
    (case k1 => k_is)
    (case a2 => k_is)
    (case l2 => k_is)
    (case c2 => k_is)
    (case k2 => k_is)
    (case a3 => k_is)
    (case l3 => k_is)
    (case c3 => k_is)
    (case k3 => k_is)
    (case a4 => k_is)
    (case l4 => k_is)
    (case c4 => k_is)
    (case k4 => k_is)
    (case a5 => k_is)
    (case l5 => k_is)
    (case c5 => k_is)
    (case k5 => k_is)
    (case a6 => k_is)
    (case l6 => k_is)
    (case c6 => k_is)
    (case k6 => k_is)
    (case a7 => k_is)
    (case l7 => k_is)
    (case c7 => k_is)
    (case k7 => k_is)
    (case a8 => k_is)
    (case l8 => k_is)
    (case c8 => k_is)
    (case k8 => k_is)
    (case a9 => k_is)
    (case l9 => k_is)
    (case c9 => k_is)
    (case k9 => k_is)
    (case a10 => k_is)
    (case l10 => k_is)
    (case c10 => k_is)
    (case k10 => k_is)
    (case a11 => k_is)
    (case l11 => k_is)
    (case c11 => k_is)
    (case k11 => k_is)
    (case a12 => k_is)
    (case l12 => k_is)
    (case c12 => k_is)
    (case k12 => k_is)
    (case a13 => k_is)
    (case l13 => k_is)
    (case c13 => k_is)
    (case k13 => k_is)
    (case a14 => k_is)
    (case l14 => k_is)
    (case c14 => k_is)
    (case k14 => k_is)
    (case a15 => k_is)
    (case l15 => k_is)
    (case c15 => k_is)
    (case k15 => k_is)
    (case a16 => k_is)
    (case l16 => k_is)
    (case c16 => k_is)
    (case k16 => k_is)
    (case a17 => k_is)
    (case l17 => k_is)
    (case c17 => k_is)
    (case k17 => k_is)
    (case a18 => k_is)
    (case l18 => k_is)
    (case c18 => k_is)
    (case k18 => k_is)
    (case a19 => k_is)
    (case l19 => k_is)
    (case c19 => k_is)
    (case k19 => k_is)
    (case a20 => k_is)
    (case l20 => k_is)
    (case c20 => k_is)
    (case k20 => k_is)
    (case a21 => k_is)
    (case l21 => k_is)
    (case c21 => k_is)
    (case k21 => k_is)
    (case a22 => k_is)
    (case l22 => k_is)
    (case c22 => k_is)
    (case k22 => k_is)
    (case a23 => k_is)
    (case l23 => k_is)
    (case c23 => k_is)
    (case k23 => k_is)
    (case a24 => k_is)
    (case l24 => k_is)
    (case c24 => k_is)
    (case k24 => k_is)
    (case a25 => k_is)
    (case l25 => k_is)
    (case c25 => k_is)
    (case k25 => k_is)
    (case a26 => k_is)
    (case l26 => k_is)
    (case c26 => k_is)
    (case k26 => k_is)
    (case a27 => k_is)
    (case l27 => k_is)
    (case c27 => k_is)
    (case k27 => k_is)
    (case z_isinstance => k_is)
    (case z_str => k_is)
    (case z_int => k_is)
    (case z_bool => k_is)
    (case z_tuple => k_is)
    (case z_list => k_is)
    (case z_len => k_is)
    (case z_all => k_is)
    (case z_sum => k_is)
    (case z_zip => k_is)
    (case z_range => k_is)
    (case z_super => k_is)
    (case aLt => k_is)
    (case aSg => k_is)
    (case aLn => k_is)
    (case aR => k_is)
    (case aI => k_is)
    (case aL => k_is)
    (case xI => k_is)
    (case rv => rfl)
    (case sa => k_is)
    (case ga => k_is)
    (case gg => k_is)
    (case nF => k_is)
    (case iX => k_is)
    (case tF => k_is)
    (case kI => k_is)
    (case eI => k_is)
    (case vI => k_is)
    (case yI => k_is)
    (case hI => k_is)
    (case mI => k_is)
    (case oq => k_is)
    (case su => ks_is)
    (case hT => rfl)
    (case lX => k_is)
    (case cX => k_is)
    (case lC => k_is)
    (case lD => k_is)
    (case rf => rfl)
    (case fi => rfl)
    (case eR => k_is)
    (case hR => k_is)
    (case yR => k_is)
    (case sR => k_is)
    (case hL => k_is)
    (case yL => k_is)
    (case sL => k_is)
    (case sI => k_is)
    (case ka => k_is)
    (case kn => k_is)
    (case kt => k_is)
    (case km => k_is)
