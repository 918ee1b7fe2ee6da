import PyProof.Rows.All
import Wide.All
import OpenK.AllK
import Wide.FinOn
import HandS.SetTxt0
import HandS.ForMost
import HandS.Set
import HandS.SetFor
import HandS.Strs
import PyProof.Rows.SortStr
import PyProof.Rows.SortShellK
import HandS.DictTup
import HandS.Conv
import HandS.DictSubView
import KE.KDictCopyH
import KE.KDictWalk
import PyProof.TupleOfGen
import HandS.HotCalls
import HandS.Ends
import PyProof.ReprRoads
import HandS.SortKw
import HandS.MakeKw
import KE.DataMinMax
import KE.DataCmp
import PyProof.SliceList
import PyProof.CallFns
import HandS.DictComp
import KE.DataMinKey
import KE.GoesMore
import KE.GoesEnum
import HandS.Walk
import HandS.SortInts
import HandS.TupAny
import HandS.TupMul
import HandS.Dict
import HandS.Evl
import KE.KExcSuper
import HandS.ForExc
import HandS.FStrTup
import PyProof.ReprText
import HandS.Comp
import HandS.ExcField
import HandS.ExcIs
import HandS.IsInst
import HandS.Wide
import HandS.Zip
import HandS.StrMore
import PyProof.Rows.StrCut
import PySem.Challenge.RW_ringclause_k54_gates_and_calls
import HandS.Star
import HandS.ExcOwn
import KE.KExcIs
import KE.RegKSuper
set_option Elab.async false
set_option linter.all false
set_option maxRecDepth 100000
set_option maxHeartbeats 3200000
/-! set(texts) and sorted of it -/
namespace TSet
open PySem PySem.Spec PyProof.Rows L2 Froz
def txtOf : Int × Value → Str | (_, .str x _) => x | _ => Str.empty
/-- the payload D of a set holds exactly the texts l, and can be walked -/
structure Txs (P : Program) (w : World) (D : SD) (l : List Str) : Prop where
  ok : TxOk P w D l
  pm : (D.1.toList.map txtOf).Perm l
  all : ∀ e ∈ D.1.toList, ∃ x t, e.2 = Value.str x t
  nd : l.Nodup
  ris : Ris D.2.2.place.toList
  led : w.params.followText "set-order" = true ∨ D.2.2.led = true
section
variable {P : Program} {w : World} {A : Around} {E : Value → Shared → Prop} {s : Shared}
theorem tail_perm (ep : Nat) (es : Array (Int × Value)) (t : SetTable) (b : Bool) : (tailTx ep es t b).1.toList.Perm es.toList := by
  unfold tailTx
  split
  · exact relayAll_perm _ _ _
  · exact List.Perm.refl _
theorem tail_ris (ep : Nat) (es : Array (Int × Value)) (t : SetTable) (b : Bool) (r : Ris t.place.toList) : Ris (tailTx ep es t b).2.2.place.toList := by
  unfold tailTx
  split
  · exact relayAll_ris _ _ _
  · exact r
theorem tail_led (ep : Nat) (es : Array (Int × Value)) (t : SetTable) (b : Bool) : (tailTx ep es t b).2.2.led = t.led := by
  unfold tailTx
  split
  · exact relayAll_led _ _ _
  · rfl
theorem Txs.add {D : SD} {l : List Str} {k : Str} (u : Tok) (F : Txs P w D l) (hk : k ∉ l) : Txs P w (addTx (hashStr w k) (.str k u) D) (k :: l) := by
  have hp : (addTx (hashStr w k) (.str k u) D).1.toList.Perm ((hashStr w k, Value.str k u) :: D.1.toList) := by
    refine (tail_perm _ _ _ _).trans ((layNew_perm _ _ _ _).trans ?_)
    rw [Array.toList_push]
    exact List.perm_append_singleton _ _
  refine ⟨add_ok u F.ok, ?_, fun e he => ?_, List.nodup_cons.mpr ⟨hk, F.nd⟩, tail_ris _ _ _ _ ?_, ?_⟩
  · exact (hp.map txtOf).trans (List.Perm.cons _ F.pm)
  · rcases List.mem_cons.mp (hp.mem_iff.mp he) with z | z
    · exact ⟨k, u, by rw [z]⟩
    · exact F.all e z
  · have r := layNew_ris D.2.2 D.1 (hashStr w k) (.str k u) F.ris
    split <;> exact r
  · refine F.led.imp id fun z => ?_
    refine (tail_led _ _ _ _).trans ?_
    have q := (layNew_led D.2.2 D.1 (hashStr w k) (.str k u)).trans z
    split <;> exact q
/-- a text that is there already -/
theorem add_old {a : Addr} {T : String} {D : SD} {l : List Str} {k : Str} {u : Tok} {Q : Bool → Shared → Prop} (at_ : s.heap.get? a = some (sObj T D)) (F : TxOk P w D l) (hk : k ∈ l) (few : l.length + 1 < scanBound) (h : Q false s) :
    wpAny (model P w) A (setAddHashed a (.str k u) (hashStr w k)) Q E s := by
  obtain ⟨es, ep, t⟩ := D
  have dt : (sObj T (es, ep, t)).data = .set es ep t := rfl
  have el : ElemsOf (strKind P w) es.toList := F.el
  have sz : es.size < scanBound := by have : es.size = l.length := F.sz; omega
  obtain ⟨j, hj⟩ : ∃ j, List.findIdx? (fun e => (strKind P w).is k e.2) es.toList = some j := by
    obtain ⟨e, he, q⟩ := (F.mem k).mp hk
    cases hr : List.findIdx? (fun e => (strKind P w).is k e.2) es.toList with
    | some j => exact ⟨j, rfl⟩
    | none =>
      have c := List.findIdx?_eq_none_iff.mp hr e he
      rw [q] at c
      cases c
  unfold setAddHashed
  unfold setAddHashedIn
  refine wpAny_holding (wpAny_bind (wpAny_setState_of at_ dt F.fit ?_))
  dsimp only
  rw [byScan_of rfl sz el]
  simp only [↓reduceIte]
  unfold setAddByScan
  refine wpAny_bind (wpAny_bind (wpAny_rule (wpAny_bind (wpAny_setScan_of (knd := strKind P w) (k := k) (is_str k u) at_ dt F.fit el ?_))))
  rw [hj]
  dsimp only
  exact wpAny_pure (wpAny_pure h)
theorem add_any {a : Addr} {D : SD} {l : List Str} {k : Str} {u : Tok} {Q : Bool → Shared → Prop} (at_ : s.heap.get? a = some (sObj "set" D)) (F : Txs P w D l) (few : l.length + 1 < scanBound)
    (h : ∀ b h' D' l', Heap.SameBut a s.heap h' → h'.get? a = some (sObj "set" D') → Txs P w D' l' → (∀ z, z ∈ l' ↔ z = k ∨ z ∈ l) → l'.length ≤ l.length + 1 → Q b { s with heap := h' }) :
    wpAny (model P w) A (setAddHashed a (.str k u) (hashStr w k)) Q E s := by
  by_cases hk : k ∈ l
  · exact add_old at_ F.ok hk few (h false s.heap D l (Heap.SameBut.refl a _) at_ F (fun z => ⟨.inr, fun q => q.elim (fun e => e ▸ hk) id⟩) (by omega))
  · refine add_x at_ F.ok hk few (h true _ _ _ ?_ (get_upd _ at_ rfl) (F.add u hk) (fun z => List.mem_cons) (Nat.le_refl _))
    exact ⟨Heap.size_after_update _ _ _, fun b hb => Heap.get?_update_ne _ _ _ _ hb⟩
end
section
variable {P : Program} {w : World} {A : Around} {E : Value → Shared → Prop} {s : Shared}
/-- the loop of set's making, for any way of adding: T i h says what the set is behind i items -/
theorem loop_any {I : Addr} {fp wr : List Addr} {G : Array GenState → Array GenState → Prop} {n : Nat} {Pv : Nat → Value → Prop} {St : Nat → Shared → Prop} {R : Result → Shared → Prop} (W : WalksS P w A.in1 I fp wr G n Pv St)
    {S : Addr} (out : S ∉ fp) (T : Nat → Heap → Prop) (fr : ∀ i h h', T i h → (∀ b o, b ∉ wr → h.get? b = some o → h'.get? b = some o) → T i h')
    (add : ∀ i v (s : Shared) (E : Value → Shared → Prop) (Q : Bool → Shared → Prop), i < n → Pv i v → T i s.heap → (∀ b h' tk, s.toks ≤ tk → Heap.SameBut S s.heap h' → T (i + 1) h' → Q b { s with heap := h', toks := tk }) → wpAny (model P w) A.in1 (setAdd S v) Q E s) :
    ∀ (k i : Nat) (s : Shared), n - i = k → i ≤ n → St i s → T i s.heap → (∀ s', Moved (S :: wr) G s s' → T n s'.heap → R (.ok (.ret .none)) s') → codeAny (model P w) A (.builtin "set.update.loop" ⟨[.ref S, .ref I], []⟩) R s := by
  intro k
  induction k with
  | zero =>
    intro i s ek ei st t r
    obtain rfl : i = n := by omega
    refine codeAny_builtin F.entry_set_update_loop ?_
    rw [Around.under_plainId F.plain_set_update_loop _]
    show wpAny (model P w) A.in1 (pyNext (.ref I) >>= _) _ _ s
    refine wpAny_bind (W.done s _ _ st fun s1 m => ?_)
    show wpAny (model P w) A.in1 (ret Value.none) _ _ s1
    exact wpAny_pure (r s1 ⟨fun b o nb => m.heap b o fun z => nb (List.mem_cons_of_mem _ z), m.gens, m.drawn, m.os, m.toks⟩ (fr i _ _ t m.heap))
  | succ k ih =>
    intro i s ek ei st t r
    have lt : i < n := by omega
    refine codeAny_builtin F.entry_set_update_loop ?_
    rw [Around.under_plainId F.plain_set_update_loop _]
    show wpAny (model P w) A.in1 (pyNext (.ref I) >>= _) _ _ s
    refine wpAny_bind (W.item i s _ _ lt st fun v s1 pv st1 m => ?_)
    show wpAny (model P w) A.in1 (holding [v] (setAdd S v) >>= _) _ _ s1
    refine wpAny_bind (wpAny_holding (add i v s1 _ _ lt pv (fr i _ _ t m.heap) fun b h' tk tk' same t' => ?_))
    refine wpAny_pure ⟨plainId_quiet F.plain_set_update_loop _, ih (i + 1) _ (by omega) lt (W.frame _ s1 _ _ st1 tk' fun c hc o e => ?_) t' fun s2 m2 t2 => r s2 ⟨fun c o nc e => ?_, W.gtrans _ _ _ m.gens m2.gens, m2.drawn.trans m.drawn, m2.os.trans m.os, ?_⟩ t2⟩
    · rw [same.2 c fun z : c = S => out (z ▸ hc)]
      exact e
    · refine m2.heap c o nc ?_
      show h'.get? c = some o
      rw [same.2 c fun z : c = S => nc (by rw [z]; exact List.mem_cons_self)]
      exact m.heap c o (fun z => nc (List.mem_cons_of_mem _ z)) e
    · exact Nat.le_trans m.toks (Nat.le_trans tk' m2.toks)
def freshSet (w : World) : Obj := { cls := .type "set", dict := none, data := .set #[] 0 (.fresh 0 0 (!w.params.followText "set-order")) }
def listIt (l : Addr) : Obj := { cls := .type "list_iterator", data := .fields #[.ref l, .int 0 0] }
/-- set(a list), for any way of adding -/
theorem made_any {l : Addr} {items : Array Value} {Q : Value → Shared → Prop} (hh : A.handled = none) (hl : s.heap.IsList l items) (T : Nat → Heap → Prop)
    (fr : ∀ i h h', T i h → (∀ b o, b ≠ s.heap.objs.size + 1 → h.get? b = some o → h'.get? b = some o) → T i h')
    (zero : ∀ h, h.get? s.heap.objs.size = some (freshSet w) → (∀ b o, s.heap.get? b = some o → h.get? b = some o) → T 0 h)
    (add : ∀ (B : Around) i v (s1 : Shared) (E : Value → Shared → Prop) (Q : Bool → Shared → Prop), B.units ≤ A.units + 3 → items[i]? = some v → T i s1.heap →
      (∀ b h' tk, s1.toks ≤ tk → Heap.SameBut s.heap.objs.size s1.heap h' → T (i + 1) h' → Q b { s1 with heap := h', toks := tk }) → wpAny (model P w) B (setAdd s.heap.objs.size v) Q E s1)
    (k : ∀ (h' : Heap) (tk : Nat), T items.size h' → (∀ b o, s.heap.get? b = some o → h'.get? b = some o) → Q (.ref s.heap.objs.size) { s with heap := h', toks := tk }) :
    wpAny (model P w) A (call (.type "set") [.ref l]) Q E s := by
  obtain ⟨_, _, hmro⟩ := PySem.F.called_set.mro
  have made_ := PySem.F.called_set.made
  have sub_ := PySem.F.called_set.sub
  refine wpAny_call (codeAny_of_tree ?_)
  show wpAny (model P w) _ (callAny (.type "set") _) _ _ _
  refine wpAny_pure ⟨Code.quiet_builtin _ (by decide +kernel), codeAny_builtin PySem.F.entry_type_call ?_⟩
  rw [Around.under_plain (weight_type_call_type "set" [.ref l] []) rfl]
  have notT := PySem.F.called_set.notType
  have canC := PySem.F.called_set.canCreate
  have typC := PySem.F.typeCall_set_1 (.ref l)
  repeat (any_goals (first | assumption | wp_step))
  let S := s.heap.objs.size
  let hp1 := s.heap.push (freshSet w)
  refine codeAny_mono (code_set_led1 (.ref l) (E := E) (Q₁ := fun obj s1 => obj = .ref S ∧ s1 = { s with heap := hp1 }) ⟨rfl, rfl⟩) fun r s1 hr => ?_
  rcases r with _ | e
  case error => exact hr
  cases e with
  | ret obj =>
    obtain ⟨rfl, rfl⟩ := hr
    have atS : hp1.get? S = some (freshSet w) := Heap.get?_push_size _ rfl
    have tyS : Shared.TypeIs { s with heap := hp1 } (.ref S) "set" := ⟨_, atS, rfl⟩
    have iLook := PySem.F.called_set.init.lookup
    have iBind := PySem.F.called_set.init.bind (.ref S)
    repeat (any_goals (first | assumption | wp_step))
    refine codeAny_mono (codeAny_call_builtin (R := wants (fun r s2 => r = .none ∧ ∃ h' tk, s2 = { s with heap := h', toks := tk } ∧ T items.size h' ∧ (∀ b o, s.heap.get? b = some o → h'.get? b = some o)) E)
      PySem.F.called_set.init.plain PySem.F.entry_set_init (check_set_init_1 tyS ?_)) fun r2 s2 hr2 => ?_
    · obtain ⟨ol, hol, cl, nl, dl⟩ := hl
      obtain ⟨ocl, odi, oda, osl⟩ := ol
      simp only at cl dl
      subst cl
      subst dl
      have ltl : l < S := Heap.lt_size hol
      have atl : hp1.get? l = some { cls := .type "list", dict := odi, data := .seq items nl, slots := osl } := Heap.get?_push_of_some _ hol
      have ls1 := PySem.F.sub_list_set
      have ls2 := PySem.F.sub_list_frozenset
      have nd1 : (Value.type "list" == Value.type "dict") = false := by decide
      have isl : hp1.IsList l items := ⟨_, atl, rfl, nl, rfl⟩
      have szI : hp1.objs.size = S + 1 := Heap.size_push ..
      unfold Builtin.«set.__init__» noKeywords Builtin.Frozenset.updateFrom
      generalize ePI : pyIter = PI
      wp_walk
      subst ePI
      refine wpAny_pyIter_list isl (wpAny_bind (wpAny_runValue ?_))
      have h3 : A.in1.in1.in1.handled = none := by simp [hh]
      have nI : l ≠ hp1.objs.size := by rw [szI]; exact Nat.ne_of_lt (Nat.lt_succ_of_lt ltl)
      have nS : S ∉ [hp1.objs.size, l] := by
        rw [szI]
        intro z
        rcases List.mem_cons.mp z with z | z
        · exact absurd z (Nat.ne_of_lt (Nat.lt_succ_self _))
        · exact absurd (List.mem_singleton.mp z) (Nat.ne_of_gt ltl)
      refine loop_any ((Walks.list h3 _ l nI items).toS) nS T (fun i h h' t e => fr i h h' t fun b o nb => e b o (by rw [szI]; simpa using nb)) (fun i v s1 E1 Q1 _ pv t q => add _ i v s1 E1 Q1 (Nat.le_refl _) pv t q)
        (items.size - 0) 0 _ (by omega) (Nat.zero_le _) ⟨⟨_, Heap.get?_push_size _ rfl, rfl, rfl⟩, isl.push _⟩ (zero _ (Heap.get?_push_of_some _ atS) fun b o e => Heap.get?_push_of_some _ (Heap.get?_push_of_some _ e)) ?_
      intro s' m t'
      obtain ⟨h', g', d', tk', os'⟩ := s'
      obtain rfl : g' = s.gens := m.gens
      obtain rfl : d' = s.drawn := m.drawn
      obtain rfl : os' = s.os := m.os
      show wpAny _ _ _ _ _ _
      refine wpAny_pure ?_
      show wpAny _ _ (ret Value.none) _ _ _
      refine wpAny_pure ⟨rfl, h', tk', rfl, t', fun b o e => ?_⟩
      have ltb : b < S := Heap.lt_size e
      refine m.heap b o (fun z => ?_) (Heap.get?_push_of_some _ (Heap.get?_push_of_some _ e))
      rcases List.mem_cons.mp z with z | z
      · exact absurd z (Nat.ne_of_lt ltb)
      · have z2 := List.mem_singleton.mp z
        rw [szI] at z2
        exact absurd z2 (Nat.ne_of_lt (Nat.lt_succ_of_lt ltb))
    · rcases r2 with _ | e2
      case error => exact hr2
      cases e2 with
      | ret r =>
        obtain ⟨rfl, h', tk, rfl, t', keep⟩ := hr2
        repeat (any_goals (first | assumption | wp_step))
        exact k _ _ t' keep
      | _ => exact hr2.elim
  | _ => exact hr.elim
end
section
variable {P : Program} {w : World} {A : Around} {E : Value → Shared → Prop} {s : Shared}
theorem Txs.fresh : Txs P w (#[], 0, .fresh 0 0 (!w.params.followText "set-order")) [] where
  ok := TxOk.nil rfl
  pm := List.Perm.refl _
  all := fun e he => by simp at he
  nd := List.nodup_nil
  ris := List.Pairwise.nil
  led := by
    show _ ∨ (!w.params.followText "set-order") = true
    cases w.params.followText "set-order"
    · exact .inr rfl
    · exact .inl rfl
theorem strs_get : ∀ {vs : List Value} {xs : List Str}, StrsAre vs xs → ∀ {i : Nat} {v : Value}, vs[i]? = some v → ∃ z t, xs[i]? = some z ∧ v = .str z t
  | _, _, .nil, _, _, h => by simp at h
  | _, _, .cons y t r, 0, v, h => ⟨y, t, rfl, (Option.some.inj h).symm⟩
  | _, _, .cons y t r, i + 1, v, h => strs_get r (by simpa using h)
/-- set(a list of texts) -/
theorem set_txt {l : Addr} {items : Array Value} {xs : List Str} {Q : Value → Shared → Prop} (hh : A.handled = none) (hl : s.heap.IsList l items) (hi : StrsAre items.toList xs) (few : xs.length + 1 < scanBound)
    (k : ∀ (h' : Heap) (tk : Nat) D l', h'.get? s.heap.objs.size = some (sObj "set" D) → Txs P w D l' → (∀ z, z ∈ l' ↔ z ∈ xs) → l'.length ≤ xs.length → (∀ b o, s.heap.get? b = some o → h'.get? b = some o) → Q (.ref s.heap.objs.size) { s with heap := h', toks := tk }) :
    wpAny (model P w) A (call (.type "set") [.ref l]) Q E s := by
  have len : items.size = xs.length := by
    have : ∀ {vs : List Value} {ys : List Str}, StrsAre vs ys → vs.length = ys.length := by
      intro vs ys h
      induction h with
      | nil => rfl
      | cons y t r ih => simp [ih]
    rw [← this hi, Array.length_toList]
  refine made_any hh hl (fun i h => ∃ D l', h.get? s.heap.objs.size = some (sObj "set" D) ∧ Txs P w D l' ∧ (∀ z, z ∈ l' ↔ z ∈ xs.take i) ∧ l'.length ≤ i) ?_ ?_ ?_ ?_
  · rintro i h h' ⟨D, l', a, f, m, n⟩ e
    exact ⟨D, l', e _ _ (Nat.ne_of_lt (Nat.lt_succ_self _)) a, f, m, n⟩
  · intro h a _
    exact ⟨(#[], 0, .fresh 0 0 (!w.params.followText "set-order")), [], a, Txs.fresh, fun z => by simp, Nat.le_refl _⟩
  · rintro B i v s1 E1 Q1 _ hv ⟨D, l', a, f, m, n⟩ q
    obtain ⟨z, t, hz, rfl⟩ := strs_get hi (i := i) (v := v) (by rw [Array.getElem?_toList]; exact hv)
    have li : i < xs.length := (List.getElem?_eq_some_iff.mp hz).1
    unfold setAdd
    refine wpAny_holding (wpAny_bind ((strKind P w).pyHash (k := z) (is_str z t) ?_))
    refine add_any (s := { s1 with toks := s1.toks + 1 }) a f (by omega) fun b h' D' l2 same a2 f2 m2 n2 => q b h' (s1.toks + 1) (Nat.le_succ _) same ⟨D', l2, a2, f2, fun y => ?_, by omega⟩
    rw [m2 y, m y, List.take_add_one, hz]
    simp only [Option.toList_some, List.mem_append, List.mem_singleton]
    exact Or.comm
  · rintro h' tk ⟨D, l', a, f, m, n⟩ keep
    exact k h' tk D l' a f (fun z => by rw [m z, List.take_of_length_le (by omega)]) (by omega) keep
/-- sorted(a set of texts) -/
theorem sorted_txt {a : Addr} {D : SD} {l : List Str} {Q : Value → Shared → Prop} (at_ : s.heap.get? a = some (sObj "set" D)) (F : Txs P w D l) (hh : A.handled = none) (few : l.length < 64)
    (k : ∀ s' p (out : Array Value) (c : Nat) (ys : List Str), (∀ b o, s.heap.get? b = some o → s'.heap.get? b = some o) → s'.gens = s.gens → s'.os = s.os → s.heap.objs.size ≤ p →
      s'.heap.get? p = some (seqObj "list" out c) → StrsAre out.toList ys → ys.Perm l → sortedS ys = true → Q (.ref p) s') : wpAny (model P w) A (call (.builtin "sorted") [.ref a]) Q E s := by
  obtain ⟨es, ep, t⟩ := D
  have sz : es.size = l.length := F.ok.sz
  have sc : es.size < scanBound := by unfold scanBound; omega
  refine Calls.call_function_entry kind_sorted plain_sorted entry_sorted (args_sorted1 _) ?_
  unfold Builtin.«sorted»
  refine wpAny_bind (m := checkCount "sorted" 1 1 _) (wpAny_pure (wpAny_bind ?_))
  refine collect_set (A := A.in1) hh ⟨_, at_, rfl, rfl⟩ F.ok.fit sc F.ris F.led fun s1 vs k1 z1 g1 o1 pm => ?_
  have lv : vs.length = l.length := by rw [pm.length_eq, List.length_map, Array.length_toList, sz]
  have sv : ∀ us : List Value, (∀ u ∈ us, ∃ x t, u = Value.str x t) → StrsAre us (us.map fun u => txtOf (0, u)) := by
    intro us
    induction us with
    | nil => exact fun _ => .nil
    | cons u us ih =>
      intro h
      obtain ⟨x, t, rfl⟩ := h u List.mem_cons_self
      exact .cons x t (ih fun v hv => h v (List.mem_cons_of_mem _ hv))
  have hS := sv vs fun u hu => by
    obtain ⟨e, he, rfl⟩ := List.mem_map.mp (pm.mem_iff.mp hu)
    exact F.all e he
  have pl : (vs.map fun u => txtOf (0, u)).Perm l := by
    refine (pm.map _).trans ?_
    rw [List.map_map]
    refine List.Perm.trans (List.Perm.of_eq ?_) F.pm
    exact List.map_congr_left fun e _ => by obtain ⟨h, v⟩ := e; cases v <;> rfl
  refine wpAny_bind (wpAny_newList ?_ (by rw [lv, sizeLine_eq]; omega))
  have oL : (s1.heap.push (seqObj "list" vs.toArray 0)).get? s1.heap.objs.size = some (seqObj "list" vs.toArray 0) := Heap.get?_push_size _ rfl
  refine wpAny_bind (wpAny_holding (wpAny_call_entry slot_list_sort ⟨_, oL, rfl⟩ entry_list_sort
    (list_sort_treeK strKind_oneLt oL hS.keysOf (fun v1 v2 rest e => keyKind_strs (by rw [← e]; exact hS)) (by rw [lv]; exact few) fun st h1 h2 => ⟨_, rfl, ?_⟩) (args_list_sort _)))
  obtain ⟨ys, a1, a2, a3⟩ := sorted_out_str hS h1 h2
  obtain ⟨c, hc⟩ := sortedHeap_at (vs := vs) (out := (arrOf st).map (·.2)) oL
  refine wpAny_pure ⟨_, rfl, k _ s1.heap.objs.size _ c ys (fun b u e => ?_) g1 o1 z1 hc a1 (a2.trans pl) a3⟩
  have q := k1 b u e
  have lt := Heap.lt_size q
  refine (sortedHeap_old (Nat.ne_of_lt lt) (by rw [size_push']; exact Nat.lt_succ_of_lt lt)).trans ?_
  exact Heap.get?_push_of_some _ q
end
/-! ### as calls -/
/-- at a a set of just the texts l -/
def SetX (P : Program) (w : World) (a : Addr) (l : List Str) : HO := .ext fun h => ∃ D, h.get? a = some (sObj "set" D) ∧ Txs P w D l
section
variable {X : Cx}
theorem setX_new {w : World} {P : Program} {H : Hp} {h : Heap} {a : Addr} {l : List Str} (R : ∃ D, h.get? a = some (sObj "set" D) ∧ Txs P w D l) : ObjOk P w H h a (SetX P w a l) := by
  obtain ⟨D, e, F⟩ := id R
  exact ⟨R, ⟨_, e⟩, fun h1 h2 ⟨D2, e2, F2⟩ keep => ⟨D2, keep _ e2, F2⟩⟩
def rSetX (K : PySem.W.Frag) (P : Program) (w : World) : List V → Hp → VK → Prop := fun vs H Q => ∃ (a : Addr) (xs : List Str), vs = [V.ref a] ∧ SqL K H a (xs.map V.str) ∧ xs.length < 64 ∧
  ∀ (l : List Str) (p : Addr), l.Nodup → (∀ z, z ∈ l ↔ z ∈ xs) → l.length ≤ xs.length → H p = none → Q (.ref p) (upd H p (SetX P w p l))
theorem cr_setX (hc : X.calm = true) : CallR X (.type "set") (rSetX X.K X.prog X.w) := by
  intro pins s σ H vs us Q I r h
  obtain ⟨a, xs, rfl, hs, few, q⟩ := h
  obtain ⟨its, rv, hl, _⟩ := I.list hs
  rw [Vals.ref1 r]
  refine set_txt (I.ok.hd hc) hl.isList rv.strs (by unfold scanBound; omega) fun h' tk D l' e F m ll keep => ?_
  exact ⟨.ref _, upd H s.heap.objs.size (SetX X.prog X.w s.heap.objs.size l'), I.laid (t' := tk) keep (Nat.le_refl _) (setX_new ⟨D, e, F⟩), rfl, q l' _ F.nd m ll (I.hok.fresh (Nat.le_refl _))⟩
def rSortedX (P : Program) (w : World) : List V → Hp → VK → Prop := fun vs H Q => ∃ (a : Addr) (l : List Str), vs = [V.ref a] ∧ H a = some (SetX P w a l) ∧ l.length < 64 ∧
  ∀ (ys : List Str) (p : Addr), ys.Perm l → sortedS ys = true → H p = none → Q (.ref p) (upd H p (.lst (ys.map V.str)))
theorem cr_sortedX (hc : X.calm = true) : CallR X (.builtin "sorted") (rSortedX X.prog X.w) := by
  intro pins s σ H vs us Q I r h
  obtain ⟨a, l, rfl, at_, few, q⟩ := h
  obtain ⟨D, e, F⟩ := (I.hok a _ at_).1
  rw [Vals.ref1 r]
  refine sorted_txt e F (I.ok.hd hc) few fun s' p out c ys keep g o hp he hy pm so => ?_
  have hn : H p = none := I.hok.fresh hp
  have hlen : (ys.map V.str).length ≤ sizeLine := by rw [List.length_map, pm.length_eq]; exact small64 few
  have J : Inv X pins σ (upd H p (.lst (ys.map V.str))) { s with heap := s'.heap, gens := s'.gens, drawn := s'.drawn, toks := s'.toks } :=
    I.call (ch := []) (Un.laid keep hp hn) (I.hok.laid keep hp ⟨hlen, out.toList, c, vals_of_strs hy, he⟩) (by rw [g]; exact I.bare) (fun _ z => nomatch z)
  have es : s' = { s with heap := s'.heap, gens := s'.gens, drawn := s'.drawn, toks := s'.toks } := by
    cases s'
    cases s
    cases o
    rfl
  rw [es]
  exact ⟨.ref p, _, J, rfl, q ys p pm so hn⟩
end
end TSet
set_option maxRecDepth 100000
set_option maxHeartbeats 4000000
/-! tuple(d.values()), the keys of d tuples of ints and texts -/
namespace TV
open PySem PySem.Spec PyProof.Rows L2
section
variable {prog : Program} {w : World} {A : Around} {E : Value → Shared → Prop} {s : Shared} {T : String} {r d : Addr} {n : Nat} {P : Nat → Value → Prop} {OK : Heap → Prop}
theorem collect_kdl {Q : List Value → Shared → Prop} (K : PySem.W.KdlSrc prog w T r d n P OK) (hh : A.handled = none) (hok : OK s.heap) (hn : n ≤ sizeLine)
    (hQ : ∀ (h' : Heap) (tk : Nat) (acc : Array Value), (∀ b o, s.heap.get? b = some o → h'.get? b = some o) → ItemsOf P acc n → Q acc.toList { s with heap := h', toks := tk }) :
    wpAny (model prog w) A (collect (.ref r)) Q E s := by
  have hok1 : OK (s.heap.push { cls := .type "list", data := .seq ([] : List Value).toArray }) := K.keep _ _ hok fun b _ o e => Heap.get?_push_of_some _ e
  have hlt := K.there _ hok
  unfold collect
  refine wpAny_bind (wpAny_runValue (codeAny_builtin F.entry_proto_collect ?_))
  rw [Around.under_plainId F.plain_proto_collect _]
  show wpAny _ A.in1 (newList [] >>= fun l => again (.builtin "list.__iadd__" ⟨[l, .ref r], []⟩)) _ _ s
  refine wpAny_bind (wpAny_newObj_type ?_)
  refine wpAny_pure ⟨plainId_quiet F.plain_list_iadd _, codeAny_builtin F.entry_list_iadd ?_⟩
  rw [Around.under_plainId F.plain_list_iadd _]
  show wpAny _ A.in1 (Builtin.List.listExtendWith (.ref s.heap.objs.size) (.ref r) (.ref s.heap.objs.size)) _ _ _
  have hS : (s.heap.push { cls := .type "list", data := .seq ([] : List Value).toArray }).get? s.heap.objs.size = some { cls := .type "list", data := .seq #[] 0 } := Heap.get?_push_size _ rfl
  refine wpAny_mono (PySem.W.kdl_extend (A := A) (R := fun rr s' => rr = .ok (.ret (.ref s.heap.objs.size)) ∧ ∃ (h' : Heap) (tk : Nat) (acc : Array Value) (c' : Nat), s' = { s with heap := h', toks := tk } ∧
      (∀ b o, s.heap.get? b = some o → h'.get? b = some o) ∧ h'.get? s.heap.objs.size = some { cls := .type "list", dict := none, data := .seq acc c', slots := #[] } ∧ ItemsOf P acc n)
    (s := { s with heap := s.heap.push { cls := .type "list", data := .seq ([] : List Value).toArray } }) K hh hok1 s.heap.objs.size (Nat.ne_of_gt hlt.1) (Nat.ne_of_gt hlt.2) _ 0 hS
    (fun h' tk acc c' hk e hi => ⟨rfl, h', tk, acc, c', rfl, fun b o q => hk b o (Nat.ne_of_lt (Heap.lt_size q)) (Heap.get?_push_of_some _ q), e, hi⟩) hn) (fun fin s' h => ?_) (fun e s' h => ?_)
  · cases fin with
    | done f =>
      obtain ⟨e, h', tk, acc, c', rfl, hk, hS', hi⟩ := h
      cases e
      show wpAny _ A (load s.heap.objs.size >>= _) _ _ _
      exact wpAny_bind (wpAny_load hS' (wpAny_pure (hQ h' tk acc hk hi)))
    | again c' =>
      refine ⟨h.1, codeAny_mono h.2 fun rr s'' hr' => ?_⟩
      obtain ⟨rfl, h', tk, acc, c', rfl, hk, hS', hi⟩ := hr'
      show wpAny _ A (load s.heap.objs.size >>= _) _ _ _
      exact wpAny_bind (wpAny_load hS' (wpAny_pure (hQ h' tk acc hk hi)))
  · exact absurd h.1 (by simp)
theorem code_tuple_new_vals {Q₁ : Value → Shared → Prop} (K : PySem.W.KdlSrc prog w "dict_values" r d n P OK) (hh : A.handled = none) (hok : OK s.heap) (hn : n ≤ sizeLine)
    (h : ∀ (h' : Heap) (tk : Nat) (acc : Array Value), (∀ b o, s.heap.get? b = some o → h'.get? b = some o) → ItemsOf P acc n →
      Q₁ (.ref h'.objs.size) { s with heap := h'.push { cls := .type "tuple", data := .seq acc }, toks := tk }) :
    codeAny (model prog w) A (.call (.builtin "tuple.__new__") ⟨[.type "tuple", .ref r], []⟩) (wants Q₁ E) s := by
  refine codeAny_of_tree ?_
  show wpAny _ A.in1 (do checkBuiltinCall "tuple.__new__" ⟨[.type "tuple", .ref r], []⟩; again (.builtin "tuple.__new__" ⟨[.type "tuple", .ref r], []⟩)) _ _ s
  refine wpAny_bind (wpAny_of_eq (F.newCall_tuple_1 _) (wpAny_pure ⟨plainId_quiet F.plain_tuple_new _, codeAny_builtin F.entry_tuple_new ?_⟩))
  rw [Around.under_plainId F.plain_tuple_new _]
  have hsub := sub_tuple_self
  have hinit := init_tuple_lookup
  have hmh := madeHere_tuple
  have hTI : s.TypeIs (.ref r) "dict_values" := K.type s hok
  have hh1 : A.in1.handled = none := hh
  wp_walk using wpAny_typeOf hTI, collect_kdl (A := A.in1) K hh1 hok hn
  intro h' tk acc hk hacc
  show wpAny _ _ (Builtin.Tuple.tupleExact acc.toList.toArray >>= fun v => ret v) _ _ _
  unfold Builtin.Tuple.tupleExact
  refine wpAny_bind (wpAny_newObj_type ?_ (by show acc.toList.toArray.size ≤ sizeLine; simp only [Array.toArray_toList]; rw [hacc.1]; exact hn))
  refine wpAny_pure ?_
  have e : acc.toList.toArray = acc := by simp
  rw [e]
  exact h h' tk acc hk hacc
theorem call_tuple_vals {Q : Value → Shared → Prop} (K : PySem.W.KdlSrc prog w "dict_values" r d n P OK) (hh : A.handled = none) (hok : OK s.heap) (hn : n ≤ sizeLine)
    (hQ : ∀ (h' : Heap) (tk : Nat) (acc : Array Value), (∀ b o, s.heap.get? b = some o → h'.get? b = some o) → ItemsOf P acc n →
      Q (.ref h'.objs.size) { s with heap := h'.push { cls := .type "tuple", data := .seq acc }, toks := tk }) :
    wpAny (model prog w) A (call (.type "tuple") [.ref r]) Q E s := by
  refine callType_codes (Q₁ := fun obj s₁ => s₁.TypeIs obj "tuple" ∧ Q obj s₁) F.called_tuple (F.typeCall_tuple_1 _) F.entry_object_init
    (code_tuple_new_vals (A := A.in1) K hh hok hn fun h' tk acc hk hacc => ⟨⟨_, Heap.get?_push_size _ rfl, rfl⟩, hQ h' tk acc hk hacc⟩) fun obj s₁ h₁ => ?_
  exact ⟨h₁.1, F.args_object_init_2 obj _, object_init_meets F.called_tuple.init.lookup F.called_tuple.made (by decide) prog w A.in1 _ s₁ ⟨h₁.1, rfl, h₁.2⟩⟩
end
section
variable {X : Cx} {e : Expr} {td : TE} {apos cpos : Pos}
theorem raw_of {P : Program} {w : World} {h : Heap} {a : Addr} {xs : List (List L2.Key × Addr × Value)} (x : h.DictOfH (tupleKind (mixKind P w)) a xs) : ∃ es ep, h.DictRaw a es ep ∧ es.toList = xs.map (entryOfKey (tupleKind (mixKind P w))) := by
  obtain ⟨o, es, ep, h1, h2, h3, h4, _⟩ := x
  exact ⟨es, ep, ⟨o, h1, h2, h3⟩, h4⟩
def tValsT (td : TE) : TE := fun σ H Q => td σ H fun x H1 => ∃ d, x = .ref d ∧ (∃ kvs, H1 d = some (.dT kvs)) ∧ ∀ p, H1 p = none → Q (.ref p) (upd H1 p (viewO "dict_values" p d))
theorem pe_valsT (he : PE X e td) (hbase : attributeBase e "values" X.env (eval e X.env) = eval e X.env := by rfl) (hline : (apos.endLine == cpos.line) = true := by rfl) : PE X (.Call (.Attribute e "values" apos) [] [] cpos) (tValsT td) := by
  refine ⟨fun pins s σ H Q I h => ?_⟩
  refine wpAny_Call_method (T := "dict") (id := "dict.values") hbase rfl hline F.plainAttrs_dict F.slot_dict_values F.type_dict_values (thn (he.run pins s σ H _ I h) fun u s1 ⟨x, H1, I1, rx, d, ex, ⟨kvs, hd⟩, q⟩ => ?_)
  subst ex
  obtain rfl : u = Value.ref d := rx
  obtain ⟨z, hs, xs, rel, dd⟩ := dt_of I1.hok hd
  obtain ⟨es, ep, raw, _⟩ := raw_of dd
  refine ⟨raw.typeIs, fun b e => ?_, ?_⟩
  · cases e
    obtain ⟨o, h1, h2, _⟩ := raw
    exact ⟨o, h1, h2.2.1⟩
  show wpAny _ _ (callWith cpos (.builtin "dict.values") [.ref d] [] []) _ X.xe s1
  exact method_meetsIn F.slot_dict_values F.entry_dict_values rfl (PySem.evalArgs_none ⟨rfl, raw.typeIs, F.args_dict_values_1 _, _, meets_dict_values_raw d hs, ⟨⟨es, ep, raw⟩, ⟨.ref s1.heap.objs.size, _, I1.laid (t' := s1.toks) (fun b o q => Heap.get?_push_of_some _ q) (Nat.le_refl _) (viewO_ok (Heap.get?_push_size _ rfl)), rfl, q _ (I1.hok.fresh (Nat.le_refl _))⟩⟩⟩)
theorem pair_get {α β : Type} {F : α → β → Prop} : ∀ {l : List α} {m : List β}, Paired F l m → ∀ {j : Nat} {a : α}, l[j]? = some a → ∃ b, m[j]? = some b ∧ F a b
  | _, _, .nil, _, _, h => by simp at h
  | _, _, .cons (a := c) (b := b) hq r, 0, a, h => ⟨b, rfl, by have e : c = a := Option.some.inj h; rw [← e]; exact hq⟩
  | _, _, .cons hq r, j + 1, a, h => pair_get r (j := j) (by simpa using h)
def rTupVals : List V → Hp → VK → Prop := fun xs H Q => ∃ (p d : Addr) (kvs : List (List L2.Key × V)), xs = [.ref p] ∧ H p = some (viewO "dict_values" p d) ∧ H d = some (.dT kvs) ∧ ∀ q, H q = none → Q (.ref q) (upd H q (.tup (kvs.map (·.2))))
theorem cr_tupVals (hc : X.calm = true) : CallR X (.type "tuple") rTupVals := by
  intro pins s σ H xs us Q I rx h
  obtain ⟨p, d, kvs, rfl, hp, hd, q⟩ := h
  rw [Vals.ref1 rx]
  have hv : s.heap.get? p = some (DSub.viewOb "dict_values" d) := (show ObjOk X.prog X.w H s.heap p (viewO "dict_values" p d) from I.hok p _ hp).1
  obtain ⟨z, hs, ys, rel, dd⟩ := dt_of I.hok hd
  obtain ⟨es, ep, raw, he⟩ := raw_of dd
  have hl : kvs.length = ys.length := Paired.length rel
  have hes : es.size = ys.length := by
    have := congrArg List.length he
    rwa [List.length_map, Array.length_toList] at this
  refine call_tuple_vals (PySem.KdlSrc.rawValues (r := p) (d := d) (es := es) (ep := ep)) (I.ok.hd hc) ⟨⟨_, hv, rfl, rfl⟩, raw⟩ (by omega) fun h' tk acc hk hacc => ?_
  have I1 : Inv X pins σ H { s with heap := h', toks := tk } := I.kept hk
  refine ⟨.ref h'.objs.size, upd H h'.objs.size (.tup (kvs.map (·.2))), I1.laid (t' := tk) (fun b o q => Heap.get?_push_of_some _ q) (Nat.le_refl _) (show ObjOk X.prog X.w _ _ _ (.tup (kvs.map (·.2))) from ⟨by rw [List.length_map]; exact z, acc.toList, ?_, ?_⟩), rfl, q _ (I1.hok.fresh (Nat.le_refl _))⟩
  · have el : acc.toList.length = acc.size := by simp
    refine vals_of_at (by rw [List.length_map, el, hacc.1, hl, hes]) fun j x w h1 h2 => ?_
    obtain ⟨hi, hw⟩ := hacc.2 j w (by rw [← Array.getElem?_toList]; exact h2)
    rw [List.getElem?_map] at h1
    obtain ⟨kv, hkv, rfl⟩ := Option.map_eq_some_iff.mp h1
    obtain ⟨y, hy, hr⟩ := pair_get rel hkv
    have e1 : es.toList[j]? = some (entryOfKey (tupleKind (mixKind X.prog X.w)) y) := by rw [he, List.getElem?_map, hy]; rfl
    have e2 : es.toList[j]? = some es[j] := by rw [Array.getElem?_toList, Array.getElem?_eq_getElem hi]
    have e3 := Option.some.inj (e2.symm.trans e1)
    rw [hw, e3]
    exact hr.2.2
  · have := IsTup.new h' acc.toList.toArray
    rw [Array.toArray_toList] at this ⊢
    exact this
end
end TV
set_option maxRecDepth 100000
set_option maxHeartbeats 4000000
/-! repr of tuples and lists: defs that are called while nothing is being shown -/
namespace GP
open PySem PySem.Spec PyProof.Rows L2
/-- what a def promises that is called while nothing is being shown -/
structure FnG (P : Program) (w : World) (K : PySem.W.Frag) (mg : Str → Option Value) (base : Heap) (k : Nat) (f : Addr) (fd : FuncData) (ps : List Str) (sp : Sp) : Prop where
  len : ∀ vs H Q E, sp vs H Q E → vs.length = ps.length
  run : ∀ (A : Around) (outer : List Env) (s : Shared) (H : Hp) (args : Args) (us : List Value) (vs : List V) (Q : VK) (E : XK), Room k A → A.guards = some [] → Env0 P w K mg base A outer s H → BindsTo s fd args (ps.zip us) → Vals vs us →
    sp vs H Q E → codeAny (model P w) A (.call (.ref f) args) (CR CX0 outer P w H s Q E) s
section
variable {P : Program} {w : World} {K : PySem.W.Frag} {mg : Str → Option Value} {base : Heap}
theorem FnG.of {k : Nat} {f : Addr} {fd : FuncData} {ps : List Str} {sp : Sp} (F : FnOk P w K mg base CX0 k f fd ps sp) : FnG P w K mg base k f fd ps sp :=
  ⟨F.len, fun A outer s H args us vs Q E hr _ => F.run A outer s H args us vs Q E hr⟩
/-- such a def by its body -/
theorem okG {x qual : Str} {st : Stmt} {f : Addr} {fd : FuncData} {N ps : List Str} {k : Nat} {sp : Sp} (F : Fun K x qual st f fd) (S : FnScope N ps (defScope st)) (len : ∀ vs H Q E, sp vs H Q E → vs.length = ps.length)
    (body : ∀ (cdv : Value) (A : Around) (outer : List Env) (s : Shared) (H : Hp) (vs : List V) (Q : VK) (E : XK), Room k (A.deeper (envOfC qual (defScope st) s.heap.objs.size f cdv)) → A.guards = some [] → sp vs H Q E →
      ∃ t, PSs (cxOf CX0 P w K mg base N qual (defScope st) f cdv A outer s H E).nox (defBody st) t ∧ t { nx := fun _ H' => Q .non H', rt := Q } (L2.start N vs) H) : FnG P w K mg base (k + 1) f fd ps sp := by
  obtain ⟨oc, od, kV, doc, pm, an, cdv, ct, osl, rfl, lk, hcd⟩ := F.ex
  refine ⟨len, fun A outer s H args us vs Q E room gd e0 bind r h => ?_⟩
  have lenV := len _ _ _ _ h
  have inS : K.In s.heap := e0.mod.kin.keeps fun b o e => (e0.bs b o e).1
  have noLim : s.heap.NoLimit := e0.mod.nolimit.keeps fun b o e => (e0.bs b o e).1
  have kinds : ∀ y ∈ ps.zip us, (defScope st).names.lookup y.1 = some .local ∨ ((defScope st).names.lookup y.1 = some .cell ∧ ((cellsFrom (s.heap.objs.size + 1) (defScope st).names []).lookup y.1).isSome = true) := by
    rintro ⟨n, v⟩ hy
    cases S.par n (List.of_mem_zip hy).1 with
    | inl q => exact .inl q
    | inr q => exact .inr ⟨q, PySem.W.cellsFrom_some _ _ _ (.inl q)⟩
  refine codeAny_call_function room.depth (inS _ _ lk) rfl S.co S.gen rfl (PySem.W.codeRec_of inS hcd) (bind _ _ _ _ (wpAny_newFunctionEnv_cells S.kind kinds fun env he s1 y => ?_))
  subst he
  refine ⟨noLim.keeps y.toInCall.keep, codeAny_func ?_⟩
  obtain ⟨t, ht0, hq⟩ := body cdv A outer s H vs Q E (room.deeper _) gd h
  have ht := ht0.nox
  have I0 := inv_start (CX := CX0) (E := E) S room.hd e0 lenV r y
  refine wpAny_mono (ht.run [] s1 (L2.start N vs) H _ I0 hq) (fun fl s' hs => ?_) fun e s' hs => hs
  cases fl with
  | ret u => obtain ⟨v, σ', H', J, rv, q⟩ := hs; exact ⟨v, H', J.os, J.bare, J.base, J.hok, rv, q⟩
  | next => obtain ⟨σ', H', J, q⟩ := hs; exact ⟨V.non, H', J.os, J.bare, J.base, J.hok, rfl, q⟩
  | brk => obtain ⟨_, _, _, q⟩ := hs; exact q.elim
  | cont => obtain ⟨_, _, _, q⟩ := hs; exact q.elim
end
section
variable {X : Cx} {k : Nat} {f : Addr} {fd : FuncData} {ps : List Str} {sp : Sp} {x : Str} {q pos : Pos} {e : Expr} {es : List Expr} {t : TA} {E : XK}
/-- the call of such a def -/
theorem pe_callG (F : FnG X.prog X.w X.K X.mg X.base k f fd ps sp) (hr : Room k X.A) (gd : X.A.guards = some []) (hg : Gl X x) (hm : X.mg x = some (.ref f)) (hk : PySem.W.keepIn X.K (.ref f) = true) (hb : Binds X.K fd ps []) (hx : Passes CX0 X E)
    (ha : PA X (e :: es) t) (hdb : (x == ("__debug__" : Str)) = false := by decide) (he : starEach (e :: es) X.env = (false, eval e X.env) :: starEach es X.env := by rfl) (hpl : (backTo pos (starEach es X.env)).any (·.1) = false := by rfl) :
    PE X (.Call (.Name x q) (e :: es) [] pos) (tCall sp [] E t) := by
  refine ⟨fun pins s σ H Q I h => wpAny_Call_Name_kw (ld_glob I hg hm ?_ hdb)⟩
  refine PySem.W.callWith_K (h₀ := X.base) I.ok.mod.kin hk (thn (ha.run pos pins s σ H _ I h) fun us s1 ⟨vs, H1, I1, r, w0⟩ => ⟨I1.kIn, ?_⟩) he hpl
  have w1 : sp (vs ++ []) H1 Q E := w0
  rw [List.append_nil] at w1
  have lenU : us.length = ps.length := by rw [← r.length]; exact F.len _ _ _ _ w1
  have bd := hb s1 us I1.kIn (by rw [List.append_nil]; exact lenU)
  rw [List.append_nil] at bd
  refine wpAny_call (codeAny_mono (F.run X.A X.stack s1 H1 ⟨us, []⟩ us vs Q E hr gd I1.env0 bd r w1) fun r s' hq => ?_)
  cases r with
  | error e => exact hx pins σ H1 s1 e s' I1 hq
  | ok fl =>
    cases fl with
    | ret u => exact I1.after hq
    | next => exact hq.elim
    | brk => exact hq.elim
    | cont => exact hq.elim
/-- repr of a tuple or a list -/
theorem call_reprD (gd : X.A.guards = some []) (hu : X.A.units + 70 < cLine) : CallR X (.builtin "repr") (fun xs H Q => ∃ p d, xs = [.ref p] ∧ Dp X.K H (.ref p) d ∧ d.showable = true ∧ d.hasDict = false ∧ d.depth ≤ 60 ∧ d.shown.length ≤ sizeLine ∧ Q (.str d.shown) H) := by
  intro pins s σ H xs us Q I r h
  obtain ⟨p, d, rfl, hd, sh, nd, dep, hsz, q⟩ := h
  obtain ⟨u, rfl, ru⟩ := vals1 r
  cases (show u = Value.ref p from ru)
  obtain ⟨as, r1⟩ := Dp.reads I d (.ref p) (.ref p) hd rfl
  exact repr_of_reads' r1 sh (fun z => by rw [nd] at z; cases z) gd (by omega) (fun _ _ z => z) (fun h' u tk hk => ⟨.str d.shown, H, I.kept (t' := tk) hk, ⟨u, rfl⟩, q⟩) hsz
end
end GP
set_option maxRecDepth 100000
set_option maxHeartbeats 4000000
/-! rules for sets of ints, min with default=, data compared by <, a list turned round, dict.update -/
namespace HR
open PySem PySem.Spec PyProof.Rows L2 PySem.W
section
variable {X : Cx}
theorem ints_get : ∀ {us : List Value} {ns : List Int}, IntsAre us ns → ∀ {i : Nat} {v : Value}, us[i]? = some v → ∃ z t, ns[i]? = some z ∧ v = .int z t
  | _, _, .nil, _, _, h => by simp at h
  | _, _, .cons n t _, 0, v, h => ⟨n, t, rfl, (Option.some.inj h).symm⟩
  | _, _, .cons n t r, i + 1, v, h => ints_get r (i := i) (by simpa using h)
/-- set(a list or tuple of ints) -/
def rSetI (K : PySem.W.Frag) (w : World) : List V → Hp → VK → Prop := fun vs H Q => ∃ (a : Addr) (ns : List Int), vs = [V.ref a] ∧ (SqL K H a (ns.map V.int) ∨ SqT K H a (ns.map V.int)) ∧ ns.length < 64 ∧
  ∀ (n : Nat) (p : Addr), n ≤ ns.length → H p = none → Q (.ref p) (upd H p (SetO w p (fun j => decide (j ∈ ns)) n))
theorem cr_setI (hc : X.calm = true) : CallR X (.type "set") (rSetI X.K X.w) := by
  intro pins s σ H vs us Q I r h
  obtain ⟨a, ns, rfl, hs, few, q⟩ := h
  rw [Vals.ref1 r]
  rcases hs with hs | hs
  · obtain ⟨its, rv, hl, _⟩ := I.list hs
    have hit : IntsAre its.toArray.toList ns := intsAre_of rv
    refine TSet.made_any (P := X.prog) (w := X.w) (items := its.toArray) (I.ok.hd hc) hl.isList (fun i h => ∃ c, c ≤ i ∧ SetR X.w h s.heap.objs.size (fun j => decide (j ∈ ns.take i)) c) (fun i h h' ⟨c, hc, S⟩ k => ⟨c, hc, S.at fun o e => k _ o (by omega) e⟩)
      (fun h e _ => ⟨0, Nat.le_refl _, setR_new_at e⟩) (fun B i v s1 E' Q' hB hv ⟨c, hc, S⟩ k => ?_) fun h' tk ⟨c, hc, S⟩ keep => ?_
    · obtain ⟨z, t, hz, rfl⟩ := ints_get hit (i := i) (v := v) (by rw [Array.getElem?_toList]; exact hv)
      have hi : i < ns.length := (List.getElem?_eq_some_iff.mp hz).1
      unfold setAdd
      refine wpAny_holding ?_
      refine wpAny_bind ((intKind X.prog X.w).pyHash (k := z) (intKind_is _ _ _ _) ?_)
      refine setR_add_hashed (s := { s1 with toks := s1.toks + 1 }) S (by unfold scanBound; omega) fun h' hsb hS2 => ?_
      have hS3 : SetR X.w h' s.heap.objs.size (fun j => decide (j ∈ ns.take (i + 1))) (if decide (z ∈ ns.take i) = true then c else c + 1) := hS2.congr fun j => by
        rw [List.take_add_one, hz]
        simp [List.mem_append]
      exact k _ h' _ (Nat.le_succ _) hsb ⟨_, by split <;> omega, hS3⟩
    · have e : ns.take its.toArray.size = ns := List.take_of_length_le (by
        have := IntsAre.length hit
        rw [← this]
        simp)
      rw [e] at S
      have hl2 : its.toArray.size = ns.length := by
        have := IntsAre.length hit
        simpa using this
      exact ⟨.ref _, upd H s.heap.objs.size (SetO X.w s.heap.objs.size (fun j => decide (j ∈ ns)) c), I.laid (t' := tk) keep (Nat.le_refl _) (setO_new S), rfl, q c _ (by omega) (I.hok.fresh (Nat.le_refl _))⟩
  · obtain ⟨its, rv, hl, _⟩ := I.tuple hs
    have hit : IntsAre its.toArray.toList ns := intsAre_of rv
    refine call_set_tupI ns (I.ok.hd hc) (show s.heap.IsTuple a its.toArray from hl) hit (by unfold scanBound; omega) fun h' tk c S hcl keep => ?_
    exact ⟨.ref _, upd H s.heap.objs.size (SetO X.w s.heap.objs.size (fun j => decide (j ∈ ns)) c), I.laid (t' := tk) keep (Nat.le_refl _) (setO_new S), rfl, q c _ hcl (I.hok.fresh (Nat.le_refl _))⟩
/-- min(a list of ints, default=d) -/
def minI (d : Int) : List Int → Int
  | [] => d
  | x :: r => r.foldl (fun a y => if y < a then y else a) x
theorem minD_ints (x : Int) : ∀ (r : List Int), minD (.int x) (r.map .int) = .int (r.foldl (fun a y => if y < a then y else a) x) := by
  intro r
  induction r generalizing x with
  | nil => rfl
  | cons y r ih =>
    unfold minD at ih ⊢
    rw [List.map_cons, List.foldl_cons, List.foldl_cons, dataLt_int]
    by_cases h : y < x
    · rw [decide_eq_true h, if_pos rfl, if_pos h]
      exact ih y
    · rw [decide_eq_false h, if_neg Bool.false_ne_true, if_neg h]
      exact ih x
def rMinDef (K : PySem.W.Frag) : List V → List V → Hp → VK → Prop := fun vs zs H Q => ∃ (a : Addr) (ns : List Int) (d : Int), vs = [V.ref a] ∧ zs = [V.int d] ∧ SqL K H a (ns.map V.int) ∧ Q (.int (minI d ns)) H
theorem dp_ints {K : PySem.W.Frag} {H : Hp} : ∀ ns : List Int, DpAll K H (ns.map V.int) (ns.map .int)
  | [] => .nil
  | n :: ns => .cons (.int n) (dp_ints ns)
theorem depth_ints : ∀ ns : List Int, PyData.depthAll (ns.map .int) ≤ 1
  | [] => by simp [PyData.depthAll]
  | n :: ns => by
    rw [List.map_cons, PyData.depthAll]
    exact Nat.max_le.mpr ⟨by simp [PyData.depth], depth_ints ns⟩
theorem cr_minDef (hc : X.calm = true) (hu : X.A.units + 64 < cLine) : CallRK X (.builtin "min") [Str.ofString "default"] (rMinDef X.K) := by
  intro pins s σ H xs zs us ws Q I rx rz h
  obtain ⟨a, ns, d, rfl, rfl, hs, q⟩ := h
  obtain ⟨wd, rfl, rd⟩ := vals1 rz
  obtain ⟨t, rfl⟩ := rd
  obtain ⟨its, rv, hl, _⟩ := I.list hs
  rw [Vals.ref1 rx]
  obtain ⟨as, rr⟩ := Dp.readsAll I (ns.map .int) (ns.map V.int) its (dp_ints ns) rv
  show wpAny _ _ (call (.builtin "min") [.ref a] [(Str.ofString "default", .int d t)]) _ _ s
  refine min_list_default (vs := its.toArray) (xs := ns.map .int) (as := as) (I.ok.hd hc) hl.isList rr ⟨fun x hx y hy => ?_, fun x hx => ?_⟩ (by have := depth_ints ns; omega) (fun e h' tk keep => ?_) fun y ys i v h' tk bs e hv rd keep => ?_
  · obtain ⟨n, _, rfl⟩ := List.mem_map.mp hx
    obtain ⟨m, _, rfl⟩ := List.mem_map.mp hy
    rfl
  · obtain ⟨n, _, rfl⟩ := List.mem_map.mp hx
    exact fun e => by cases e
  · have : ns = [] := by
      cases ns with
      | nil => rfl
      | cons _ _ => cases e
    subst this
    exact ⟨.int d, H, I.kept (t' := tk) keep, ⟨t, rfl⟩, q⟩
  · cases ns with
    | nil => cases e
    | cons n ns =>
      obtain ⟨rfl, rfl⟩ : .int n = y ∧ ns.map .int = ys := by
        have := List.cons.inj e
        exact ⟨this.1, this.2⟩
      rw [minD_ints] at rd
      obtain ⟨z, t2, hz, rfl⟩ := ints_get (show IntsAre its.toArray.toList (n :: ns) from intsAre_of rv) (i := i) (v := v) (by rw [Array.getElem?_toList]; exact hv)
      refine ⟨.int (minI d (n :: ns)), H, I.kept (t' := tk) keep, ?_, q⟩
      show ∃ t', Value.int z t2 = Value.int (ns.foldl (fun a y => if y < a then y else a) n) t'
      cases rd
      exact ⟨_, rfl⟩
/-- x < y, data of one shape -/
def rLtD (K : PySem.W.Frag) : R2 := fun x y H Q => ∃ d e, Dp K H x d ∧ Dp K H y e ∧ alike d e = true ∧ d ≠ .none ∧ d.depth ≤ 60 ∧ Q (.bl (dataLt d e)) H
theorem op_ltD (hu : X.A.units + 64 < cLine) : OpR X (compareOp .Lt) (rLtD X.K) := by
  intro pins s σ H x y v u Q I rx ry h
  obtain ⟨d, e, hd, he, al, nn, dep, q⟩ := h
  obtain ⟨as, r1⟩ := Dp.reads I d x v hd rx
  obtain ⟨bs, r2⟩ := Dp.reads I e y u he ry
  refine lt_data r1 r2 al nn (by have := Nat.min_le_left d.depth e.depth; omega) ⟨.bl (dataLt d e), H, I, rfl, q⟩
/-- repr(None) -/
theorem call_reprN (gd : X.A.guards = some []) (hu : X.A.units + 70 < cLine) : CallR X (.builtin "repr") (fun xs H Q => xs = [.non] ∧ Q (.str "None") H) := by
  intro pins s σ H xs us Q I r h
  obtain ⟨rfl, q⟩ := h
  obtain ⟨u, rfl, ru⟩ := vals1 r
  have e : u = .none := ru
  subst e
  exact PySem.P.repr_of_none ⟨.str "None", H, I.tok _, ⟨_, rfl⟩, q⟩
/-- xs[::-1] of a list -/
def tRev (K : PySem.W.Frag) (te : TE) : TE := fun σ H Q => te σ H fun x H1 => ∃ a xs, x = .ref a ∧ SqL K H1 a xs ∧ ∀ p, H1 p = none → Q (.ref p) (upd H1 p (.lst xs.reverse))
/-- d.update(e), dicts by ints and texts -/
def rUpdK : V → List V → Hp → VK → Prop := fun x xs H Q => ∃ (a b : Addr) (kvs more : List (L2.Key × V)), x = .ref a ∧ xs = [.ref b] ∧ a ≠ b ∧ H a = some (.dK kvs) ∧ H b = some (.dK more) ∧ kvs.length + more.length ≤ sizeLine ∧ Q .non (upd H a (.dK (mergeK kvs more)))
theorem mt_updK : MtR X "dict.update" rUpdK := by
  intro pins s σ H x xs v us Q I rx rxs h
  obtain ⟨a, b, kvs, more, rfl, rfl, nab, ha, hb, few, q⟩ := h
  cases rx
  rw [Vals.ref1 rxs]
  obtain ⟨z, hs, vs, rel, dd⟩ := dk_of I.hok ha
  obtain ⟨z2, hs2, ms, rel2, dd2⟩ := dk_of I.hok hb
  have l1 : kvs.length = vs.length := Paired.length rel
  have l2 : more.length = ms.length := Paired.length rel2
  refine call_meetsIn F.slot_dict_update dd.typeIs F.entry_dict_update (F.args_dict_update_2 _ _) (meets_dict_update (mixKind X.prog X.w) a b nab hs2) ⟨vs, ms, dd, dd2, by omega, fun h' d1 d2 same => ?_⟩
  have hz : (mergeK kvs more).length ≤ sizeLine := Nat.le_trans (length_mergeK more kvs) few
  have I2 : Inv X pins σ (upd H a (.dK (mergeK kvs more))) { s with heap := h', toks := s.toks } := d_write I (by rw [ha]; exact True.intro) same (by obtain ⟨ep, o, es, ho, _⟩ := d1.dictAt; exact ⟨o, ho⟩) (dk_new hz hs (KV.merge rel2 rel) d1)
  exact ⟨.non, _, I2, rfl, q⟩
end
end HR
set_option maxRecDepth 100000
set_option maxHeartbeats 4000000
/-! {k: v for ..} with keys that are tuples of ints and texts -/
namespace HR
open PySem PySem.Spec PyProof.Rows L2
/-- one more entry, by a tuple -/
theorem put_tup {X : Cx} {pp : List (Addr × Obj)} {st : L2.St} {G : Hp} {sh : Shared} {EE : Value → Shared → Prop} {D b : Addr} {kvs : List (List L2.Key × V)} {k : List L2.Key} {v : V} {r : Value} {Q : Unit → Shared → Prop} (roomy : X.A.units < cLine)
    (J : Inv X pp st G sh) (at_ : G D = some (.dT kvs)) (few : kvs.length < sizeLine) (key : G b = some (.tup (k.map kV))) (rv : RelV v r) (nxt : ∀ sh', Inv X pp st (upd G D (.dT (putK kvs k v))) sh' → Q () sh') :
    wpAny (model X.prog X.w) X.A (dictSet D (.ref b) r) Q EE sh := by
  obtain ⟨z, notSys, ys, rel, dd⟩ := dt_of J.hok at_
  have ly : ys.length ≤ sizeLine := by rw [← Paired.length rel]; exact z
  have lk : (putK kvs k v).length ≤ sizeLine := by have := length_putK kvs k v; omega
  refine wpAny_dictSet_heap (hsz := ly) (knd := tupleKind (mixKind X.prog X.w)) (k := k) (show X.A.units < cLine from roomy) (key_of J.hok key) dd fun h' dd' same => nxt _ ?_
  obtain ⟨o, es, ep, ho, h2, h3, h4, _, h5⟩ := dd'
  refine d_write J (by rw [at_]; exact True.intro) same ⟨o, ho⟩ ⟨lk, notSys, _, (rel.put k key rv).keeps fun c zs ec => ?_, o, es, ep, ho, h2, h3, h4, h5⟩
  rw [upd_ne (ne_of ec at_ (fun z => nomatch z))]
  exact ec
def tDcT (wi : TI) (g : TG) (tt : TT) (tk tv : TE) (own : List Nat) : TE := fun st G Q => wi st G fun J G1 => ∀ D, G1 D = none → ∃ W : Nat → Nat → Hp → Prop, (∃ m, W 0 m (upd G1 D (.dT []))) ∧ ∀ i m G, W i m G →
  (J.stop i G ∧ Q (.ref D) G) ∨ (J.go i G ∧ ∃ Nx : Hp → Prop, (∀ G', Nx G' → ∃ m', m' < m ∧ W (i + 1) m' G') ∧ ∀ x G', J.yld i G x G' → g x (wipe st own) G' fun st2 G2 => wipe st2 own = wipe st own ∧ tt st2 G2 fun yes G3 =>
    if yes = true then tk st2 G3 fun y G4 => tv st2 G4 fun z G5 => ∃ kvs k b, y = .ref b ∧ G5 b = some (.tup (k.map kV)) ∧ G5 D = some (.dT kvs) ∧ kvs.length < sizeLine ∧ Nx (upd G5 D (.dT (putK kvs k z))) else Nx G3)
section
variable {X : Cx} {kx vx tg iter : Expr} {ifs : List Expr} {scope : Scope} {own : List (Str × Nat)} {wi : TI} {g : TG} {tt : TT} {tk tv : TE}
theorem pe_dcT {pos : Pos} (calm : X.calm = true) (roomy : X.A.units < cLine) (diff : X.N.Nodup) (walk : PI X tg iter wi) (blk : BlkOk X.N X.env.scope scope own)
    (aim : ∀ (sh : Shared) (G : Hp) (C : Addr) (cl : List (Str × Addr)) (feet : List Addr), PG (X.blk sh G scope (compEnvC scope cl C X.env) feet) tg g)
    (tests : ∀ (sh : Shared) (G : Hp) (C : Addr) (cl : List (Str × Addr)) (feet : List Addr), PTs (X.blk sh G scope (compEnvC scope cl C X.env) feet) ifs tt)
    (keys : ∀ (sh : Shared) (G : Hp) (C : Addr) (cl : List (Str × Addr)) (feet : List Addr), PE (X.blk sh G scope (compEnvC scope cl C X.env) feet) kx tk)
    (vals : ∀ (sh : Shared) (G : Hp) (C : Addr) (cl : List (Str × Addr)) (feet : List Addr), PE (X.blk sh G scope (compEnvC scope cl C X.env) feet) vx tv)
    (plain : ∀ x, foldedSetIterable iter X.env x = pure x := by intro _; rfl) : PE X (.DictComp kx vx [⟨tg, iter, ifs, 0⟩] scope pos) (tDcT wi g tt tk tv (own.map (·.2))) := by
  refine ⟨fun pp sh0 st G0 Q I0 ask => ?_⟩
  rw [arm_eval_DictComp]
  have frees : ∀ y ∈ scope.names, y.2 = .free → ∃ c, X.env.cells.lookup y.1 = some c := fun y hy e => (blk.free y hy e).elim (fun k => I0.ok.has _ (.inl k)) fun k => I0.ok.has _ (.inr k)
  refine wpAny_comprehension_free (use := none) rfl plain (closure_ok frees) blk.kind (fun y hy e => by rw [blk.uniq y hy, e]) (thn (walk.run pp sh0 st G0 _ I0 ask) fun xv sh1 came => thn came fun itv sh2 more => ?_)
  obtain ⟨it, feet, ten, J, G2, rfl, I2, T, at0, free2, turn⟩ := more
  refine wpAny_newObj_type (newEnv_comp ?_)
  have new : G2 sh2.heap.objs.size = none := I2.hok.fresh (Nat.le_refl _)
  obtain ⟨W, ⟨m0, w0⟩, step⟩ := turn _ new
  -- the dict is laid
  obtain ⟨G3, eG3⟩ : ∃ G3, G3 = upd G2 sh2.heap.objs.size (.dT []) := ⟨_, rfl⟩
  rw [← eG3] at w0
  obtain ⟨sh3, e3⟩ : ∃ sh3 : Shared, sh3 = { sh2 with heap := sh2.heap.push { cls := .type "dict", data := .dict #[] } } := ⟨_, rfl⟩
  have I3 : Inv X pp st G3 sh3 := by
    rw [e3, eG3]
    exact I2.laid (t' := sh2.toks) (fun b o q => Heap.get?_push_of_some _ q) (Nat.le_refl _) (dt_empty sh2.heap I2.big)
  have heap3 : sh3.heap = sh2.heap.push { cls := .type "dict", data := .dict #[] } := by rw [e3]
  have low : ∀ b ∈ feet, b < sh2.heap.objs.size := fun b hb => Heap.lt_size (T.obj _ _ at0 b hb).choose_spec.1
  have free3 : ∀ b ∈ feet, FpOk X pp G3 b ∧ b < sh3.heap.objs.size := fun b hb => ⟨⟨by rw [eG3, upd_ne (Nat.ne_of_lt (low b hb))]; exact (free2 b hb).1, (free2 b hb).2⟩, by rw [heap3, Heap.size_push]; exact Nat.lt_succ_of_lt (low b hb)⟩
  have at3 : ten 0 sh3.heap := T.keep _ _ _ at0 fun b _ o q => by rw [heap3]; exact Heap.get?_push_of_some _ q
  have I4 := block_start I3 blk diff free3
  obtain ⟨C, eC⟩ : ∃ C, C = sh3.heap.objs.size := ⟨_, rfl⟩
  obtain ⟨cl, ecl⟩ : ∃ cl, cl = cellsFrom (sh3.heap.objs.size + 1) scope.names (cloFrom X.env.cells scope.names []) := ⟨_, rfl⟩
  obtain ⟨sh4, e4⟩ : ∃ sh4 : Shared, sh4 = { sh3 with heap := pushCells (sh3.heap.push { cls := .type "dict", data := .dict #[] }) scope.names } := ⟨_, rfl⟩
  rw [← ecl, ← eC, ← e4] at I4
  have at4 : ten 0 sh4.heap := T.keep _ _ _ at3 fun b _ o q => by rw [e4]; exact pushCells_keeps _ _ _ _ (Heap.get?_push_of_some _ q)
  have none3 : ∀ b ∈ feet, G3 b = none := fun b hb => (free3 b hb).1.1
  obtain ⟨Y, eY⟩ : ∃ Y, Y = X.blk sh3 G3 scope (compEnvC scope cl C X.env) feet := ⟨_, rfl⟩
  rw [← eY] at I4
  have held : ∀ {st' : L2.St} {G' : Hp} {sh' : Shared}, Inv Y [] st' G' sh' → (∀ b ∈ feet, G' b = none) → ∀ b ∈ feet, FpOk Y [] G' b := by
    subst eY
    exact fun {_ _ _} I' no b hb => ⟨no b hb, (I'.ok.exf b hb).1, I'.ok.exfs b hb, .inl hb, fun x c q => (I'.ok.exf b hb).2 x c q, fun p hp => absurd (show p ∈ ([] : List (Addr × Obj)) ++ [] from hp) (by simp)⟩
  have locC : (compEnvC scope cl C X.env).locals = C := rfl
  have loop : codeAny (model X.prog X.w) X.A (.compLoop (.DictComp kx vx [⟨tg, iter, ifs, 0⟩] scope pos) 0 (.ref it) (.ref sh2.heap.objs.size) (compEnvC scope cl C X.env)) (compPost (model X.prog X.w) X.A X.xe none (EP X pp st Q) (.ref sh2.heap.objs.size) C) sh4 := by
    subst eY
    refine compLoop_anyD (fun left sh => ∃ i G, Inv (X.blk sh3 G3 scope (compEnvC scope cl C X.env) feet) [] (wipe st (own.map (·.2))) G sh ∧ ten i sh.heap ∧ (∀ b ∈ feet, G b = none) ∧ W i left G) ?_ m0 ⟨0, G3, I4, at4, none3, w0⟩
    rintro left sh5 ⟨i, G5, I5, at5, no5, w5⟩
    rcases step i left G5 w5 with ⟨over, good⟩ | ⟨on, Nx, fewer, go⟩
    · -- the walk is over
      refine thnF (T.done (X.blk sh3 G3 scope (compEnvC scope cl C X.env) feet) rfl rfl rfl calm i [] sh5 _ G5 (fun _ _ => False) I5 (held I5 no5) at5 over) fun r sh6 ⟨er, I6⟩ => ?_
      subst er
      have I7 : Inv X pp st G5 sh6 := I3.call' (ch := feet) I6.os I6.base I6.hok I6.bare fun b hb => let f := (free3 b hb).1.2; ⟨f.2.2.1, f.1, f.2.2.2.1, f.2.2.2.2⟩
      have noC : G5 C = none := I6.free
      obtain ⟨m, names, _⟩ := I6.loc
      obtain ⟨f0, f1, f2, f3, f4, f5⟩ := I3.fpOk (Nat.le_of_eq eC.symm) noC
      exact ⟨m, names, fun h'' sb => ⟨.ref sh2.heap.objs.size, G5, I7.turned (t' := sh6.toks) (fun b o hb q => (sb.2 b hb).trans q) f0 f1 f3 f4 f5, rfl, good⟩⟩
    · -- one turn
      refine thnF (T.item (X.blk sh3 G3 scope (compEnvC scope cl C X.env) feet) rfl rfl rfl calm i [] sh5 _ G5 (fun _ _ => False) I5 (held I5 no5) at5 on) fun r sh6 ⟨u, er, rest⟩ => ?_
      subst er
      refine thnF rest fun _ sh7 ⟨x, G7, I7, rx, y7, at7, no7⟩ => ?_
      have P7 := I7.pinned (held I7 no7) (T.obj _ _ at7)
      refine thnF ((aim sh3 G3 C cl feet).run _ sh7 _ G7 x u _ P7 rx (go x G7 y7)) fun _ sh8 ⟨st8, G8, I8, same8, q8⟩ => ?_
      refine thnF ((tests sh3 G3 C cl feet).run _ sh8 st8 G8 _ I8 q8) fun yes sh9 ⟨G9, I9, q9⟩ => ?_
      have back : ∀ {sh' : Shared} {G' : Hp}, Inv (X.blk sh3 G3 scope (compEnvC scope cl C X.env) feet) ([] ++ pinsAt feet sh7.heap) st8 G' sh' → Nx G' →
          ∃ m, m < left ∧ ∃ i G, Inv (X.blk sh3 G3 scope (compEnvC scope cl C X.env) feet) [] (wipe st (own.map (·.2))) G sh' ∧ ten i sh'.heap ∧ (∀ b ∈ feet, G b = none) ∧ W i m G := by
        intro sh' G' I' nx
        obtain ⟨m', less, w'⟩ := fewer G' nx
        have pin : ∀ b ∈ feet, ∀ o, sh7.heap.get? b = some o → sh'.heap.get? b = some o ∧ G' b = none := fun b hb o q => by
          have z := I'.pin (b, o) (List.mem_append_right _ (List.mem_append_right _ (mem_pinsAt hb q)))
          exact ⟨z.1, z.2.1⟩
        have len : (wipe st (own.map (·.2))).length = st8.length := by rw [← same8, wipe_length]
        refine ⟨m', less, i + 1, G', (I'.unpinned (pins := [])).weak len (fun j v q => ?_), T.keep _ _ _ at7 fun b hb o q => (pin b hb o q).1, fun b hb => ?_, w'⟩
        · rw [← same8] at q
          exact (wipe_some q).1
        · obtain ⟨o, q, _⟩ := T.obj _ _ at7 b hb
          exact (pin b hb o q).2
      cases yes with
      | false => exact back I9 q9
      | true =>
        refine thnF ((keys sh3 G3 C cl feet).run _ sh9 st8 G9 _ I9 q9) fun ku sh10 ⟨yk, G10, I10, rk, q10⟩ => ?_
        refine thnF ((vals sh3 G3 C cl feet).run _ sh10 st8 G10 _ I10 q10) fun vu sh11 ⟨yv, G11, I11, rv, kvs, k, b, ek, hb, hD, few, nx⟩ => ?_
        subst ek
        obtain rfl : ku = .ref b := rk
        exact put_tup (X := X.blk sh3 G3 scope (compEnvC scope cl C X.env) feet) roomy I11 hD few hb rv fun sh12 I12 => back I12 nx
  show codeAny _ _ (.compStart (.DictComp kx vx [⟨tg, iter, ifs, 0⟩] scope pos) 0 (.ref it) (.ref sh2.heap.objs.size) (compEnvC scope (cellsFrom (sh2.heap.push { cls := .type "dict", data := .dict #[] }).objs.size.succ scope.names (cloFrom X.env.cells scope.names [])) (sh2.heap.push { cls := .type "dict", data := .dict #[] }).objs.size X.env)) _ _
  rw [heap3] at eC ecl
  subst e3
  subst e4 ecl eC
  exact codeAny_compStart_dict loop (T.self X.A 0 _ _ _ at4 loop)
end
end HR
set_option maxRecDepth 100000
set_option maxHeartbeats 4000000
/-! min(rows, key=len); xs[::-1]; list(d), d by tuples -/
namespace HR
open PySem PySem.Spec PyProof.Rows L2 PySem.W
section
variable {X : Cx} {e : Expr} {te : TE} {t : TA} {p p2 pos kpos : Pos}
theorem tups_at {pp : List (Addr × Obj)} {st : L2.St} {H : Hp} {s : Shared} (I : Inv X pp st H s) {xs : List V} {its : List Value} (r : Vals xs its) (all : ∀ v ∈ xs, ∃ b ys, v = V.ref b ∧ SqT X.K H b ys) :
    ∀ (i : Nat) (v : Value), its[i]? = some v → ∃ b ys us, v = Value.ref b ∧ xs[i]? = some (V.ref b) ∧ Vals ys us ∧ IsTup s.heap b us.toArray ∧ us.length ≤ sizeLine := by
  intro i v hv
  have hi : i < xs.length := by rw [r.length]; exact (List.getElem?_eq_some_iff.mp hv).1
  obtain ⟨u, hu, ru⟩ := r.get (List.getElem?_eq_getElem hi)
  obtain ⟨b, ys, eb, hb⟩ := all _ (List.getElem_mem hi)
  obtain ⟨us, rv, ht, z⟩ := I.tuple hb
  rw [eb] at ru
  have ev : u = Value.ref b := ru
  rw [hv] at hu
  exact ⟨b, ys, us, by rw [← ev]; exact (Option.some.inj hu), by rw [List.getElem?_eq_getElem hi, eb], rv, ht, by rw [← rv.length]; exact z⟩
/-- some row of a list of tuples (the shortest; which is not told) -/
def tMinLen (K : PySem.W.Frag) (t : TA) : TE := fun σ H Q => t σ H fun vs H1 => ∃ a xs, vs = [V.ref a] ∧ SqL K H1 a xs ∧ xs ≠ [] ∧ (∀ v ∈ xs, ∃ b ys, v = V.ref b ∧ SqT K H1 b ys) ∧ ∀ v ∈ xs, Q v H1
theorem pe_minLen (calm : X.calm = true) (hu : X.A.units + 64 < cLine) (g1 : Gl X "min") (m1 : X.mg "min" = none) (g2 : Gl X "len") (m2 : X.mg "len" = none) (ha : PA X [e] t)
    (h1 : backTo pos (starEach [e] X.env) = (false, eval e X.env) :: backTo pos (starEach [] X.env) := by rfl) (h2 : (backTo pos (starEach [e] X.env)).any (·.1) = false := by rfl) :
    PE X (.Call (.Name "min" p) [e] [⟨some "key", .Name "len" p2, kpos⟩] pos) (tMinLen X.K t) := by
  refine ⟨fun pins s σ H Q I h => ?_⟩
  refine wpAny_Call_Name_kw (ld_blt I g1 m1 (u := .builtin "min") (by first | rfl | decide +kernel) ?_)
  refine PyProof.Rows.callWith_kw (thn (ha.run pos pins s σ H _ I h) fun us s1 ⟨vs, H1, I1, r1, a, xs, ev, hs, ne, all, q⟩ => ?_) h1 h2
  subst ev
  obtain ⟨u, rfl, ru⟩ := vals1 r1
  have eu : u = Value.ref a := ru
  subst eu
  show wpAny _ _ (evalAll ((do let v ← eval (.Name "len" p2) X.env; standAt pos; pure v) :: [])) _ _ s1
  refine wpAny_evalAll_cons (wpAny_bind (ld_blt I1 g2 m2 (u := .builtin "len") (by first | rfl | decide +kernel) (wpAny_bind (wpAny_standAt (wpAny_pure ?_)))))
  refine wpAny_evalAll_nil ?_
  show wpAny _ _ (call (.builtin "min") [.ref a] [(Str.ofString "key", .builtin "len")]) _ _ s1
  obtain ⟨its, rv, hl, z⟩ := I1.list hs
  have hd : X.A.in1.handled = none := I1.ok.hd calm
  have at_ := tups_at I1 rv all
  have lx : xs.length = its.length := rv.length
  let lens : List Nat := its.map fun v => match v with | Value.ref b => (match s1.heap.get? b with | some o => (match o.data with | .seq vs _ => vs.size | _ => 0) | none => 0) | _ => 0
  have lenAt : ∀ (i : Nat) (v : Value), its[i]? = some v → ∃ b, ∃ us : List Value, v = Value.ref b ∧ IsTup s1.heap b us.toArray ∧ us.length ≤ sizeLine ∧ lens.getD i 0 = us.length := fun i v hv => by
    obtain ⟨b, ys, us, rfl, _, _, ht, zu⟩ := at_ i v hv
    refine ⟨b, us, rfl, ht, zu, ?_⟩
    obtain ⟨o, ho, _, n, hdt⟩ := id ht
    show (its.map _).getD i 0 = _
    rw [List.getD_eq_getElem?_getD, List.getElem?_map, hv]
    show (match s1.heap.get? b with | some o => (match o.data with | .seq vs _ => vs.size | _ => 0) | none => 0) = _
    rw [ho]
    show (match o.data with | .seq vs _ => vs.size | _ => 0) = _
    rw [hdt]
    simp
  refine call_min_walkKB (iter_listW (A := X.A.in1) hd hl.isList fun s2 e2 W st0 hfp hw hk => ?_)
  have hn : 0 < its.toArray.size := by
    rw [List.size_toArray, ← lx]
    exact List.length_pos_iff.mpr ne
  refine ⟨_, _, _, _, _, _, _, (fun s' => ∃ h' tk, s' = { s1 with heap := h', toks := tk } ∧ ∀ b o, s1.heap.get? b = some o → h'.get? b = some o), (fun i k _ => ∃ tk, k = Value.int (lens.getD i 0 : Nat) tk), (fun i j => (fun (m n : Nat) => decide (m < n)) (lens.getD i 0) (lens.getD j 0)), rfl, W, st0, hfp, hn, ?_, ⟨s2.heap, s2.toks, by rw [e2], hk⟩, fun v s' hv ⟨h', tk, es, keep⟩ => ?_⟩
  · exact {
      keep := fun s s' ⟨h', tk, es, keep⟩ m => by
        subst es
        obtain ⟨hp, g, d, tk', os⟩ := s'
        have hg : g = s1.gens := m.gens
        have hdr : d = s1.drawn := m.drawn
        have hos : os = s1.os := m.os
        subst hg hdr hos
        refine ⟨hp, tk', rfl, fun b o q => m.heap b o (fun hb => ?_) (keep b o q)⟩
        have hlt := Heap.lt_size q
        have e3 : s2.heap.objs.size = s1.heap.objs.size + 1 := by rw [e2]; exact Heap.size_push _ _
        simp only [List.mem_cons, List.not_mem_nil, or_false] at hb
        rcases hb with hb | hb
        · rw [hb, e3] at hlt
          exact absurd hlt (Nat.not_lt.mpr (Nat.le_succ _))
        · rw [hb] at hlt
          exact absurd hlt (Nat.lt_irrefl _)
      keepV := fun i k s s' hv _ => hv
      turn := fun i v s o Q' E' hi hv ⟨h', tk, es, keep⟩ st ho nxt => by
        subst es
        obtain ⟨b, us, rfl, ht, zu, el⟩ := lenAt i v (by simpa using hv)
        have ht2 : IsTup h' b us.toArray := by
          obtain ⟨o2, h1, h2, h3⟩ := ht
          exact ⟨o2, keep _ _ h1, h2, h3⟩
        refine len_tuple (s := { s1 with heap := h', toks := tk }) ht2 (by have := line63; rw [List.size_toArray]; omega) (nxt _ _ ⟨h', tk + 1 + 1, rfl, keep⟩ st ho ⟨tk + 1, ?_⟩ fun j k' z => z)
        rw [el, List.size_toArray]
      cmp := fun i j ki kj s Q' E' _ ⟨t1, e1⟩ ⟨t2, e2⟩ q' => by
        subst e1 e2
        refine P.lt_int ?_
        rw [show decide (((lens.getD i 0 : Nat) : Int) < ((lens.getD j 0 : Nat) : Int)) = decide (lens.getD i 0 < lens.getD j 0) from decide_eq_decide.mpr (by omega)]
        exact q' }
  · subst es
    have hb : argBest (fun i j => (fun (m n : Nat) => decide (m < n)) (lens.getD i 0) (lens.getD j 0)) (its.toArray.size - 1) < its.length := by
      have le : lens.length = its.length := List.length_map _
      cases hle : lens with
      | nil => rw [hle] at le; rw [List.size_toArray] at hn; simp at le; omega
      | cons x ls =>
        have ab := (argBest_fold (fun (m n : Nat) => decide (m < n)) 0 x ls (its.toArray.size - 1) (by rw [hle] at le; rw [List.size_toArray]; simp at le; omega)).1
        rw [List.size_toArray] at ab hn ⊢
        exact Nat.lt_of_le_of_lt ab (by omega)
    have hv2 : its[argBest (fun i j => (fun (m n : Nat) => decide (m < n)) (lens.getD i 0) (lens.getD j 0)) (its.toArray.size - 1)]? = some v := by simpa using hv
    obtain ⟨b, ys, us, rfl, hx, _⟩ := at_ _ v hv2
    exact ⟨.ref b, H1, I1.kept (t' := tk) keep, rfl, q _ (List.mem_of_getElem? hx)⟩
end
end HR
set_option maxRecDepth 100000
set_option maxHeartbeats 4000000
/-! xs[::-1]; list(d), d by tuples -/
namespace HR
open PySem PySem.Spec PyProof.Rows L2
theorem pick_back (l : List Value) : slicePick l.toArray none none (some (-1)) = l.reverse.toArray := by
  unfold slicePick
  rw [List.size_toArray]
  show ((sliceRange ((l.length : Int) - 1) (-1) (-1)).filterMap (l.toArray[·]?)).toArray = _
  congr 1
  unfold sliceRange
  by_cases h0 : l.length = 0
  · have : l = [] := List.eq_nil_of_length_eq_zero h0
    subst this
    rfl
  have c : (if (-1 : Int) > 0 then (if ((l.length : Int) - 1) < -1 then (-1 - ((l.length : Int) - 1) + -1 - 1) / -1 else 0) else (if ((l.length : Int) - 1) > -1 then ((l.length : Int) - 1 - -1 - -1 - 1) / (- -1) else 0)) = (l.length : Int) := by
    rw [if_neg (by decide), if_pos (by omega), show (- -1 : Int) = 1 from rfl, Int.ediv_one]
    omega
  dsimp only
  rw [c, Int.toNat_natCast]
  apply List.ext_getElem?
  intro i
  have fm : ∀ (n : Nat), n ≤ l.length → ((List.range n).map fun (k : Nat) => (((l.length : Int) - 1) + -1 * (k : Int)).toNat).filterMap (l.toArray[·]?) = l.reverse.take n := by
    intro n
    induction n with
    | zero => intro _; rfl
    | succ n ih =>
      intro hn
      rw [List.range_succ, List.map_append, List.filterMap_append, ih (by omega), List.take_add_one]
      congr 1
      have e : ((l.length : Int) - 1 + -1 * (n : Int)).toNat = l.length - 1 - n := by omega
      simp only [List.map_cons, List.map_nil, List.filterMap_cons, List.filterMap_nil, e]
      rw [List.getElem?_reverse (by omega)]
      have hi : l.length - 1 - n < l.length := by omega
      simp [List.getElem?_eq_getElem hi]
  rw [fm l.length (Nat.le_refl _), List.take_of_length_le (by simp)]
section
variable {X : Cx} {e st : Expr} {te ts : TE} {p2 pos : Pos}
/-- xs[::k] with k = -1 -/
def tBack (K : PySem.W.Frag) (te ts : TE) : TE := fun σ H Q => te σ H fun x H1 => ts σ H1 fun y H2 => y = .int (-1) ∧ ∃ a xs, x = .ref a ∧ SqL K H2 a xs ∧ ∀ p, H2 p = none → Q (.ref p) (upd H2 p (.lst xs.reverse))
theorem pe_back (he : PE X e te) (hs : PE X st ts) : PE X (.Subscript e (.Slice none none (some st) p2) pos) (tBack X.K te ts) := by
  refine ⟨fun pins s σ H Q I h => ?_⟩
  refine Subscript_ (thn (he.run pins s σ H _ I h) fun v s1 ⟨x, H1, I1, r1, q1⟩ => ?_)
  refine wpAny_Slice ?_
  rw [evalPart_none]
  refine wpAny_pure (wpAny_pure ?_)
  rw [evalPart_some]
  refine thn (hs.run pins s1 σ H1 _ I1 q1) fun u s2 ⟨y, H2, I2, r2, ey, a, xs, ex, hx, q⟩ => ?_
  subst ey ex
  obtain ⟨tk, rfl⟩ := r2
  obtain rfl : v = .ref a := r1
  have I3 : Inv X pins σ H2 { s2 with heap := s2.heap.push { cls := .type "slice", data := .fields #[.none, .none, .int (-1) tk] } } := I2.kept (t' := s2.toks) fun b ob q => Heap.get?_push_of_some _ q
  obtain ⟨its, r, ht, hz⟩ := I3.list hx
  show wpAny (model X.prog X.w) X.A (subscriptTail e (.Slice none none (some st) p2) (.ref a) (.ref s2.heap.objs.size)) (EP X pins σ Q) X.xe { s2 with heap := s2.heap.push { cls := .type "slice", data := .fields #[.none, .none, .int (-1) tk] } }
  refine tail_any (ops := [.ref a, .ref s2.heap.objs.size]) ht.isList.typeIs slot_list_getitem.lookup ?_ (by with_unfolding_all rfl)
  refine wpAny_getItem_list_slice ht.isList (Heap.IsSliceOf.new ..) .none .none (.int (-1) tk) (by simp) ?_ (by rw [List.size_toArray, ← r.length]; exact hz)
  rw [pick_back]
  refine ⟨.ref _, _, I3.laid (t' := s2.toks) (o := .lst xs.reverse) (fun b ob q => Heap.get?_push_of_some _ q) (Nat.le_refl _) ⟨by rw [List.length_reverse]; exact hz, its.reverse, 0, r.reverse, Heap.get?_push_size _ rfl⟩, rfl, q _ (I3.hok.fresh (Nat.le_refl _))⟩
/-- list(d), d by tuples: its keys -/
def rKeysT : List V → Hp → VK → Prop := fun xs H Q => ∃ (d : Addr) (kvs : List (List L2.Key × V)), xs = [.ref d] ∧ H d = some (.dT kvs) ∧ ∀ (ks : List Addr) q, ks.length = kvs.length → (∀ (i : Nat) (b : Addr) (kv : List L2.Key × V), ks[i]? = some b → kvs[i]? = some kv → H b = some (.tup (kv.1.map kV))) → H q = none → Q (.ref q) (upd H q (.lst (ks.map V.ref)))
theorem cr_keysT (hc : X.calm = true) : CallR X (.type "list") rKeysT := by
  intro pins s σ H xs us Q I rx h
  obtain ⟨d, kvs, rfl, hd, q⟩ := h
  rw [Vals.ref1 rx]
  obtain ⟨z, hs, ys, rel, dd⟩ := dt_of I.hok hd
  obtain ⟨es, ep, raw, he⟩ := TV.raw_of dd
  have hl : kvs.length = ys.length := Paired.length rel
  have hes : es.size = ys.length := by
    have := congrArg List.length he
    rwa [List.length_map, Array.length_toList] at this
  refine PySem.W.kdl_call (PySem.KdlSrc.rawDict (d := d) (es := es) (ep := ep) hs) (I.ok.hd hc) raw (by omega) fun h' tk acc c hk hS hacc => ?_
  have ent : ∀ (j : Nat) (w : Value), acc.toList[j]? = some w → ∃ y : List L2.Key × Addr × Value, ys[j]? = some y ∧ w = .ref y.2.1 := fun j w hw => by
    obtain ⟨hi, hv⟩ := hacc.2 j w (by rw [← Array.getElem?_toList]; exact hw)
    have hj : j < ys.length := by omega
    refine ⟨ys[j], List.getElem?_eq_getElem hj, ?_⟩
    have e1 : es.toList[j]? = some (entryOfKey (tupleKind (mixKind X.prog X.w)) ys[j]) := by rw [he, List.getElem?_map, List.getElem?_eq_getElem hj]; rfl
    have e2 : es.toList[j]? = some es[j] := by rw [Array.getElem?_toList, Array.getElem?_eq_getElem hi]
    rw [hv, Option.some.inj (e2.symm.trans e1)]
    rfl
  have la : acc.toList.length = ys.length := by rw [Array.length_toList, hacc.1, hes]
  refine ⟨.ref s.heap.objs.size, upd H s.heap.objs.size (.lst ((ys.map fun y => y.2.1).map V.ref)), I.laid (t' := tk) hk (Nat.le_refl _) (show ObjOk X.prog X.w _ _ _ (.lst _) from ⟨by rw [List.length_map, List.length_map, ← hl]; exact z, acc.toList, c, ?_, ?_⟩), rfl, q _ _ (by rw [List.length_map, hl]) (fun i b kv hb hkv => ?_) (I.hok.fresh (Nat.le_refl _))⟩
  · refine vals_of_at (by rw [List.length_map, List.length_map, la]) fun j x w h1 h2 => ?_
    obtain ⟨y, hy, rfl⟩ := ent j w h2
    rw [List.map_map, List.getElem?_map, hy] at h1
    cases h1
    rfl
  · rw [Array.toArray_toList]; exact hS
  · rw [List.getElem?_map] at hb
    obtain ⟨y, hy, rfl⟩ := Option.map_eq_some_iff.mp hb
    obtain ⟨y2, hy2, hr⟩ := TV.pair_get rel hkv
    rw [hy] at hy2
    cases hy2
    exact hr.2.1
end
end HR
set_option maxRecDepth 100000
set_option maxHeartbeats 4000000
/-! enumerate(a list or tuple) -/
namespace HR
open PySem PySem.Spec PyProof.Rows L2 PySem.W
/-- the tuple at a, its items in new pairs -/
def ItT (K : PySem.W.Frag) (a : Addr) : It :=
  ⟨fun i H => ∃ (xs : List V) (x : V), SqT K H a xs ∧ xs[i]? = some x, fun i H v H' => ∃ T x, v = .ref T ∧ H T = none ∧ H' = upd H T (.tup [.int (i : Nat), x]) ∧ ∀ xs, SqT K H a xs → xs[i]? = some x, fun i H => ∃ xs : List V, SqT K H a xs ∧ xs.length ≤ i⟩
theorem walk_enT {K : PySem.W.Frag} {a : Addr} {xs : List V} : L2.Walk (ItT K a) xs.length (fun H => SqT K H a xs) (YPair (fun i => some (.int (i : Nat))) (fun i => xs[i]?)) :=
  ⟨fun i _ hi q => ⟨xs, xs[i], q, by simp [hi]⟩, fun _ q => ⟨xs, q, Nat.le_refl _⟩, fun i H v H' _ q ⟨T, x, h1, h2, h3, h4⟩ => ⟨T, .int (i : Nat), x, h1, h2, h3, rfl, h4 xs q⟩⟩
theorem turn_enT {P : Program} {w : World} {K : PySem.W.Frag} {elts : List Expr} {kk : Nat} {tpos : Pos} (a e it : Addr) :
    Turn P w K (.Tuple elts kk tpos) (ItT K a) [e, it] e (fun i h => (∃ old, IsEnum h e it ((i : Nat) : Int) old) ∧ h.IsTupleIter it a i ∧ e ≠ it) where
  mem := List.mem_cons_self
  obj := fun i h st b hb => by
    obtain ⟨⟨old, he⟩, ⟨o, ho, _, hd⟩, _⟩ := st
    rcases List.mem_cons.mp hb with z | hb
    · rw [z]
      exact ⟨_, he, fun v q => nomatch q⟩
    · exact ⟨o, by rw [List.mem_singleton.mp hb]; exact ho, fun v q => by rw [hd] at q; cases q⟩
  keep := fun i h h' ⟨⟨old, he⟩, hi, ne⟩ k => ⟨⟨old, k e List.mem_cons_self _ he⟩, hi.at fun o q => k it (List.mem_cons_of_mem _ List.mem_cons_self) o q, ne⟩
  item := by
    intro X hP hw hK calm i pp s σ H E I feet ⟨⟨old, he⟩, hit, ne⟩ ⟨xs, x, hx, hi⟩
    subst hP hw hK
    obtain ⟨its, rv, pt, few⟩ := I.tuple hx
    obtain ⟨u, hu, ru⟩ := rv.get hi
    have he' : e < s.heap.objs.size := Heap.lt_size he
    have hit' : it < s.heap.objs.size := by obtain ⟨o, q, _⟩ := hit; exact Heap.lt_size q
    obtain ⟨f1, f2⟩ := feet it (List.mem_cons_of_mem _ List.mem_cons_self)
    obtain ⟨ob, hob, _⟩ := id hit
    have hai : a ≠ it := fun z => by
      obtain ⟨o2, h2, c2, _⟩ := pt
      obtain ⟨o3, h3, c3, _⟩ := id hit
      rw [z] at h2
      rw [h2] at h3
      cases h3
      rw [c2] at c3
      exact absurd (Value.type.inj c3) (by decide)
    have hae : e ∉ [it, a] := by
      intro z
      rcases List.mem_cons.mp z with z | z
      · exact ne z
      · rw [List.mem_singleton.mp z] at he
        obtain ⟨o2, h2, c2, _⟩ := pt
        rw [show s.heap.get? a = some _ from he] at h2
        cases h2
        exact absurd (Value.type.inj c2) (by decide)
    refine wpAny_pyNext_enum_itemD (Draws.tuple (prog := X.prog) (w := X.w) (A := X.A.in1) (I.ok.hd calm) it a hai its.toArray) he ⟨hit, pt⟩ (i := i) (by rw [List.size_toArray]; exact (List.getElem?_eq_some_iff.mp hu).1) ne hae fun y h' tk hy ho st' hT hsz hk => ?_
    have ey : y = u := by
      have : its[i]? = some y := by simpa using hy
      rw [hu] at this
      exact (Option.some.inj this).symm
    subst ey
    refine ⟨_, rfl, wpAny_letOwnedTupleGo_enum (s := { s with heap := h', toks := tk + 1 }) ho fun h'' he2 sb => ?_⟩
    have hT2 : h''.get? s.heap.objs.size = some { cls := .type "tuple", data := .seq #[.int i tk, y] } := (sb.2 _ (Nat.ne_of_gt he')).trans hT
    have new : ObjOk X.prog X.w (upd H s.heap.objs.size (.tup [.int (i : Nat), x])) h'' s.heap.objs.size (.tup [.int (i : Nat), x]) := ⟨by show 2 ≤ sizeLine; decide, [.int i tk, y], .cons ⟨_, rfl⟩ (.cons ru .nil), ⟨_, hT2, rfl, _, rfl⟩⟩
    have I2 : Inv X pp σ (upd H s.heap.objs.size (.tup [.int (i : Nat), x])) { s with heap := h'', toks := tk + 1 } :=
      I.turnedNew (ch := [e, it]) (fun b o hb q => (sb.2 b (fun z => hb (by rw [z]; exact List.mem_cons_self))).trans (hk b o (fun z => hb (by rw [z]; exact List.mem_cons_self)) (fun z => hb (by rw [z]; exact List.mem_cons_of_mem _ List.mem_cons_self)) q)) feet (Nat.le_refl _) new
    refine ⟨.ref s.heap.objs.size, _, I2, rfl, ⟨_, x, rfl, I.hok.fresh (Nat.le_refl _), rfl, fun ys hy2 => by rw [I.tuple_inj hy2 hx]; exact hi⟩, ⟨⟨y, ?_⟩, st'.1.at fun o q => (sb.2 it (Ne.symm ne)).trans q, ne⟩, fun b hb => ?_⟩
    · have e1 : ((i + 1 : Nat) : Int) = (i : Int) + 1 := by omega
      rw [e1]; exact he2
    · have lt : b < s.heap.objs.size := by
        rcases List.mem_cons.mp hb with z | z
        · rw [z]; exact he'
        · rw [List.mem_singleton.mp z]; exact hit'
      rw [upd_ne (Nat.ne_of_lt lt)]
      exact (feet b hb).1
  done := by
    intro X hP hw hK calm i pp s σ H E I feet ⟨⟨old, he⟩, hit, ne⟩ ⟨xs, hx, over⟩
    subst hP hw hK
    obtain ⟨its, rv, pt, few⟩ := I.tuple hx
    obtain ⟨f0, f1, f2, f3, f4, f5⟩ := feet it (List.mem_cons_of_mem _ List.mem_cons_self)
    have hai : a ≠ it := fun z => by
      obtain ⟨o2, h2, c2, _⟩ := pt
      obtain ⟨o3, h3, c3, _⟩ := id hit
      rw [z] at h2
      rw [h2] at h3
      cases h3
      rw [c2] at c3
      exact absurd (Value.type.inj c3) (by decide)
    have hl := rv.length
    have none_ : its.toArray[i]? = none := by simp; omega
    have hT : s.TypeIs (.ref e) "enumerate" := ⟨_, he, rfl⟩
    unfold pyNext
    refine wpAny_bind (wpAny_attempt (wpAny_callSpecial?_slot (name := Str.ofString "__next__") hT F.slot_enumerate_next (wpAny_call_entry F.slot_enumerate_next hT F.entry_enumerate_next ?_ (F.args_enumerate_next_1 _))))
    show wpAny _ _ (field (.ref e) 2 >>= _) _ _ _
    refine wpAny_bind (wpAny_field he rfl (x := .ref it) rfl ?_)
    refine wpAny_bind (wpAny_nextOf_tuple_end (I.ok.hd calm) hit pt none_ fun h' x eb hx' => ?_)
    obtain ⟨o, ho, hc⟩ := hx'
    refine wpAny_bind (wpAny_isInstance (T := "StopIteration") (b := true) ⟨o, ho, hc⟩ isSubtype_stop ?_)
    exact wpAny_pure ⟨rfl, I.turned (t' := s.toks) (fun b o hb q => eb b o hb q) f0 f1 f3 f4 f5⟩
  self := fun A i s Q E ⟨⟨_, he⟩, _⟩ h => wpAny_pyIter_enum he h
set_option maxHeartbeats 4000000 in
theorem meets_enum_new {v : Value} {o : Obj} {Hh : Heap → Prop} (B : Begins v o Hh) :
    Meets (Builtin.«enumerate.__new__» ⟨[.type "enumerate", v], []⟩) (fun _ R s => Hh s.heap ∧
      R (.ok (.ret (.ref (s.heap.push o).objs.size))) { s with heap := (s.heap.push o).push { cls := .type "enumerate", data := .fields #[.none, .bool false, .ref s.heap.objs.size, rawInt 0, .none, .none] } }) :=
  .of_wp fun prog w A R s both => by
    obtain ⟨hp, g, d, tk, os⟩ := s
    obtain ⟨h1, h⟩ := both
    have sub := sub_enumerate
    have it_ : ∀ {A' : Around} {E : Value → Shared → Prop} {Q : Value → Shared → Prop}, Q (.ref hp.objs.size) ⟨hp.push o, g, d, tk, os⟩ → wpAny (model prog w) A' (pyIter v) Q E ⟨hp, g, d, tk, os⟩ := fun q => B.iter prog w _ _ ⟨hp, g, d, tk, os⟩ _ h1 q
    wp_walk using it_
    refine wpAny_stack_any fun st => wpAny_pure ?_
    split
    · rename_i c _ _ _ _ _
      cases (c == Value.type "enumerate") <;> (wp_walk using it_; exact ⟨_, rfl, h⟩)
    · wp_walk using it_
      exact ⟨_, rfl, h⟩
section
variable {X : Cx} {e : Expr} {ta : TA} {p pos tpos : Pos} {elts : List Expr} {kk : Nat}
/-- enumerate(a list or tuple) -/
def iEnS (K : PySem.W.Frag) (ta : TA) : TI := fun σ H R => ta σ H fun vs H1 => ∃ a xs, vs = [.ref a] ∧ ((SqL K H1 a xs ∧ R (Ite K a) H1) ∨ (SqT K H1 a xs ∧ R (ItT K a) H1))
theorem pi_enS (hg : Gl X "enumerate") (hm : X.mg "enumerate" = none) (ha : PA X [e] ta) (hs : starEach [e] X.env = [(false, eval e X.env)] := by rfl) : PI X (.Tuple elts kk tpos) (.Call (.Name "enumerate" p) [e] [] pos) (iEnS X.K ta) := by
  refine ⟨fun pins s σ H R I h => ?_⟩
  refine Call_ (ld_blt I hg hm boot_enumerate (PyProof.Rows.callWith_type1 (thn (ha.run pos pins s σ H _ I h) fun us s1 ⟨vs, H1, I1, r1, a, xs, ex, q⟩ => ?_) hs rfl))
  subst ex
  obtain ⟨u, rfl, ru⟩ := vals1 r1
  have eu : u = Value.ref a := ru
  subst eu
  have low : ∀ b ∈ [s1.heap.objs.size + 1, s1.heap.objs.size], s1.heap.objs.size ≤ b := fun b hb => by
    rcases List.mem_cons.mp hb with z | z
    · rw [z]; exact Nat.le_succ _
    · rw [List.mem_singleton.mp z]; exact Nat.le_refl _
  rcases q with ⟨hq, q⟩ | ⟨hq, q⟩
  · obtain ⟨its, rv, p', hz⟩ := I1.list hq
    refine call_enumerate_list p'.isList fun h' he hit hsz hk => wpAny_pyIter_enum he ?_
    have I2 : Inv X pins σ H1 { s1 with heap := h' } := I1.kept (t' := s1.toks) hk
    exact ⟨s1.heap.objs.size + 1, [s1.heap.objs.size + 1, s1.heap.objs.size], _, _, H1, rfl, I2, turn_enum a (s1.heap.objs.size + 1) s1.heap.objs.size, ⟨⟨.none, he⟩, hit, Nat.succ_ne_self _⟩, fun b hb => I1.fpOk (low b hb) (I1.hok.fresh (low b hb)), q⟩
  · obtain ⟨its, rv, p', hz⟩ := I1.tuple hq
    refine callType_new F.called_enumerate (by decide) (F.typeCall_enumerate_1 _) (F.newCall_enumerate_1 _) (fun obj => F.args_object_init_2 obj _) F.entry_enumerate_new (meets_enum_new (begins_tuple a its.toArray)) ⟨p', ?_⟩
    have hz : (s1.heap.push { cls := .type "tuple_iterator", data := .fields #[.ref a, .int 0 0] }).objs.size = s1.heap.objs.size + 1 := Heap.size_push ..
    show _ ∧ _
    rw [hz]
    have he : IsEnum ((s1.heap.push { cls := .type "tuple_iterator", data := .fields #[.ref a, .int 0 0] }).push { cls := .type "enumerate", data := .fields #[.none, .bool false, .ref s1.heap.objs.size, rawInt 0, .none, .none] }) (s1.heap.objs.size + 1) s1.heap.objs.size 0 .none := by
      have z := Heap.get?_push_size (s1.heap.push { cls := .type "tuple_iterator", data := .fields #[.ref a, .int 0 0] }) (o := { cls := .type "enumerate", data := .fields #[.none, .bool false, .ref s1.heap.objs.size, rawInt 0, .none, .none] }) rfl
      rw [hz] at z
      exact z
    refine ⟨⟨_, he, rfl⟩, wpAny_pyIter_enum he ?_⟩
    have hk : ∀ b o, s1.heap.get? b = some o → ((s1.heap.push { cls := .type "tuple_iterator", data := .fields #[.ref a, .int 0 0] }).push { cls := .type "enumerate", data := .fields #[.none, .bool false, .ref s1.heap.objs.size, rawInt 0, .none, .none] }).get? b = some o := fun b o x => Heap.get?_push_of_some _ (Heap.get?_push_of_some _ x)
    exact ⟨s1.heap.objs.size + 1, [s1.heap.objs.size + 1, s1.heap.objs.size], _, _, H1, rfl, I1.kept (t' := s1.toks) hk, turn_enT a (s1.heap.objs.size + 1) s1.heap.objs.size, ⟨⟨.none, he⟩, ⟨_, Heap.get?_push_of_some _ (Heap.get?_push_size _ rfl), rfl, rfl⟩, Nat.succ_ne_self _⟩, fun b hb => I1.fpOk (low b hb) (I1.hok.fresh (low b hb)), q⟩
end
end HR
set_option maxRecDepth 100000
set_option maxHeartbeats 4000000
/-! sorted(a tuple of ints); what is walked, one of two ways -/
namespace HR
open PySem PySem.Spec PyProof.Rows L2 SrtO
section
variable {prog : Program} {w : World} {A : Around} {E : Value → Shared → Prop} {s : Shared}
theorem collect_tup {t : Addr} {vs : List Value} {Q : List Value → Shared → Prop} (ht : IsTup s.heap t vs.toArray) (few : vs.length ≤ sizeLine) (nxt : Q vs { s with heap := (s.heap.push (seqObj "list" #[] 0)).update s.heap.objs.size (Obj.mapSeq (· ++ vs.toArray)) }) :
    wpAny (model prog w) A (collect (.ref t)) Q E s := by
  obtain ⟨o, at_, cls, n, dat⟩ := id ht
  have new : (s.heap.push (seqObj "list" #[] 0)).get? s.heap.objs.size = some (seqObj "list" #[] 0) := Heap.get?_push_size _ rfl
  have at1 : (s.heap.push (seqObj "list" #[] 0)).get? t = some o := Heap.get?_push_of_some _ at_
  have ne : s.heap.objs.size ≠ t := Nat.ne_of_gt (Heap.lt_size at_)
  unfold collect
  refine wpAny_bind (wpAny_runValue (codeAny_builtin F.entry_proto_collect ?_))
  show wpAny _ _ (do again (.builtin "list.__iadd__" ⟨[← newList [], .ref t], []⟩)) _ _ s
  refine wpAny_bind (wpAny_newList (wpAny_pure ⟨Code.quiet_builtin _ (by decide +kernel), codeAny_builtin F.entry_list_iadd ?_⟩))
  show wpAny _ _ (Builtin.List.listExtendWith (.ref s.heap.objs.size) (.ref t) (.ref s.heap.objs.size)) _ _ { s with heap := s.heap.push (seqObj "list" #[] 0) }
  unfold Builtin.List.listExtendWith
  refine wpAny_bind (wpAny_typeOf (T := "tuple") ⟨o, at1, cls⟩ ?_)
  have same : Builtin.List.listSameRef (.ref s.heap.objs.size) (.ref t) = false := by simp [Builtin.List.listSameRef, ne]
  rw [if_pos (by rw [show (Value.type "tuple" == Value.type "tuple") = true from rfl]; simp)]
  refine wpAny_bind (listItems_at at1 dat ?_)
  refine wpAny_bind (listItems_at (xs := #[]) (n := 0) new rfl ?_)
  rw [if_neg (by simp)]
  refine wpAny_bind (listUpdate_at (xs := #[]) (n := 0) new rfl ?_ (Nat.zero_le _) (by show (#[] ++ vs.toArray).size ≤ sizeLine + 1; simp only [Array.size_append, List.size_toArray, List.length_nil]; omega))
  refine wpAny_pure ?_
  show wpAny (model prog w) A (load s.heap.objs.size >>= _) Q E _
  refine wpAny_bind (wpAny_load (get?_update_seq new _) ?_)
  show wpAny _ _ (pure ((#[] : Array Value) ++ vs.toArray).toList) Q E _
  rw [show ((#[] : Array Value) ++ vs.toArray).toList = vs by simp]
  exact wpAny_pure nxt
end
section
variable {X : Cx}
theorem pi_or {tg e : Expr} {t1 t2 : TI} (h1 : PI X tg e t1) (h2 : PI X tg e t2) : PI X tg e (fun σ H R => t1 σ H R ∨ t2 σ H R) :=
  ⟨fun pins s σ H R I h => h.elim (h1.run pins s σ H R I) (h2.run pins s σ H R I)⟩
def rSortedTI (K : PySem.W.Frag) : List V → Hp → VK → Prop := fun vs H Q => ∃ (a : Addr) (ns : List Int), vs = [V.ref a] ∧ SqT K H a (ns.map V.int) ∧ ∀ (ms : List Int) (p : Addr), ms.Perm ns → ms.Pairwise (· ≤ ·) → H p = none → Q (.ref p) (upd H p (.lst (ms.map V.int)))
theorem cr_sortedTI : CallR X (.builtin "sorted") (rSortedTI X.K) := by
  intro pins s σ H vs us Q I r h
  obtain ⟨a, ns, rfl, hs, q⟩ := h
  obtain ⟨its, rv, ht, few⟩ := I.tuple hs
  rw [Vals.ref1 r]
  have hi : IntsAre its ns := intsAre_of rv
  have hz : its.length ≤ sizeLine := by rw [← rv.length]; exact few
  refine Calls.call_function_entry kind_sorted plain_sorted entry_sorted (args_sorted1 _) ?_
  unfold Builtin.«sorted»
  refine wpAny_bind (m := checkCount "sorted" 1 1 _) (wpAny_pure ?_)
  refine wpAny_bind (collect_tup ht hz ?_)
  refine wpAny_bind (wpAny_newList ?_ hz)
  have size2 : ((s.heap.push (seqObj "list" #[] 0)).update s.heap.objs.size (Obj.mapSeq (· ++ its.toArray))).objs.size = s.heap.objs.size + 1 := by rw [Heap.size_update, size_push']
  show wpAny _ _ _ _ _ { s with heap := ((s.heap.push (seqObj "list" #[] 0)).update s.heap.objs.size (Obj.mapSeq (· ++ its.toArray))).push (seqObj "list" its.toArray 0) }
  rw [size2]
  have laid : (((s.heap.push (seqObj "list" #[] 0)).update s.heap.objs.size (Obj.mapSeq (· ++ its.toArray))).push (seqObj "list" its.toArray 0)).get? (s.heap.objs.size + 1) = some (seqObj "list" its.toArray 0) := by
    rw [← size2]
    exact Heap.get?_push_size _ rfl
  refine wpAny_bind (wpAny_holding (wpAny_call_entry slot_list_sort ⟨_, laid, rfl⟩ entry_list_sort (list_sort_ord swo_int laid hz (fun h2 => ints_sortable hi h2) fun out h1 h2 => ⟨_, rfl, ?_⟩) (args_list_sort _)))
  obtain ⟨k1, k2, k3⟩ := ints_out hi h1 h2
  obtain ⟨ep, he'⟩ := PyProof.Rows.sortedAll_at s.heap its out.toArray
  have few2 : ((out.map iv).map V.int).length ≤ sizeLine := by rw [List.length_map, k2.length_eq]; rw [List.length_map] at few; exact few
  exact wpAny_pure ⟨_, rfl, .ref _, upd H (s.heap.objs.size + 1) (.lst ((out.map iv).map V.int)), I.laid (t' := s.toks) (fun _ _ => PyProof.Rows.sortedAll_old) (Nat.le_succ _) ⟨few2, out, ep, vals_of_ints k1, he'⟩, rfl, q _ _ k2 k3 (I.hok.fresh (Nat.le_succ _))⟩
end
end HR
set_option maxRecDepth 100000
set_option maxHeartbeats 4000000
/-! x = {k: v for ..} with keys that are tuples of ints and texts -/
namespace HR
open PySem PySem.Spec PyProof.Rows L2
section
variable {X : Cx} {kx vx tg iter : Expr} {ifs : List Expr} {scope : Scope} {own : List (Str × Nat)} {wi : TI} {g : TG} {tt : TT} {tk tv : TE}
theorem ps_setDcT {pos spos py : Pos} {i : Nat} {y : Str} (calm : X.calm = true) (roomy : X.A.units < cLine) (diff : X.N.Nodup) (hN : X.N[i]? = some y) (hv : X.env.scope.names.lookup y = some NameKind.local) (hs : swapsWith (.DictComp kx vx [⟨tg, iter, ifs, 0⟩] scope pos) (some (.Name y py)) spos.line X.env = pure true) (walk : PI X tg iter wi) (blk : BlkOk X.N X.env.scope scope own)
    (aim : ∀ (sh : Shared) (G : Hp) (C : Addr) (cl : List (Str × Addr)) (feet : List Addr), PG (X.blk sh G scope (compEnvC scope cl C X.env) feet) tg g)
    (tests : ∀ (sh : Shared) (G : Hp) (C : Addr) (cl : List (Str × Addr)) (feet : List Addr), PTs (X.blk sh G scope (compEnvC scope cl C X.env) feet) ifs tt)
    (keys : ∀ (sh : Shared) (G : Hp) (C : Addr) (cl : List (Str × Addr)) (feet : List Addr), PE (X.blk sh G scope (compEnvC scope cl C X.env) feet) kx tk)
    (vals : ∀ (sh : Shared) (G : Hp) (C : Addr) (cl : List (Str × Addr)) (feet : List Addr), PE (X.blk sh G scope (compEnvC scope cl C X.env) feet) vx tv)
    (plain : ∀ x, foldedSetIterable iter X.env x = pure x := by intro _; rfl) : PS X (.Assign [.Name y py] (.DictComp kx vx [⟨tg, iter, ifs, 0⟩] scope pos) spos) (tAsg (tDcT wi g tt tk tv (own.map (·.2))) (gName i)) := by
  refine ⟨fun pp sh0 st G0 D0 I0 ask => ?_⟩
  rw [exec_Assign_Name_used _ _ _ _ hs, arm_evalThenUse_DictComp]
  refine wpAny_bind (wpAny_standAt ?_)
  have frees : ∀ y ∈ scope.names, y.2 = .free → ∃ c, X.env.cells.lookup y.1 = some c := fun y hy e => (blk.free y hy e).elim (fun k => I0.ok.has _ (.inl k)) fun k => I0.ok.has _ (.inr k)
  refine wpAny_bind (wpAny_bind (wpAny_comprehension_free (use := some (assign (.Name y py) X.env)) rfl plain (closure_ok frees) blk.kind (fun y hy e => by rw [blk.uniq y hy, e]) (thn (walk.run pp sh0 st G0 _ I0 ask) fun xv sh1 came => thn came fun itv sh2 more => ?_)))
  obtain ⟨it, feet, ten, J, G2, rfl, I2, T, at0, free2, turn⟩ := more
  refine wpAny_newObj_type (newEnv_comp ?_)
  have new : G2 sh2.heap.objs.size = none := I2.hok.fresh (Nat.le_refl _)
  obtain ⟨W, ⟨m0, w0⟩, step⟩ := turn _ new
  -- the dict is laid
  obtain ⟨G3, eG3⟩ : ∃ G3, G3 = upd G2 sh2.heap.objs.size (.dT []) := ⟨_, rfl⟩
  rw [← eG3] at w0
  obtain ⟨sh3, e3⟩ : ∃ sh3 : Shared, sh3 = { sh2 with heap := sh2.heap.push { cls := .type "dict", data := .dict #[] } } := ⟨_, rfl⟩
  have I3 : Inv X pp st G3 sh3 := by
    rw [e3, eG3]
    exact I2.laid (t' := sh2.toks) (fun b o q => Heap.get?_push_of_some _ q) (Nat.le_refl _) (dt_empty sh2.heap I2.big)
  have heap3 : sh3.heap = sh2.heap.push { cls := .type "dict", data := .dict #[] } := by rw [e3]
  have low : ∀ b ∈ feet, b < sh2.heap.objs.size := fun b hb => Heap.lt_size (T.obj _ _ at0 b hb).choose_spec.1
  have free3 : ∀ b ∈ feet, FpOk X pp G3 b ∧ b < sh3.heap.objs.size := fun b hb => ⟨⟨by rw [eG3, upd_ne (Nat.ne_of_lt (low b hb))]; exact (free2 b hb).1, (free2 b hb).2⟩, by rw [heap3, Heap.size_push]; exact Nat.lt_succ_of_lt (low b hb)⟩
  have at3 : ten 0 sh3.heap := T.keep _ _ _ at0 fun b _ o q => by rw [heap3]; exact Heap.get?_push_of_some _ q
  have I4 := block_start I3 blk diff free3
  obtain ⟨C, eC⟩ : ∃ C, C = sh3.heap.objs.size := ⟨_, rfl⟩
  obtain ⟨cl, ecl⟩ : ∃ cl, cl = cellsFrom (sh3.heap.objs.size + 1) scope.names (cloFrom X.env.cells scope.names []) := ⟨_, rfl⟩
  obtain ⟨sh4, e4⟩ : ∃ sh4 : Shared, sh4 = { sh3 with heap := pushCells (sh3.heap.push { cls := .type "dict", data := .dict #[] }) scope.names } := ⟨_, rfl⟩
  rw [← ecl, ← eC, ← e4] at I4
  have at4 : ten 0 sh4.heap := T.keep _ _ _ at3 fun b _ o q => by rw [e4]; exact pushCells_keeps _ _ _ _ (Heap.get?_push_of_some _ q)
  have none3 : ∀ b ∈ feet, G3 b = none := fun b hb => (free3 b hb).1.1
  obtain ⟨Y, eY⟩ : ∃ Y, Y = X.blk sh3 G3 scope (compEnvC scope cl C X.env) feet := ⟨_, rfl⟩
  rw [← eY] at I4
  have held : ∀ {st' : L2.St} {G' : Hp} {sh' : Shared}, Inv Y [] st' G' sh' → (∀ b ∈ feet, G' b = none) → ∀ b ∈ feet, FpOk Y [] G' b := by
    subst eY
    exact fun {_ _ _} I' no b hb => ⟨no b hb, (I'.ok.exf b hb).1, I'.ok.exfs b hb, .inl hb, fun x c q => (I'.ok.exf b hb).2 x c q, fun p hp => absurd (show p ∈ ([] : List (Addr × Obj)) ++ [] from hp) (by simp)⟩
  have locC : (compEnvC scope cl C X.env).locals = C := rfl
  have loop : codeAny (model X.prog X.w) X.A (.compLoop (.DictComp kx vx [⟨tg, iter, ifs, 0⟩] scope pos) 0 (.ref it) (.ref sh2.heap.objs.size) (compEnvC scope cl C X.env)) (compPost (model X.prog X.w) X.A X.xe (some (assign (.Name y py) X.env)) (fun _ sh => wpAny (model X.prog X.w) X.A (pure ()) (fun _ sh => wpAny (model X.prog X.w) X.A (pure Flow.next) (SP X pp D0) X.xe sh) X.xe sh) (.ref sh2.heap.objs.size) C) sh4 := by
    subst eY
    refine compLoop_anyD (fun left sh => ∃ i G, Inv (X.blk sh3 G3 scope (compEnvC scope cl C X.env) feet) [] (wipe st (own.map (·.2))) G sh ∧ ten i sh.heap ∧ (∀ b ∈ feet, G b = none) ∧ W i left G) ?_ m0 ⟨0, G3, I4, at4, none3, w0⟩
    rintro left sh5 ⟨i, G5, I5, at5, no5, w5⟩
    rcases step i left G5 w5 with ⟨over, good⟩ | ⟨on, Nx, fewer, go⟩
    · -- the walk is over
      refine thnF (T.done (X.blk sh3 G3 scope (compEnvC scope cl C X.env) feet) rfl rfl rfl calm i [] sh5 _ G5 (fun _ _ => False) I5 (held I5 no5) at5 over) fun r sh6 ⟨er, I6⟩ => ?_
      subst er
      have I7 : Inv X pp st G5 sh6 := I3.call' (ch := feet) I6.os I6.base I6.hok I6.bare fun b hb => let f := (free3 b hb).1.2; ⟨f.2.2.1, f.1, f.2.2.2.1, f.2.2.2.2⟩
      have noC : G5 C = none := I6.free
      obtain ⟨m, names, _⟩ := I6.loc
      obtain ⟨oC, esC, epC, hoC, hdC, restC⟩ := id names
      have pinC := I7.pinned (fp := [C]) (fun b hb => by rw [List.mem_singleton.mp hb]; exact I3.fpOk (Nat.le_of_eq eC.symm) noC) (fun b hb => by rw [List.mem_singleton.mp hb]; exact ⟨oC, hoC, fun v q => by rw [hdC] at q; cases q⟩)
      refine thn ((pg_name diff hN (.inl hv) (Or.inr hv)).run _ sh6 st G5 (.ref sh2.heap.objs.size) (.ref sh2.heap.objs.size) _ pinC rfl good) fun _ sh7 ⟨st7, G7, I8, q8⟩ => ?_
      have hp := I8.pin (C, oC) (List.mem_append_right _ (List.mem_append_right _ (mem_pinsAt (List.mem_singleton.mpr rfl) hoC)))
      obtain ⟨f0, f1, f2, f3, f4, f5⟩ := I3.fpOk (Nat.le_of_eq eC.symm) hp.2.1
      exact ⟨m, ⟨oC, esC, epC, hp.1, hdC, restC⟩, fun h'' sb => wpAny_pure (wpAny_pure ⟨st7, G7, I8.unpinned.turned (t' := sh7.toks) (fun b o hb q => (sb.2 b hb).trans q) f0 f1 f3 f4 f5, q8⟩)⟩
    · -- one turn
      refine thnF (T.item (X.blk sh3 G3 scope (compEnvC scope cl C X.env) feet) rfl rfl rfl calm i [] sh5 _ G5 (fun _ _ => False) I5 (held I5 no5) at5 on) fun r sh6 ⟨u, er, rest⟩ => ?_
      subst er
      refine thnF rest fun _ sh7 ⟨x, G7, I7, rx, y7, at7, no7⟩ => ?_
      have P7 := I7.pinned (held I7 no7) (T.obj _ _ at7)
      refine thnF ((aim sh3 G3 C cl feet).run _ sh7 _ G7 x u _ P7 rx (go x G7 y7)) fun _ sh8 ⟨st8, G8, I8, same8, q8⟩ => ?_
      refine thnF ((tests sh3 G3 C cl feet).run _ sh8 st8 G8 _ I8 q8) fun yes sh9 ⟨G9, I9, q9⟩ => ?_
      have back : ∀ {sh' : Shared} {G' : Hp}, Inv (X.blk sh3 G3 scope (compEnvC scope cl C X.env) feet) ([] ++ pinsAt feet sh7.heap) st8 G' sh' → Nx G' →
          ∃ m, m < left ∧ ∃ i G, Inv (X.blk sh3 G3 scope (compEnvC scope cl C X.env) feet) [] (wipe st (own.map (·.2))) G sh' ∧ ten i sh'.heap ∧ (∀ b ∈ feet, G b = none) ∧ W i m G := by
        intro sh' G' I' nx
        obtain ⟨m', less, w'⟩ := fewer G' nx
        have pin : ∀ b ∈ feet, ∀ o, sh7.heap.get? b = some o → sh'.heap.get? b = some o ∧ G' b = none := fun b hb o q => by
          have z := I'.pin (b, o) (List.mem_append_right _ (List.mem_append_right _ (mem_pinsAt hb q)))
          exact ⟨z.1, z.2.1⟩
        have len : (wipe st (own.map (·.2))).length = st8.length := by rw [← same8, wipe_length]
        refine ⟨m', less, i + 1, G', (I'.unpinned (pins := [])).weak len (fun j v q => ?_), T.keep _ _ _ at7 fun b hb o q => (pin b hb o q).1, fun b hb => ?_, w'⟩
        · rw [← same8] at q
          exact (wipe_some q).1
        · obtain ⟨o, q, _⟩ := T.obj _ _ at7 b hb
          exact (pin b hb o q).2
      cases yes with
      | false => exact back I9 q9
      | true =>
        refine thnF ((keys sh3 G3 C cl feet).run _ sh9 st8 G9 _ I9 q9) fun ku sh10 ⟨yk, G10, I10, rk, q10⟩ => ?_
        refine thnF ((vals sh3 G3 C cl feet).run _ sh10 st8 G10 _ I10 q10) fun vu sh11 ⟨yv, G11, I11, rv, kvs, k, b, ek, hb, hD, few, nx⟩ => ?_
        subst ek
        obtain rfl : ku = .ref b := rk
        exact put_tup (X := X.blk sh3 G3 scope (compEnvC scope cl C X.env) feet) roomy I11 hD few hb rv fun sh12 I12 => back I12 nx
  show codeAny _ _ (.compStart (.DictComp kx vx [⟨tg, iter, ifs, 0⟩] scope pos) 0 (.ref it) (.ref sh2.heap.objs.size) (compEnvC scope (cellsFrom (sh2.heap.push { cls := .type "dict", data := .dict #[] }).objs.size.succ scope.names (cloFrom X.env.cells scope.names [])) (sh2.heap.push { cls := .type "dict", data := .dict #[] }).objs.size X.env)) _ _
  rw [heap3] at eC ecl
  subst e3
  subst e4 ecl eC
  exact codeAny_compStart_dict loop (T.self X.A 0 _ _ _ at4 loop)
end
theorem sw_trueD {kx vx : Expr} {gs : List Comprehension} {scope : Scope} {pos py : Pos} {y : Str} {l : Nat} {env : Env} (h1 : env.scope.kind = ScopeKind.function) (h2 : List.lookup y env.scope.names = some NameKind.local) (h3 : (py.line == pos.line) = true)
   (h4 : (scope.names.any fun x => match x with | (n, k) => n == y && (k == NameKind.local || k == NameKind.cell)) = false) : swapsWith (.DictComp kx vx gs scope pos) (some (.Name y py)) l env = pure true := sw_true (elt := kx) (gs := gs) (l := l) h1 h2 h3 h4
end HR
set_option maxRecDepth 100000
set_option maxHeartbeats 4000000
/-! a + b of tuples, a empty or not, b not empty; calls by one of two rules -/
namespace HR
open PySem PySem.Spec PyProof.Rows L2
def rCatTx (K : PySem.W.Frag) : R2 := fun x y H Q => ∃ (a b : Addr) (xs ys : List V), x = .ref a ∧ y = .ref b ∧ SqT K H a xs ∧ SqT K H b ys ∧ ys ≠ [] ∧ xs.length + ys.length ≤ sizeLine ∧ (xs = [] → Q (.ref b) H) ∧ (xs ≠ [] → ∀ p : Addr, H p = none → Q (.ref p) (upd H p (.tup (xs ++ ys))))
theorem op_catTx {X : Cx} {K : PySem.W.Frag} (hK : X.K = K := by rfl) : OpR X (binaryOp .Add) (rCatTx K) := by
  subst hK
  intro pins s σ H x y v u Q I rx ry h
  obtain ⟨a, b, xs, ys, rfl, rfl, ha, hb, ny, few, q0, q1⟩ := h
  cases xs with
  | cons x0 xr => exact op_catT pins s σ H _ _ v u Q I rx ry ⟨a, b, _, ys, rfl, rfl, ha, hb, List.cons_ne_nil _ _, few, fun e => absurd e ny, fun _ => q1 (List.cons_ne_nil _ _)⟩
  | nil =>
    cases rx
    cases ry
    obtain ⟨i1, v1, t1, _⟩ := I.tuple ha
    obtain ⟨i2, v2, t2, _⟩ := I.tuple hb
    have e1 : i1 = [] := List.eq_nil_of_length_eq_zero (by rw [← v1.length]; rfl)
    subst e1
    refine wpAny_binaryOp_concat t1.typeIs t2.typeIs noFill_tuple_add seq_tuple_add ?_
    obtain ⟨⟨c1, dd1, da1, sl1⟩, g1, k1, n1, d1⟩ := id t1
    obtain ⟨⟨c2, dd2, da2, sl2⟩, g2, k2, n2, d2⟩ := id t2
    dsimp only at k1 k2 d1 d2
    subst k1 k2 d1 d2
    exact call_meetsIn F.slot_tuple_add t1.typeIs F.entry_tuple_add (F.args_tuple_add_2 _ _) ((tuple_addW0 a b #[] _ n1 n2 dd1 dd2 sl1 sl2 rfl).inModel _ _) ⟨g1, g2, ⟨.ref b, H, I, rfl, q0 rfl⟩⟩
theorem cr_or {X : Cx} {f : Value} {r1 r2 : List V → Hp → VK → Prop} (h1 : CallR X f r1) (h2 : CallR X f r2) : CallR X f (fun vs H Q => r1 vs H Q ∨ r2 vs H Q) := by
  intro pins s σ H vs us Q I r h
  rcases h with h | h
  · exact h1 pins s σ H vs us Q I r h
  · exact h2 pins s σ H vs us Q I r h
end HR
set_option maxRecDepth 100000
set_option maxHeartbeats 4000000
/-! tuple(a list), the object told too; dict(such a tuple of pairs) -/
namespace HR
open PySem PySem.Spec PyProof.Rows L2
section
variable {X : Cx}
/-- tuple(a list): a tuple that has no attributes of its own -/
def rTupF (K : PySem.W.Frag) : List V → Hp → VK → Prop := fun xs H Q => ∃ (p : Addr) (ys : List V), xs = [.ref p] ∧ SqL K H p ys ∧ ∀ (l : Addr) (o : Obj), o.cls = .type "tuple" → o.dict = none → H l = none → Q (.ref l) (upd H l (.frz o (.tup ys)))
theorem cr_tupF {K : PySem.W.Frag} (hK : X.K = K := by rfl) : CallR X (.type "tuple") (rTupF K) := by
  subst hK
  intro pins s σ H xs us Q I rx h
  obtain ⟨p, ys, rfl, hs, q⟩ := h
  rw [Vals.ref1 rx]
  obtain ⟨its, rv, hl, few⟩ := I.list hs
  have len := rv.length
  refine call_tuple_list hl.isList (fun h' keep => ?_) (by rw [List.size_toArray, ← len]; exact few)
  have I1 : Inv X pins σ H { s with heap := h', toks := s.toks } := I.kept keep
  refine ⟨.ref h'.objs.size, upd H h'.objs.size (.frz { cls := .type "tuple", data := .seq its.toArray } (.tup ys)), I1.laid (t' := s.toks) (fun b o q => Heap.get?_push_of_some _ q) (Nat.le_refl _) ⟨Heap.get?_push_size _ rfl, few, its, rv, ⟨_, Heap.get?_push_size _ rfl, rfl, _, rfl⟩⟩, rfl, q _ _ rfl rfl (I1.hok.fresh (Nat.le_refl _))⟩
/-- dict(a tuple of pairs) -/
def rDictF (K : PySem.W.Frag) : List V → Hp → VK → Prop := fun xs H Q => ∃ (a : Addr) (o : Obj) (ps : List Addr) (kvs : List (L2.Key × V)), xs = [.ref a] ∧ H a = some (.frz o (.tup (ps.map V.ref))) ∧ o.dict = none ∧ Paired (fun p kv => SqT K H p [kV kv.1, kv.2]) ps kvs ∧
  ∀ p, H p = none → Q (.ref p) (upd H p (.dK (mergeK [] kvs)))
theorem key_rel {k : L2.Key} {u : Value} (h : RelV (kV k) u) : keyIs k u = true := by
  cases k with
  | inl i =>
    obtain ⟨t, rfl⟩ := h
    exact decide_eq_true rfl
  | inr x =>
    obtain ⟨t, rfl⟩ := h
    exact decide_eq_true rfl
theorem pairs_told {pins : List (Addr × Obj)} {σ : L2.St} {H : Hp} {s : Shared} (I : Inv X pins σ H s) : ∀ {ps : List Addr} {kvs : List (L2.Key × V)}, Paired (fun p kv => SqT X.K H p [kV kv.1, kv.2]) ps kvs →
    ∃ (us : List Value) (vs : List (L2.Key × Value)), KV kvs vs ∧ us.length = ps.length ∧ vs.length = ps.length ∧ ∀ (j : Nat) (p : Addr) (u : Value) (kv : L2.Key × Value), ps[j]? = some p → us[j]? = some u → vs[j]? = some kv → keyIs kv.1 u = true ∧ IsTup s.heap p #[u, kv.2]
  | _, _, .nil => ⟨[], [], .nil, rfl, rfl, fun j p u kv h => by simp at h⟩
  | _, _, .cons (a := p) (b := kv) (l₁ := ps) (l₂ := kvs) h r => by
    obtain ⟨us, vs, k, l1, l2, w⟩ := pairs_told I r
    obtain ⟨its, rv, t, _⟩ := I.tuple h
    obtain ⟨u, v, rfl, ru, rw'⟩ := vals2 rv
    refine ⟨u :: us, (kv.1, v) :: vs, .cons ⟨rfl, rw'⟩ k, by simp [l1], by simp [l2], fun j q x y h1 h2 h3 => ?_⟩
    cases j with
    | zero =>
      cases h1
      cases h2
      cases h3
      exact ⟨key_rel ru, t⟩
    | succ j => exact w j q x y (by simpa using h1) (by simpa using h2) (by simpa using h3)
theorem cr_dictF {K : PySem.W.Frag} (hc : X.calm = true) (hK : X.K = K := by rfl) : CallR X (.type "dict") (rDictF K) := by
  subst hK
  intro pins s σ H xs us Q I rx h
  obtain ⟨a, o, ps, kvs, rfl, ha, hd, pr, q⟩ := h
  rw [Vals.ref1 rx]
  obtain ⟨g, few, its, rv, t⟩ := I.hok a _ ha
  obtain ⟨us, vs, kv, l1, l2, w⟩ := pairs_told I pr
  have li := rv.length
  rw [List.length_map] at li few
  obtain ⟨o2, g2, c2, n, d2⟩ := t
  rw [g] at g2
  cases g2
  have lz : (List.zip us (vs.map Prod.snd)).length = ps.length := by rw [List.length_zip, List.length_map, l1, l2, Nat.min_self]
  refine call_dict_pairs (knd := mixKind X.prog X.w) (kvs := vs) (PairArg.tuple a its.toArray (fun j => ps.getD j 0) (List.zip us (vs.map Prod.snd))) (I.ok.hd hc) ⟨⟨o, n, g, c2, hd, d2⟩, by rw [List.size_toArray, lz, ← li], fun j k v hj => ?_⟩ ⟨by rw [lz, l2], fun i key v hj => ?_⟩ (by rw [lz]; exact few) fun h' tk dd keep => ?_
  · obtain ⟨h1, h2⟩ := List.getElem?_zip_eq_some.mp hj
    have hjl : j < ps.length := by rw [← l1]; exact (List.getElem?_eq_some_iff.mp h1).1
    rw [List.getElem?_map] at h2
    obtain ⟨y, hy, rfl⟩ := Option.map_eq_some_iff.mp h2
    have hp : ps[j]? = some (ps.getD j 0) := by rw [List.getD_eq_getElem?_getD, List.getElem?_eq_getElem hjl]; rfl
    obtain ⟨u, hu, ru⟩ := rv.get (i := j) (x := V.ref (ps.getD j 0)) (by rw [List.getElem?_map, hp]; rfl)
    have eu : u = .ref (ps.getD j 0) := ru
    subst eu
    refine ⟨by simpa using hu, .inl ?_⟩
    exact (w j _ _ _ hp h1 hy).2
  · obtain ⟨h1, h2⟩ := List.getElem?_zip_eq_some.mp hj
    have hjl : i < ps.length := by rw [← l1]; exact (List.getElem?_eq_some_iff.mp h1).1
    rw [List.getElem?_map] at h2
    obtain ⟨y, hy, rfl⟩ := Option.map_eq_some_iff.mp h2
    exact ⟨y.1, hy, (w i _ _ _ (List.getElem?_eq_getElem hjl) h1 hy).1⟩
  · have hz : (mergeK [] kvs).length ≤ sizeLine := Nat.le_trans (length_mergeK kvs []) (by rw [← Paired.length pr]; simpa using few)
    have hs : (s.heap.objs.size == sysModules) = false := by
      have := I.big
      exact beq_false_of_ne (Nat.ne_of_gt this)
    exact ⟨.ref s.heap.objs.size, upd H s.heap.objs.size (.dK (mergeK [] kvs)), I.laid (t' := tk) (fun b o q => keep b o (by simp) q) (Nat.le_refl _) (dk_new hz hs (KV.merge kv .nil) dd), rfl, q _ (I.hok.fresh (Nat.le_refl _))⟩
/-- repr(True) -/
theorem call_reprBl (gd : X.A.guards = some []) (hu : X.A.units + 70 < cLine) : CallR X (.builtin "repr") (fun xs H Q => ∃ b, xs = [.bl b] ∧ Q (.str (PyData.bool b).shown) H) := by
  intro pins s σ H xs us Q I r h
  obtain ⟨b, rfl, q⟩ := h
  obtain ⟨u, rfl, ru⟩ := vals1 r
  have e : u = .bool b := ru
  subst e
  have e2 : (PyData.bool b).shown = if b = true then Str.ofString "True" else Str.ofString "False" := by
    simp only [PyData.shown]
  rw [e2] at q
  exact PySem.P.repr_of_bool ⟨.str _, H, I.tok _, ⟨_, rfl⟩, q⟩
end
end HR
set_option maxRecDepth 100000
set_option maxHeartbeats 4000000
/-! rules with the frag told, for use within a comprehension -/
namespace HR
open PySem PySem.Spec PyProof.Rows L2
theorem ix_listK {X : Cx} {K : PySem.W.Frag} (h : X.K = K := by rfl) : IxR X (rIxL K) := by
  subst h
  exact ix_list
theorem op_notIn_seqK {X : Cx} {K : PySem.W.Frag} (h : X.K = K := by rfl) : OpR X (compareOp .NotIn) (rIn K true) := by
  subst h
  exact op_notIn_seq
theorem op_in_seqK {X : Cx} {K : PySem.W.Frag} (h : X.K = K := by rfl) : OpR X (compareOp .In) (rIn K false) := by
  subst h
  exact op_in_seq
theorem call_tuple_ofK {X : Cx} {K : PySem.W.Frag} (h : X.K = K := by rfl) : CallR X (.type "tuple") fun xs H Q => ∃ p ys, xs = [V.ref p] ∧ ((SqL K H p ys ∧ ∀ l : Addr, H l = none → Q (V.ref l) (upd H l (.tup ys))) ∨ SqT K H p ys ∧ Q (V.ref p) H) := by
  subst h
  exact call_tuple_of
theorem call_list_ofK {X : Cx} {K : PySem.W.Frag} (h : X.K = K := by rfl) : CallR X (.type "list") fun xs H Q => ∃ p ys, xs = [V.ref p] ∧ (SqL K H p ys ∨ SqT K H p ys) ∧ ∀ l : Addr, H l = none → Q (V.ref l) (upd H l (.lst ys)) := by
  subst h
  exact call_list_of
theorem call_len_seqK {X : Cx} {K : PySem.W.Frag} (h : X.K = K := by rfl) : CallR X (.builtin "len") fun xs H Q => ∃ p ys, xs = [V.ref p] ∧ (SqL K H p ys ∨ SqT K H p ys) ∧ Q (V.int (ys.length : Nat)) H := by
  subst h
  exact call_len_seq
theorem pi_tupK {X : Cx} {K : PySem.W.Frag} {tg l : Expr} {tl : TE} (he : PE X l tl) (h : X.K = K := by rfl) : PI X tg l (iTup K tl) := by
  subst h
  exact pi_tup he
theorem pi_listK {X : Cx} {K : PySem.W.Frag} {tg l : Expr} {tl : TE} (he : PE X l tl) (h : X.K = K := by rfl) : PI X tg l (iList K tl) := by
  subst h
  exact pi_list he
theorem pe_backK {X : Cx} {K : PySem.W.Frag} {e st : Expr} {te ts : TE} {p2 pos : Pos} (he : PE X e te) (hs : PE X st ts) (h : X.K = K := by rfl) : PE X (.Subscript e (.Slice none none (some st) p2) pos) (tBack K te ts) := by
  subst h
  exact pe_back he hs
theorem cr_sortedTIK {X : Cx} {K : PySem.W.Frag} (h : X.K = K := by rfl) : CallR X (.builtin "sorted") (rSortedTI K) := by
  subst h
  exact cr_sortedTI
theorem cr_setIK {X : Cx} {K : PySem.W.Frag} {w : World} (hc : X.calm = true := by rfl) (h : X.K = K := by rfl) (hw : X.w = w := by rfl) : CallR X (.type "set") (rSetI K w) := by
  subst h hw
  exact cr_setI hc
theorem cr_sortedSetK {X : Cx} {w : World} (hc : X.calm = true := by rfl) (hw : X.w = w := by rfl) : CallR X (.builtin "sorted") (rSortedSet w) := by
  subst hw
  exact cr_sortedSet hc
theorem cr_anyK {X : Cx} {K : PySem.W.Frag} (hc : X.calm = true := by rfl) (h : X.K = K := by rfl) : CallR X (.builtin "any") (rAny K) := by
  subst h
  exact cr_any hc
theorem cr_sumK {X : Cx} {K : PySem.W.Frag} (hc : X.calm = true := by rfl) (h : X.K = K := by rfl) : CallR X (.builtin "sum") (rSum K) := by
  subst h
  exact cr_sum hc
theorem ix_tupK {X : Cx} {K : PySem.W.Frag} (h : X.K = K := by rfl) : IxR X (rIxT K) := by
  subst h
  exact ix_tup
theorem ix_seqK {X : Cx} {K : PySem.W.Frag} (h : X.K = K := by rfl) : IxR X (rIx K) := by
  subst h
  exact ix_seq
theorem op_catTK {X : Cx} {K : PySem.W.Frag} (h : X.K = K := by rfl) : OpR X (binaryOp .Add) (rCatT K) := by
  subst h
  exact op_catT
end HR
set_option maxRecDepth 100000
set_option maxHeartbeats 8000000
namespace HR
open PySem L2 Evl GP
/-! ### comprehensions -/
section
variable {K : PySem.W.Frag} {σ : L2.St} {H1 : Hp} {J : It} {G : Hp → Prop} {te : TE} {tt : TT}
/-- one name, a condition, the items' values are written -/
theorem lcF {α : Type} {xs : List α} {f : α → V} (w : L2.Walk J (xs.map f).length G (YAt (xs.map f))) (c : α → Bool) (r : α → V) {j : Nat} {vs : List Nat} (hz : xs.length < sizeLine) (hG : ∀ H', Ex H1 H' → G H') (hw : ∀ v, wipe ((wipe σ vs).set j (some v)) vs = wipe σ vs)
    (ht : ∀ v ∈ xs, ∀ H', Ex H1 H' → ∀ Q : Bool → Hp → Prop, (∀ H'', Ex H' H'' → Q (c v) H'') → tt ((wipe σ vs).set j (some (f v))) H' Q)
    (he : ∀ v ∈ xs, c v = true → ∀ H', Ex H1 H' → ∀ Q : VK, (∀ H'', Ex H' H'' → Q (r v) H'') → te ((wipe σ vs).set j (some (f v))) H' Q) {Qd : Hp → Prop} {D : Addr} (hD : H1 D = none) (k : ∀ H', Ex H1 H' → H' D = some (.lst ((xs.filter c).map r)) → Qd H') :
    ∃ W : Nat → Nat → Hp → Prop, (∃ m, W 0 m (upd H1 D (.lst []))) ∧ ∀ i m H, W i m H →
      (J.stop i H ∧ Qd H) ∨ (J.go i H ∧ ∃ Nx : Hp → Prop, (∀ H', Nx H' → ∃ m', m' < m ∧ W (i + 1) m' H') ∧ ∀ x H', J.yld i H x H' → gName j x (wipe σ vs) H' fun σ2 H2 => wipe σ2 vs = wipe σ vs ∧ tt σ2 H2 fun b H3 =>
        if b = true then te σ2 H3 fun y H4 => ∃ acc, H4 D = some (.lst acc) ∧ acc.length < sizeLine ∧ Nx (upd H4 D (.lst (acc ++ [y]))) else Nx H3) := by
  refine lc_it w (fun i H => Ex H1 H ∧ H D = some (.lst (((xs.take i).filter c).map r))) ⟨Ex.new hD, upd_same⟩ (fun i H _ p => hG H p.1) ?_ (fun H p => k H p.1 (by have := p.2; rwa [List.length_map, List.take_length] at this))
  rintro i x H H' hi ⟨e, hl⟩ ⟨rfl, hx⟩
  rw [List.length_map] at hi
  rw [List.getElem?_map, List.getElem?_eq_getElem hi] at hx
  cases hx
  have hm : xs[i] ∈ xs := List.getElem_mem hi
  unfold gName
  dsimp only
  refine ⟨hw _, ht _ hm H' e _ fun H3 e3 => ?_⟩
  have tk : (xs.take (i + 1)).filter c = (xs.take i).filter c ++ (if c xs[i] = true then [xs[i]] else []) := by
    rw [List.take_add_one, List.getElem?_eq_getElem hi, List.filter_append]
    simp only [Option.toList_some]
    by_cases hc : c xs[i] = true
    · rw [if_pos hc]; simp [hc]
    · rw [if_neg hc]; simp [hc]
  cases hc : c xs[i] with
  | true =>
    rw [if_pos rfl]
    refine he _ hm hc H3 (e.trans e3) _ fun H4 e4 => ⟨_, e4 D _ (e3 D _ hl), ?_, Ex.mut ((e.trans e3).trans e4) hD, ?_⟩
    · have := List.length_filter_le c (xs.take i)
      rw [List.length_map]
      rw [List.length_take] at this
      omega
    · rw [upd_same, tk, hc, if_pos rfl, List.map_append]
      rfl
  | false =>
    rw [if_neg Bool.false_ne_true]
    refine ⟨e.trans e3, ?_⟩
    rw [tk, hc, if_neg Bool.false_ne_true, List.append_nil]
    exact e3 D _ hl
end
section
variable {K : PySem.W.Frag} {σ : L2.St} {H1 : Hp} {J : It} {G : Hp → Prop} {te : TE} {tt : TT}
/-- one name, no condition -/
theorem lcM {α : Type} {xs : List α} {f : α → V} (w : L2.Walk J (xs.map f).length G (YAt (xs.map f))) (r : α → V) {j : Nat} {vs : List Nat} (hz : xs.length < sizeLine) (hG : ∀ H', Ex H1 H' → G H') (hw : ∀ v, wipe ((wipe σ vs).set j (some v)) vs = wipe σ vs)
    (he : ∀ v ∈ xs, ∀ H', Ex H1 H' → ∀ Q : VK, (∀ H'', Ex H' H'' → Q (r v) H'') → te ((wipe σ vs).set j (some (f v))) H' Q) {Qd : Hp → Prop} {D : Addr} (hD : H1 D = none) (k : ∀ H', Ex H1 H' → H' D = some (.lst (xs.map r)) → Qd H') :
    ∃ W : Nat → Nat → Hp → Prop, (∃ m, W 0 m (upd H1 D (.lst []))) ∧ ∀ i m H, W i m H →
      (J.stop i H ∧ Qd H) ∨ (J.go i H ∧ ∃ Nx : Hp → Prop, (∀ H', Nx H' → ∃ m', m' < m ∧ W (i + 1) m' H') ∧ ∀ x H', J.yld i H x H' → gName j x (wipe σ vs) H' fun σ2 H2 => wipe σ2 vs = wipe σ vs ∧ tYes σ2 H2 fun b H3 =>
        if b = true then te σ2 H3 fun y H4 => ∃ acc, H4 D = some (.lst acc) ∧ acc.length < sizeLine ∧ Nx (upd H4 D (.lst (acc ++ [y]))) else Nx H3) :=
  lcF w (fun _ => true) r hz hG hw (fun v _ H' _ Q q => q H' (Ex.refl _)) (fun v hv _ => he v hv) hD fun H' e h => k H' e (by rwa [List.filter_eq_self.mpr (fun _ _ => rfl)] at h)
end
end HR
set_option maxRecDepth 100000
set_option maxHeartbeats 4000000
/-! An own exception over ValueError whose __init__ is: super().__init__('..'); self.f = f -/
namespace PySem
namespace Sup
open PySem.W PySem.Calls PyProof.Rows PySem.HandSPX

def sArgs (fld : Str) (p1 p2 : Pos) : Arguments :=
  { posonlyargs := [], args := [{ arg := "self", annotation := none, pos := p1 }, { arg := fld, annotation := none, pos := p2 }], vararg := none, kwonlyargs := [], kw_defaults := [], kwarg := none, defaults := [] }
def sBody (fld msg : Str) (a1 a2 a3 a4 a5 a6 b1 b2 b3 b4 : Pos) : List Stmt :=
  [.Expr (.Call (.Attribute (.Call (.Name "super" a1) [] [] a2) "__init__" a3) [.Constant (.str msg) 0 a4] [] a5) a6,
   .Assign [.Attribute (.Name "self" b1) fld b2] (.Name fld b3) b4]
def sScope (fld : Str) : Scope :=
  { kind := .function, names := [(PySem.Str.ofString "self", .local), (fld, .local), (PySem.Str.ofString "__class__", .free), (PySem.Str.ofString "super", .globalImplicit)], isGenerator := false, isCoroutine := false, more := [] }

abbrev sFn (fld msg qual : Str) (p1 p2 a1 a2 a3 a4 a5 a6 b1 b2 b3 b4 : Pos) (doc pm : Value) (an : Option Addr) (cda cc : Addr) (ct : Value) : FuncData :=
  fnX "__init__" qual (sArgs fld p1 p2) (sBody fld msg a1 a2 a3 a4 a5 a6 b1 b2 b3 b4) (sScope fld) [("__class__", cc)] .none .none doc pm an (.ref cda) ct
/-- the field's name is none of the other names; what follows from it, each by rfl -/
structure FldOk (fld : Str) : Prop where
  bd : ∀ (msg qual : Str) (p1 p2 a1 a2 a3 a4 a5 a6 b1 b2 b3 b4 : Pos) (doc pm : Value) (an : Option Addr) (cda cc : Addr) (ct u v : Value),
    bindArgs (sFn fld msg qual p1 p2 a1 a2 a3 a4 a5 a6 b1 b2 b3 b4 doc pm an cda cc ct) ⟨[u, v], []⟩ = pure [(("self" : Str), u), (fld, v)]
  lf : (sScope fld).names.lookup fld = some .local
  lc : (sScope fld).names.lookup ("__class__" : Str) = some .free
  ls : (sScope fld).names.lookup ("super" : Str) = some .globalImplicit
  nd : (fld == ("__debug__" : Str)) = false
  ns : ("self" : Str) ≠ fld

/-- super().__init__('..') is a method's call on one row of the text: by ⟨_, rfl⟩ where the places are written -/
def EvOk (fld msg qual : Str) (p1 p2 a1 a2 a3 a4 a5 a6 b1 b2 b3 b4 : Pos) (doc pm : Value) (an : Option Addr) (cda cc : Addr) (ct : Value) : Prop := ∀ (L a : Addr), ∃ pl : Sem Bool,
    eval (.Call (.Attribute (.Call (.Name "super" a1) [] [] a2) "__init__" a3) [.Constant (.str msg) 0 a4] [] a5) (callEnv (sFn fld msg qual p1 p2 a1 a2 a3 a4 a5 a6 b1 b2 b3 b4 doc pm an cda cc ct) L a) = (do
      let ov ← attributeBase (.Call (.Name "super" a1) [] [] a2) "__init__" (callEnv (sFn fld msg qual p1 p2 a1 a2 a3 a4 a5 a6 b1 b2 b3 b4 doc pm an cda cc ct) L a)
        (eval (.Call (.Name "super" a1) [] [] a2) (callEnv (sFn fld msg qual p1 p2 a1 a2 a3 a4 a5 a6 b1 b2 b3 b4 doc pm an cda cc ct) L a))
      standAt a3.atName
      let (f, first) ← holding [ov] (getMethod ov "__init__" pl)
      callWith a5 f first (backTo a5 (starEach [.Constant (.str msg) 0 a4] (callEnv (sFn fld msg qual p1 p2 a1 a2 a3 a4 a5 a6 b1 b2 b3 b4 doc pm an cda cc ct) L a))) [])
/-- what the written part says of such a class at C, its __init__ at fI, the cell at cc that holds C, the code record at cda -/
structure SupTxt (K : Frag) (mg : Str → Option Value) (prog : Program) (cn fld msg : Str) (C fI : Addr) : Prop where
  gC : mg cn = some (.ref C)
  ok : FldOk fld
  cls : ∃ nm q N bs bm sn sub ab col dd k0 k1 k2 k3 k5, K.lookup C = some (excClassObj nm q C N bs bm true sn sub ab col dd k0 k1 k2 k3 k5 "ValueError.__new__") ∧ refsVE bm = true
  sa : findIn K (.ref C) "__setattr__" = some (some (.builtin "object.__setattr__"))
  ga : findIn K (.ref C) "__getattribute__" = some (some (.builtin "BaseException.__getattribute__"))
  gg : findIn K (.ref C) "__getattr__" = some none
  noF : findIn K (.ref C) fld = some none
  iC : findIn K (.ref C) "__init__" = some (some (.ref fI))
  tF : typeIn K (.ref fI) = some (.type "function")
  kC : keepIn K (.ref C) = true
  exC : subIn K (.ref C) (.type "BaseException") = some true
  veC : subIn K (.ref C) (.type "ValueError") = some true
  tyC : typeIn K (.ref C) = some (.type "type")
  hdC : hasDictIn K C = true
  mC : mroIn K C (.ref C) = some true
  opq : nsIn K cStatics "thirdparty.any" = some none
  sup : ks_superIn K C C "__init__" = some (some (.builtin "ValueError.__init__"))
  htop : (prog.main.scope.names.lookup ("super" : Str)).isSome = false
  mgS : mg "super" = none
  fn : ∃ (oc : Value) (od : Option Addr) (qual : Str) (doc pm : Value) (an : Option Addr) (cda cc : Addr) (ct : Value) (osl : Array (Option Value)) (p1 p2 a1 a2 a3 a4 a5 a6 b1 b2 b3 b4 : Pos),
    K.lookup fI = some ⟨oc, od, .func (sFn fld msg qual p1 p2 a1 a2 a3 a4 a5 a6 b1 b2 b3 b4 doc pm an cda cc ct), osl⟩ ∧ EvOk fld msg qual p1 p2 a1 a2 a3 a4 a5 a6 b1 b2 b3 b4 doc pm an cda cc ct ∧
    codeIn K (.ref cda) qual = true ∧
    (∃ cl cld csl, K.lookup cc = some ⟨cl, cld, .cell (some (.ref C)), csl⟩) ∧
    (∃ ccl cdd vs ccs file tf, K.lookup cda = some ⟨ccl, cdd, .fields vs, ccs⟩ ∧ vs[2]? = some (.str file tf) ∧ ((prog.main.file : Str) == file) = true)

theorem line1 (v : Value) : [v].length ≤ sizeLine := by
  rw [sizeLine_eq]
  exact (by decide : 1 ≤ 16777216)

/-- what __init__ leaves of a fresh exception at x -/
structure SupEnd (h h' : Heap) (x C dx : Addr) (fld : Str) (v : Value) : Prop where
  keep : ∀ b o, b ≠ x → h.get? b = some o → h'.get? b = some o
  obj : ∃ t1 : Addr, h'.get? x = some { cls := .ref C, dict := some dx, data := .fields #[.ref t1, .none, .none, .none, .bool false, .none] }
  dbig : h.objs.size ≤ dx
  dne : dx ≠ x
  ns : h'.Ns1 dx (fun y => if y = fld then some v else none)

section
variable {prog : Program} {w : World} {A : Around} {E : Value → Shared → Prop} {R : Result → Shared → Prop} {s : Shared} {K : Frag} {mg mb : Str → Option Value} {cn fld msg : Str} {C fI : Addr}

/-- the bound ValueError.__init__ called with one argument -/
theorem base_init {u x t0 : Addr} {a : Value} {Q : Value → Shared → Prop} (T : SupTxt K mg prog cn fld msg C fI) (X : K.In s.heap)
    (hu : s.heap.get? u = some (kxs_mw "ValueError.__init__" x)) (hx : s.heap.get? x = some (excO C t0))
    (hq : ∀ h' t1, (∀ b o, b ≠ x → s.heap.get? b = some o → h'.get? b = some o) → h'.get? x = some (excO C t1) → Q .none { s with heap := h' }) :
    wpAny (model prog w) A (call (.ref u) [a]) Q E s := by
  obtain ⟨nm, q, N, bs, bm, sn, sub, ab, col, dd, k0, k1, k2, k3, k5, hC, hbm⟩ := T.cls
  obtain ⟨hh, g, d, tk, os⟩ := s
  have hC' := X _ _ hC
  refine wpAny_call (codeAny_of_tree ?_)
  show wpAny (model prog w) A.in1 (callAny (.ref u) ⟨[a], []⟩) _ _ _
  unfold callAny
  refine wpAny_bind (wpAny_load hu ?_)
  have m1 : (Value.type "method-wrapper" == Value.type "method") = false := by decide
  have m2 : (Value.type "method-wrapper" == Value.type "builtin_function_or_method") = false := by decide
  have m3 : (Value.type "method-wrapper" == Value.type "method-wrapper") = true := by decide
  simp only [kxs_mw, m1, m2, m3, Bool.or_true, Bool.false_or, if_true]
  refine KFB.if_so (by decide) ?_
  refine wpAny_bind (check_bound_init PySem.F.excBase_ValueError.toExcCallFacts hC' hx rfl ?_)
  refine wpAny_bind (wpAny_pure (wpAny_pure ?_))
  refine ⟨plainId_quiet PySem.F.excBase_ValueError.init.plain _, codeAny_builtin PySem.F.excBase_ValueError.initEntry ?_⟩
  exact exc_init_tree (cls := .ref C) (t0 := t0) (dv := none) (c2 := .none) (c3 := .none) (b4 := .bool false) hx (line1 a) fun h' k e _ => hq h' _ k e

theorem sup_init (T : SupTxt K mg prog cn fld msg C fI) {x t0 : Addr} {v : Value} (X : K.In s.heap) (hlim : s.heap.NoLimit) (hG : s.heap.Ns mainGlobals mg) (hB : s.heap.Ns builtinsNs mb) (hmb : mb "super" = some (.type "super"))
    (hx : s.heap.get? x = some (excO C t0)) (hnx : K.lookup x = none) (hroom : A.depth < recursionLimit)
    (hq : ∀ h' tk dx, SupEnd s.heap h' x C dx fld v → R (.ok (.ret .none)) { s with heap := h', toks := tk }) :
    codeAny (model prog w) A (.call (.ref fI) ⟨[.ref x, v], []⟩) R s := by
  obtain ⟨oc, od, qual, doc, pm, an, cda, cc, ct, osl, p1, p2, a1, a2, a3, a4, a5, a6, b1, b2, b3, b4, ho, hevO, hcd, ⟨cl, cld, csl, hcell⟩, ⟨ccl, cdd, vs, ccs, file, tf, hcda, hvs, hfile⟩⟩ := T.fn
  obtain ⟨nm, q, N, bs, bm, sn, sub, ab, col, dd, k0, k1, k2, k3, k5, hC, hbm⟩ := T.cls
  have O := T.ok
  refine ks_codeAny_call_defAt (fd := fnX "__init__" qual (sArgs fld p1 p2) (sBody fld msg a1 a2 a3 a4 a5 a6 b1 b2 b3 b4) (sScope fld) [("__class__", cc)] .none .none doc pm an (.ref cda) ct) (binds := [("self", .ref x), (fld, v)])
    hroom (X _ _ ho) rfl hlim (codeRec_of X hcd) rfl (BindsTo.of_eq (O.bd _ _ _ _ _ _ _ _ _ _ _ _ _ _ _ _ _ _ _ _ _ _)) (by
      intro y hy
      simp only [sScope, List.mem_cons, List.not_mem_nil, or_false] at hy
      rcases hy with rfl | rfl | rfl | rfl <;> (intro z; cases z)) (by
      intro y hy
      simp only [List.mem_cons, List.not_mem_nil, or_false] at hy
      rcases hy with rfl | rfl
      · rfl
      · exact O.lf) (fun h₁ hns k => ?_) rfl rfl rfl
  have X₁ : K.In h₁ := X.keeps k
  have hx₁ := k _ _ hx
  have hvf : ([(("self" : Str), Value.ref x), (fld, v)].reverse).lookup fld = some v := by
    show List.lookup fld [(fld, v), (("self" : Str), Value.ref x)] = some v
    simp [List.lookup]
  have hvs' : ([(("self" : Str), Value.ref x), (fld, v)].reverse).lookup ("self" : Str) = some (.ref x) := by
    show List.lookup ("self" : Str) [(fld, v), (("self" : Str), Value.ref x)] = some (.ref x)
    have e : (("self" : Str) == fld) = false := by simpa using O.ns
    simp [List.lookup, e]
  have hcls : clsIn K C = some { name := nm, bases := bs, mro := .ref C :: bm, ns := N, qualname := q, hasDict := true, slotNames := sn, subclasses := sub, abstract := ab, collection := col, hasDel := false } := by unfold clsIn; rw [hC] <;> rfl
  have hsc : (sScope fld).names.lookup ("self" : Str) = some .local := rfl
  show wpAt (model prog w) _ _ (execs (sBody fld msg a1 a2 a3 a4 a5 a6 b1 b2 b3 b4) _) _ _ _
  obtain ⟨pl, hev⟩ := hevO s.heap.objs.size fI
  refine ks_wpAt_execs_cons (ks_wpAt_Expr_any (ks_wpAt_MethodCall (pl := pl) (he := hev) (ks_wpAt_super_base O.ls O.lc (by decide) rfl (X₁ _ _ ho) rfl rfl rfl (X₁ _ _ hcda) rfl hvs hfile T.htop ?_)))
  refine ks_loadName_global rfl O.ls (loadGlobal_builtin (hG.keeps k) T.mgS (hB.keeps k) hmb ⟨rfl, ?_⟩)
  refine wpAny_loadName_free rfl O.lc rfl ⟨_, X₁ _ _ hcell, rfl⟩ ?_
  refine wpAny_loadName_local rfl hsc hns hvs' ?_
  refine ks_wpAny_isType_cls (X₁ _ _ hC) rfl ⟨rfl, ?_⟩
  refine ks_wpAny_call_super (X₁ _ _ hC) rfl hx₁ rfl (fun c e => by cases e) (looks_mroIn X₁ T.mC) (fun h₂ e₂ k₂ => ?_)
  have X₂ : K.In h₂ := X₁.keeps k₂
  have hx₂ := k₂ _ _ hx₁
  have I₂ : InstAt h₂ x (excO C t0) C none := ⟨hx₂, rfl, rfl, trivial⟩
  have xC : x ≠ C := ks_ne X₂ I₂ hcls
  have hsup : alongIn K "__init__" ((_root_.List.dropWhile (· != Value.ref C) (.ref C :: bm)).drop 1) = some (some (.builtin "ValueError.__init__")) := by
    have z := T.sup
    unfold ks_superIn at z
    rw [hcls] at z
    exact z
  refine kxs_getMethod kxs_ValueError e₂ (looks_opaque X₂ T.opq) (l₀ := .ref C :: bm) (fun A Q E s k q => wpAny_bind ((looks_clsIn X₂ hcls) A _ E s k (wpAny_pure q))) rfl X₂ hsup (I₂.type.andThen (looks_subIn X₂ T.veC)) xC (by decide) ?_
  refine kxs_callWith (i := "ValueError.__init__") (x := x) rfl (evalArgs_plain ?_)
  refine spliced_cons (Constant_str (k := 0) (pos := a4) (spliced_nil ?_))
  have hu₃ : (h₂.push (kxs_mw "ValueError.__init__" x)).get? h₂.objs.size = some (kxs_mw "ValueError.__init__" x) := Heap.get?_push_at rfl rfl
  have k₃ : ∀ b o, h₂.get? b = some o → (h₂.push (kxs_mw "ValueError.__init__" x)).get? b = some o := fun b o e => Heap.get?_push_of_some _ e
  refine ⟨hu₃, base_init T (X₂.keeps k₃) hu₃ (k₃ _ _ hx₂) (fun h₄ t4 k₄ hx₄ => ?_)⟩
  have kx : ∀ b o, b ≠ x → s.heap.get? b = some o → h₄.get? b = some o := fun b o hb e => k₄ b o hb (k₃ _ _ (k₂ _ _ (k _ _ e)))
  have X₄ : K.In h₄ := fun a o e => kx a o (fun z => by rw [z, hnx] at e; cases e) (X a o e)
  have nL : s.heap.objs.size ≠ x := Nat.ne_of_gt (Heap.lt_size hx)
  have hns₄ : h₄.Ns s.heap.objs.size (fun y => ([(("self" : Str), Value.ref x), (fld, v)].reverse).lookup y) := by
    obtain ⟨oL, es, ep, hL, r⟩ := hns
    exact ⟨oL, es, ep, k₄ _ _ nL (k₃ _ _ (k₂ _ _ hL)), r⟩
  show wpAt (model prog w) _ _ (execs [.Assign [.Attribute (.Name "self" b1) fld b2] (.Name fld b3) b4] _) _ _ _
  refine wpAt_of_wpAny (wpAny_execs_cons (plainObj_wpAny_Assign_Attribute ?_))
  refine wpAny_Name (wpAny_loadName_local rfl O.lf hns₄ hvf ?_) O.nd
  refine wpAny_Name (wpAny_loadName_local rfl hsc hns₄ hvs' ?_) (by decide)
  refine set_plain X₄ (ox := excO C t4) (od := none) ⟨hx₄, rfl, rfl, trivial⟩ T.sa ?_
  refine exc_osa X₄ hx₄ hcls (show refsVE (.ref C :: bm) = true from hbm) rfl T.noF (fun h₅ tk₅ dx k₅ dn dne hx₅ hn₅ => ?_)
  have le1 : s.heap.objs.size < h₄.objs.size := by
    obtain ⟨oL, es, ep, hL, r⟩ := hns₄
    exact Heap.lt_size hL
  refine wpAny_execs_nil (hq h₅ tk₅ dx ⟨fun b o hb e => k₅ b o hb (kx b o hb e), ⟨t4, hx₅⟩, Nat.le_of_lt (Nat.lt_of_lt_of_le le1 dn), dne, hn₅⟩)
end

/-- C(v): the exception at e, its own dict at d -/
structure SupMade (h h' : Heap) (e C d : Addr) (fld : Str) (v : Value) : Prop where
  keep : ∀ b o, h.get? b = some o → h'.get? b = some o
  new : h.objs.size ≤ e
  obj : ∃ oe vs, h'.get? e = some oe ∧ oe.cls = .ref C ∧ oe.dict = some d ∧ oe.data = .fields vs ∧ vs[1]? = some .none
  dbig : h.objs.size ≤ d
  dne : d ≠ e
  ns : h'.Ns1 d (fun y => if y = fld then some v else none)
section
variable {prog : Program} {w : World} {A : Around} {E : Value → Shared → Prop} {R : Result → Shared → Prop} {s : Shared} {K : Frag} {mg mb : Str → Option Value} {cn fld msg : Str} {C fI : Addr}
theorem sup_made (T : SupTxt K mg prog cn fld msg C fI) {v : Value} (X : K.In s.heap) (hlim : s.heap.NoLimit) (hG : s.heap.Ns mainGlobals mg) (hB : s.heap.Ns builtinsNs mb) (hmb : mb "super" = some (.type "super")) (hroom : A.depth + 1 < recursionLimit)
    (hq : ∀ h' tk e d, SupMade s.heap h' e C d fld v → R (.ok (.ret (.ref e))) { s with heap := h', toks := tk }) :
    codeAny (model prog w) A (.call (.ref C) ⟨[v], []⟩) R s := by
  obtain ⟨nm, q, N, bs, bm, sn, sub, ab, col, dd, k0, k1, k2, k3, k5, hC, hbm⟩ := T.cls
  obtain ⟨hp, g, dr, tk, os⟩ := s
  have k : ∀ b o, hp.get? b = some o → ((hp.push (kdv_tup [v])).push (excO C hp.objs.size)).get? b = some o := fun b o e => Heap.get?_push_of_some _ (Heap.get?_push_of_some _ e)
  have hget : ((hp.push (kdv_tup [v])).push (excO C hp.objs.size)).get? (hp.objs.size + 1) = some (excO C hp.objs.size) := by heap_get
  have hnx : K.lookup (hp.objs.size + 1) = none := by
    cases e : K.lookup (hp.objs.size + 1) with
    | none => rfl
    | some o =>
      have z : hp.get? (hp.objs.size + 1) = some o := X _ _ e
      have z2 : hp.objs.size + 1 < hp.objs.size := Heap.lt_size z
      omega
  refine call_own PySem.F.excBase_ValueError (fun Y => refsVE_contains Y bm hbm) (X _ _ hC) (looks_findIn X T.iC) (fun self => bind_fn X self T.tF) (line1 v) ?_
  refine sup_init (s := ⟨(hp.push (kdv_tup [v])).push (excO C hp.objs.size), g, dr, tk, os⟩) T (X.keeps k) (hlim.keeps k) (hG.keeps k) (hB.keeps k) hmb hget hnx hroom fun h' tk' dx M => ?_
  obtain ⟨kp, ⟨t1, hob⟩, hd, hne, hns⟩ := M
  have sz : ((hp.push (kdv_tup [v])).push (excO C hp.objs.size)).objs.size = hp.objs.size + 1 + 1 := by simp only [Heap.size_push]
  have hd' : hp.objs.size + 2 ≤ dx := by
    have z : ((hp.push (kdv_tup [v])).push (excO C hp.objs.size)).objs.size ≤ dx := hd
    omega
  have old : ∀ b o, hp.get? b = some o → h'.get? b = some o := fun b o e => kp b o (Nat.ne_of_lt (Nat.lt_succ_of_lt (Heap.lt_size e))) (k b o e)
  exact ⟨rfl, hq h' tk' (hp.objs.size + 1) dx ⟨old, Nat.le_succ _, ⟨_, _, hob, rfl, rfl, rfl, rfl⟩, (by show hp.objs.size ≤ dx; omega), hne, hns⟩⟩
end
theorem fld_value : FldOk "value" := ⟨fun _ _ _ _ _ _ _ _ _ _ _ _ _ _ _ _ _ _ _ _ _ _ => rfl, rfl, rfl, rfl, by decide, by decide +kernel⟩
theorem ev_test (doc pm : Value) (an : Option Addr) (cda cc : Addr) (ct : Value) : EvOk "bounds" "abc" "q" ⟨6, 17, 6, 21⟩ ⟨6, 23, 6, 28⟩ ⟨7, 8, 7, 13⟩ ⟨7, 8, 7, 15⟩ ⟨7, 8, 7, 24⟩ ⟨7, 25, 7, 40⟩ ⟨7, 8, 7, 41⟩ ⟨7, 8, 7, 41⟩ ⟨8, 8, 8, 12⟩ ⟨8, 8, 8, 18⟩ ⟨8, 21, 8, 26⟩ ⟨8, 8, 8, 26⟩ doc pm an cda cc ct := fun _ _ => ⟨_, rfl⟩
end Sup
end PySem
namespace L2
open PySem PySem.Spec PyProof.Rows
theorem relO_one {fld : Str} {v : V} {v' : Value} (r : RelV v v') (f : Str) : RelO (List.lookup f [(fld, v)]) (if f = fld then some v' else none) := by
  by_cases hw : f = fld
  · have q : List.lookup f [(fld, v)] = some v := by simp [List.lookup, hw]
    rw [q, if_pos hw]
    exact r
  · have qw : (f == fld) = false := by simpa using hw
    have q2 : List.lookup f [(fld, v)] = none := by simp [List.lookup, qw]
    rw [q2, if_neg hw]
    trivial
section
variable {X : Cx} {C fI : Addr} {cn fld msg : Str}
/-- X(e), an own error whose __init__ is super().__init__('..'); self.f = f -/
def tMkSup (C : Addr) (fld : Str) (ta : TA) : St → Hp → XK → Prop := fun σ H Q => ta σ H fun vs H1 => ∃ v, vs = [v] ∧ ∀ d, H1 d = none → Q (.ref C) (some d) (upd H1 d (.xd [(fld, v)]))
theorem pmk_sup {a : Expr} {ta : TA} {p pos : Pos} {k : Nat} (T : PySem.Sup.SupTxt X.K X.mg X.prog cn fld msg C fI) (hr : Room k X.A) (ha : PA X [a] ta) (hg : Gl X cn := by rfl) (nd : (cn == ("__debug__" : Str)) = false := by decide)
    (he : starEach (a :: []) X.env = (false, eval a X.env) :: starEach [] X.env := by rfl) (hpl : (backTo pos (starEach [] X.env)).any (·.1) = false := by rfl) :
    PMk X (.Call (.Name cn p) [a] [] pos) (tMkSup C fld ta) := by
  intro pins s σ H Q I h
  refine wpAny_Call_Name_kw (ld_glob I hg T.gC ?_ nd)
  refine PySem.W.callWith_K (h₀ := X.base) I.ok.mod.kin T.kC (thn (ha.run pos pins s σ H _ I h) fun us s1 hh => ?_) he hpl
  obtain ⟨vs, H1, I1, r1, v, ev, q1⟩ := hh
  subst ev
  refine ⟨I1.kIn, ?_⟩
  cases r1 with
  | cons rv rn =>
    rename_i v' us'
    cases rn
    show wpAny _ _ (call (.ref C) [v']) _ _ _
    have hlim := I1.nolimit
    obtain ⟨mb, hb1, hb2⟩ := I1.mod.blt
    have hmb : mb "super" = some (.type "super") := (hb2 "super" (by decide)).trans (by decide +kernel)
    have hGl : s1.heap.Ns mainGlobals X.mg := I1.mod.glob.keeps I1.bk
    have hBl : s1.heap.Ns builtinsNs mb := hb1.keeps I1.bk
    obtain ⟨hp, g, dr, tk, os⟩ := s1
    refine wpAny_call (PySem.Sup.sup_made T I1.kIn hlim hGl hBl hmb (by have := hr.dp; omega) fun h' tk' e d M => ?_)
    show MkP X pins σ Q (.ref e) ⟨h', g, dr, tk', os⟩
    obtain ⟨kp, nw, ⟨oe, fv, hoe, hc, hd, hdat, h1⟩, dbig, dne, hns⟩ := M
    obtain ⟨G', g1, g2⟩ := restrict h' fun b => decide (b ≠ e)
    have gk : ∀ b, b ≠ e → G'.get? b = h'.get? b := fun b hb => g1 b (decide_eq_true hb)
    have ge : G'.get? e = none := g2 e (by simp)
    have old : ∀ b o, hp.get? b = some o → G'.get? b = some o := fun b o q => (gk b (Nat.ne_of_lt (Nat.lt_of_lt_of_le (Heap.lt_size q) nw))).trans (kp b o q)
    have ob : ObjOk X.prog X.w (upd H1 d (.xd [(fld, v)])) G' d (.xd [(fld, v)]) :=
      ⟨_, hns.at (fun o q => (gk d dne).trans q), fun f => relO_one rv f⟩
    have J : Inv X pins σ (upd H1 d (.xd [(fld, v)])) ⟨G', g, dr, tk', os⟩ := I1.laid (t' := tk') old dbig ob
    refine ⟨e, oe, fv, ⟨G', g, dr, tk', os⟩, _, .ref C, some d, rfl, J, fun b o q => ?_, ge, hoe, ⟨hc, hd⟩, hdat, h1, ?_, rfl, I1.bare, raises_own T.exC T.tyC, q1 d (I1.hok.fresh dbig)⟩
    · by_cases hb : b = e
      · have q' : G'.get? b = some o := q
        rw [hb, ge] at q'; cases q'
      · exact (gk b hb).symm.trans q
    · rw [upd_ne (Ne.symm dne)]
      exact I1.hok.fresh nw
/-- raise X(e) -/
def tRaiseSup (C : Addr) (fld : Str) (W : WX) (ta : TA) : TS := fun _ σ H => tMkSup C fld ta σ H fun cls d H' => W cls d σ H'
theorem ps_raiseSup {a : Expr} {ta : TA} {W : WX} {p pos pos2 : Pos} {k : Nat} (hc : X.calm = true) (T : PySem.Sup.SupTxt X.K X.mg X.prog cn fld msg C fI) (hr : Room k X.A) (tk : Takes X W) (ha : PA X [a] ta) (hg : Gl X cn := by rfl) (nd : (cn == ("__debug__" : Str)) = false := by decide)
    (he : starEach (a :: []) X.env = (false, eval a X.env) :: starEach [] X.env := by rfl) (hpl : (backTo pos (starEach [] X.env)).any (·.1) = false := by rfl) :
    PS X (.Raise (some (.Call (.Name cn p) [a] [] pos)) none pos2) (tRaiseSup C fld W ta) := ps_raise hc tk (pmk_sup T hr ha hg nd he hpl)
end
end L2
set_option maxRecDepth 100000
set_option maxHeartbeats 4000000
namespace GP
open PySem PySem.Spec PyProof.Rows L2
section
variable {P : Program} {w : World} {K : PySem.W.Frag} {mg mb : Str → Option Value} {k : Nat} {fa script : Addr} {fd : FuncData} {x : Str} {sp : Sp} {st : Shared} {cells : List Value} {ns : List Int}
def Fin0 (st : Shared) : Except Value Flow → Shared → Prop := fun r s2 => r = .ok (.ret (.bool true)) ∧ OldK st.heap s2.heap ∧ s2.os = st.os ∧ AllBare s2.gens
/-- the law, from a heap in which at most the script is told -/
theorem law_part (inK : K.In st.heap) (g1 : st.heap.Ns mainGlobals mg) (g2 : st.heap.Ns builtinsNs mb) (g3 : ∀ x : Str, x ≠ "__name__" → mb x = bootBuiltins x) (g4 : st.heap.NoLimit) (g5 : st.gens = #[])
    (is : st.heap.get? script = some { cls := .type "list", data := .seq cells.toArray }) (room : Room k callerA) (F : ∀ base : Heap, K.In base → base.Ns mainGlobals mg → FnG P w K mg base k fa fd [x] sp) (bind : ∀ (s : Shared) (u : Value), BindsTo s fd ⟨[u], []⟩ [(x, u)])
    (H : Hp) (only : Only H) (h : sp [.ref script] H (fun v _ => v = .bl true) fun _ _ _ => False) (ok : HOk P w H st.heap) (one : ∀ b, H b ≠ none → b = script) (notK : H script ≠ none → K.lookup script = none) :
    codeAny (model P w) callerA (.call (.ref fa) ⟨[.ref script], []⟩) (Fin0 st) st := by
  have seen : ∀ {b : Addr} {o : Obj}, st.heap.get? b = some o → H b = none → (hidT st.heap H).get? b = some o := fun a1 a2 => hidT_get a1 a2
  have free : ∀ {b : Addr} {o : Obj} {es : Array DictEntry} {ep : Nat}, st.heap.get? b = some o → o.data = .dict es ep → H b = none := by
    intro b o es ep a1 a2
    rcases e : H b with _ | u
    · rfl
    · have := one b (by rw [e]; exact fun z => nomatch z)
      rw [this, is] at a1
      rw [← Option.some.inj a1] at a2
      cases a2
  have names : ∀ {b : Addr} {m : Str → Option Value}, st.heap.Ns b m → (hidT st.heap H).Ns b m := by
    rintro b m ⟨o, es, ep, a1, a2, a3⟩
    exact ⟨o, es, ep, seen a1 (free a1 a2), a2, a3⟩
  have inB : K.In (hidT st.heap H) := by
    intro b o a1
    refine seen (inK b o a1) ?_
    rcases e : H b with _ | u
    · rfl
    · have := one b (by rw [e]; exact fun z => nomatch z)
      rw [this] at e a1
      rw [notK (by rw [e]; exact fun z => nomatch z)] at a1
      cases a1
  obtain ⟨mc, c1, c2⟩ := g4
  have M : Mod K mg (hidT st.heap H) := ⟨inB, names g1, ⟨mb, names g2, g3⟩, ⟨mc, names c1, c2⟩⟩
  have e0 : Env0 P w K mg (hidT st.heap H) callerA [] st H := ⟨rfl, M, fun b o e => of_hidT e, Nat.le_of_eq (hidT_size _ _), trivial, fun b hb => absurd hb List.not_mem_nil, ok, .of_eq g5⟩
  have R := (F _ inB (names g1)).run callerA [] st H ⟨[.ref script], []⟩ [.ref script] [.ref script] _ _ room rfl e0 (bind st (.ref script)) (.cons rfl .nil) h
  refine codeAny_mono R fun r s2 z => ?_
  match r, z with
  | .error e, z => exact absurd z (fun y => by exact y.elim)
  | .ok .next, z => exact z.elim
  | .ok .brk, z => exact z.elim
  | .ok .cont, z => exact z.elim
  | .ok (.ret u), ⟨v, H2, os, bare, un, ok2, ru, hv⟩ =>
    have hv2 : v = .bl true := hv
    rw [hv2] at ru
    have ru2 : u = Value.bool true := ru
    rw [ru2]
    refine ⟨rfl, OldK.of_keep fun b o a1 => ?_, os, bare⟩
    rcases e : H b with _ | t
    · exact un.keep b o a1 e (fun z => absurd z List.not_mem_nil) List.not_mem_nil
    · rcases only b with z | ⟨ob, xs, z⟩
      · rw [e] at z; cases z
      · have f1 := (ok b _ z).1
        have f2 := (ok2 b _ (un.frzs b ob _ z)).1
        rw [a1] at f1
        rw [Option.some.inj f1]
        exact f2
theorem law_whole (inK : K.In st.heap) (g1 : st.heap.Ns mainGlobals mg) (g2 : st.heap.Ns builtinsNs mb) (g3 : ∀ x : Str, x ≠ "__name__" → mb x = bootBuiltins x) (g4 : st.heap.NoLimit) (g5 : st.gens = #[])
    (is : st.heap.get? script = some { cls := .type "list", data := .seq cells.toArray }) (nums : IntsAre cells ns) (few : ns.length ≤ sizeLine) (room : Room k callerA) (F : ∀ base : Heap, K.In base → base.Ns mainGlobals mg → FnG P w K mg base k fa fd [x] sp)
    (bind : ∀ (s : Shared) (u : Value), BindsTo s fd ⟨[u], []⟩ [(x, u)]) (h : ∀ H : Hp, Only H → SqL K H script (ns.map V.int) → sp [.ref script] H (fun v _ => v = .bl true) fun _ _ _ => False) :
    codeAny (model P w) callerA (.call (.ref fa) ⟨[.ref script], []⟩) (Fin0 st) st := by
  have vals := vals_ints nums
  have len := nums.length
  rcases e : K.lookup script with _ | o
  · let ob : Obj := { cls := .type "list", data := .seq cells.toArray }
    let G : Hp := fun b => if b = script then some (.frz ob (.lst (ns.map V.int))) else none
    have at1 : G script = some (.frz ob (.lst (ns.map V.int))) := if_pos rfl
    have at2 : ∀ b, b ≠ script → G b = none := fun b n => if_neg n
    refine law_part inK g1 g2 g3 g4 g5 is room F bind G (fun b => ?_) (h G (fun b => ?_) (.inl (.inr ⟨ob, at1⟩))) (fun b u z => ?_) (fun b z => ?_) fun _ => e
    · by_cases n : b = script
      · exact .inr ⟨ob, _, by rw [n]; exact at1⟩
      · exact .inl (at2 b n)
    · by_cases n : b = script
      · exact .inr ⟨ob, _, by rw [n]; exact at1⟩
      · exact .inl (at2 b n)
    · by_cases n : b = script
      · subst n
        cases at1.symm.trans z
        exact ⟨is, by rw [List.length_map]; exact few, cells, _, vals, is⟩
      · cases (at2 b n).symm.trans z
    · by_cases n : b = script
      · exact n
      · exact absurd (at2 b n) z
  · have mine := inK script o e
    rw [is] at mine
    cases mine
    let G : Hp := fun _ => none
    exact law_part inK g1 g2 g3 g4 g5 is room F bind G (fun _ => .inl rfl) (h G (fun _ => .inl rfl) (.inr ⟨_, cells.toArray, _, e, rfl, rfl, rfl, by rw [List.size_toArray, len]; exact few, by simpa using vals⟩)) (fun _ _ z => nomatch z) (fun _ z => absurd rfl z) fun z => absurd rfl z
end
theorem walk_ofG {l : PySem.W.OpenLaw} {n k : Nat} {q : Program} {loose : List Str} {XP : (Str → Option Value) → Heap → Prop} {YP : World → Heap → Prop} {d : DefRec} {K : Params → PySem.W.Frag} {sp : World → Sp} {x : Str}
    (most : l.most = some n) (few : n ≤ sizeLine) (plain : d.params.defaults = []) (room : Room k callerA) (inK : ∀ (w : World) (h : Heap), YP w h → (K w.params).In h)
    (F : ∀ (w : World) (mg : Str → Option Value) (fa : Addr) (h : Heap), (K w.params).In h → h.Ns mainGlobals mg → mg d.name = some (.ref fa) →
      ∃ fd : FuncData, (∀ (s : Shared) (u : Value), BindsTo s fd ⟨[u], []⟩ [(x, u)]) ∧ ∀ base : Heap, (K w.params).In base → base.Ns mainGlobals mg → FnG l.prog w (K w.params) mg base k fa fd [x] (sp w))
    (h : ∀ (w : World) (H : Hp) (a : Addr) (ns : List Int), ns.length ≤ n → Only H → SqL (K w.params) H a (ns.map V.int) → sp w [.ref a] H (fun v _ => v = .bl true) fun _ _ _ => False) :
    PySem.W.WalkO q loose XP YP l.row.toRowW d [] (fun f vs => PySem.call f vs) := by
  refine Att.attach_call most plain fun w _ _ mg _ fa _ _ _ _ a cells ns S Y _ _ _ named is nums len gens => ?_
  obtain ⟨fd, bind, G⟩ := F w mg fa _ (inK w _ Y) S.T.g named
  exact law_whole (inK w _ Y) S.T.g S.T.b S.T.builtins S.T.nolimit gens is nums (Nat.le_trans len few) room G bind fun H only z => h w H a ns len only z
end GP
set_option maxRecDepth 100000
set_option maxHeartbeats 4000000
/-! which data repr may be asked of -/
namespace GP
open PySem PySem.Spec PyProof.Rows L2
structure Rp (n c : Nat) (d : PyData) : Prop where
  sh : d.showable = true
  nd : d.hasDict = false
  dp : d.depth ≤ n
  ln : d.shown.length ≤ c
theorem Rp.mono {n c m e : Nat} {d : PyData} (r : Rp n c d) (h1 : n ≤ m) (h2 : c ≤ e) : Rp m e d := ⟨r.sh, r.nd, Nat.le_trans r.dp h1, Nat.le_trans r.ln h2⟩
theorem Rp.none : Rp 0 4 .none := ⟨by simp [PyData.showable], by simp [PyData.hasDict], by simp [PyData.depth], by simp only [PyData.shown]; decide +kernel⟩
theorem Rp.int {i : Int} (h : i.natAbs.log2 < 1920) : Rp 0 1921 (.int i) := ⟨by simp only [PyData.showable]; exact decide_eq_true h, by simp [PyData.hasDict], by simp [PyData.depth], by simp only [PyData.shown]; exact int_text_len_1921 h⟩
theorem Rp.str {x : Str} (h : ∀ c ∈ x.cps.toList, c < 16 ^ 8) : Rp 0 (10 * x.length + 2) (.str x) := ⟨by simp [PyData.showable], by simp [PyData.hasDict], by simp [PyData.depth], by simp only [PyData.shown]; exact StrLaws.reprText_len x h⟩
theorem all_sh : ∀ {n c : Nat} {ds : List PyData}, (∀ d ∈ ds, Rp n c d) → PyData.showableAll ds = true ∧ PyData.hasDictAll ds = false ∧ PyData.depthAll ds ≤ n ∧ piled (PyData.shownAll ds) ≤ ds.length * (c + 2)
  | n, c, [], _ => ⟨by simp [PyData.showableAll], by simp [PyData.hasDictAll], by simp [PyData.depthAll], by simp [PyData.shownAll, piled]⟩
  | n, c, d :: ds, h => by
    have r := h d List.mem_cons_self
    obtain ⟨h1, h2, h3, h4⟩ := all_sh (n := n) (c := c) (ds := ds) fun x hx => h x (List.mem_cons_of_mem _ hx)
    refine ⟨by simp only [PyData.showableAll, r.sh, h1, Bool.and_self], by simp only [PyData.hasDictAll, r.nd, h2, Bool.or_self], ?_, ?_⟩
    · simp only [PyData.depthAll]
      exact Nat.max_le.mpr ⟨r.dp, h3⟩
    · simp only [PyData.shownAll]
      rw [piled_cons, List.length_cons, Nat.add_mul, Nat.one_mul]
      have := r.ln
      omega
theorem Rp.tuple {n c : Nat} {ds : List PyData} (h : ∀ d ∈ ds, Rp n c d) : Rp (n + 1) (ds.length * (c + 2) + 2) (.tuple ds) := by
  obtain ⟨h1, h2, h3, h4⟩ := all_sh h
  refine ⟨by simp only [PyData.showable, h1], by simp only [PyData.hasDict, h2], by simp only [PyData.depth]; omega, ?_⟩
  simp only [PyData.shown]
  exact Nat.le_trans (fmt_text _) (by omega)
theorem list_text (ts : List Str) : (listText ts).length ≤ piled ts + 2 := by
  have e1 : (("[" : Str)).length = 1 := rfl
  have e2 : (("]" : Str)).length = 1 := rfl
  rw [listText_eq_join, strLen_append, strLen_append, e1, e2]
  by_cases h : ts = []
  · subst h
    decide +kernel
  · have := join_length_add ts h
    omega
theorem Rp.list {n c : Nat} {ds : List PyData} (h : ∀ d ∈ ds, Rp n c d) : Rp (n + 1) (ds.length * (c + 2) + 2) (.list ds) := by
  obtain ⟨h1, h2, h3, h4⟩ := all_sh h
  refine ⟨by simp only [PyData.showable, h1], by simp only [PyData.hasDict, h2], by simp only [PyData.depth]; omega, ?_⟩
  simp only [PyData.shown]
  exact Nat.le_trans (list_text _) (by omega)
section
variable {X : Cx}
theorem call_reprR (gd : X.A.guards = some []) (hu : X.A.units + 70 < cLine) : CallR X (.builtin "repr") (fun xs H Q => ∃ p d n c, xs = [.ref p] ∧ Dp X.K H (.ref p) d ∧ Rp n c d ∧ n ≤ 60 ∧ c ≤ sizeLine ∧ Q (.str d.shown) H) := by
  intro pins s σ H xs us Q I r h
  obtain ⟨p, d, n, c, rfl, hd, rp, hn, hc, q⟩ := h
  exact call_reprD gd hu pins s σ H [.ref p] us Q I r ⟨p, d, rfl, hd, rp.sh, rp.nd, Nat.le_trans rp.dp hn, Nat.le_trans rp.ln hc, q⟩
end
end GP
set_option maxRecDepth 100000
set_option maxHeartbeats 4000000
/-! {text for .. if .. for ..} -/
namespace SC
open PySem PySem.Spec PyProof.Rows L2 TSet
abbrev tests (ifs : List Expr) (env : Env) : Sem Bool := forIn ifs true fun c r => if r = true then (do
  let ok ← PySem.isTrue c env (eval c env)
  pure (ForInStep.yield ok)) else pure (ForInStep.yield r)
section
variable {prog : Program} {w : World} {A : Around} {R : Result → Shared → Prop} {s : Shared} {elt t0 i0 t1 i1 : Expr} {ifs0 ifs1 : List Expr} {scope : Scope} {pos : Pos} {it acc : Value} {env : Env}
theorem turn_out : compTurn (.SetComp elt [⟨t0, i0, ifs0, 0⟩, ⟨t1, i1, ifs1, 0⟩] scope pos) 0 it acc env =
    (standAt i0.pos >>= fun _ => pyNext it >>= fun r => match r with
      | none => pure (Fin.done Flow.next)
      | some v => letOwnedTupleGo t0 it v >>= fun _ => assign t0 env v >>= fun _ => tests ifs0 env >>= fun ok =>
        if ok = true then eval i1 env >>= fun x => standAt i1.pos >>= fun _ => foldedSetIterable i1 env x >>= fun x => holding [x] (pyIter x) >>= fun u => runOwn (.compStart (.SetComp elt [⟨t0, i0, ifs0, 0⟩, ⟨t1, i1, ifs1, 0⟩] scope pos) 1 u acc env) env >>= fun _ => PySem.again (.compLoop (.SetComp elt [⟨t0, i0, ifs0, 0⟩, ⟨t1, i1, ifs1, 0⟩] scope pos) 0 it acc env)
        else PySem.again (.compLoop (.SetComp elt [⟨t0, i0, ifs0, 0⟩, ⟨t1, i1, ifs1, 0⟩] scope pos) 0 it acc env)) := rfl
theorem turn_in : compTurn (.SetComp elt [⟨t0, i0, ifs0, 0⟩, ⟨t1, i1, ifs1, 0⟩] scope pos) 1 it acc env =
    (standAt i1.pos >>= fun _ => pyNext it >>= fun r => match r with
      | none => pure (Fin.done Flow.next)
      | some v => letOwnedTupleGo t1 it v >>= fun _ => assign t1 env v >>= fun _ => tests ifs1 env >>= fun ok =>
        if ok = true then (eval elt env >>= fun v => standAt elt.pos >>= fun _ => call (.builtin "set.add") [acc, v] >>= fun _ => pure ()) >>= fun _ => PySem.again (.compLoop (.SetComp elt [⟨t0, i0, ifs0, 0⟩, ⟨t1, i1, ifs1, 0⟩] scope pos) 1 it acc env)
        else PySem.again (.compLoop (.SetComp elt [⟨t0, i0, ifs0, 0⟩, ⟨t1, i1, ifs1, 0⟩] scope pos) 1 it acc env)) := rfl
theorem loop_in (I : Nat → Shared → Prop) (hyp : ∀ n s, I n s → wpAny (model prog w) A (pyNext it) (fun r s1 => match r with
      | none => R (.ok .next) s1
      | some v => wpAny (model prog w) A (letOwnedTupleGo t1 it v) (fun _ s2 => wpAny (model prog w) A (assign t1 env v) (fun _ s3 => wpAny (model prog w) A (tests ifs1 env) (fun ok s4 =>
          if ok = true then wpAny (model prog w) A (eval elt env) (fun x s5 => wpAny (model prog w) A (call (.builtin "set.add") [acc, x]) (fun _ s6 => ∃ m, m < n ∧ I m s6) (fun _ _ => False) s5) (fun _ _ => False) s4
          else ∃ m, m < n ∧ I m s4) (fun _ _ => False) s3) (fun _ _ => False) s2) (fun _ _ => False) s1) (fun _ _ => False) s) (n : Nat) (hI : I n s) :
    codeAny (model prog w) A (.compLoop (.SetComp elt [⟨t0, i0, ifs0, 0⟩, ⟨t1, i1, ifs1, 0⟩] scope pos) 1 it acc env) R s := by
  refine codeAny_loop rfl I (fun n s hI => ?_) n hI
  show wpAny _ _ ((compTurn (.SetComp elt [⟨t0, i0, ifs0, 0⟩, ⟨t1, i1, ifs1, 0⟩] scope pos) 1 it acc env).onRaise _) _ _ _
  refine wpAny_onRaise ?_
  rw [turn_in]
  refine wpAny_bind (wpAny_standAt ?_)
  refine wpAny_bind (thnF (hyp n s hI) fun r s1 h1 => ?_)
  cases r with
  | none => exact wpAny_pure h1
  | some v =>
    refine wpAny_bind (thnF h1 fun _ s2 h2 => ?_)
    refine wpAny_bind (thnF h2 fun _ s3 h3 => ?_)
    refine wpAny_bind (thnF h3 fun ok s4 h4 => ?_)
    cases ok with
    | false => exact wpAny_pure ⟨rfl, h4⟩
    | true =>
      refine wpAny_bind (wpAny_bind (thnF h4 fun x s5 h5 => ?_))
      refine wpAny_bind (wpAny_standAt ?_)
      refine wpAny_bind (thnF h5 fun _ s6 h6 => ?_)
      exact wpAny_pure (wpAny_pure ⟨rfl, h6⟩)
theorem loop_out (plain : ∀ x, foldedSetIterable i1 env x = pure x) (I : Nat → Shared → Prop) (hyp : ∀ n s, I n s → wpAny (model prog w) A (pyNext it) (fun r s1 => match r with
      | none => R (.ok .next) s1
      | some v => wpAny (model prog w) A (letOwnedTupleGo t0 it v) (fun _ s2 => wpAny (model prog w) A (assign t0 env v) (fun _ s3 => wpAny (model prog w) A (tests ifs0 env) (fun ok s4 =>
          if ok = true then wpAny (model prog w) A (eval i1 env) (fun x s5 => wpAny (model prog w) A (pyIter x) (fun u s6 => codeAny (model prog w) A (.compStart (.SetComp elt [⟨t0, i0, ifs0, 0⟩, ⟨t1, i1, ifs1, 0⟩] scope pos) 1 u acc env) (fun r s7 => match r with | .ok _ => ∃ m, m < n ∧ I m s7 | .error _ => False) s6) (fun _ _ => False) s5) (fun _ _ => False) s4
          else ∃ m, m < n ∧ I m s4) (fun _ _ => False) s3) (fun _ _ => False) s2) (fun _ _ => False) s1) (fun _ _ => False) s) (n : Nat) (hI : I n s) :
    codeAny (model prog w) A (.compLoop (.SetComp elt [⟨t0, i0, ifs0, 0⟩, ⟨t1, i1, ifs1, 0⟩] scope pos) 0 it acc env) R s := by
  refine codeAny_loop rfl I (fun n s hI => ?_) n hI
  show wpAny _ _ ((compTurn (.SetComp elt [⟨t0, i0, ifs0, 0⟩, ⟨t1, i1, ifs1, 0⟩] scope pos) 0 it acc env).onRaise _) _ _ _
  refine wpAny_onRaise ?_
  rw [turn_out]
  refine wpAny_bind (wpAny_standAt ?_)
  refine wpAny_bind (thnF (hyp n s hI) fun r s1 h1 => ?_)
  cases r with
  | none => exact wpAny_pure h1
  | some v =>
    refine wpAny_bind (thnF h1 fun _ s2 h2 => ?_)
    refine wpAny_bind (thnF h2 fun _ s3 h3 => ?_)
    refine wpAny_bind (thnF h3 fun ok s4 h4 => ?_)
    cases ok with
    | false => exact wpAny_pure ⟨rfl, h4⟩
    | true =>
      refine wpAny_bind (thnF h4 fun x s5 h5 => ?_)
      refine wpAny_bind (wpAny_standAt ?_)
      rw [plain]
      refine wpAny_bind (wpAny_pure ?_)
      refine wpAny_bind (wpAny_holding (thnF h5 fun u s6 h6 => ?_))
      refine wpAny_bind (wpAny_runOwn (codeAny_mono h6 fun r s7 h7 => ?_))
      cases r with
      | error e => exact h7.elim
      | ok f => exact wpAny_pure ⟨rfl, h7⟩
theorem start_at {d : Nat} (hd : ((clausesOf (.SetComp elt [⟨t0, i0, ifs0, 0⟩, ⟨t1, i1, ifs1, 0⟩] scope pos))[d]?.elim false fun x => x.is_async != 0) = false)
    (h : codeAny (model prog w) A (.compLoop (.SetComp elt [⟨t0, i0, ifs0, 0⟩, ⟨t1, i1, ifs1, 0⟩] scope pos) d it acc env) R s)
    (h2 : wpAny (model prog w) A (pyIter it) (fun it' s' => codeAny (model prog w) A (.compLoop (.SetComp elt [⟨t0, i0, ifs0, 0⟩, ⟨t1, i1, ifs1, 0⟩] scope pos) d it' acc env) R s') (fun _ _ => False) s) :
    codeAny (model prog w) A (.compStart (.SetComp elt [⟨t0, i0, ifs0, 0⟩, ⟨t1, i1, ifs1, 0⟩] scope pos) d it acc env) R s := by
  refine codeAny_of_tree ?_
  show wpAny _ _ ((compStart (.SetComp elt [⟨t0, i0, ifs0, 0⟩, ⟨t1, i1, ifs1, 0⟩] scope pos) d it acc env).onRaise _) _ _ _
  refine wpAny_onRaise ?_
  unfold compStart
  rw [hd, if_neg Bool.false_ne_true]
  refine wpAny_bind (wpAny_askSetting ?_)
  by_cases g : (model prog w).w.params.followText "comprehension-iter-twice" = true
  · rw [if_pos g]
    exact wpAny_pure ⟨rfl, h⟩
  · rw [if_neg g]
    refine wpAny_bind (wpAny_rule ?_)
    cases hg : (clausesOf (.SetComp elt [⟨t0, i0, ifs0, 0⟩, ⟨t1, i1, ifs1, 0⟩] scope pos))[d]? with
    | none => exact wpAny_bind (thnF h2 fun it' s' h3 => wpAny_pure ⟨rfl, h3⟩)
    | some g => exact wpAny_bind (wpAny_standAt (wpAny_bind (thnF h2 fun it' s' h3 => wpAny_pure ⟨rfl, h3⟩)))
end
end SC
set_option maxRecDepth 100000
set_option maxHeartbeats 4000000
namespace SC
open PySem PySem.Spec PyProof.Rows L2 TSet Froz
section
variable {P : Program} {w : World} {A : Around} {E : Value → Shared → Prop} {s : Shared}
theorem set_add_txt {a : Addr} {D : SD} {l : List Str} {k : Str} {u : Tok} {Q : Value → Shared → Prop} (at_ : s.heap.get? a = some (sObj "set" D)) (Z : Txs P w D l) (few : l.length + 1 < scanBound)
    (h : ∀ h' tk D' l', Heap.SameBut a s.heap h' → h'.get? a = some (sObj "set" D') → Txs P w D' l' → (∀ z, z ∈ l' ↔ z = k ∨ z ∈ l) → l'.length ≤ l.length + 1 → Q .none { s with heap := h', toks := tk }) :
    wpAny (model P w) A (call (.builtin "set.add") [.ref a, .str k u]) Q E s := by
  refine call_meetsIn (S := fun A R s => s.heap.get? a = some (sObj "set" D) ∧ ∀ h' tk D' l', Heap.SameBut a s.heap h' → h'.get? a = some (sObj "set" D') → Txs P w D' l' → (∀ z, z ∈ l' ↔ z = k ∨ z ∈ l) → l'.length ≤ l.length + 1 → R (.ok (.ret .none)) { s with heap := h', toks := tk }) F.slot_set_add ⟨_, at_, rfl⟩ F.entry_set_add (F.args_set_add_2 _ _) (fun A R s ⟨g, q⟩ => ?_) ⟨at_, fun h' tk D' l' a b c d e => h h' tk D' l' a b c d e⟩
  unfold Builtin.«set.add» Builtin.Frozenset.oneOther
  have add_ : ∀ {A' : Around} {E' : Value → Shared → Prop} {Q' : Bool → Shared → Prop}, (∀ b h' tk D' l', Heap.SameBut a s.heap h' → h'.get? a = some (sObj "set" D') → Txs P w D' l' → (∀ z, z ∈ l' ↔ z = k ∨ z ∈ l) → l'.length ≤ l.length + 1 → Q' b { s with heap := h', toks := tk }) → wpAny (model P w) A' (setAdd a (.str k u)) Q' E' s := fun q' => by
    unfold setAdd
    refine wpAny_holding (wpAny_bind ((strKind P w).pyHash (k := k) (is_str k u) ?_))
    exact add_any (s := { s with toks := s.toks + 1 }) g Z few fun b h' D' l' c d e f g => q' b h' _ D' l' c d e f g
  wp_walk using add_
  exact fun b h' tk D' l' c d e f g => wpAny_pure (q h' tk D' l' c d e f g)
theorem new_set {Q : Value → Shared → Prop} (h : Q (.ref s.heap.objs.size) { s with heap := s.heap.push (freshSet w) }) : wpAny (model P w) A (newSet (.type "set")) Q E s := by
  unfold newSet setsByText
  refine wpAny_bind (wpAny_bind (wpAny_askSetting ?_))
  refine wpAny_pure ?_
  exact wpAny_newObj_type h
end
/-- {elt for .. if .. for ..}, texts -/
def tSc2 (P : Program) (w : World) (wi : TI) (g : TG) (tt : TT) (wi1 : TI) (g1 : TG) (tt1 : TT) (te : TE) (vs vs1 : List Nat) : TE := fun σ H Q => wi σ H fun J H1 => ∀ D, H1 D = none → ∃ W : Nat → Nat → Hp → Prop, (∃ m, W 0 m (upd H1 D (SetX P w D []))) ∧ ∀ i m H, W i m H →
  (J.stop i H ∧ Q (.ref D) H) ∨ (J.go i H ∧ ∃ Nx : Hp → Prop, (∀ H', Nx H' → ∃ m', m' < m ∧ W (i + 1) m' H') ∧ ∀ x H', J.yld i H x H' → g x (wipe σ vs) H' fun σ2 H2 => wipe σ2 vs = wipe σ vs ∧ tt σ2 H2 fun b H3 =>
    if b = true then wi1 σ2 H3 fun J1 H4 => ∃ W1 : Nat → Nat → Hp → Prop, (∃ m, W1 0 m H4) ∧ ∀ j k H, W1 j k H →
      (J1.stop j H ∧ Nx H) ∨ (J1.go j H ∧ ∃ Nx1 : Hp → Prop, (∀ H', Nx1 H' → ∃ k', k' < k ∧ W1 (j + 1) k' H') ∧ ∀ x H', J1.yld j H x H' → g1 x (wipe σ2 vs1) H' fun σ3 H5 => wipe σ3 vs1 = wipe σ2 vs1 ∧ tt1 σ3 H5 fun b H6 =>
        if b = true then te σ3 H6 fun y H7 => ∃ l z, y = .str z ∧ H7 D = some (SetX P w D l) ∧ l.length < 64 ∧ ∀ l' : List Str, l'.Nodup → (∀ q, q ∈ l' ↔ q = z ∨ q ∈ l) → l'.length ≤ l.length + 1 → Nx1 (upd H7 D (SetX P w D l'))
        else Nx1 H6)
    else Nx H3)
section
variable {X : Cx} {elt tg iter tg1 iter1 : Expr} {ifs ifs1 : List Expr} {scope : Scope} {own : List (Str × Nat)} {vs1 : List Nat} {wi wi1 : TI} {g g1 : TG} {tt tt1 : TT} {te : TE}
theorem pe_sc2 {pos : Pos} (calm : X.calm = true) (diff : X.N.Nodup) (walk : PI X tg iter wi) (blk : BlkOk X.N X.env.scope scope own) (sub : ∀ i ∈ vs1, i ∈ own.map (·.2))
    (aim : ∀ (sh : Shared) (G : Hp) (C : Addr) (cl : List (Str × Addr)) (feet : List Addr), PG (X.blk sh G scope (compEnvC scope cl C X.env) feet) tg g)
    (tests : ∀ (sh : Shared) (G : Hp) (C : Addr) (cl : List (Str × Addr)) (feet : List Addr), PTs (X.blk sh G scope (compEnvC scope cl C X.env) feet) ifs tt)
    (walk1 : ∀ (sh : Shared) (G : Hp) (C : Addr) (cl : List (Str × Addr)) (feet : List Addr), PI (X.blk sh G scope (compEnvC scope cl C X.env) feet) tg1 iter1 wi1)
    (aim1 : ∀ (sh : Shared) (G : Hp) (C : Addr) (cl : List (Str × Addr)) (feet : List Addr), PG (X.blk sh G scope (compEnvC scope cl C X.env) feet) tg1 g1)
    (tests1 : ∀ (sh : Shared) (G : Hp) (C : Addr) (cl : List (Str × Addr)) (feet : List Addr), PTs (X.blk sh G scope (compEnvC scope cl C X.env) feet) ifs1 tt1)
    (elts : ∀ (sh : Shared) (G : Hp) (C : Addr) (cl : List (Str × Addr)) (feet : List Addr), PE (X.blk sh G scope (compEnvC scope cl C X.env) feet) elt te)
    (plain : ∀ x, foldedSetIterable iter X.env x = pure x := by intro _; rfl) (plain1 : ∀ env x, foldedSetIterable iter1 env x = pure x := by intro _ _; rfl) :
    PE X (.SetComp elt [⟨tg, iter, ifs, 0⟩, ⟨tg1, iter1, ifs1, 0⟩] scope pos) (tSc2 X.prog X.w wi g tt wi1 g1 tt1 te (own.map (·.2)) vs1) := by
  refine ⟨fun pp sh0 st G0 Q I0 ask => ?_⟩
  rw [arm_eval_SetComp]
  have frees : ∀ y ∈ scope.names, y.2 = .free → ∃ c, X.env.cells.lookup y.1 = some c := fun y hy e => (blk.free y hy e).elim (fun k => I0.ok.has _ (.inl k)) fun k => I0.ok.has _ (.inr k)
  refine wpAny_comprehension_free (use := none) rfl plain (closure_ok frees) blk.kind (fun y hy e => by rw [blk.uniq y hy, e]) (thn (walk.run pp sh0 st G0 _ I0 ask) fun xv sh1 came => thn came fun itv sh2 more => ?_)
  obtain ⟨it, feet, ten, J, G2, rfl, I2, T, at0, free2, turn⟩ := more
  refine new_set (newEnv_comp ?_)
  have new : G2 sh2.heap.objs.size = none := I2.hok.fresh (Nat.le_refl _)
  obtain ⟨W, ⟨m0, w0⟩, step⟩ := turn _ new
  obtain ⟨G3, eG3⟩ : ∃ G3, G3 = upd G2 sh2.heap.objs.size (SetX X.prog X.w sh2.heap.objs.size []) := ⟨_, rfl⟩
  rw [← eG3] at w0
  obtain ⟨sh3, e3⟩ : ∃ sh3 : Shared, sh3 = { sh2 with heap := sh2.heap.push (freshSet X.w) } := ⟨_, rfl⟩
  have I3 : Inv X pp st G3 sh3 := by
    rw [e3, eG3]
    exact I2.laid (t' := sh2.toks) (fun b o q => Heap.get?_push_of_some _ q) (Nat.le_refl _) (setX_new ⟨(#[], 0, .fresh 0 0 (!X.w.params.followText "set-order")), Heap.get?_push_size _ rfl, Txs.fresh⟩)
  have heap3 : sh3.heap = sh2.heap.push (freshSet X.w) := by rw [e3]
  have low : ∀ b ∈ feet, b < sh2.heap.objs.size := fun b hb => Heap.lt_size (T.obj _ _ at0 b hb).choose_spec.1
  have free3 : ∀ b ∈ feet, FpOk X pp G3 b ∧ b < sh3.heap.objs.size := fun b hb => ⟨⟨by rw [eG3, upd_ne (Nat.ne_of_lt (low b hb))]; exact (free2 b hb).1, (free2 b hb).2⟩, by rw [heap3, Heap.size_push]; exact Nat.lt_succ_of_lt (low b hb)⟩
  have at3 : ten 0 sh3.heap := T.keep _ _ _ at0 fun b _ o q => by rw [heap3]; exact Heap.get?_push_of_some _ q
  have I4 := block_start I3 blk diff free3
  obtain ⟨C, eC⟩ : ∃ C, C = sh3.heap.objs.size := ⟨_, rfl⟩
  obtain ⟨cl, ecl⟩ : ∃ cl, cl = cellsFrom (sh3.heap.objs.size + 1) scope.names (cloFrom X.env.cells scope.names []) := ⟨_, rfl⟩
  obtain ⟨sh4, e4⟩ : ∃ sh4 : Shared, sh4 = { sh3 with heap := pushCells (sh3.heap.push { cls := .type "dict", data := .dict #[] }) scope.names } := ⟨_, rfl⟩
  rw [← ecl, ← eC, ← e4] at I4
  have at4 : ten 0 sh4.heap := T.keep _ _ _ at3 fun b _ o q => by rw [e4]; exact pushCells_keeps _ _ _ _ (Heap.get?_push_of_some _ q)
  have none3 : ∀ b ∈ feet, G3 b = none := fun b hb => (free3 b hb).1.1
  obtain ⟨Y, eY⟩ : ∃ Y, Y = X.blk sh3 G3 scope (compEnvC scope cl C X.env) feet := ⟨_, rfl⟩
  rw [← eY] at I4
  have held : ∀ {st' : L2.St} {G' : Hp} {sh' : Shared}, Inv Y [] st' G' sh' → (∀ b ∈ feet, G' b = none) → ∀ b ∈ feet, FpOk Y [] G' b := by
    subst eY
    exact fun {_ _ _} I' no b hb => ⟨no b hb, (I'.ok.exf b hb).1, I'.ok.exfs b hb, .inl hb, fun x c q => (I'.ok.exf b hb).2 x c q, fun p hp => absurd (show p ∈ ([] : List (Addr × Obj)) ++ [] from hp) (by simp)⟩
  have locC : (compEnvC scope cl C X.env).locals = C := rfl
  have loop : codeAny (model X.prog X.w) X.A (.compLoop (.SetComp elt [⟨tg, iter, ifs, 0⟩, ⟨tg1, iter1, ifs1, 0⟩] scope pos) 0 (.ref it) (.ref sh2.heap.objs.size) (compEnvC scope cl C X.env)) (compPost (model X.prog X.w) X.A X.xe none (EP X pp st Q) (.ref sh2.heap.objs.size) C) sh4 := by
    subst eY
    refine loop_out (plain1 _) (fun left sh => ∃ i G, Inv (X.blk sh3 G3 scope (compEnvC scope cl C X.env) feet) [] (wipe st (own.map (·.2))) G sh ∧ ten i sh.heap ∧ (∀ b ∈ feet, G b = none) ∧ W i left G) ?_ m0 ⟨0, G3, I4, at4, none3, w0⟩
    rintro left sh5 ⟨i, G5, I5, at5, no5, w5⟩
    rcases step i left G5 w5 with ⟨over, good⟩ | ⟨on, Nx, fewer, go⟩
    · -- the walk is over
      refine thnF (T.done (X.blk sh3 G3 scope (compEnvC scope cl C X.env) feet) rfl rfl rfl calm i [] sh5 _ G5 (fun _ _ => False) I5 (held I5 no5) at5 over) fun r sh6 ⟨er, I6⟩ => ?_
      subst er
      have I7 : Inv X pp st G5 sh6 := I3.call' (ch := feet) I6.os I6.base I6.hok I6.bare fun b hb => let f := (free3 b hb).1.2; ⟨f.2.2.1, f.1, f.2.2.2.1, f.2.2.2.2⟩
      have noC : G5 C = none := I6.free
      obtain ⟨m, names, _⟩ := I6.loc
      obtain ⟨f0, f1, f2, f3, f4, f5⟩ := I3.fpOk (Nat.le_of_eq eC.symm) noC
      exact ⟨m, names, fun h'' sb => ⟨.ref sh2.heap.objs.size, G5, I7.turned (t' := sh6.toks) (fun b o hb q => (sb.2 b hb).trans q) f0 f1 f3 f4 f5, rfl, good⟩⟩
    · -- one turn
      refine thnF (T.item (X.blk sh3 G3 scope (compEnvC scope cl C X.env) feet) rfl rfl rfl calm i [] sh5 _ G5 (fun _ _ => False) I5 (held I5 no5) at5 on) fun r sh6 ⟨u, er, rest⟩ => ?_
      subst er
      refine thnF rest fun _ sh7 ⟨x, G7, I7, rx, y7, at7, no7⟩ => ?_
      have P7 := I7.pinned (held I7 no7) (T.obj _ _ at7)
      refine thnF ((aim sh3 G3 C cl feet).run _ sh7 _ G7 x u _ P7 rx (go x G7 y7)) fun _ sh8 ⟨st8, G8, I8, same8, q8⟩ => ?_
      refine thnF ((tests sh3 G3 C cl feet).run _ sh8 st8 G8 _ I8 q8) fun yes sh9 ⟨G9, I9, q9⟩ => ?_
      have back : ∀ {st' : L2.St} {sh' : Shared} {G' : Hp}, Inv (X.blk sh3 G3 scope (compEnvC scope cl C X.env) feet) ([] ++ pinsAt feet sh7.heap) st' G' sh' → st'.length = st8.length → (∀ (j : Nat) (v : V), (wipe st8 (own.map (·.2)))[j]? = some (some v) → st'[j]? = some (some v)) → Nx G' →
          ∃ m, m < left ∧ ∃ i G, Inv (X.blk sh3 G3 scope (compEnvC scope cl C X.env) feet) [] (wipe st (own.map (·.2))) G sh' ∧ ten i sh'.heap ∧ (∀ b ∈ feet, G b = none) ∧ W i m G := by
        intro st' sh' G' I' hl hw nx
        obtain ⟨m', less, w'⟩ := fewer G' nx
        have pin : ∀ b ∈ feet, ∀ o, sh7.heap.get? b = some o → sh'.heap.get? b = some o ∧ G' b = none := fun b hb o q => by
          have z := I'.pin (b, o) (List.mem_append_right _ (List.mem_append_right _ (mem_pinsAt hb q)))
          exact ⟨z.1, z.2.1⟩
        have len : (wipe st (own.map (·.2))).length = st'.length := by rw [← same8, wipe_length, hl]
        refine ⟨m', less, i + 1, G', (I'.unpinned (pins := [])).weak len (fun j v q => ?_), T.keep _ _ _ at7 fun b hb o q => (pin b hb o q).1, fun b hb => ?_, w'⟩
        · rw [← same8] at q
          exact hw j v q
        · obtain ⟨o, q, _⟩ := T.obj _ _ at7 b hb
          exact (pin b hb o q).2
      cases yes with
      | false => exact back I9 rfl (fun j v q => (wipe_some q).1) q9
      | true =>
        refine thnF ((walk1 sh3 G3 C cl feet).run _ sh9 st8 G9 _ I9 q9) fun xv1 sh10 came1 => thnF came1 fun itv1 sh11 more1 => ?_
        obtain ⟨it1, feet1, ten1, J1, G11, rfl, I11, T1, at1, free1, W1, ⟨k0, w10⟩, step1⟩ := more1
        have I11w := I11.weak (wipe_length st8 vs1) (fun j v q => (wipe_some q).1)
        have held1 : ∀ {G' : Hp}, (∀ b ∈ feet1, G' b = none) → ∀ b ∈ feet1, FpOk (X.blk sh3 G3 scope (compEnvC scope cl C X.env) feet) ([] ++ pinsAt feet sh7.heap) G' b := fun no b hb => ⟨no b hb, (free1 b hb).2⟩
        have loop1 : codeAny (model X.prog X.w) X.A (.compLoop (.SetComp elt [⟨tg, iter, ifs, 0⟩, ⟨tg1, iter1, ifs1, 0⟩] scope pos) 1 (.ref it1) (.ref sh2.heap.objs.size) (compEnvC scope cl C X.env)) (fun r s7 => match r with
            | .ok _ => ∃ m, m < left ∧ ∃ i G, Inv (X.blk sh3 G3 scope (compEnvC scope cl C X.env) feet) [] (wipe st (own.map (·.2))) G s7 ∧ ten i s7.heap ∧ (∀ b ∈ feet, G b = none) ∧ W i m G
            | .error _ => False) sh11 := by
          refine loop_in (fun k sh => ∃ j G, Inv (X.blk sh3 G3 scope (compEnvC scope cl C X.env) feet) ([] ++ pinsAt feet sh7.heap) (wipe st8 vs1) G sh ∧ ten1 j sh.heap ∧ (∀ b ∈ feet1, G b = none) ∧ W1 j k G) ?_ k0 ⟨0, G11, I11w, at1, fun b hb => (free1 b hb).1, w10⟩
          rintro k sh12 ⟨j, G12, I12, at12, no12, w12⟩
          rcases step1 j k G12 w12 with ⟨over, nx⟩ | ⟨on1, Nx1, fewer1, go1⟩
          · refine thnF (T1.done (X.blk sh3 G3 scope (compEnvC scope cl C X.env) feet) rfl rfl rfl calm j _ sh12 _ G12 (fun _ _ => False) I12 (held1 no12) at12 over) fun r sh13 ⟨er, I13⟩ => ?_
            subst er
            exact back I13 (wipe_length st8 vs1) (fun j v q => by
              obtain ⟨q1, q2⟩ := wipe_some q
              rw [wipe_out fun z => q2 (sub j z)]
              exact q1) nx
          · refine thnF (T1.item (X.blk sh3 G3 scope (compEnvC scope cl C X.env) feet) rfl rfl rfl calm j _ sh12 _ G12 (fun _ _ => False) I12 (held1 no12) at12 on1) fun r sh13 ⟨u1, er, rest1⟩ => ?_
            subst er
            refine thnF rest1 fun _ sh14 ⟨x1, G14, I14, rx1, y14, at14, no14⟩ => ?_
            have P14 := I14.pinned (held1 no14) (T1.obj _ _ at14)
            refine thnF ((aim1 sh3 G3 C cl feet).run _ sh14 _ G14 x1 u1 _ P14 rx1 (go1 x1 G14 y14)) fun _ sh15 ⟨st15, G15, I15, same15, q15⟩ => ?_
            refine thnF ((tests1 sh3 G3 C cl feet).run _ sh15 st15 G15 _ I15 q15) fun yes1 sh16 ⟨G16, I16, q16⟩ => ?_
            have back1 : ∀ {sh' : Shared} {G' : Hp}, Inv (X.blk sh3 G3 scope (compEnvC scope cl C X.env) feet) (([] ++ pinsAt feet sh7.heap) ++ pinsAt feet1 sh14.heap) st15 G' sh' → Nx1 G' →
                ∃ k', k' < k ∧ ∃ j G, Inv (X.blk sh3 G3 scope (compEnvC scope cl C X.env) feet) ([] ++ pinsAt feet sh7.heap) (wipe st8 vs1) G sh' ∧ ten1 j sh'.heap ∧ (∀ b ∈ feet1, G b = none) ∧ W1 j k' G := by
              intro sh' G' I' nx
              obtain ⟨k', less, w'⟩ := fewer1 G' nx
              have pin : ∀ b ∈ feet1, ∀ o, sh14.heap.get? b = some o → sh'.heap.get? b = some o ∧ G' b = none := fun b hb o q => by
                have z := I'.pin (b, o) (List.mem_append_right _ (List.mem_append_right _ (mem_pinsAt hb q)))
                exact ⟨z.1, z.2.1⟩
              have len : (wipe st8 vs1).length = st15.length := by rw [← same15, wipe_length]
              refine ⟨k', less, j + 1, G', I'.unpinned.weak len (fun j v q => ?_), T1.keep _ _ _ at14 fun b hb o q => (pin b hb o q).1, fun b hb => ?_, w'⟩
              · rw [← same15] at q
                exact (wipe_some q).1
              · obtain ⟨o, q, _⟩ := T1.obj _ _ at14 b hb
                exact (pin b hb o q).2
            cases yes1 with
            | false => exact back1 I16 q16
            | true =>
              refine thnF ((elts sh3 G3 C cl feet).run _ sh16 st15 G16 _ I16 q16) fun ku sh17 ⟨yk, G17, I17, rk, l, z, ek, hD, few, nx⟩ => ?_
              subst ek
              obtain ⟨tk, rfl⟩ := rk
              obtain ⟨DD, e, F⟩ := (I17.hok _ _ hD).1
              refine set_add_txt e F (by unfold scanBound; omega) fun h' tk' D' l' same a2 f2 m2 n2 => back1 (d_write (t' := tk') I17 (by rw [hD]; exact True.intro) same ⟨_, a2⟩ (setX_new ⟨D', a2, f2⟩)) (nx l' f2.nd m2 n2)
        exact start_at rfl loop1 (T1.self X.A 0 _ _ _ at1 loop1)
  show codeAny _ _ (.compStart (.SetComp elt [⟨tg, iter, ifs, 0⟩, ⟨tg1, iter1, ifs1, 0⟩] scope pos) 0 (.ref it) (.ref sh2.heap.objs.size) (compEnvC scope (cellsFrom (sh2.heap.push (freshSet X.w)).objs.size.succ scope.names (cloFrom X.env.cells scope.names [])) (sh2.heap.push (freshSet X.w)).objs.size X.env)) _ _
  rw [heap3] at eC ecl
  subst e3
  subst e4 ecl eC
  exact start_at rfl loop (T.self X.A 0 _ _ _ at4 loop)
end
end SC
set_option maxRecDepth 100000
set_option maxHeartbeats 4000000
namespace E5
open PySem L2 Evl
def top (i : Nat) : Stmt := PySem.Challenge.pw_ringclause_k54_gates_and_calls.main.body.getD i (.Pass ⟨0, 0, 0, 0⟩)

/-! ### general -/
section
variable {K : PySem.W.Frag} {σ : L2.St} {H H1 : Hp} {J : It} {G : Hp → Prop} {te : TE}
theorem lcMap {xs : List V} (w : Walk J xs.length G (YAt xs)) (f : V → V) {j : Nat} {vs : List Nat} (hz : xs.length < sizeLine) (hG : ∀ H', Ex H1 H' → G H')
    (hw : ∀ v, wipe ((wipe σ vs).set j (some v)) vs = wipe σ vs) (he : ∀ v ∈ xs, ∀ H', Ex H1 H' → Ev te ((wipe σ vs).set j (some v)) H' (f v)) {Qd : Hp → Prop} {D : Addr} (hD : H1 D = none)
    (k : ∀ H', Ex H1 H' → H' D = some (.lst (xs.map f)) → Qd H') :
    ∃ W : Nat → Nat → Hp → Prop, (∃ m, W 0 m (upd H1 D (.lst []))) ∧ ∀ i m H, W i m H →
      (J.stop i H ∧ Qd H) ∨ (J.go i H ∧ ∃ Nx : Hp → Prop, (∀ H', Nx H' → ∃ m', m' < m ∧ W (i + 1) m' H') ∧ ∀ x H', J.yld i H x H' → gName j x (wipe σ vs) H' fun σ2 H2 => wipe σ2 vs = wipe σ vs ∧ tYes σ2 H2 fun b H3 =>
        if b = true then te σ2 H3 fun y H4 => ∃ acc, H4 D = some (.lst acc) ∧ acc.length < sizeLine ∧ Nx (upd H4 D (.lst (acc ++ [y]))) else Nx H3) := by
  refine lc_it w (fun i H => Ex H1 H ∧ H D = some (.lst ((xs.take i).map f))) ⟨Ex.new hD, upd_same⟩ (fun i H _ p => hG H p.1) ?_ (fun H p => k H p.1 (by have := p.2; rwa [List.take_length] at this))
  rintro i x H H' hi ⟨e, hl⟩ ⟨rfl, hx⟩
  have hm : x ∈ xs := by
    obtain ⟨h, q⟩ := List.getElem?_eq_some_iff.mp hx
    rw [← q]
    exact List.getElem_mem h
  unfold gName tYes
  dsimp only
  refine ⟨hw x, ?_⟩
  rw [if_pos rfl]
  refine he x hm H' e H' (Ex.refl _) _ fun H4 e4 => ⟨_, e4 D _ hl, ?_, Ex.mut (e.trans e4) hD, ?_⟩
  · rw [List.length_map, List.length_take]
    omega
  · rw [upd_same, List.take_add_one, hx]
    simp
theorem walk_signs {z : Str} : Walk (Its z) (z.cps.toList.map fun c => V.str ⟨#[c]⟩).length (fun _ => True) (YAt (z.cps.toList.map fun c => V.str ⟨#[c]⟩)) := by
  have e : (z.cps.toList.map fun c => V.str ⟨#[c]⟩).length = z.cps.size := by simp
  rw [e]
  refine walk_str.mono (fun _ h => h) ?_
  rintro i H x H' hi _ ⟨rfl, c, hc, rfl⟩
  refine ⟨rfl, ?_⟩
  simp [hc]
end

theorem at_lit {α : Type} {l : List α} {n : Nat} {z : Int} {v : α} (e : z = (n : Int)) (h : l[n]? = some v) : atI l z = some v := by
  rw [e]
  exact atI_nat h
/-! ### data by its kind -/
def tyN : PyData → String
  | .none => "NoneType" | .bool _ => "bool" | .int _ => "int" | .str _ => "str" | .list _ => "list" | .tuple _ => "tuple" | .dict _ => "dict"
def isStrD : PyData → Bool | .str _ => true | _ => false
def isIntLikeD : PyData → Bool | .int _ => true | .bool _ => true | _ => false
def isBoolD : PyData → Bool | .bool _ => true | _ => false
def isTupD : PyData → Bool | .tuple _ => true | _ => false
def isListD : PyData → Bool | .list _ => true | _ => false
section
variable {K : PySem.W.Frag} {H H' : Hp} {v : V} {d : PyData}
theorem dp_ty (h : Dp K H v d) : TyX K H v (.type (tyN d)) := by
  cases h with
  | non => exact .base .non
  | bl b => exact .base (.bl b)
  | int i => exact .base (.int i)
  | str x => exact .base (.str x)
  | lst h _ =>
    rcases h with (h | ⟨o, h⟩) | ⟨o, its, n, h1, h2, _⟩
    · exact .base (.lst h)
    · exact .base (.frz h)
    · exact .kList h1 h2
  | tup h _ =>
    rcases h with (h | ⟨o, h⟩) | ⟨o, its, n, h1, h2, _⟩
    · exact .base (.tup h)
    · exact .fTuple h
    · exact .kTuple h1 h2
theorem kit_str (d : PyData) : PySem.W.kitOne K (.type (tyN d)) (.type "str") = some (isStrD d) := by cases d <;> (refine kit_ty ?_; simp only [tyN, isStrD]; decide +kernel)
theorem kit_int (d : PyData) : PySem.W.kitOne K (.type (tyN d)) (.type "int") = some (isIntLikeD d) := by cases d <;> (refine kit_ty ?_; simp only [tyN, isIntLikeD]; decide +kernel)
theorem kit_bool (d : PyData) : PySem.W.kitOne K (.type (tyN d)) (.type "bool") = some (isBoolD d) := by cases d <;> (refine kit_ty ?_; simp only [tyN, isBoolD]; decide +kernel)
theorem kit_tuple (d : PyData) : PySem.W.kitOne K (.type (tyN d)) (.type "tuple") = some (isTupD d) := by cases d <;> (refine kit_ty ?_; simp only [tyN, isTupD]; decide +kernel)
theorem kit_list (d : PyData) : PySem.W.kitOne K (.type (tyN d)) (.type "list") = some (isListD d) := by cases d <;> (refine kit_ty ?_; simp only [tyN, isListD]; decide +kernel)
mutual
theorem Dp.ex (e : Ex H H') {v : V} {d : PyData} : Dp K H v d → Dp K H' v d
  | .non => .non
  | .bl b => .bl b
  | .int i => .int i
  | .str x => .str x
  | .lst h a => .lst (ex_l e h) (DpAll.ex e a)
  | .tup h a => .tup (ex_t e h) (DpAll.ex e a)
theorem DpAll.ex (e : Ex H H') {vs : List V} {ds : List PyData} : DpAll K H vs ds → DpAll K H' vs ds
  | .nil => .nil
  | .cons a b => .cons (Dp.ex e a) (DpAll.ex e b)
end
theorem DpAll.len : ∀ {vs : List V} {ds : List PyData}, DpAll K H vs ds → vs.length = ds.length
  | _, _, .nil => rfl
  | _, _, .cons _ r => by rw [List.length_cons, List.length_cons, DpAll.len r]
theorem DpAll.get : ∀ {vs : List V} {ds : List PyData}, DpAll K H vs ds → ∀ {i : Nat} {v : V}, vs[i]? = some v → ∃ d, ds[i]? = some d ∧ Dp K H v d
  | _, _, .nil, _, _, h => by simp at h
  | _, _, .cons (d := d) a _, 0, v, h => by
    have e : _ = v := Option.some.inj h
    subst e
    exact ⟨d, rfl, a⟩
  | _, _, .cons _ b, i + 1, v, h => DpAll.get b (i := i) (by simpa using h)
end
/-! ### the names and bounds of the program, over data -/
def letters : Str := "abcdefghijklmnopqrstuvwxyz"
def signs : Str := "abcdefghijklmnopqrstuvwxyz0123456789"
def isNameS (z : Str) : Bool := decide (1 ≤ z.length ∧ z.length ≤ 8) && (decide ((z.cps.toList.headD 0) ∈ letters.cps.toList) && z.cps.toList.all fun c => decide (c ∈ signs.cps.toList))
def isNameD : PyData → Bool | .str z => isNameS z | _ => false
def isIntD (d : PyData) : Bool := isIntLikeD d && !isBoolD d
def partsD : PyData → Option (PyData × PyData × PyData × PyData)
  | .tuple [a, b, c, e] => some (a, b, c, e)
  | _ => none
def isMostD : PyData → Bool | .str w => decide (w = ("most" : Str)) | _ => false
def sameD : PyData → PyData → Bool
  | .str x, .str y => decide (x = y)
  | _, _ => false
def isBoundD (d : PyData) : Bool := match partsD d with
  | some (a, b, c, e) => isMostD a && (isNameD b && (isNameD c && (!sameD b c && isIntD e)))
  | none => false
theorem isBound4 {a b c e : PyData} : isBoundD (.tuple [a, b, c, e]) = (isMostD a && (isNameD b && (isNameD c && (!sameD b c && isIntD e)))) := rfl
/-- texts in it, not too long -/
def szS : PyData → Prop | .str z => z.length ≤ sizeLine | _ => True
def szD : PyData → Prop | .tuple ds => ∀ d ∈ ds, szS d | _ => True

/-! ### the text -/
abbrev s_is_name : Stmt := top 7
theorem sc_is_name : FnScope ["value"] ["value"] (defScope s_is_name) := ⟨rfl, rfl, rfl, by decide +kernel, rfl, by decide +kernel, by decide +kernel⟩
abbrev s_is_integer : Stmt := top 8
theorem sc_is_integer : FnScope ["value"] ["value"] (defScope s_is_integer) := ⟨rfl, rfl, rfl, by decide +kernel, rfl, by decide +kernel, by decide +kernel⟩
abbrev s_is_bound : Stmt := top 9
theorem sc_is_bound : FnScope ["value", "word", "first", "second", "limit"] ["value"] (defScope s_is_bound) := ⟨rfl, rfl, rfl, by decide +kernel, rfl, by decide +kernel, by decide +kernel⟩
abbrev s_moments_of : Stmt := top 10
theorem sc_moments_of : FnScope ["literals", "literal", "name"] ["literals"] (defScope s_moments_of) := ⟨rfl, rfl, rfl, by decide +kernel, rfl, by decide +kernel, by decide +kernel⟩
abbrev s_check_listed : Stmt := top 11
theorem sc_check_listed : FnScope ["moments", "values", "name", "listed", "_"] ["moments", "values"] (defScope s_check_listed) := ⟨rfl, rfl, rfl, by decide +kernel, rfl, by decide +kernel, by decide +kernel⟩
abbrev s_literal_stands : Stmt := top 12
theorem sc_literal_stands : FnScope ["literal", "names", "table", "_", "first", "second", "limit", "word", "name"] ["literal", "names", "table"] (defScope s_literal_stands) := ⟨rfl, rfl, rfl, by decide +kernel, rfl, by decide +kernel, by decide +kernel⟩
abbrev s_law_bag : Stmt := top 16
theorem sc_law_bag : FnScope ["script", "k", "cell"] ["script", "k"] (defScope s_law_bag) := ⟨rfl, rfl, rfl, by decide +kernel, rfl, by decide +kernel, by decide +kernel⟩
abbrev s_law_draw : Stmt := top 17
theorem sc_law_draw : FnScope ["bag", "size", "digit", "mixed"] ["bag", "size"] (defScope s_law_draw) := ⟨rfl, rfl, rfl, by decide +kernel, rfl, by decide +kernel, by decide +kernel⟩
abbrev s_law_letters : Stmt := top 18
theorem sc_law_letters : FnScope ["bag", "count", "signs", "word", "k"] ["bag", "count"] (defScope s_law_letters) := ⟨rfl, rfl, rfl, by decide +kernel, rfl, by decide +kernel, by decide +kernel⟩
abbrev s_law_names : Stmt := top 19
theorem sc_law_names : FnScope ["bag", "size", "head", "tail", "stems", "truths", "one"] ["bag"] (defScope s_law_names) := ⟨rfl, rfl, rfl, by decide +kernel, rfl, by decide +kernel, by decide +kernel⟩
abbrev s_law_integer : Stmt := top 20
theorem sc_law_integer : FnScope ["bag", "great", "k"] ["bag"] (defScope s_law_integer) := ⟨rfl, rfl, rfl, by decide +kernel, rfl, by decide +kernel, by decide +kernel⟩
abbrev s_law_literal : Stmt := top 21
theorem sc_law_literal : FnScope ["bag", "truths", "moments", "kind", "one", "two"] ["bag", "truths", "moments"] (defScope s_law_literal) := ⟨rfl, rfl, rfl, by decide +kernel, rfl, by decide +kernel, by decide +kernel⟩
abbrev s_law_holds : Stmt := top 22
theorem sc_law_holds : FnScope ["literal", "values", "times"] ["literal", "values"] (defScope s_law_holds) := ⟨rfl, rfl, rfl, by decide +kernel, rfl, by decide +kernel, by decide +kernel⟩
abbrev s_law_gates : Stmt := top 23
theorem sc_law_gates : FnScope ["bag", "truths", "moments", "gates", "more", "k", "kind", "many", "refs", "j"] ["bag", "truths", "moments"] (defScope s_law_gates) := ⟨rfl, rfl, rfl, by decide +kernel, rfl, by decide +kernel, by decide +kernel⟩
abbrev s_law_values : Stmt := top 24
theorem sc_law_values : FnScope ["bag", "truths", "moments", "gates", "names", "one", "times", "time", "bounds", "gate"] ["bag", "truths", "moments", "gates"] (defScope s_law_values) := ⟨rfl, rfl, rfl, by decide +kernel, rfl, by decide +kernel, by decide +kernel⟩
abbrev s_law_moments : Stmt := top 25
theorem sc_law_moments : FnScope ["gates", "names", "gate"] ["gates"] (defScope s_law_moments) := ⟨rfl, rfl, rfl, by decide +kernel, rfl, by decide +kernel, by decide +kernel⟩
abbrev s_law_due : Stmt := top 26
theorem sc_law_due : FnScope ["gates", "values", "listed", "missing", "truths", "gate", "pair", "one", "k"] ["gates", "values"] (defScope s_law_due) := ⟨rfl, rfl, rfl, by decide +kernel, rfl, by decide +kernel, by decide +kernel⟩
abbrev s_law_asked : Stmt := top 27
theorem sc_law_asked : FnScope ["middle", "values", "raised", "base"] ["middle", "values"] (defScope s_law_asked) := ⟨rfl, rfl, rfl, by decide +kernel, rfl, by decide +kernel, by decide +kernel⟩
abbrev s_law : Stmt := top 28
theorem sc_law : FnScope ["script", "bag", "truths", "names", "moments", "gates", "part", "whole", "some", "k", "values"] ["script"] (defScope s_law) := ⟨rfl, rfl, rfl, by decide +kernel, rfl, by decide +kernel, by decide +kernel⟩
/-- where the defs stand -/
structure Ad where
  a_is_name : Addr
  a_is_integer : Addr
  a_is_bound : Addr
  a_moments_of : Addr
  a_check_listed : Addr
  a_literal_stands : Addr
  a_law_bag : Addr
  a_law_draw : Addr
  a_law_letters : Addr
  a_law_names : Addr
  a_law_integer : Addr
  a_law_literal : Addr
  a_law_holds : Addr
  a_law_gates : Addr
  a_law_values : Addr
  a_law_moments : Addr
  a_law_due : Addr
  a_law_asked : Addr
  a_law : Addr
  tL : Tok
  tS : Tok
  tN : Tok
structure Fd where
  a_is_name : FuncData
  a_is_integer : FuncData
  a_is_bound : FuncData
  a_moments_of : FuncData
  a_check_listed : FuncData
  a_literal_stands : FuncData
  a_law_bag : FuncData
  a_law_draw : FuncData
  a_law_letters : FuncData
  a_law_names : FuncData
  a_law_integer : FuncData
  a_law_literal : FuncData
  a_law_holds : FuncData
  a_law_gates : FuncData
  a_law_values : FuncData
  a_law_moments : FuncData
  a_law_due : FuncData
  a_law_asked : FuncData
  a_law : FuncData
structure TX (K : PySem.W.Frag) (mg : Str → Option Value) (a : Ad) : Prop where
  b_isinstance : mg "isinstance" = none
  b_str : mg "str" = none
  b_int : mg "int" = none
  b_bool : mg "bool" = none
  b_tuple : mg "tuple" = none
  b_list : mg "list" = none
  b_len : mg "len" = none
  b_range : mg "range" = none
  b_sorted : mg "sorted" = none
  b_abs : mg "abs" = none
  b_min : mg "min" = none
  b_all : mg "all" = none
  b_any : mg "any" = none
  b_set : mg "set" = none
  b_dict : mg "dict" = none
  b_repr : mg "repr" = none
  g_LETTERS : mg "LETTERS" = some (.str letters a.tL)
  g_SIGNS : mg "SIGNS" = some (.str signs a.tS)
  g_LONGEST_NAME : mg "LONGEST_NAME" = some (.int 8 a.tN)
  f_is_name : mg "is_name" = some (.ref a.a_is_name)
  k_is_name : PySem.W.keepIn K (.ref a.a_is_name) = true
  f_is_integer : mg "is_integer" = some (.ref a.a_is_integer)
  k_is_integer : PySem.W.keepIn K (.ref a.a_is_integer) = true
  f_is_bound : mg "is_bound" = some (.ref a.a_is_bound)
  k_is_bound : PySem.W.keepIn K (.ref a.a_is_bound) = true
  f_moments_of : mg "moments_of" = some (.ref a.a_moments_of)
  k_moments_of : PySem.W.keepIn K (.ref a.a_moments_of) = true
  f_check_listed : mg "check_listed" = some (.ref a.a_check_listed)
  k_check_listed : PySem.W.keepIn K (.ref a.a_check_listed) = true
  f_literal_stands : mg "literal_stands" = some (.ref a.a_literal_stands)
  k_literal_stands : PySem.W.keepIn K (.ref a.a_literal_stands) = true
  f__law_bag : mg "_law_bag" = some (.ref a.a_law_bag)
  k__law_bag : PySem.W.keepIn K (.ref a.a_law_bag) = true
  f__law_draw : mg "_law_draw" = some (.ref a.a_law_draw)
  k__law_draw : PySem.W.keepIn K (.ref a.a_law_draw) = true
  f__law_letters : mg "_law_letters" = some (.ref a.a_law_letters)
  k__law_letters : PySem.W.keepIn K (.ref a.a_law_letters) = true
  f__law_names : mg "_law_names" = some (.ref a.a_law_names)
  k__law_names : PySem.W.keepIn K (.ref a.a_law_names) = true
  f__law_integer : mg "_law_integer" = some (.ref a.a_law_integer)
  k__law_integer : PySem.W.keepIn K (.ref a.a_law_integer) = true
  f__law_literal : mg "_law_literal" = some (.ref a.a_law_literal)
  k__law_literal : PySem.W.keepIn K (.ref a.a_law_literal) = true
  f__law_holds : mg "_law_holds" = some (.ref a.a_law_holds)
  k__law_holds : PySem.W.keepIn K (.ref a.a_law_holds) = true
  f__law_gates : mg "_law_gates" = some (.ref a.a_law_gates)
  k__law_gates : PySem.W.keepIn K (.ref a.a_law_gates) = true
  f__law_values : mg "_law_values" = some (.ref a.a_law_values)
  k__law_values : PySem.W.keepIn K (.ref a.a_law_values) = true
  f__law_moments : mg "_law_moments" = some (.ref a.a_law_moments)
  k__law_moments : PySem.W.keepIn K (.ref a.a_law_moments) = true
  f__law_due : mg "_law_due" = some (.ref a.a_law_due)
  k__law_due : PySem.W.keepIn K (.ref a.a_law_due) = true
  f__law_asked : mg "_law_asked" = some (.ref a.a_law_asked)
  k__law_asked : PySem.W.keepIn K (.ref a.a_law_asked) = true
  f_law : mg "law" = some (.ref a.a_law)
  k_law : PySem.W.keepIn K (.ref a.a_law) = true
structure FDS (K : PySem.W.Frag) (a : Ad) (d : Fd) : Prop where
  F_is_name : Fun K "is_name" "is_name" s_is_name a.a_is_name d.a_is_name
  B_is_name : Binds K d.a_is_name ["value"] []
  F_is_integer : Fun K "is_integer" "is_integer" s_is_integer a.a_is_integer d.a_is_integer
  B_is_integer : Binds K d.a_is_integer ["value"] []
  F_is_bound : Fun K "is_bound" "is_bound" s_is_bound a.a_is_bound d.a_is_bound
  B_is_bound : Binds K d.a_is_bound ["value"] []
  F_moments_of : Fun K "moments_of" "moments_of" s_moments_of a.a_moments_of d.a_moments_of
  B_moments_of : Binds K d.a_moments_of ["literals"] []
  F_check_listed : Fun K "check_listed" "check_listed" s_check_listed a.a_check_listed d.a_check_listed
  B_check_listed : Binds K d.a_check_listed ["moments", "values"] []
  F_literal_stands : Fun K "literal_stands" "literal_stands" s_literal_stands a.a_literal_stands d.a_literal_stands
  B_literal_stands : Binds K d.a_literal_stands ["literal", "names", "table"] []
  F__law_bag : Fun K "_law_bag" "_law_bag" s_law_bag a.a_law_bag d.a_law_bag
  B__law_bag : Binds K d.a_law_bag ["script", "k"] []
  F__law_draw : Fun K "_law_draw" "_law_draw" s_law_draw a.a_law_draw d.a_law_draw
  B__law_draw : Binds K d.a_law_draw ["bag", "size"] []
  F__law_letters : Fun K "_law_letters" "_law_letters" s_law_letters a.a_law_letters d.a_law_letters
  B__law_letters : Binds K d.a_law_letters ["bag", "count"] []
  F__law_names : Fun K "_law_names" "_law_names" s_law_names a.a_law_names d.a_law_names
  B__law_names : Binds K d.a_law_names ["bag"] []
  F__law_integer : Fun K "_law_integer" "_law_integer" s_law_integer a.a_law_integer d.a_law_integer
  B__law_integer : Binds K d.a_law_integer ["bag"] []
  F__law_literal : Fun K "_law_literal" "_law_literal" s_law_literal a.a_law_literal d.a_law_literal
  B__law_literal : Binds K d.a_law_literal ["bag", "truths", "moments"] []
  F__law_holds : Fun K "_law_holds" "_law_holds" s_law_holds a.a_law_holds d.a_law_holds
  B__law_holds : Binds K d.a_law_holds ["literal", "values"] []
  F__law_gates : Fun K "_law_gates" "_law_gates" s_law_gates a.a_law_gates d.a_law_gates
  B__law_gates : Binds K d.a_law_gates ["bag", "truths", "moments"] []
  F__law_values : Fun K "_law_values" "_law_values" s_law_values a.a_law_values d.a_law_values
  B__law_values : Binds K d.a_law_values ["bag", "truths", "moments", "gates"] []
  F__law_moments : Fun K "_law_moments" "_law_moments" s_law_moments a.a_law_moments d.a_law_moments
  B__law_moments : Binds K d.a_law_moments ["gates"] []
  F__law_due : Fun K "_law_due" "_law_due" s_law_due a.a_law_due d.a_law_due
  B__law_due : Binds K d.a_law_due ["gates", "values"] []
  F__law_asked : Fun K "_law_asked" "_law_asked" s_law_asked a.a_law_asked d.a_law_asked
  B__law_asked : Binds K d.a_law_asked ["middle", "values"] []
  F_law : Fun K "law" "law" s_law a.a_law d.a_law
  B_law : Binds K d.a_law ["script"] []

def spD (pre : PyData → Prop) (F : PyData → Bool) (K : PySem.W.Frag) : Sp := fun vs H Q _ => ∃ v d, vs = [v] ∧ Dp K H v d ∧ pre d ∧ ∀ H', Ex H H' → Q (.bl (F d)) H'
def spIsName (K : PySem.W.Frag) : Sp := spD szS isNameD K
def spIsInt (K : PySem.W.Frag) : Sp := spD (fun _ => True) isIntD K
def spIsBound (K : PySem.W.Frag) : Sp := spD szD isBoundD K
theorem iteT' {c : Bool} {A B : Prop} (hc : c = true) (h : A) : if c = true then A else B := by
  rw [if_pos hc]
  exact h
theorem ex_q {H H1 : Hp} {Q : VK} {b : Bool} (q : ∀ H', Ex H H' → Q (.bl b) H') {c : Bool} (e : b = c) (x : Ex H H1) : Q (.bl c) H1 := by
  rw [← e]
  exact q H1 x

section
variable {P : Program} {w : World} {K : PySem.W.Frag} {mg : Str → Option Value} {base : Heap} {a : Ad} {d : Fd}
theorem strip_all (z y : Str) : (Txt.stripChars z y = (⟨#[]⟩ : Str)) ↔ ∀ c ∈ z.cps.toList, c ∈ y.cps.toList := by
  have e0 : Txt.stripChars z y = Builtin.Str.strSub z (stripLo y.cps.contains true z) (stripHi y.cps.contains true z (stripLo y.cps.contains true z)) := PyProof.Rows.stripBy_eq _ _ _ _
  obtain ⟨l1, l2, l3⟩ := PyProof.Rows.lo_facts y.cps.contains z
  rw [e0]
  generalize stripLo y.cps.contains true z = lo at l1 l2 l3
  obtain ⟨h1, h2, h3, _⟩ := PyProof.Rows.hi_facts y.cps.contains z lo l1
  generalize stripHi y.cps.contains true z lo = hi at h1 h2 h3
  have hlen : z.cps.toList.length = z.length := by show _ = z.cps.size; simp
  have hin : ∀ c, y.cps.contains c = true ↔ c ∈ y.cps.toList := fun c => by rw [Array.contains_iff_mem]; simp
  have hk : ∀ k, k < z.length → ∃ c, z.cps.toList[k]? = some c ∧ z.cps.getD k 0 = c := fun k h => by
    have h' : k < z.cps.toList.length := by omega
    refine ⟨z.cps.toList[k], by simp, ?_⟩
    rw [← PyProof.Rows.getD_list]
    rw [List.getD, List.getElem?_eq_getElem h']; rfl
  constructor
  · intro h c hc
    have hd : (Builtin.Str.strSub z lo hi).cps.toList = [] := by rw [h]
    have hl : hi ≤ lo := by
      have := congrArg List.length hd
      rw [PySem.StrLaws.strSub_toList, List.length_take, List.length_drop, List.length_nil] at this
      omega
    obtain ⟨k, hk1, hk2⟩ := List.mem_iff_getElem.mp hc
    rw [hlen] at hk1
    obtain ⟨c', e1, e2⟩ := hk k hk1
    have : c' = c := by
      rw [List.getElem?_eq_getElem (by omega)] at e1
      rw [← hk2]
      exact (Option.some.inj e1).symm
    subst this
    rw [← hin, ← e2]
    by_cases hlo : k < lo
    · exact l2 k hlo
    · exact h3 k (by omega) hk1
  · intro h
    have hlo : lo = z.length := by
      rcases l3 with l3 | l3
      · exact l3
      · by_cases hb : lo < z.length
        · obtain ⟨c, e1, e2⟩ := hk lo hb
          rw [e2] at l3
          have := (hin c).mpr (h c (List.mem_of_getElem? e1))
          rw [this] at l3
          cases l3
        · omega
    have : hi = lo := by omega
    subst this
    have hd : (Builtin.Str.strSub z hi hi).cps.toList = [] := by rw [PySem.StrLaws.strSub_toList]; simp
    have : (Builtin.Str.strSub z hi hi).cps = #[] := by
      apply Array.ext'
      rw [hd]
    show (⟨(Builtin.Str.strSub z hi hi).cps⟩ : Str) = _
    rw [this]
theorem ok_is_name (T : TX K mg a) (D : FDS K a d) : FnOk P w K mg base CX0 1 a.a_is_name d.a_is_name ["value"] (spIsName K) := by
  refine D.F_is_name.ok sc_is_name (fun vs H Q E h => ?_) (fun cdv A outer s H vs Q E hr h => ?_)
  · obtain ⟨v, d, rfl, _⟩ := h
    rfl
  · obtain ⟨v, d, rfl, hd, hz, q⟩ := h
    refine ⟨_, (pss_cons (ps_if (PW.pt (pw_or (pt_not (pt_val (pe_callB call_isi (by rfl) T.b_isinstance (by decide +kernel) (pa_cons (pv 0) (pa_cons (pe_bltn (v := .ty "str") (by rfl) T.b_str (by decide +kernel) rfl) pa_nil))))) (pw_or1 (pt_not (pt_chain op_le op_le pe_int (pe_callB call_len_str (by rfl) T.b_len (by decide +kernel) (pa_cons (pv 0) pa_nil)) (pe_glob (v := .int 8) rfl T.g_LONGEST_NAME ⟨_, rfl⟩)))))) (pss_one (ps_ret pe_bl)) pss_nil)
        (pss_one (ps_ret (pe_and (pe_cmpR op_in_sign (pe_ix ix_str (pv 0) pe_int (fun _ _ => rfl)) (pe_glob (v := .str letters) rfl T.g_LETTERS ⟨_, rfl⟩) rfl) (pe_one (pe_cmpR op_eq (pe_m1 PySem.F.slot_str_strip PySem.F.type_str_strip mt_stripChars (pv 0) (pe_glob (v := .str signs) rfl T.g_SIGNS ⟨_, rfl⟩)) pe_str (nomark _))))))), ?_⟩
    refine ⟨_, rfl, v, _, _, _, _, rfl, .ty "str", dp_ty hd, kit_str d, _, rfl, ?_⟩
    cases hd with
    | str z =>
      have hz : z.length ≤ sizeLine := hz
      have hlen : z.cps.toList.length = z.length := by show _ = z.cps.size; simp
      refine ⟨_, rfl, z, rfl, hz, 1, _, rfl, rfl, _, rfl, ?_⟩
      by_cases h1 : (1 : Int) ≤ (z.length : Int)
      · rw [decide_eq_true h1]
        refine ⟨_, 8, rfl, rfl, _, rfl, ?_⟩
        by_cases h2 : (z.length : Int) ≤ 8
        · rw [decide_eq_true h2]
          obtain ⟨c, cs, hc⟩ : ∃ c cs, z.cps.toList = c :: cs := by
            cases e : z.cps.toList with
            | nil =>
              rw [e] at hlen
              simp at hlen
              omega
            | cons c cs => exact ⟨c, cs, rfl⟩
          refine ⟨_, rfl, z, 0, c, rfl, rfl, hz, at_lit (n := 0) rfl (show z.cps.toList[0]? = some c by rw [hc]; rfl), c, letters, rfl, rfl, _, rfl, ?_⟩
          have hv : isNameS z = (decide (c ∈ letters.cps.toList) && z.cps.toList.all fun c => decide (c ∈ signs.cps.toList)) := by
            unfold isNameS
            rw [decide_eq_true (show 1 ≤ z.length ∧ z.length ≤ 8 by omega), hc]
            rfl
          by_cases h3 : c ∈ letters.cps.toList
          · rw [decide_eq_true h3]
            refine iteT ⟨_, rfl, ⟨_, rfl⟩, z, signs, rfl, rfl, hz, rfl, ex_q q ?_ (Ex.refl _)⟩
            show isNameS z = decide (V.str (Txt.stripChars z signs) = V.str (⟨#[]⟩ : Str))
            rw [hv, decide_eq_true h3]
            apply Bool.eq_iff_iff.mpr
            rw [Bool.true_and, decide_eq_true_eq, List.all_eq_true]
            refine ⟨fun g => ?_, fun g => ?_⟩
            · rw [(strip_all z signs).mpr fun c h => of_decide_eq_true (g c h)]
            · intro c h
              exact decide_eq_true ((strip_all z signs).mp (V.str.inj g) c h)
          · rw [decide_eq_false h3]
            exact iteF (ex_q q (show isNameS z = false by rw [hv, decide_eq_false h3]; rfl) (Ex.refl _))
        · rw [decide_eq_false h2]
          refine ex_q q (show isNameS z = false from ?_) (Ex.refl _)
          unfold isNameS
          rw [decide_eq_false (show ¬ (1 ≤ z.length ∧ z.length ≤ 8) by omega)]
          rfl
      · rw [decide_eq_false h1]
        refine ⟨false, rfl, ex_q q (show isNameS z = false from ?_) (Ex.refl _)⟩
        unfold isNameS
        rw [decide_eq_false (show ¬ (1 ≤ z.length ∧ z.length ≤ 8) by omega)]
        rfl
    | _ => exact q H (Ex.refl _)
theorem ok_is_integer (T : TX K mg a) (D : FDS K a d) : FnOk P w K mg base CX0 1 a.a_is_integer d.a_is_integer ["value"] (spIsInt K) := by
  refine D.F_is_integer.ok sc_is_integer (fun vs H Q E h => ?_) (fun cdv A outer s H vs Q E hr h => ?_)
  · obtain ⟨v, d, rfl, _⟩ := h
    rfl
  · obtain ⟨v, d, rfl, hd, _, q⟩ := h
    refine ⟨_, (pss_one (ps_ret (pe_and (pe_callB call_isi (by rfl) T.b_isinstance (by decide +kernel) (pa_cons (pv 0) (pa_cons (pe_bltn (v := .ty "int") (by rfl) T.b_int (by decide +kernel) rfl) pa_nil))) (pe_one (pe_not (pe_callB call_isi (by rfl) T.b_isinstance (by decide +kernel) (pa_cons (pv 0) (pa_cons (pe_bltn (v := .ty "bool") (by rfl) T.b_bool (by decide +kernel) rfl) pa_nil)))))))), ?_⟩
    refine ⟨_, rfl, v, _, _, _, _, rfl, .ty "int", dp_ty hd, kit_int d, _, rfl, ?_⟩
    cases e : isIntLikeD d with
    | false => exact iteF (ex_q q (by show (isIntLikeD d && _) = false; rw [e]; rfl) (Ex.refl _))
    | true =>
      refine iteT ⟨_, rfl, v, _, _, _, _, rfl, .ty "bool", dp_ty hd, kit_bool d, _, rfl, ?_⟩
      exact ex_q q (by show (isIntLikeD d && _) = _; rw [e]; rfl) (Ex.refl _)
theorem ok_is_bound (T : TX K mg a) (D : FDS K a d) : FnOk P w K mg base CX0 2 a.a_is_bound d.a_is_bound ["value"] (spIsBound K) := by
  have G_is_name : FnOk P w K mg base CX0 1 a.a_is_name d.a_is_name ["value"] (spIsName K) := ok_is_name T D
  have G_is_integer : FnOk P w K mg base CX0 1 a.a_is_integer d.a_is_integer ["value"] (spIsInt K) := ok_is_integer T D
  refine D.F_is_bound.ok sc_is_bound (fun vs H Q E h => ?_) (fun cdv A outer s H vs Q E hr h => ?_)
  · obtain ⟨v, d, rfl, _⟩ := h
    rfl
  · obtain ⟨v, d, rfl, hd, hz, q⟩ := h
    refine ⟨_, (pss_cons (ps_if (PW.pt (pw_or (pt_not (pt_val (pe_callB call_isi (by rfl) T.b_isinstance (by decide +kernel) (pa_cons (pv 0) (pa_cons (pe_bltn (v := .ty "tuple") (by rfl) T.b_tuple (by decide +kernel) rfl) pa_nil))))) (pw_or1 (pt_cmpR op_ne (pe_callB call_len_seq (by rfl) T.b_len (by decide +kernel) (pa_cons (pv 0) pa_nil)) pe_int (nomark _))))) (pss_one (ps_ret pe_bl)) pss_nil)
        (pss_cons (ps_asg (pv 0) (pg_tup rfl (pgs_cons (pg_name (i := 1) sc_is_bound.nd rfl (Or.inl rfl)) (pgs_cons (pg_name (i := 2) sc_is_bound.nd rfl (Or.inl rfl)) (pgs_cons (pg_name (i := 3) sc_is_bound.nd rfl (Or.inl rfl)) (pgs_cons (pg_name (i := 4) sc_is_bound.nd rfl (Or.inl rfl)) pgs_nil))))))
        (pss_cons (ps_if (PW.pt (pw_or (pt_not (pt_val (pe_callB call_isi (by rfl) T.b_isinstance (by decide +kernel) (pa_cons (pv 1) (pa_cons (pe_bltn (v := .ty "str") (by rfl) T.b_str (by decide +kernel) rfl) pa_nil))))) (pw_or1 (pt_cmpR op_ne (pv 1) pe_str (nomark _))))) (pss_one (ps_ret pe_bl)) pss_nil)
        (pss_one (ps_ret (pe_and (pe_call G_is_name (hr.mono (by decide)) rfl T.f_is_name T.k_is_name D.B_is_name .nil pass0 (pa_cons (pv 2) pa_nil)) (pe_and (pe_call G_is_name (hr.mono (by decide)) rfl T.f_is_name T.k_is_name D.B_is_name .nil pass0 (pa_cons (pv 3) pa_nil)) (pe_and (pe_cmpR op_ne (pv 2) (pv 3) (nomark _)) (pe_one (pe_call G_is_integer (hr.mono (by decide)) rfl T.f_is_integer T.k_is_integer D.B_is_integer .nil pass0 (pa_cons (pv 4) pa_nil))))))))))), ?_⟩
    refine ⟨_, rfl, v, _, _, _, _, rfl, .ty "tuple", dp_ty hd, kit_tuple d, _, rfl, ?_⟩
    cases hd with
    | @tup a xs ds ha hall =>
      have hl := DpAll.len hall
      refine ⟨_, rfl, a, xs, rfl, .inr ha, rfl, _, rfl, ?_⟩
      by_cases h4 : xs.length = 4
      · refine iteNS (by rw [h4]; rfl) ?_
        obtain ⟨v1, v2, v3, v4, rfl⟩ : ∃ v1 v2 v3 v4, xs = [v1, v2, v3, v4] := by
          match xs, h4 with
          | [v1, v2, v3, v4], _ => exact ⟨v1, v2, v3, v4, rfl⟩
        cases hall with
        | cons g1 r1 =>
        cases r1 with
        | cons g2 r2 =>
        cases r2 with
        | cons g3 r3 =>
        cases r3 with
        | cons g4 r4 =>
        cases r4
        rename_i d1 d2 d3 d4
        have z2 : szS d2 := hz d2 (by simp)
        have z3 : szS d3 := hz d3 (by simp)
        refine ⟨_, rfl, a, _, rfl, ha, rfl, _, _, rfl, _, _, rfl, _, _, rfl, _, _, rfl, rfl, ?_⟩
        refine ⟨_, rfl, v1, _, _, _, _, rfl, .ty "str", dp_ty g1, kit_str d1, _, rfl, ?_⟩
        cases g1 with
        | str wd =>
          refine ⟨_, rfl, rfl, _, rfl, ?_⟩
          by_cases hw : wd = ("most" : Str)
          · refine iteNS (by rw [hw]) ?_
            subst hw
            -- is_name(first) and is_name(second) and first != second and is_integer(limit)
            refine ⟨_, rfl, v2, d2, rfl, g2, z2, fun H1 e1 => ⟨_, rfl, ?_⟩⟩
            cases e2 : isNameD d2 with
            | false => exact iteF (ex_q q (by rw [isBound4, e2]; simp) e1)
            | true =>
              refine iteT ⟨_, rfl, v3, d3, rfl, Dp.ex e1 g3, z3, fun H2 e3 => ⟨_, rfl, ?_⟩⟩
              cases g2 with
              | str x =>
                have e2' : isNameS x = true := e2
                cases e4 : isNameD d3 with
                | false => exact iteF (ex_q q (by rw [isBound4, e4]; simp) (e1.trans e3))
                | true =>
                  cases g3 with
                  | str y =>
                    have e4' : isNameS y = true := e4
                    refine iteT ⟨_, rfl, _, rfl, rfl, _, rfl, ?_⟩
                    by_cases hxy : x = y
                    · subst hxy
                      have e5 : decide (V.str x = V.str x) = true := decide_eq_true rfl
                      rw [e5]
                      exact iteF (ex_q q (by rw [isBound4, show sameD (.str x) (.str x) = true from decide_eq_true rfl]; simp) (e1.trans e3))
                    · have e5 : decide (V.str x = V.str y) = false := decide_eq_false fun z => hxy (V.str.inj z)
                      rw [e5]
                      refine iteT ⟨_, rfl, v4, d4, rfl, Dp.ex (e1.trans e3) g4, trivial, fun H3 e6 => ?_⟩
                      refine ex_q q ?_ ((e1.trans e3).trans e6)
                      rw [isBound4, e2, e4, show sameD (.str x) (.str y) = false from decide_eq_false hxy, (by simp [isMostD] : isMostD (.str ("most" : Str)) = true)]
                      rfl
                  | _ => cases e4
              | _ => cases e2
          · refine iteT' ?_ (ex_q q ?_ (Ex.refl _))
            · have e5 : decide (V.str wd = V.str ("most" : Str)) = false := decide_eq_false fun z => hw (V.str.inj z)
              rw [e5]
              rfl
            · rw [isBound4, show isMostD (.str wd) = false from decide_eq_false hw]
              rfl
        | _ => exact ex_q q rfl (Ex.refl _)
      · refine iteT' ?_ (ex_q q ?_ (Ex.refl _))
        · have e5 : decide (V.int (xs.length : Nat) = V.int 4) = false := decide_eq_false fun z => h4 (by have := V.int.inj z; omega)
          rw [e5]
          rfl
        · have l4 : ds.length ≠ 4 := by omega
          show isBoundD (.tuple ds) = false
          match ds, l4 with
          | [], _ => rfl
          | [_], _ => rfl
          | [_, _], _ => rfl
          | [_, _, _], _ => rfl
          | [_, _, _, _], h => exact absurd rfl h
          | _ :: _ :: _ :: _ :: _ :: _, _ => rfl
    | _ => exact ex_q q rfl (Ex.refl _)
end
end E5
set_option maxRecDepth 100000
set_option maxHeartbeats 4000000
namespace E5
open PySem L2 Evl GP HR SC
inductive Lit where
  | yn (b : Bool) (x : Str)
  | most (x y : Str) (k : Int)
deriving DecidableEq
def ynS (b : Bool) : Str := if b = true then "yes" else "no"
def litD : Lit → PyData
  | .yn b x => .tuple [.str (ynS b), .str x]
  | .most x y k => .tuple [.str "most", .str x, .str y, .int k]
def litV : Lit → List V
  | .yn b x => [.str (ynS b), .str x]
  | .most x y k => [.str "most", .str x, .str y, .int k]
def LitOk : Lit → Prop
  | .yn _ x => isNameS x = true
  | .most x y k => isNameS x = true ∧ isNameS y = true ∧ x ≠ y ∧ -(2 ^ 300) ≤ k ∧ k < 2 ^ 300
def oppL : Lit → Lit
  | .yn b x => .yn (!b) x
  | .most x y k => .most y x (-k - 1)
def ltS (x y : Str) : Bool := decide (x.cps.toList < y.cps.toList)
def atomL : Lit → Lit
  | .yn _ x => .yn true x
  | .most x y k => if ltS x y = true then .most x y k else .most y x (-k - 1)
theorem lit_dp {K : PySem.W.Frag} {H : Hp} {p : Addr} {l : Lit} (h : SqT K H p (litV l)) : Dp K H (.ref p) (litD l) := by
  cases l with
  | yn b x => exact .tup h (.cons (.str _) (.cons (.str _) .nil))
  | most x y k => exact .tup h (.cons (.str _) (.cons (.str _) (.cons (.str _) (.cons (.int _) .nil))))
theorem name_len {x : Str} (h : isNameS x = true) : x.length ≤ 8 := by
  unfold isNameS at h
  have := of_decide_eq_true (Bool.and_eq_true_iff.mp h).1
  exact this.2
theorem lit_sz {l : Lit} (h : LitOk l) : szD (litD l) := by
  cases l with
  | yn b x =>
    have := name_len h
    intro d hd
    simp only [List.mem_cons, List.not_mem_nil, or_false] at hd
    rcases hd with rfl | rfl
    · show (ynS b).length ≤ sizeLine
      cases b <;> decide +kernel
    · exact Nat.le_trans this (by decide)
  | most x y k =>
    obtain ⟨h1, h2, _⟩ := h
    intro d hd
    simp only [List.mem_cons, List.not_mem_nil, or_false] at hd
    rcases hd with rfl | rfl | rfl | rfl
    · show ("most" : Str).length ≤ sizeLine
      decide +kernel
    · exact Nat.le_trans (name_len h1) (by decide)
    · exact Nat.le_trans (name_len h2) (by decide)
    · exact True.intro
theorem bound_lit {l : Lit} (h : LitOk l) : isBoundD (litD l) = match l with | .yn _ _ => false | .most _ _ _ => true := by
  cases l with
  | yn b x => rfl
  | most x y k =>
    obtain ⟨h1, h2, h3, _⟩ := h
    show isBoundD (.tuple [.str "most", .str x, .str y, .int k]) = true
    rw [isBound4, show isNameD (.str x) = true from h1, show isNameD (.str y) = true from h2, show sameD (.str x) (.str y) = false from decide_eq_false h3, (by simp [isMostD] : isMostD (.str ("most" : Str)) = true)]
    rfl
theorem iteF' {c : Bool} {A B : Prop} (hc : c = false) (h : B) : if c = true then A else B := by
  rw [hc, if_neg Bool.false_ne_true]
  exact h
/-- the values are literals, each its own tuple -/
structure Lits (H : Hp) (vs : List V) (ls : List Lit) : Prop where
  len : vs.length = ls.length
  at_ : ∀ (i : Nat) (l : Lit), ls[i]? = some l → ∃ t, vs[i]? = some (.ref t) ∧ H t = some (.tup (litV l))
theorem Lits.nil {H : Hp} : Lits H [] [] := ⟨rfl, fun i q h => by simp at h⟩
theorem Lits.ex {H H' : Hp} {vs : List V} {ls : List Lit} (A : Lits H vs ls) (e : Ex H H') : Lits H' vs ls := ⟨A.len, fun i q h => by
  obtain ⟨t, h1, h2⟩ := A.at_ i q h
  exact ⟨t, h1, e _ _ h2⟩⟩
theorem Lits.dp {K : PySem.W.Frag} {H : Hp} : ∀ {vs : List V} {ls : List Lit}, Lits H vs ls → DpAll K H vs (ls.map litD)
  | [], [], _ => .nil
  | [], _ :: _, A => by have := A.len; simp at this
  | _ :: _, [], A => by have := A.len; simp at this
  | v :: vs, l :: ls, A => by
    obtain ⟨t, h1, h2⟩ := A.at_ 0 l rfl
    obtain rfl : v = .ref t := Option.some.inj h1
    exact .cons (lit_dp (SqT.of h2)) (Lits.dp ⟨by have := A.len; simpa using this, fun i r g => A.at_ (i + 1) r g⟩)
theorem name_low {x : Str} (h : isNameS x = true) : ∀ c ∈ x.cps.toList, c < 16 ^ 8 := by
  unfold isNameS at h
  have h2 := (Bool.and_eq_true_iff.mp (Bool.and_eq_true_iff.mp h).2).2
  have h3 : ∀ c ∈ signs.cps.toList, c < 16 ^ 8 := by decide +kernel
  exact fun c hc => h3 c (of_decide_eq_true (List.all_eq_true.mp h2 c hc))
theorem rp_name {x : Str} (h : isNameS x = true) : Rp 0 2000 (.str x) := (Rp.str (name_low h)).mono (Nat.le_refl _) (by have := name_len h; omega)
theorem rp_lit {l : Lit} (h : LitOk l) : Rp 1 8010 (litD l) := by
  cases l with
  | yn b x =>
    refine (Rp.tuple (n := 0) (c := 2000) fun d hd => ?_).mono (Nat.le_refl _) (by show 2 * 2002 + 2 ≤ _; decide)
    simp only [List.mem_cons, List.not_mem_nil, or_false] at hd
    rcases hd with rfl | rfl
    · refine (Rp.str ?_).mono (Nat.le_refl _) ?_ <;> cases b <;> decide +kernel
    · exact rp_name h
  | most x y k =>
    obtain ⟨h1, h2, _, h3, h4⟩ := h
    refine (Rp.tuple (n := 0) (c := 2000) fun d hd => ?_).mono (Nat.le_refl _) (by show 4 * 2002 + 2 ≤ _; decide)
    simp only [List.mem_cons, List.not_mem_nil, or_false] at hd
    rcases hd with rfl | rfl | rfl | rfl
    · refine (Rp.str ?_).mono (Nat.le_refl _) ?_ <;> decide +kernel
    · exact rp_name h1
    · exact rp_name h2
    · have lg : k.natAbs.log2 < 301 := PySem.Flt.log2_lt_of (by decide) (by omega)
      exact (Rp.int (Nat.lt_trans lg (by decide))).mono (Nat.le_refl _) (by decide)
theorem rp_lits {ls : List Lit} (h : ∀ l ∈ ls, LitOk l) (few : ls.length ≤ 1000) : Rp 2 8012002 (.tuple (ls.map litD)) ∧ Rp 2 8012002 (.list (ls.map litD)) := by
  have g : ∀ d ∈ ls.map litD, Rp 1 8010 d := fun d hd => by
    obtain ⟨l, hl, rfl⟩ := List.mem_map.mp hd
    exact rp_lit (h l hl)
  exact ⟨(Rp.tuple g).mono (Nat.le_refl _) (by rw [List.length_map]; omega), (Rp.list g).mono (Nat.le_refl _) (by rw [List.length_map]; omega)⟩
theorem Lits.get {H : Hp} {vs : List V} {ls : List Lit} (A : Lits H vs ls) {i : Nat} {v : V} (h : vs[i]? = some v) : ∃ t l, v = .ref t ∧ ls[i]? = some l ∧ H t = some (.tup (litV l)) := by
  have hi : i < ls.length := by rw [← A.len]; exact (List.getElem?_eq_some_iff.mp h).1
  obtain ⟨t, h1, h2⟩ := A.at_ i ls[i] (List.getElem?_eq_getElem hi)
  exact ⟨t, ls[i], Option.some.inj (h.symm.trans h1), List.getElem?_eq_getElem hi, h2⟩

theorem sl_tupK {X : Cx} {K : PySem.W.Frag} (h : X.K = K := by rfl) : SlR X (rSlA K) := by
  subst h
  exact sl_tupA
theorem pi_tupK {X : Cx} {K : PySem.W.Frag} {tg l : Expr} {tl : TE} (he : PE X l tl) (h : X.K = K := by rfl) : PI X tg l (iTup K tl) := by
  subst h
  exact pi_tup he
def namesOf : Lit → List Str
  | .yn _ _ => []
  | .most x y _ => [x, y]
theorem sub_len : ∀ {l m : List Str}, l.Nodup → (∀ z ∈ l, z ∈ m) → l.length ≤ m.length := by
  intro l
  induction l with
  | nil => exact fun _ _ => Nat.zero_le _
  | cons x l ih =>
    intro m nd h
    obtain ⟨nx, nd'⟩ := List.nodup_cons.mp nd
    have hx := h x List.mem_cons_self
    have := ih (m := m.erase x) nd' fun z hz => (List.mem_erase_of_ne fun e => nx (by rw [← e]; exact hz)).mpr (h z (List.mem_cons_of_mem _ hz))
    rw [List.length_erase_of_mem hx] at this
    have := List.length_pos_of_mem hx
    rw [List.length_cons]
    omega
def spMoments (K : PySem.W.Frag) : Sp := fun vs H Q _ => ∃ (a : Addr) (us : List V) (ls : List Lit) (pool : List Str), vs = [.ref a] ∧ SqL K H a us ∧ Lits H us ls ∧ (∀ l ∈ ls, LitOk l) ∧ pool.length ≤ 50 ∧ (∀ l ∈ ls, ∀ z ∈ namesOf l, z ∈ pool) ∧
  ∀ u ys H', Ex H H' → H' u = some (.tup (ys.map V.str)) → ys.Nodup → PyProof.Rows.sortedS ys = true → (∀ z, z ∈ ys ↔ ∃ l ∈ ls, z ∈ namesOf l) → Q (.ref u) H'
section
variable {P : Program} {w : World} {K : PySem.W.Frag} {mg : Str → Option Value} {base : Heap} {a : Ad} {d : Fd}
theorem ok_moments_of (T : TX K mg a) (D : FDS K a d) : FnOk P w K mg base CX0 3 a.a_moments_of d.a_moments_of ["literals"] (spMoments K) := by
  have G_is_bound : FnOk P w K mg base CX0 2 a.a_is_bound d.a_is_bound ["value"] (spIsBound K) := ok_is_bound T D
  refine D.F_moments_of.ok sc_moments_of (fun vs H Q E h => ?_) (fun cdv A outer s H vs Q E hr h => ?_)
  · obtain ⟨a, us, ls, pool, rfl, _⟩ := h
    rfl
  · obtain ⟨a, us, ls, pool, rfl, ha, L, ok, p50, sub, fin⟩ := h
    refine ⟨_, (pss_one (ps_ret (pe_callTy call_tuple_of (by rfl) T.b_tuple (by decide +kernel) (pa_cons (pe_callB (TSet.cr_sortedX rfl) (by rfl) T.b_sorted (by decide +kernel) (pa_cons (SC.pe_sc2 (own := [("literal", 1), ("name", 2)]) (vs1 := [2]) (g := gName 1) (g1 := gName 2) (tt1 := tYes) rfl sc_moments_of.nd (pi_list (pv 0)) (blkOk_by (N := ["literals", "literal", "name"]) (sc := defScope s_moments_of) (by decide +kernel)) (by decide) (fun _ _ _ _ _ => (pg_name (i := 1) sc_moments_of.nd rfl (Or.inl rfl))) (fun _ _ _ _ _ => (pts_one (pt_val (pe_call G_is_bound (hr.mono (by decide)) rfl T.f_is_bound T.k_is_bound D.B_is_bound .nil pass0 (pa_cons (pv 1) pa_nil))))) (fun _ _ _ _ _ => (pi_tupK (K := K) (pe_slice (sl_tupK (K := K)) (pv 1) (po_some pe_int) (po_some pe_int)))) (fun _ _ _ _ _ => (pg_name (i := 2) sc_moments_of.nd rfl (Or.inl rfl))) (fun _ _ _ _ _ => pts_nil) (fun _ _ _ _ _ => (pv 2))) pa_nil)) pa_nil)))), ?_⟩
    have lu := L.len
    refine ⟨_, rfl, a, rfl, ⟨_, ha⟩, fun D1 hD1 => ⟨fun i m H' => m = us.length - i ∧ i ≤ us.length ∧ Ex H H' ∧ ∃ l : List Str, H' D1 = some (TSet.SetX P w D1 l) ∧ l.Nodup ∧ ∀ z, z ∈ l ↔ ∃ q ∈ ls.take i, z ∈ namesOf q, ⟨_, rfl, Nat.zero_le _, Ex.new hD1, [], upd_same, List.nodup_nil, fun z => by simp⟩, ?_⟩⟩
    rintro i m H2 ⟨rfl, hi, e2, l, hl, nd, ml⟩
    have small : ∀ (l : List Str) (i : Nat), l.Nodup → (∀ z ∈ l, ∃ q ∈ ls, z ∈ namesOf q) → l.length ≤ 50 := fun l i nd h => Nat.le_trans (sub_len nd fun z hz => by
      obtain ⟨q, hq, hz⟩ := h z hz
      exact sub q hq z hz) p50
    rcases Nat.lt_or_eq_of_le hi with lt | rfl
    · refine .inr ⟨walk_list.goes i H2 lt (ex_l e2 ha), fun H' => Ex H H' ∧ ∃ l : List Str, H' D1 = some (TSet.SetX P w D1 l) ∧ l.Nodup ∧ ∀ z, z ∈ l ↔ ∃ q ∈ ls.take (i + 1), z ∈ namesOf q, fun H' h => ⟨_, by omega, rfl, lt, h⟩, fun v H3 hy => ?_⟩
      obtain ⟨rfl, hv⟩ := walk_list.yields i H2 v H3 lt (ex_l e2 ha) hy
      obtain ⟨t, q, rfl, hq, ht⟩ := L.get hv
      have okq := ok q (List.mem_of_getElem? hq)
      have tk : ls.take (i + 1) = ls.take i ++ [q] := by rw [List.take_add_one, hq]; rfl
      have mq : ∀ z, (∃ r ∈ ls.take (i + 1), z ∈ namesOf r) ↔ (∃ r ∈ ls.take i, z ∈ namesOf r) ∨ z ∈ namesOf q := fun z => by
        rw [tk]
        constructor
        · rintro ⟨r, hr, h⟩
          rcases List.mem_append.mp hr with hr | hr
          · exact .inl ⟨r, hr, h⟩
          · rw [List.mem_singleton.mp hr] at h
            exact .inr h
        · rintro (⟨r, hr, h⟩ | h)
          · exact ⟨r, List.mem_append_left _ hr, h⟩
          · exact ⟨q, List.mem_append_right _ (List.mem_singleton.mpr rfl), h⟩
      unfold gName
      dsimp only
      refine ⟨rfl, _, rfl, .ref t, litD q, rfl, lit_dp (SqT.of (e2 _ _ ht)), lit_sz okq, fun H4 e4 => ⟨_, rfl, ?_⟩⟩
      rw [bound_lit okq]
      cases q with
      | yn b x => exact iteF' rfl ⟨e2.trans e4, l, e4 _ _ hl, nd, fun z => by rw [mq z, ml z]; simp [namesOf]⟩
      | most x y k =>
        refine iteT' rfl ⟨_, rfl, 1, rfl, 3, rfl, t, _, rfl, SqT.of (e4 _ _ (e2 _ _ ht)), fun z => absurd z.1 (by decide : ¬ (HT.sIx 4 0 (some 1) = 0)), fun _ p2 hp2 => ?_⟩
        have x2 := Ex.new (o := .tup [.str x, .str y]) hp2
        have h2 : upd H4 p2 (.tup (cutV (litV (.most x y k)) (some 1) (some 3))) p2 = some (.tup [.str x, .str y]) := upd_same
        have xx : Ex H (upd H4 p2 (.tup (cutV (litV (.most x y k)) (some 1) (some 3)))) := (e2.trans e4).trans x2
        have hl4 : upd H4 p2 (.tup (cutV (litV (.most x y k)) (some 1) (some 3))) D1 = some (TSet.SetX P w D1 l) := x2 _ _ (e4 _ _ hl)
        generalize upd H4 p2 (.tup (cutV (litV (.most x y k)) (some 1) (some 3))) = H5 at *
        refine ⟨p2, rfl, ⟨_, SqT.of h2⟩, fun j m H' => m = 2 - j ∧ j ≤ 2 ∧ Ex H H' ∧ H' p2 = some (.tup [.str x, .str y]) ∧ ∃ l : List Str, H' D1 = some (TSet.SetX P w D1 l) ∧ l.Nodup ∧ ∀ z, z ∈ l ↔ (∃ q ∈ ls.take i, z ∈ namesOf q) ∨ z ∈ [x, y].take j, ⟨_, rfl, Nat.zero_le _, xx, h2, l, hl4, nd, fun z => by rw [ml z]; simp⟩, ?_⟩
        rintro j m H6 ⟨rfl, hj, e6, g6, l6, hl6, nd6, ml6⟩
        rcases Nat.lt_or_eq_of_le hj with ltj | rfl
        · refine .inr ⟨(walk_tup (xs := [V.str x, V.str y])).goes j H6 ltj (SqT.of g6), fun H' => Ex H H' ∧ H' p2 = some (.tup [.str x, .str y]) ∧ ∃ l : List Str, H' D1 = some (TSet.SetX P w D1 l) ∧ l.Nodup ∧ ∀ z, z ∈ l ↔ (∃ q ∈ ls.take i, z ∈ namesOf q) ∨ z ∈ [x, y].take (j + 1), fun H' h => ⟨_, by omega, rfl, ltj, h⟩, fun v H7 hy => ?_⟩
          obtain ⟨rfl, hv⟩ := (walk_tup (xs := [V.str x, V.str y])).yields j H6 v H7 ltj (SqT.of g6) hy
          obtain ⟨z0, hz0, rfl⟩ : ∃ z0 : Str, [x, y][j]? = some z0 ∧ v = .str z0 := by
            have : j = 0 ∨ j = 1 := by omega
            rcases this with rfl | rfl
            · exact ⟨x, rfl, (Option.some.inj hv).symm⟩
            · exact ⟨y, rfl, (Option.some.inj hv).symm⟩
          unfold tYes
          dsimp only
          refine ⟨rfl, iteT' rfl ⟨_, rfl, l6, z0, rfl, hl6, ?_, fun l' nd' ml' _ => ?_⟩⟩
          · have h50 : l6.length ≤ 50 := Nat.le_trans (sub_len nd6 fun z hz => by
              rcases (ml6 z).mp hz with ⟨r, hr, h⟩ | h
              · exact sub r (List.mem_of_mem_take hr) z h
              · exact sub _ (List.mem_of_getElem? hq) z (List.mem_of_mem_take h)) p50
            omega
          · have nD : p2 ≠ D1 := fun e => by rw [e, hl6] at g6; cases g6
            refine ⟨e6.mut hD1, by rw [upd_ne nD]; exact g6, l', upd_same, nd', fun z => ?_⟩
            rw [ml' z, ml6 z, List.take_add_one, hz0]
            simp only [Option.toList_some, List.mem_append, List.mem_singleton]
            constructor
            · rintro (h | h | h)
              · exact .inr (.inr h)
              · exact .inl h
              · exact .inr (.inl h)
            · rintro (h | h | h)
              · exact .inr (.inl h)
              · exact .inr (.inr h)
              · exact .inl h
        · exact .inl ⟨(walk_tup (xs := [V.str x, V.str y])).stops H6 (SqT.of g6), e6, l6, hl6, nd6, fun z => by rw [ml6 z, mq z]; rfl⟩
    · refine .inl ⟨walk_list.stops H2 (ex_l e2 ha), D1, l, rfl, hl, ?_, fun ys p pm so hp => ⟨p, _, rfl, .inl ⟨SqL.of upd_same, fun u hu => ?_⟩⟩⟩
      · rw [lu, List.take_length] at ml
        have := small l 0 nd fun z hz => (ml z).mp hz
        omega
      · rw [lu, List.take_length] at ml
        exact fin u ys _ (e2.trans ((Ex.new hp).trans (Ex.new hu))) upd_same (pm.nodup_iff.mpr nd) so fun z => by rw [pm.mem_iff, ml z]
end
end E5
set_option maxRecDepth 100000
set_option maxHeartbeats 4000000
namespace E5
open PySem L2 Evl GP HR SC
def holdsL (ns : List Str) (tv : Str → Int) : Lit → Bool
  | .yn b x => decide (decide (x ∈ ns) = b)
  | .most x y k => decide (tv x - tv y ≤ k)
def spStands (K : PySem.W.Frag) : Sp := fun vs H Q _ => ∃ (p n t : Addr) (l : Lit) (ns : List Str) (kvs : List (L2.Key × V)) (tv : Str → Int), vs = [.ref p, .ref n, .ref t] ∧ H p = some (.tup (litV l)) ∧ LitOk l ∧ SqT K H n (ns.map V.str) ∧ H t = some (.dK kvs) ∧ (∀ z ∈ namesOf l, valV kvs (.inr z : L2.Key) = some (.int (tv z))) ∧ ∀ H', Ex H H' → Q (.bl (holdsL ns tv l)) H'
theorem inV_strs {x : Str} {ns : List Str} : inV (.str x) (ns.map V.str) = decide (x ∈ ns) := by
  rw [Bool.eq_iff_iff, decide_eq_true_iff]
  unfold inV
  rw [List.any_map, List.any_eq_true]
  constructor
  · rintro ⟨q, hq, e⟩
    have : (q == x) = true := e
    rw [← eq_of_beq this]
    exact hq
  · exact fun h => ⟨x, h, (beq_self_eq_true x : (x == x) = true)⟩
theorem flat_strs {ns : List Str} : (ns.map V.str).all flatV = true := by
  rw [List.all_map, List.all_eq_true]
  exact fun _ _ => rfl
section
variable {P : Program} {w : World} {K : PySem.W.Frag} {mg : Str → Option Value} {base : Heap} {a : Ad} {d : Fd}
theorem ok_literal_stands (T : TX K mg a) (D : FDS K a d) : FnOk P w K mg base CX0 3 a.a_literal_stands d.a_literal_stands ["literal", "names", "table"] (spStands K) := by
  have G_is_bound : FnOk P w K mg base CX0 2 a.a_is_bound d.a_is_bound ["value"] (spIsBound K) := ok_is_bound T D
  refine D.F_literal_stands.ok sc_literal_stands (fun vs H Q E h => ?_) (fun cdv A outer s H vs Q E hr h => ?_)
  · obtain ⟨p, n, t, l, ns, kvs, tv, rfl, _⟩ := h
    rfl
  · obtain ⟨p, n, t, l, ns, kvs, tv, rfl, hp, okl, hn, ht, hv, fin⟩ := h
    refine ⟨_, (pss_cons (ps_if (pt_val (pe_call G_is_bound (hr.mono (by decide)) rfl T.f_is_bound T.k_is_bound D.B_is_bound .nil pass0 (pa_cons (pv 0) pa_nil))) (pss_cons (ps_asg (pv 0) (pg_tup rfl (pgs_cons (pg_name (i := 3) sc_literal_stands.nd rfl (Or.inl rfl)) (pgs_cons (pg_name (i := 4) sc_literal_stands.nd rfl (Or.inl rfl)) (pgs_cons (pg_name (i := 5) sc_literal_stands.nd rfl (Or.inl rfl)) (pgs_cons (pg_name (i := 6) sc_literal_stands.nd rfl (Or.inl rfl)) pgs_nil))))))
        (pss_one (ps_ret (pe_cmpR op_le (pe_op op_sub (pe_dget (hu_of hr) (pv 2) (pv 4) (fun _ _ => rfl)) (pe_dget (hu_of hr) (pv 2) (pv 5) (fun _ _ => rfl))) (pv 6) (nomark _))))) pss_nil)
        (pss_cons (ps_asg (pv 0) (pg_tup rfl (pgs_cons (pg_name (i := 7) sc_literal_stands.nd rfl (Or.inl rfl)) (pgs_cons (pg_name (i := 8) sc_literal_stands.nd rfl (Or.inl rfl)) pgs_nil))))
        (pss_one (ps_ret (pe_cmpR op_eq (pe_cmpR op_in_seq (pv 8) (pv 1) rfl) (pe_cmpR op_eq (pv 7) pe_str (nomark _)) (nomark _)))))), ?_⟩
    refine ⟨_, rfl, .ref p, litD l, rfl, lit_dp (SqT.of hp), lit_sz okl, fun H1 e1 => ⟨_, rfl, ?_⟩⟩
    rw [bound_lit okl]
    have hp1 := e1 _ _ hp
    have ht1 := e1 _ _ ht
    cases l with
    | yn b x =>
      refine iteF' rfl ⟨_, rfl, p, _, rfl, SqT.of hp1, rfl, _, _, rfl, _, _, rfl, rfl, ?_⟩
      refine ⟨_, rfl, _, rfl, n, _, rfl, .inr (ex_t e1 hn), rfl, flat_strs, _, rfl, rfl, rfl, ?_⟩
      rw [if_neg Bool.false_ne_true, inV_strs]
      have e2 : decide (V.str (ynS b) = V.str (Str.ofString "yes")) = b := by cases b <;> decide +kernel
      rw [e2]
      have e3 : decide (V.bl (decide (x ∈ ns)) = V.bl b) = holdsL ns tv (.yn b x) := by
        show _ = decide (decide (x ∈ ns) = b)
        rw [Bool.eq_iff_iff, decide_eq_true_iff, decide_eq_true_iff]
        exact ⟨fun h => V.bl.inj h, fun h => congrArg V.bl h⟩
      rw [e3]
      exact fin H1 e1
    | most x y k =>
      refine iteT' rfl ⟨_, rfl, p, _, rfl, SqT.of hp1, rfl, _, _, rfl, _, _, rfl, _, _, rfl, _, _, rfl, rfl, ?_⟩
      have hx := hv x (by simp [namesOf])
      have hy := hv y (by simp [namesOf])
      exact ⟨_, rfl, _, rfl, t, _, rfl, .inl ⟨kvs, .inr x, .inl ht1, rfl, hx.symm⟩, _, rfl, _, rfl, t, _, rfl, .inl ⟨kvs, .inr y, .inl ht1, rfl, hy.symm⟩, _, _, rfl, rfl, _, rfl, _, _, rfl, rfl, fin H1 e1⟩
end
end E5
set_option maxRecDepth 100000
set_option maxHeartbeats 4000000
namespace E5
open PySem L2 Evl GP HR SC
theorem fresh_back {H H' : Hp} {p : Addr} (e : Ex H H') (h : H' p = none) : H p = none := by
  cases g : H p with
  | none => rfl
  | some o =>
    have := e p o g
    rw [h] at this
    cases this
/-- pairs of a text and a number, each its own tuple -/
def Prs (K : PySem.W.Frag) (H : Hp) (vs : List V) (ps : List (Str × Int)) : Prop := vs.length = ps.length ∧ ∀ (i : Nat) (q : Str × Int), ps[i]? = some q → ∃ t, vs[i]? = some (.ref t) ∧ SqT K H t [.str q.1, .int q.2]
theorem Prs.ex {K : PySem.W.Frag} {H H' : Hp} {vs : List V} {ps : List (Str × Int)} (A : Prs K H vs ps) (e : Ex H H') : Prs K H' vs ps := ⟨A.1, fun i q h => let ⟨t, h1, h2⟩ := A.2 i q h; ⟨t, h1, ex_t e h2⟩⟩
def missOf (ys zs : List Str) : Option Str := ys.find? fun y => !decide (y ∈ zs)
def spListed (K : PySem.W.Frag) (cM : Addr) : Sp := fun vs H Q E => ∃ (m v tm : Addr) (nv : V) (ys : List Str) (us : List V) (ps : List (Str × Int)), vs = [.ref m, .ref v] ∧ SqT K H m (ys.map V.str) ∧ SqT K H v [nv, .ref tm] ∧ SqT K H tm us ∧ Prs K H us ps ∧ ps.length ≤ 60 ∧
  (missOf ys (ps.map Prod.fst) = none → ∀ H', Ex H H' → Q .non H') ∧ ∀ y, missOf ys (ps.map Prod.fst) = some y → ∀ dd H', Ex H H' → H dd = none → H' dd = some (.xd [("name", .str y)]) → E (.ref cM) (some dd) H'
section
variable {P : Program} {w : World} {K : PySem.W.Frag} {mg : Str → Option Value} {base : Heap} {a : Ad} {d : Fd}
theorem ok_check_listed {cM fM : Addr} (T : TX K mg a) (D : FDS K a d) (EM : PySem.Sup.SupTxt K mg P "UnknownMoment" "name" "not a listed moment" cM fM) : FnOk P w K mg base (L2.CX P w) 1 a.a_check_listed d.a_check_listed ["moments", "values"] (spListed K cM) := by
  refine D.F_check_listed.okX sc_check_listed (fun vs H Q E h => ?_) (fun cdv A outer s H vs Q E hr h => ?_)
  · obtain ⟨m, v, tm, nv, ys, us, ps, rfl, _⟩ := h
    rfl
  · obtain ⟨m, v, tm, nv, ys, us, ps, rfl, hm, hv, ht, PR, p60, q1, q2⟩ := h
    refine ⟨_, (pss_cons (ps_setLc (i := 3) (own := [("name", 2), ("_", 4)]) (g := (gTup K 2 (gCons (gName 2) (gCons (gName 4) gNil)))) (tt := tYes) rfl sc_check_listed.nd rfl rfl (sw_true rfl rfl rfl (by decide +kernel)) (pi_tup (pe_ix ix_tup (pv 1) pe_int (fun _ _ => rfl))) (blkOk_by (N := ["moments", "values", "name", "listed", "_"]) (sc := defScope s_check_listed) (by decide +kernel)) (fun _ _ _ _ _ => (pg_tup rfl (pgs_cons (pg_name (i := 2) sc_check_listed.nd rfl (Or.inl rfl)) (pgs_cons (pg_name (i := 4) sc_check_listed.nd rfl (Or.inl rfl)) pgs_nil)))) (fun _ _ _ _ _ => pts_nil) (fun _ _ _ _ _ => (pv 2)))
        (pss_one (ps_for PassesOwn.leaving rfl (pi_tup (pv 0)) (pg_name (i := 2) sc_check_listed.nd rfl (Or.inl rfl)) (pss_one (ps_if (pt_cmpR op_notIn_seq (pv 2) (pv 3) rfl) (pss_one (ps_raiseSup rfl EM hr (takes_of rfl rfl rfl rfl) (by exact (pa_cons (pv 2) pa_nil)))) pss_nil))))), ?_⟩
    have big : 1000 ≤ sizeLine := by decide
    refine ⟨_, rfl, v, _, 1, .ref tm, rfl, rfl, hv, rfl, tm, rfl, ⟨_, ht⟩, fun D1 hD1 => lc_it (H1 := H) (walk_tup (xs := us)) (fun i H' => Ex H H' ∧ H' D1 = some (.lst (((ps.take i).map Prod.fst).map V.str))) ⟨Ex.new hD1, upd_same⟩ (fun i H' _ h => ex_t h.1 ht) ?_ ?_⟩
    · rintro i x H2 H2' hi ⟨e2, hl⟩ ⟨rfl, hx⟩
      have hi2 : i < ps.length := by rw [← PR.1]; exact hi
      obtain ⟨t, h1, h2⟩ := PR.2 i ps[i] (List.getElem?_eq_getElem hi2)
      rw [hx] at h1
      cases h1
      refine ⟨t, _, rfl, ex_t e2 h2, rfl, _, _, rfl, _, _, rfl, rfl, rfl, ?_⟩
      unfold tYes
      dsimp only
      refine iteT' rfl ⟨_, rfl, _, hl, by rw [List.length_map, List.length_map, List.length_take]; omega, Ex.mut e2 hD1, ?_⟩
      rw [upd_same, List.take_add_one, List.getElem?_eq_getElem hi2, List.map_append, List.map_append]
      rfl
    · rintro H2 ⟨e2, hl⟩
      rw [PR.1, List.take_length] at hl
      generalize ps.map Prod.fst = zs at *
      refine ⟨_, rfl, m, rfl, ⟨_, ex_t e2 hm⟩, for_it (walk_tup (xs := ys.map V.str)) (fun i σ H' => ∃ o2, σ = [some (.ref m), some (.ref v), o2, some (.ref D1), none] ∧ H' = H2 ∧ missOf (ys.take i) zs = none) ⟨none, rfl, rfl, rfl⟩ (fun i σ H' _ ⟨_, _, e, _⟩ => by rw [e]; exact ex_t e2 hm) ?_ ?_⟩
      · rintro i x σ H3 H3' hi ⟨o2, rfl, rfl, hn⟩ ⟨rfl, hx⟩
        rw [List.length_map] at hi
        rw [List.getElem?_map, List.getElem?_eq_getElem hi] at hx
        cases hx
        have tk : ys.take (i + 1) = ys.take i ++ [ys[i]] := by rw [List.take_add_one, List.getElem?_eq_getElem hi]; rfl
        have sp : ys = ys.take i ++ (ys[i] :: ys.drop (i + 1)) := by rw [← List.drop_eq_getElem_cons hi, List.take_append_drop]
        generalize ys[i] = y at *
        refine ⟨_, rfl, _, rfl, D1, _, rfl, .inl (SqL.of hl), rfl, flat_strs, _, rfl, ?_⟩
        rw [if_pos rfl, inV_strs]
        unfold missOf at hn
        by_cases g : y ∈ zs
        · refine iteF' (by simp [g]) ⟨_, rfl, rfl, ?_⟩
          rw [tk]
          unfold missOf
          rw [List.find?_append, hn, Option.none_or, List.find?_cons_of_neg (by simp [g])]
          rfl
        · have fm : missOf ys zs = some y := by
            unfold missOf
            rw [sp, List.find?_append, hn, Option.none_or, List.find?_cons_of_pos (by simp [g])]
          exact iteT' (by simp [g]) ⟨_, rfl, _, rfl, fun dd hdd => q2 y fm dd _ (e2.trans (Ex.new hdd)) (fresh_back e2 hdd) upd_same⟩
      · rintro σ H3 ⟨o2, rfl, rfl, hn⟩
        rw [List.length_map, List.take_length] at hn
        exact q1 hn _ e2
end
end E5
set_option maxRecDepth 100000
set_option maxHeartbeats 8000000
namespace E5
open PySem L2 Evl GP HR SC
/-- all but b is as it was -/
structure Kp (b : Addr) (H H' : Hp) : Prop where
  k : ∀ a o, a ≠ b → H a = some o → H' a = some o
theorem Kp.refl (b : Addr) (H : Hp) : Kp b H H := ⟨fun _ _ _ h => h⟩
theorem Kp.trans {b : Addr} {H H1 H2 : Hp} (x : Kp b H H1) (y : Kp b H1 H2) : Kp b H H2 := ⟨fun a o n h => y.k a o n (x.k a o n h)⟩
theorem Kp.ex {b : Addr} {H H1 : Hp} (x : Ex H H1) : Kp b H H1 := ⟨fun a o _ h => x a o h⟩
theorem Kp.mut {b l : Addr} {H H' : Hp} {o : HO} (x : Kp b H H') (hl : H l = none) : Kp b H (upd H' l o) := ⟨fun a u n h => by
  rw [upd_ne (ne_of_none h hl)]
  exact x.k a u n h⟩
theorem Kp.box {b : Addr} {H : Hp} {o : HO} : Kp b H (upd H b o) := ⟨fun a u n h => by rw [upd_ne n]; exact h⟩
def Bx (b : Addr) (H : Hp) : Prop := ∃ (c n : Int) (f : Bool), H b = some (.lst [.int c, .int n, .bl f]) ∧ 0 ≤ c
theorem Bx.ex {b : Addr} {H H1 : Hp} (x : Bx b H) (e : Ex H H1) : Bx b H1 := by
  obtain ⟨r, m, q, h, r0⟩ := x
  exact ⟨r, m, q, e _ _ h, r0⟩
theorem Bx.ne {b l : Addr} {H : Hp} (x : Bx b H) (hl : H l = none) : l ≠ b := by
  obtain ⟨r, m, q, h, _⟩ := x
  exact (ne_of_none h hl).symm
theorem Bx.upd {b l : Addr} {H : Hp} {o : HO} (x : Bx b H) (n : l ≠ b) : Bx b (upd H l o) := by
  obtain ⟨r, m, q, h, r0⟩ := x
  exact ⟨r, m, q, by rw [upd_ne n.symm]; exact h, r0⟩
theorem Kp.at {b : Addr} {H0 H H' : Hp} (y : Kp b H H') {a : Addr} {o : HO} (X : Bx b H0) (n : H0 a = none) (h : H a = some o) : H' a = some o := y.k a o (X.ne n) h
theorem Kp.back {b : Addr} {H H1 : Hp} {l : Addr} (k : Kp b H H1) (X : Bx b H1) (h : H1 l = none) : H l = none := by
  cases e : H l with
  | none => rfl
  | some o =>
    have := k.k l o (X.ne h) e
    rw [h] at this
    cases this
/-- tuples stay -/
theorem Kp.tup {b : Addr} {H H' : Hp} (k : Kp b H H') (X : Bx b H) {t : Addr} {vs : List V} (h : H t = some (.tup vs)) : H' t = some (.tup vs) := k.k t _ (fun e => by
  obtain ⟨r, m, q, hb, _⟩ := X
  rw [e, hb] at h
  cases h) h

def spBag (K : PySem.W.Frag) : Sp := fun vs H Q _ => ∃ (a : Addr) (ns : List Int) (k : Nat), vs = [.ref a, .int (k : Int)] ∧ SqL K H a (ns.map V.int) ∧ k ≤ 100 ∧ ∀ b H', Ex H H' → H b = none → Bx b H' → Q (.ref b) H'
def spDraw : Sp := fun vs H Q _ => ∃ (b : Addr) (size : Int), vs = [.ref b, .int size] ∧ Bx b H ∧ 0 < size ∧ size < 1073741824 ∧ ∀ (d : Int) H', Kp b H H' → Bx b H' → 0 ≤ d → d < size → Q (.int d) H'
section
variable {P : Program} {w : World} {K : PySem.W.Frag} {mg : Str → Option Value} {base : Heap} {a : Ad} {d : Fd}
theorem ok_law_draw (T : TX K mg a) (D : FDS K a d) : FnOk P w K mg base CX0 1 a.a_law_draw d.a_law_draw ["bag", "size"] spDraw := by
  refine D.F__law_draw.ok sc_law_draw (fun vs H Q E h => ?_) (fun cdv A outer s H vs Q E hr h => ?_)
  · obtain ⟨b, size, rfl, _⟩ := h
    rfl
  · obtain ⟨b, size, rfl, ⟨c, n, f, h1, c0⟩, s0, s9, fin⟩ := h
    refine ⟨_, (pss_cons (ps_if (pt_val (pe_ix (ix_listK (K := K)) (pv 0) pe_int (fun _ _ => rfl))) (pss_cons (ps_set (i := 2) sc_law_draw.nd rfl (Or.inl rfl) (pe_op op_modN (pe_callTy call_int1 (by rfl) T.b_int (by decide +kernel) (pa_cons (pe_ix (ix_listK (K := K)) (pv 0) pe_int (fun _ _ => rfl)) pa_nil)) (pv 1)))
        (pss_cons (ps_asg (pe_op op_fdivN (pe_callTy call_int1 (by rfl) T.b_int (by decide +kernel) (pa_cons (pe_ix (ix_listK (K := K)) (pv 0) pe_int (fun _ _ => rfl)) pa_nil)) (pv 1)) (pg_sub (pv 0) pe_int set_list))
        (pss_one (ps_ret (pv 2))))) pss_nil)
        (pss_cons (ps_asg (pe_op op_add (pe_ix (ix_listK (K := K)) (pv 0) pe_int (fun _ _ => rfl)) pe_int) (pg_sub (pv 0) pe_int set_list))
        (pss_cons (ps_set (i := 3) sc_law_draw.nd rfl (Or.inl rfl) (pe_op op_modN (pe_callTy call_int1 (by rfl) T.b_int (by decide +kernel) (pa_cons (pe_op op_add (pe_op op_add (pe_op op_mul (pe_ix (ix_listK (K := K)) (pv 0) pe_int (fun _ _ => rfl)) pe_int) (pe_op op_mul (pe_ix (ix_listK (K := K)) (pv 0) pe_int (fun _ _ => rfl)) pe_int)) pe_int) pa_nil)) pe_int))
        (pss_cons (ps_set (i := 3) sc_law_draw.nd rfl (Or.inl rfl) (pe_op op_modN (pe_callTy call_int1 (by rfl) T.b_int (by decide +kernel) (pa_cons (pe_op op_add (pe_op op_add (pe_op op_mul (pv 3) (pv 3)) (pe_ix (ix_listK (K := K)) (pv 0) pe_int (fun _ _ => rfl))) (pe_op op_mul (pe_ix (ix_listK (K := K)) (pv 0) pe_int (fun _ _ => rfl)) pe_int)) pa_nil)) pe_int))
        (pss_one (ps_ret (pe_op op_modN (pe_callTy call_int1 (by rfl) T.b_int (by decide +kernel) (pa_cons (pe_op op_fdivN (pv 3) pe_int) pa_nil)) (pv 1)))))))), ?_⟩
    have rng : ∀ z : Int, 0 ≤ Int.fmod z size ∧ Int.fmod z size < size := fun z => by
      rw [Int.fmod_eq_emod_of_nonneg _ (by omega)]
      exact ⟨Int.emod_nonneg _ (by omega), Int.emod_lt_of_pos _ s0⟩
    have fd : ∀ z : Int, 0 ≤ z → 0 ≤ Int.fdiv z size := fun z h => by
      rw [Int.fdiv_eq_ediv_of_nonneg _ (by omega)]
      exact Int.ediv_nonneg h (by omega)
    refine ⟨_, rfl, b, _, 2, _, rfl, rfl, SqL.of h1, at_lit (n := 2) rfl rfl, _, rfl, ?_⟩
    cases f with
    | true =>
      refine iteT' rfl ⟨_, rfl, b, _, 0, _, rfl, rfl, SqL.of h1, at_lit (n := 0) rfl rfl, .inl ⟨_, rfl, _, rfl, _, _, rfl, rfl, by omega, ?_⟩⟩
      dsimp only
      exact ⟨_, rfl, b, _, 0, _, rfl, rfl, SqL.of h1, at_lit (n := 0) rfl rfl, .inl ⟨_, rfl, _, rfl, _, _, rfl, rfl, ⟨by omega, by omega⟩, _, rfl, b, _, 0, 0, rfl, rfl, h1, rfl, _, rfl, fin _ _ Kp.box ⟨_, n, true, upd_same, fd c c0⟩ (rng _).1 (rng _).2⟩⟩
    | false =>
      refine iteF' rfl ⟨_, rfl, b, _, 1, _, rfl, rfl, SqL.of h1, at_lit (n := 1) rfl rfl, _, _, rfl, rfl, _, rfl, b, _, 1, 1, rfl, rfl, h1, rfl, ?_⟩
      generalize hH2 : upd H b _ = H2
      have h2 : H2 b = some (.lst [.int c, .int (n + 1), .bl false]) := by rw [← hH2]; exact upd_same
      have k2 : Kp b H H2 := by rw [← hH2]; exact Kp.box
      refine ⟨_, rfl, b, _, 0, _, rfl, rfl, SqL.of h2, at_lit (n := 0) rfl rfl, _, _, rfl, rfl, .inr (by decide), _, rfl, b, _, 1, _, rfl, rfl, SqL.of h2, at_lit (n := 1) rfl rfl, _, _, rfl, rfl, .inr (by decide), _, _, rfl, rfl, _, _, rfl, rfl, .inl ⟨_, rfl, _, _, rfl, rfl, (by show (2147483647 : Int) ≠ 0; decide), ?_⟩⟩
      dsimp only
      generalize hz : Int.fmod _ 2147483647 = z
      have z0 : 0 ≤ z ∧ z < 2147483647 := by
        rw [← hz, Int.fmod_eq_emod_of_nonneg _ (by decide)]
        exact ⟨Int.emod_nonneg _ (by decide), Int.emod_lt_of_pos _ (by decide)⟩
      refine ⟨_, rfl, _, rfl, _, _, rfl, rfl, .inl (by constructor <;> omega), _, rfl, b, _, 0, _, rfl, rfl, SqL.of h2, at_lit (n := 0) rfl rfl, _, _, rfl, rfl, _, rfl, b, _, 1, _, rfl, rfl, SqL.of h2, at_lit (n := 1) rfl rfl, _, _, rfl, rfl, .inr (by decide), _, _, rfl, rfl, .inl ⟨_, rfl, _, _, rfl, rfl, (by show (998244353 : Int) ≠ 0; decide), ?_⟩⟩
      dsimp only
      generalize Int.fmod _ 998244353 = y
      exact ⟨_, rfl, _, _, rfl, rfl, ⟨by decide, by decide⟩, .inl ⟨_, rfl, _, rfl, _, _, rfl, rfl, by omega, fin _ _ k2 ⟨c, _, false, h2, c0⟩ (rng _).1 (rng _).2⟩⟩
theorem ok_law_bag (T : TX K mg a) (D : FDS K a d) : FnOk P w K mg base CX0 1 a.a_law_bag d.a_law_bag ["script", "k"] (spBag K) := by
  refine D.F__law_bag.ok sc_law_bag (fun vs H Q E h => ?_) (fun cdv A outer s H vs Q E hr h => ?_)
  · obtain ⟨a, ns, k, rfl, _⟩ := h
    rfl
  · obtain ⟨a, ns, k, rfl, ha, k100, fin⟩ := h
    refine ⟨_, (pss_cons (ps_set (i := 2) sc_law_bag.nd rfl (Or.inl rfl) pe_int)
        (Evl.pss_cut (ps_if (pt_cmpR op_lt (pv 1) (pe_callB call_len_seq (by rfl) T.b_len (by decide +kernel) (pa_cons (pv 0) pa_nil)) (nomark _)) (pss_one (ps_set (i := 2) sc_law_bag.nd rfl (Or.inl rfl) (pe_callB call_abs (by rfl) T.b_abs (by decide +kernel) (pa_cons (pe_callTy call_int1 (by rfl) T.b_int (by decide +kernel) (pa_cons (pe_ix (ix_listK (K := K)) (pv 0) (pv 1) (fun _ _ => rfl)) pa_nil)) pa_nil)))) (pss_one (ps_if (pt_cmpR op_gt (pe_callB call_len_seq (by rfl) T.b_len (by decide +kernel) (pa_cons (pv 0) pa_nil)) pe_int (nomark _)) (pss_one (ps_set (i := 2) sc_law_bag.nd rfl (Or.inl rfl) (pe_op op_mul (pe_op op_add (pe_op op_modN (pe_callTy call_int1 (by rfl) T.b_int (by decide +kernel) (pa_cons (pe_callB call_abs (by rfl) T.b_abs (by decide +kernel) (pa_cons (pe_callTy call_int1 (by rfl) T.b_int (by decide +kernel) (pa_cons (pe_ix (ix_listK (K := K)) (pv 0) pe_int (fun _ _ => rfl)) pa_nil)) pa_nil)) pa_nil)) pe_int) pe_int) (pe_op op_add (pv 1) pe_int)))) pss_nil)))
        (pss_one (ps_ret (pe_lst (pa_cons (pv 2) (pa_cons pe_int (pa_cons (pe_or (pe_cmpR op_eq (pv 2) pe_int (nomark _)) (pe_one (pe_cmpR op_ge (pv 2) (pe_op op_pow pe_int pe_int) (nomark _)))) pa_nil)))))))), ?_⟩
    have ab : ∀ i : Int, 0 ≤ (if i < 0 then -i else i) := fun i => by split <;> omega
    refine ⟨fun σ' H' => ∃ c : Int, σ' = [some (.ref a), some (.int (k : Int)), some (.int c)] ∧ H' = H ∧ 0 ≤ c, ?_, ?_⟩
    · refine ⟨_, rfl, _, rfl, a, _, rfl, .inl ha, _, _, rfl, rfl, _, rfl, ite2 (fun g => ?_) (fun g => ?_)⟩
      · have hl := of_decide_eq_true g
        rw [List.length_map] at hl
        have hi : k < ns.length := by omega
        refine ⟨_, rfl, _, rfl, a, _, (k : Int), .int ns[k], rfl, rfl, ha, at_lit (n := k) rfl (by rw [List.getElem?_map, List.getElem?_eq_getElem hi]; rfl), .inl ⟨_, rfl, ?_⟩⟩
        exact ⟨_, rfl, _, rfl, rfl, ab _⟩
      · refine ⟨_, rfl, a, _, rfl, .inl ha, _, _, rfl, rfl, _, rfl, ite2 (fun g2 => ?_) (fun g2 => ⟨0, rfl, rfl, by decide⟩)⟩
        have hl := of_decide_eq_true g2
        rw [List.length_map] at hl
        have hi : 0 < ns.length := by omega
        refine ⟨_, rfl, a, _, 0, .int ns[0], rfl, rfl, ha, at_lit (n := 0) rfl (by rw [List.getElem?_map, List.getElem?_eq_getElem hi]; rfl), .inl ⟨_, rfl, _, rfl, .inl ⟨_, rfl, _, _, rfl, rfl, (by show (1000003 : Int) ≠ 0; decide), ?_⟩⟩⟩
        dsimp only
        generalize hz : Int.fmod _ 1000003 = z
        have z0 : 0 ≤ z ∧ z < 1000003 := by
          rw [← hz, Int.fmod_eq_emod_of_nonneg _ (by decide)]
          exact ⟨Int.emod_nonneg _ (by decide), Int.emod_lt_of_pos _ (by decide)⟩
        exact ⟨_, _, rfl, rfl, _, rfl, _, _, rfl, rfl, _, _, rfl, rfl, .inl (by constructor <;> omega), _, rfl, rfl, Int.mul_nonneg (by omega) (by omega)⟩
    · rintro σ' H' ⟨c, rfl, rfl, c0⟩
      refine ⟨_, rfl, _, rfl, rfl, _, rfl, ?_⟩
      by_cases g : decide (V.int c = V.int 0) = true
      · rw [if_pos g]
        exact ⟨(by show 3 ≤ sizeLine; decide), fun b hb => fin b _ (Ex.new hb) hb ⟨_, _, _, upd_same, c0⟩⟩
      · rw [if_neg g]
        exact ⟨_, rfl, _, _, rfl, rfl, ⟨by decide, by decide, by decide⟩, _, _, rfl, rfl, (by show 3 ≤ sizeLine; decide), fun b hb => fin b _ (Ex.new hb) hb ⟨_, _, _, upd_same, c0⟩⟩
end
end E5
set_option maxRecDepth 100000
set_option maxHeartbeats 8000000
namespace E5
open PySem L2 Evl GP HR SC
theorem log_le {n k : Nat} (h : n < 2 ^ k) : n.log2 ≤ k := by
  rcases Nat.eq_zero_or_pos n with rfl | p
  · exact Nat.zero_le _
  · exact Nat.le_of_lt ((Nat.log2_lt (by omega)).mpr h)
theorem mulW {i j : Int} (h1 : i.natAbs < 2 ^ 250) (h2 : j.natAbs < 2 ^ 250) : CMulW i j := by
  have := log_le h1
  have := log_le h2
  unfold CMulW
  omega
def spInt : Sp := fun vs H Q _ => ∃ b : Addr, vs = [.ref b] ∧ Bx b H ∧ ∀ (i : Int) H', Kp b H H' → Bx b H' → -(2 ^ 210) ≤ i → i < 2 ^ 210 → Q (.int i) H'
theorem nine (d : Int) (h0 : 0 ≤ d) (h1 : d < 9) : ∃ v : Int, atI [V.int 0, V.int 1, V.int (-1), V.int 2, V.int (-2), V.int 3, V.int (-3), V.int 4, V.int (-4)] d = some (.int v) ∧ -4 ≤ v ∧ v ≤ 4 := by
  have : d = 0 ∨ d = 1 ∨ d = 2 ∨ d = 3 ∨ d = 4 ∨ d = 5 ∨ d = 6 ∨ d = 7 ∨ d = 8 := by omega
  rcases this with rfl | rfl | rfl | rfl | rfl | rfl | rfl | rfl | rfl <;> exact ⟨_, rfl, by decide, by decide⟩
section
variable {P : Program} {w : World} {K : PySem.W.Frag} {mg : Str → Option Value} {base : Heap} {a : Ad} {d : Fd}
theorem ok_law_integer (T : TX K mg a) (D : FDS K a d) : FnOk P w K mg base CX0 2 a.a_law_integer d.a_law_integer ["bag"] spInt := by
  have G__law_draw : FnOk P w K mg base CX0 1 a.a_law_draw d.a_law_draw ["bag", "size"] spDraw := ok_law_draw T D
  refine D.F__law_integer.ok sc_law_integer (fun vs H Q E h => ?_) (fun cdv A outer s H vs Q E hr h => ?_)
  · obtain ⟨b, rfl, _⟩ := h
    rfl
  · obtain ⟨b, rfl, X, fin⟩ := h
    refine ⟨_, (pss_cons (ps_if (pt_cmpR op_eq (pe_call G__law_draw (hr.mono (by decide)) rfl T.f__law_draw T.k__law_draw D.B__law_draw .nil pass0 (pa_cons (pv 0) (pa_cons pe_int pa_nil))) pe_int (nomark _)) (pss_cons (ps_set (i := 1) sc_law_integer.nd rfl (Or.inl rfl) pe_int)
        (pss_cons (ps_for PassesOwn.never rfl (pi_range1 rfl T.b_range (pa_cons pe_int pa_nil)) (pg_name (i := 2) sc_law_integer.nd rfl (Or.inl rfl)) (pss_one (ps_set (i := 1) sc_law_integer.nd rfl (Or.inl rfl) (pe_op op_add (pe_op op_mulW (pv 1) pe_int) (pe_call G__law_draw (hr.mono (by decide)) rfl T.f__law_draw T.k__law_draw D.B__law_draw .nil pass0 (pa_cons (pv 0) (pa_cons pe_int pa_nil)))))))
        (pss_one (ps_ret (pe_op op_mulW (pv 1) (pe_op op_sub pe_int (pe_op op_mul pe_int (pe_call G__law_draw (hr.mono (by decide)) rfl T.f__law_draw T.k__law_draw D.B__law_draw .nil pass0 (pa_cons (pv 0) (pa_cons pe_int pa_nil)))))))))) pss_nil)
        (pss_one (ps_ret (pe_ix (ix_listK (K := K)) (pe_lst (pa_cons pe_int (pa_cons pe_int (pa_cons (pe_un un_neg pe_int) (pa_cons pe_int (pa_cons (pe_un un_neg pe_int) (pa_cons pe_int (pa_cons (pe_un un_neg pe_int) (pa_cons pe_int (pa_cons (pe_un un_neg pe_int) pa_nil)))))))))) (pe_call G__law_draw (hr.mono (by decide)) rfl T.f__law_draw T.k__law_draw D.B__law_draw .nil pass0 (pa_cons (pv 0) (pa_cons pe_int pa_nil))) (fun _ _ => rfl))))), ?_⟩
    refine ⟨_, rfl, b, 24, rfl, X, by decide, by decide, fun d1 H1 k1 X1 _ _ => ⟨rfl, _, rfl, ite2 (fun g => ?_) (fun g => ?_)⟩⟩
    · refine ⟨10, rfl, by decide, by decide, for_it (walk_range (lo := 0) (n := 10)) (fun i σ H' => ∃ (g : Int) (o2 : Option V), σ = [some (.ref b), some (.int g), o2] ∧ Kp b H H' ∧ Bx b H' ∧ 0 ≤ g ∧ g < 1000000 ^ i) ⟨0, none, rfl, k1, X1, by decide, by decide⟩ (fun _ _ _ _ _ => trivial) ?_ ?_⟩
      · rintro i v σ H2 H2' hi ⟨g0, o2, rfl, k2, X2, g1, g2⟩ ⟨rfl, hv⟩
        have lim : (1000000 : Int) ^ i ≤ 1000000 ^ 10 := by
          have h0 : (1000000 : Nat) ^ i ≤ 1000000 ^ 10 := Nat.pow_le_pow_right (by decide) (by omega)
          have h1 : ((1000000 ^ i : Nat) : Int) ≤ ((1000000 ^ 10 : Nat) : Int) := Int.ofNat_le.mpr h0
          rw [Int.natCast_pow, Int.natCast_pow] at h1
          exact h1
        have pb : (1000000 : Int) ^ i < 2 ^ 200 := Int.lt_of_le_of_lt lim (by decide)
        rw [Int.pow_succ]
        clear lim
        generalize (1000000 : Int) ^ i = p at *
        refine ⟨_, rfl, _, _, rfl, rfl, mulW (by omega) (by decide), _, rfl, b, 1000000, rfl, X2, by decide, by decide, fun d2 H3 k3 X3 q0 q1 => ⟨_, _, rfl, rfl, _, _, rfl, k2.trans k3, X3, by omega, by omega⟩⟩
      · rintro σ H2 ⟨g0, o2, rfl, k2, X2, g1, g2⟩
        have pb : g0 < 2 ^ 200 := Int.lt_trans g2 (by decide)
        clear g2
        refine ⟨_, rfl, _, rfl, b, 2, rfl, X2, by decide, by decide, fun d2 H3 k3 X3 q0 q1 => ⟨_, _, rfl, rfl, .inl (by constructor <;> omega), _, _, rfl, rfl, _, _, rfl, rfl, mulW (by omega) (by omega), ?_⟩⟩
        have : d2 = 0 ∨ d2 = 1 := by omega
        rcases this with rfl | rfl
        · exact fin _ H3 (k2.trans k3) X3 (by omega) (by omega)
        · exact fin _ H3 (k2.trans k3) X3 (by omega) (by omega)
    · refine ⟨1, rfl, 2, rfl, 3, rfl, 4, rfl, (by show 9 ≤ sizeLine; decide), fun l hl => ⟨_, rfl, b, 9, rfl, X1.ex (Ex.new hl), by decide, by decide, fun d2 H2 k2 X2 q0 q1 => ?_⟩⟩
      obtain ⟨v, hv, v0, v9⟩ := nine d2 q0 q1
      have nl := X1.ne hl
      exact ⟨l, _, d2, .int v, rfl, rfl, SqL.of (k2.k _ _ nl upd_same), hv, fin v H2 ((k1.trans (Kp.ex (Ex.new hl))).trans k2) X2 (by omega) (by omega)⟩
end
end E5
set_option maxRecDepth 100000
set_option maxHeartbeats 8000000
namespace E5
open PySem L2 Evl GP HR SC
theorem str_len (z : Str) : z.cps.toList.length = z.length := by show _ = z.cps.size; simp
theorem str_app (x y : Str) : (x ++ y).cps.toList = x.cps.toList ++ y.cps.toList := by
  show (x.cps ++ y.cps).toList = _
  simp
theorem app_len (x y : Str) : (x ++ y).length = x.length + y.length := by
  show (x.cps ++ y.cps).size = _
  simp
  rfl
theorem lett_sign : ∀ c ∈ letters.cps.toList, c ∈ signs.cps.toList := by decide +kernel
theorem nameS_iff (z : Str) : isNameS z = true ↔ (1 ≤ z.length ∧ z.length ≤ 8) ∧ z.cps.toList.headD 0 ∈ letters.cps.toList ∧ ∀ c ∈ z.cps.toList, c ∈ signs.cps.toList := by
  unfold isNameS
  simp only [Bool.and_eq_true, decide_eq_true_eq, List.all_eq_true]
theorem name_of {z : Str} {l : List Nat} (h : z.cps.toList = l) (h1 : 1 ≤ l.length ∧ l.length ≤ 8) (h2 : l.headD 0 ∈ letters.cps.toList) (h3 : ∀ c ∈ l, c ∈ signs.cps.toList) : isNameS z = true := by
  rw [nameS_iff, h]
  have := str_len z
  rw [h] at this
  exact ⟨by omega, h2, h3⟩
def oneS (c : Nat) : Str := ⟨#[c]⟩
theorem sign_low {k : Nat} (h : k < 26) : ∃ c, signs.cps.toList[k]? = some c ∧ c ∈ letters.cps.toList := by
  have t : signs.cps.toList.take 26 = letters.cps.toList := by decide +kernel
  have l : letters.cps.toList.length = 26 := by decide +kernel
  refine ⟨letters.cps.toList[k]'(by omega), ?_, List.getElem_mem _⟩
  rw [← List.getElem?_eq_getElem (show k < letters.cps.toList.length by omega), ← t, List.getElem?_take_of_lt h]
theorem sign_at {k : Nat} (h : k < 36) : ∃ c, signs.cps.toList[k]? = some c ∧ c ∈ signs.cps.toList := by
  have l : signs.cps.toList.length = 36 := by decide +kernel
  exact ⟨signs.cps.toList[k]'(by omega), by simp, List.getElem_mem _⟩
def Wd (l : List Nat) (i : Nat) (z : Str) : Prop := z.length = i ∧ ∀ c ∈ z.cps.toList, c ∈ l

def spLetters : Sp := fun vs H Q _ => ∃ (b : Addr) (n : Nat), vs = [.ref b, .int (n : Nat)] ∧ Bx b H ∧ n ≤ 8 ∧ ∀ (w : Str) H', Kp b H H' → Bx b H' → Wd signs.cps.toList n w → Q (.str w) H'
section
variable {P : Program} {w : World} {K : PySem.W.Frag} {mg : Str → Option Value} {base : Heap} {a : Ad} {d : Fd}
theorem ok_law_letters (T : TX K mg a) (D : FDS K a d) : FnOk P w K mg base CX0 2 a.a_law_letters d.a_law_letters ["bag", "count"] spLetters := by
  have G__law_draw : FnOk P w K mg base CX0 1 a.a_law_draw d.a_law_draw ["bag", "size"] spDraw := ok_law_draw T D
  refine D.F__law_letters.ok sc_law_letters (fun vs H Q E h => ?_) (fun cdv A outer s H vs Q E hr h => ?_)
  · obtain ⟨b, n, rfl, _⟩ := h
    rfl
  · obtain ⟨b, n, rfl, X, n8, fin⟩ := h
    refine ⟨_, (pss_cons (ps_set (i := 2) sc_law_letters.nd rfl (Or.inl rfl) pe_str)
        (pss_cons (ps_set (i := 3) sc_law_letters.nd rfl (Or.inl rfl) pe_str)
        (pss_cons (ps_for PassesOwn.never rfl (pi_range1 rfl T.b_range (pa_cons (pv 1) pa_nil)) (pg_name (i := 4) sc_law_letters.nd rfl (Or.inl rfl)) (pss_one (ps_set (i := 3) sc_law_letters.nd rfl (Or.inl rfl) (pe_op op_add_str (pv 3) (pe_ix ix_str (pv 2) (pe_call G__law_draw (hr.mono (by decide)) rfl T.f__law_draw T.k__law_draw D.B__law_draw .nil pass0 (pa_cons (pv 0) (pa_cons pe_int pa_nil))) (fun _ _ => rfl))))))
        (pss_one (ps_ret (pv 3)))))), ?_⟩
    refine ⟨_, rfl, n, rfl, by omega, by omega, for_it (walk_range (lo := 0) (n := n)) (fun i σ H' => ∃ (z : Str) (o4 : Option V), σ = [some (.ref b), some (.int (n : Nat)), some (.str signs), some (.str z), o4] ∧ Kp b H H' ∧ Bx b H' ∧ Wd signs.cps.toList i z) ⟨"", none, rfl, Kp.refl _ _, X, rfl, fun c h => absurd h (by decide +revert)⟩ (fun _ _ _ _ _ => trivial) ?_ ?_⟩
    · rintro i v σ H2 H2' hi ⟨z, o4, rfl, k2, X2, W⟩ ⟨rfl, hv⟩
      refine ⟨_, rfl, _, rfl, _, rfl, b, 36, rfl, X2, by decide, by decide, fun d2 H3 k3 X3 q0 q1 => ?_⟩
      obtain ⟨c', hc', hcl'⟩ := sign_at (k := d2.toNat) (by omega)
      have hz := W.1
      refine ⟨signs, d2, c', rfl, rfl, (by decide +kernel), at_lit (n := d2.toNat) (by omega) hc', z, oneS c', rfl, rfl, Nat.le_trans (by rw [hz]; show i + 1 ≤ 100; omega) (by decide : 100 ≤ sizeLine), z ++ oneS c', _, rfl, k2.trans k3, X3, ?_, fun c hc => ?_⟩
      · rw [app_len, hz]
        rfl
      · rw [str_app] at hc
        rcases List.mem_append.mp hc with hc | hc
        · exact W.2 c hc
        · rw [List.mem_singleton.mp hc]
          exact hcl'
    · rintro σ H2 ⟨z, o4, rfl, k2, X2, W⟩
      exact ⟨_, rfl, fin z H2 k2 X2 W⟩
end
end E5
set_option maxRecDepth 100000
set_option maxHeartbeats 8000000
namespace E5
open PySem L2 Evl GP HR SC
/-- what may stand in front: nothing, or a letter and signs -/
def HeadOk (z : Str) : Prop := z.length ≤ 3 ∧ (∀ c ∈ z.cps.toList, c ∈ signs.cps.toList) ∧ (z.cps.toList = [] ∨ z.cps.toList.headD 0 ∈ letters.cps.toList)
def StemOk (z : Str) : Prop := 1 ≤ z.length ∧ z.length ≤ 2 ∧ (∀ c ∈ z.cps.toList, c ∈ signs.cps.toList) ∧ z.cps.toList.headD 0 ∈ letters.cps.toList
instance (z : Str) : Decidable (StemOk z) := by unfold StemOk; infer_instance
theorem name_put {h o t : Str} {n : Nat} (a : HeadOk h) (b : StemOk o) (c : Wd signs.cps.toList n t) (n3 : n ≤ 3) : isNameS (h ++ o ++ t) = true := by
  refine name_of (l := h.cps.toList ++ o.cps.toList ++ t.cps.toList) (by rw [str_app, str_app]) ?_ ?_ ?_
  · have h1 := str_len h
    have h2 := str_len o
    have h3 := str_len t
    rw [List.length_append, List.length_append, h1, h2, h3]
    have := a.1
    have := b.1
    have := b.2.1
    have := c.1
    omega
  · rcases a.2.2 with e | e
    · rw [e, List.nil_append]
      cases ho : o.cps.toList with
      | nil => have := b.2.2.2; rw [ho] at this; exact absurd this (by decide +kernel)
      | cons x xs => have := b.2.2.2; rw [ho] at this; exact this
    · cases hh : h.cps.toList with
      | nil => rw [hh] at e; exact absurd e (by decide +kernel)
      | cons x xs => rw [hh] at e; exact e
  · intro c' hc
    rcases List.mem_append.mp hc with hc | hc
    · rcases List.mem_append.mp hc with hc | hc
      · exact a.2.1 c' hc
      · exact b.2.2.1 c' hc
    · exact c.2 c' hc
theorem put_inj {h o o' t : Str} (e : h ++ o ++ t = h ++ o' ++ t) : o = o' := by
  have e1 : (h ++ o ++ t).cps.toList = (h ++ o' ++ t).cps.toList := by rw [e]
  rw [str_app, str_app, str_app, str_app] at e1
  have e2 := List.append_cancel_left (List.append_cancel_right e1)
  cases o
  cases o'
  exact congrArg Str.mk (Array.toList_inj.mp e2)
theorem four (d : Int) (h0 : 0 ≤ d) (h1 : d < 4) : ∃ v : Nat, atI [V.int 0, V.int 0, V.int 1, V.int 3] d = some (.int (v : Int)) ∧ v ≤ 3 := by
  have : d = 0 ∨ d = 1 ∨ d = 2 ∨ d = 3 := by omega
  rcases this with rfl | rfl | rfl | rfl
  · exact ⟨0, rfl, by decide⟩
  · exact ⟨0, rfl, by decide⟩
  · exact ⟨1, rfl, by decide⟩
  · exact ⟨3, rfl, by decide⟩
theorem lett_at {k : Nat} (h : k < 26) : ∃ c, letters.cps.toList[k]? = some c ∧ c ∈ letters.cps.toList := by
  have hl : k < letters.cps.toList.length := by
    have : letters.cps.toList.length = 26 := by decide +kernel
    omega
  exact ⟨letters.cps.toList[k], List.getElem?_eq_getElem hl, List.getElem_mem hl⟩
theorem head_none : HeadOk "" := ⟨by decide, fun c h => absurd h (by decide +revert), .inl rfl⟩
theorem head_put {c : Nat} {z : Str} {n : Nat} (hc : c ∈ letters.cps.toList) (h : Wd signs.cps.toList n z) (hn : n ≤ 2) : HeadOk (oneS c ++ z) := by
  refine ⟨by rw [app_len, h.1]; show 1 + n ≤ 3; omega, fun d hd => ?_, .inr ?_⟩
  · rw [str_app] at hd
    rcases List.mem_append.mp hd with hd | hd
    · rw [List.mem_singleton.mp hd]; exact lett_sign c hc
    · exact h.2 d hd
  · rw [str_app]
    exact hc
def spNames : Sp := fun vs H Q _ => ∃ b : Addr, vs = [.ref b] ∧ Bx b H ∧ ∀ (t l1 l2 : Addr) (xs ys : List Str) H', Kp b H H' → Bx b H' → H' t = some (.tup [.ref l1, .ref l2]) → H' l1 = some (.lst (xs.map V.str)) → H' l2 = some (.lst (ys.map V.str)) → l1 ≠ b → l2 ≠ b → xs.length = 3 → ys.length = 5 →
  (∀ z ∈ xs, isNameS z = true) → (∀ z ∈ ys, isNameS z = true) → ys.Nodup → Q (.ref t) H'
section
variable {P : Program} {w : World} {K : PySem.W.Frag} {mg : Str → Option Value} {base : Heap} {a : Ad} {d : Fd}
theorem ok_law_names (T : TX K mg a) (D : FDS K a d) : FnOk P w K mg base CX0 3 a.a_law_names d.a_law_names ["bag"] spNames := by
  have G__law_draw : FnOk P w K mg base CX0 1 a.a_law_draw d.a_law_draw ["bag", "size"] spDraw := ok_law_draw T D
  have G__law_letters : FnOk P w K mg base CX0 2 a.a_law_letters d.a_law_letters ["bag", "count"] spLetters := ok_law_letters T D
  refine D.F__law_names.ok sc_law_names (fun vs H Q E h => ?_) (fun cdv A outer s H vs Q E hr h => ?_)
  · obtain ⟨b, rfl, _⟩ := h
    rfl
  · obtain ⟨b, rfl, X, fin⟩ := h
    refine ⟨_, (pss_cons (ps_set (i := 1) sc_law_names.nd rfl (Or.inl rfl) (pe_ix (ix_listK (K := K)) (pe_lst (pa_cons pe_int (pa_cons pe_int (pa_cons pe_int (pa_cons pe_int pa_nil))))) (pe_call G__law_draw (hr.mono (by decide)) rfl T.f__law_draw T.k__law_draw D.B__law_draw .nil pass0 (pa_cons (pv 0) (pa_cons pe_int pa_nil))) (fun _ _ => rfl)))
        (pss_cons (ps_set (i := 2) sc_law_names.nd rfl (Or.inr rfl) pe_str)
        (Evl.pss_cut (ps_if (pt_cmpR op_gt (pv 1) pe_int (nomark _)) (pss_one (ps_set (i := 2) sc_law_names.nd rfl (Or.inr rfl) (pe_op op_add_str (pe_ix ix_str pe_str (pe_call G__law_draw (hr.mono (by decide)) rfl T.f__law_draw T.k__law_draw D.B__law_draw .nil pass0 (pa_cons (pv 0) (pa_cons pe_int pa_nil))) (fun _ _ => rfl)) (pe_call G__law_letters (hr.mono (by decide)) rfl T.f__law_letters T.k__law_letters D.B__law_letters .nil pass0 (pa_cons (pv 0) (pa_cons (pe_op op_sub (pv 1) pe_int) pa_nil)))))) pss_nil)
        (pss_cons (ps_set (i := 3) sc_law_names.nd rfl (Or.inr rfl) (pe_call G__law_letters (hr.mono (by decide)) rfl T.f__law_letters T.k__law_letters D.B__law_letters .nil pass0 (pa_cons (pv 0) (pa_cons (pe_ix (ix_listK (K := K)) (pe_lst (pa_cons pe_int (pa_cons pe_int (pa_cons pe_int (pa_cons pe_int pa_nil))))) (pe_call G__law_draw (hr.mono (by decide)) rfl T.f__law_draw T.k__law_draw D.B__law_draw .nil pass0 (pa_cons (pv 0) (pa_cons pe_int pa_nil))) (fun _ _ => rfl)) pa_nil))))
        (pss_cons (ps_set (i := 4) sc_law_names.nd rfl (Or.inl rfl) (pe_lst (pa_cons pe_str (pa_cons pe_str (pa_cons pe_str (pa_cons pe_str (pa_cons pe_str pa_nil)))))))
        (Evl.pss_cut (ps_if (pt_cmpR op_eq (pe_call G__law_draw (hr.mono (by decide)) rfl T.f__law_draw T.k__law_draw D.B__law_draw .nil pass0 (pa_cons (pv 0) (pa_cons pe_int pa_nil))) pe_int (nomark _)) (pss_one (ps_set (i := 4) sc_law_names.nd rfl (Or.inl rfl) (pe_lst (pa_cons pe_str (pa_cons pe_str (pa_cons pe_str (pa_cons pe_str (pa_cons pe_str pa_nil)))))))) pss_nil)
        (pss_cons (ps_setLc (i := 5) (own := [("one", 6)]) (g := gName 6) (tt := tYes) rfl sc_law_names.nd rfl rfl (sw_true rfl rfl rfl (by decide +kernel)) (pi_list (pe_lst (pa_cons pe_str (pa_cons pe_str (pa_cons pe_str pa_nil))))) (blkOk_by (N := ["bag", "size", "head", "tail", "stems", "truths", "one"]) (sc := defScope s_law_names) (by decide +kernel)) (fun _ _ _ _ _ => (pg_name (i := 6) sc_law_names.nd rfl (Or.inl rfl))) (fun _ _ _ _ _ => pts_nil) (fun _ _ _ _ _ => (pe_op op_add_str (pe_op op_add_str (pv 2) (pv 6)) (pv 3))))
        (pss_one (ps_ret (pe_tup (pa_cons (pv 5) (pa_cons (pe_lc (own := [("one", 6)]) (g := gName 6) (tt := tYes) rfl sc_law_names.nd (pi_list (pv 4)) (blkOk_by (N := ["bag", "size", "head", "tail", "stems", "truths", "one"]) (sc := defScope s_law_names) (by decide +kernel)) (fun _ _ _ _ _ => (pg_name (i := 6) sc_law_names.nd rfl (Or.inl rfl))) (fun _ _ _ _ _ => pts_nil) (fun _ _ _ _ _ => (pe_op op_add_str (pe_op op_add_str (pv 2) (pv 6)) (pv 3)))) pa_nil)))))))))))), ?_⟩
    refine ⟨by show 4 ≤ sizeLine; decide, fun l0 hl0 => ⟨_, rfl, b, 4, rfl, X.ex (Ex.new hl0), by decide, by decide, fun d1 H1 k1 X1 q0 q1 => ?_⟩⟩
    obtain ⟨v, hv, v3⟩ := four d1 q0 q1
    have k01 := (Kp.ex (b := b) (Ex.new (o := .lst [.int 0, .int 0, .int 1, .int 3]) hl0)).trans k1
    refine ⟨l0, _, d1, .int (v : Int), rfl, rfl, SqL.of (k1.k _ _ (X.ne hl0) upd_same), hv, ?_⟩
    refine ⟨fun σ' H' => ∃ z : Str, σ' = [some (.ref b), some (.int (v : Int)), some (.str z), none, none, none, none] ∧ Kp b H H' ∧ Bx b H' ∧ HeadOk z, ?_, ?_⟩
    · refine ⟨_, rfl, _, _, rfl, rfl, _, rfl, ite2 (fun g => ?_) (fun g => ⟨"", rfl, k01, X1, head_none⟩)⟩
      have v0 := of_decide_eq_true g
      refine ⟨_, rfl, b, 26, rfl, X1, by decide, by decide, fun d2 H2 k2 X2 r0 r1 => ?_⟩
      obtain ⟨c, hc, hcl⟩ := lett_at (k := d2.toNat) (by omega)
      have ev : ((v : Int) - 1) = ((v - 1 : Nat) : Int) := by omega
      refine ⟨letters, d2, c, rfl, rfl, (by decide +kernel), at_lit (n := d2.toNat) (by omega) hc, _, rfl, _, rfl, _, _, rfl, rfl, b, v - 1, by show [V.ref b, V.int ((v : Int) - 1)] = _; rw [ev], X2, by omega, fun wd H3 k3 X3 W => ?_⟩
      exact ⟨oneS c, wd, rfl, rfl, Nat.le_trans (by rw [W.1]; show 1 + (v - 1) ≤ 100; omega) (by decide : 100 ≤ sizeLine), oneS c ++ wd, rfl, (k01.trans k2).trans k3, X3, head_put hcl W (by omega)⟩
    · rintro σ' H2 ⟨z, rfl, k2, X2, HZ⟩
      refine ⟨_, rfl, (by show 4 ≤ sizeLine; decide), fun l1 hl1 => ⟨_, rfl, b, 4, rfl, X2.ex (Ex.new hl1), by decide, by decide, fun d3 H3 k3 X3 r0 r1 => ?_⟩⟩
      obtain ⟨v2, hv2, v23⟩ := four d3 r0 r1
      refine ⟨l1, _, d3, .int (v2 : Int), rfl, rfl, SqL.of (k3.k _ _ (X2.ne hl1) upd_same), hv2, b, v2, rfl, X3, by omega, fun tl H4 k4 X4 W4 => ?_⟩
      have k24 := (k2.trans (Kp.ex (b := b) (Ex.new (o := .lst [.int 0, .int 0, .int 1, .int 3]) hl1))).trans (k3.trans k4)
      refine ⟨(by show 5 ≤ sizeLine; decide), fun l2 hl2 => ?_⟩
      have x5 := Ex.new (o := .lst ((["x", "y", "z", "w2", "v"] : List Str).map V.str)) hl2
      refine ⟨fun σ' H' => ∃ (lt : Addr) (ss : List Str), σ' = [some (.ref b), some (.int (v : Int)), some (.str z), some (.str tl), some (.ref lt), none, none] ∧ Kp b H H' ∧ Bx b H' ∧ H' lt = some (.lst (ss.map V.str)) ∧ lt ≠ b ∧ ss.length = 5 ∧ ss.Nodup ∧ ∀ s ∈ ss, StemOk s, ?_, ?_⟩
      · refine ⟨_, rfl, b, 4, rfl, X4.ex x5, by decide, by decide, fun d4 H5 k5 X5 _ _ => ⟨rfl, _, rfl, ite2 (fun g => ?_) (fun g => ?_)⟩⟩
        · refine ⟨(by show 5 ≤ sizeLine; decide), fun l3 hl3 => ⟨l3, ["q", "p", "x", "r1", "t"], rfl, ((k24.trans (Kp.ex x5)).trans k5).mut (((k24.trans (Kp.ex x5)).trans k5).back X5 hl3), X5.upd (X5.ne hl3), upd_same, X5.ne hl3, rfl, by decide +kernel, by decide +kernel⟩⟩
        · exact ⟨l2, ["x", "y", "z", "w2", "v"], rfl, (k24.trans (Kp.ex x5)).trans k5, X5, k5.k _ _ (X4.ne hl2) upd_same, X4.ne hl2, rfl, by decide +kernel, by decide +kernel⟩
      · rintro σ' H5 ⟨lt, ss, rfl, k5, X5, h5, n5, l5, nd5, ok5⟩
        have big : 100 ≤ sizeLine := by decide
        have lz := HZ.1
        have lt3 := W4.1
        have te : ∀ (s : Str), StemOk s → (z.length + s.length ≤ sizeLine) ∧ ((z ++ s).length + tl.length ≤ sizeLine) := fun s h => by
          have := h.2.1
          rw [app_len]
          constructor <;> omega
        have pn : ∀ (s : Str), StemOk s → isNameS (z ++ s ++ tl) = true := fun s h => name_put HZ h W4 (by omega)
        have ok3 : ∀ s ∈ (["p", "q", "r1"] : List Str), StemOk s := by decide +kernel
        refine ⟨(by show 3 ≤ sizeLine; decide), fun l3 hl3 => ⟨l3, rfl, ⟨_, SqL.of (show upd H5 l3 (.lst ((["p", "q", "r1"] : List Str).map V.str)) l3 = some (.lst ((["p", "q", "r1"] : List Str).map V.str)) from upd_same)⟩, fun D1 hD1 => ?_⟩⟩
        have x6 := Ex.new (o := .lst ((["p", "q", "r1"] : List Str).map V.str)) hl3
        refine lcM (walk_list (xs := (["p", "q", "r1"] : List Str).map V.str)) (fun s => V.str (z ++ s ++ tl)) (by decide) (fun H' e => ex_l e (SqL.of upd_same)) (fun _ => rfl) (fun s hs H' e Q q => ⟨_, rfl, _, rfl, z, s, rfl, rfl, (te s (ok3 s hs)).1, _, rfl, _, _, rfl, rfl, (te s (ok3 s hs)).2, q H' (Ex.refl _)⟩) hD1 fun H7 e7 h7 => ?_
        have hl7 : H7 lt = some (.lst (ss.map V.str)) := e7 _ _ (x6 _ _ h5)
        have k7 : Kp b H H7 := (k5.trans (Kp.ex x6)).trans (Kp.ex e7)
        have X7 : Bx b H7 := (X5.ex x6).ex e7
        have nD : D1 ≠ b := (X5.ex x6).ne hD1
        refine ⟨_, rfl, _, rfl, lt, rfl, ⟨_, SqL.of hl7⟩, fun D2 hD2 => lcM (walk_list (xs := ss.map V.str)) (fun s => V.str (z ++ s ++ tl)) (by omega) (fun H' e => ex_l e (SqL.of hl7)) (fun _ => rfl) (fun s hs H' e Q q => ⟨_, rfl, _, rfl, z, s, rfl, rfl, (te s (ok5 s hs)).1, _, rfl, _, _, rfl, rfl, (te s (ok5 s hs)).2, q H' (Ex.refl _)⟩) hD2 fun H8 e8 h8 => ?_⟩
        refine ⟨(by show 2 ≤ sizeLine; decide), fun t ht => ?_⟩
        have x9 := Ex.new (o := .tup [.ref D1, .ref D2]) ht
        refine fin t D1 D2 ((["p", "q", "r1"] : List Str).map fun s => z ++ s ++ tl) (ss.map fun s => z ++ s ++ tl) _ ((k7.trans (Kp.ex e8)).trans (Kp.ex x9)) ((X7.ex e8).ex x9) upd_same ?_ ?_ nD (X7.ne hD2) rfl (by rw [List.length_map]; exact l5) ?_ ?_ ?_
        · rw [List.map_map]; exact x9 _ _ (e8 _ _ h7)
        · rw [List.map_map]; exact x9 _ _ h8
        · intro y hy
          obtain ⟨s, hs, rfl⟩ := List.mem_map.mp hy
          exact pn s (ok3 s hs)
        · intro y hy
          obtain ⟨s, hs, rfl⟩ := List.mem_map.mp hy
          exact pn s (ok5 s hs)
        · exact List.Pairwise.map _ (fun x y n e => n (put_inj e)) nd5
end
end E5
set_option maxRecDepth 100000
set_option maxHeartbeats 8000000
namespace E5
open PySem L2 Evl GP HR SC
/-- the names that the law draws from -/
structure Wld (b t1 t2 : Addr) (xs ys : List Str) (H : Hp) : Prop where
  l1 : H t1 = some (.lst (xs.map V.str))
  l2 : H t2 = some (.lst (ys.map V.str))
  n1 : t1 ≠ b
  n2 : t2 ≠ b
  x3 : xs.length = 3
  y4 : ys.length = 4
  xn : ∀ z ∈ xs, isNameS z = true
  yn : ∀ z ∈ ys, isNameS z = true
  nd : ys.Nodup
theorem Wld.kp {b t1 t2 : Addr} {xs ys : List Str} {H H' : Hp} (W : Wld b t1 t2 xs ys H) (k : Kp b H H') : Wld b t1 t2 xs ys H' := { W with l1 := k.k _ _ W.n1 W.l1, l2 := k.k _ _ W.n2 W.l2 }
theorem Wld.xat {b t1 t2 : Addr} {xs ys : List Str} {H : Hp} (W : Wld b t1 t2 xs ys H) {d : Int} (h0 : 0 ≤ d) (h1 : d < (xs.length : Int)) : ∃ x, atI (xs.map V.str) d = some (.str x) ∧ isNameS x = true := by
  have hi : d.toNat < xs.length := by omega
  exact ⟨xs[d.toNat], at_lit (n := d.toNat) (by omega) (by rw [List.getElem?_map, List.getElem?_eq_getElem hi]; rfl), W.xn _ (List.getElem_mem hi)⟩
theorem Wld.yat {b t1 t2 : Addr} {xs ys : List Str} {H : Hp} (W : Wld b t1 t2 xs ys H) {d : Int} (h0 : 0 ≤ d) (h1 : d < (ys.length : Int)) : ∃ x, atI (ys.map V.str) d = some (.str x) ∧ ys[d.toNat]? = some x ∧ x ∈ ys ∧ isNameS x = true := by
  have hi : d.toNat < ys.length := by omega
  exact ⟨ys[d.toNat], at_lit (n := d.toNat) (by omega) (by rw [List.getElem?_map, List.getElem?_eq_getElem hi]; rfl), List.getElem?_eq_getElem hi, List.getElem_mem hi, W.yn _ (List.getElem_mem hi)⟩
theorem two_apart {one m : Int} (h0 : 0 ≤ one) (h1 : one < 4) (h2 : 0 ≤ m) (h3 : m < 3) : 0 ≤ Int.fmod (one + 1 + m) 4 ∧ Int.fmod (one + 1 + m) 4 < 4 ∧ Int.fmod (one + 1 + m) 4 ≠ one := by
  rw [Int.fmod_eq_emod_of_nonneg _ (by decide)]
  omega
theorem nd_ne {ys : List Str} (nd : ys.Nodup) {i j : Nat} {x y : Str} (h1 : ys[i]? = some x) (h2 : ys[j]? = some y) (n : i ≠ j) : x ≠ y := by
  obtain ⟨a1, b1⟩ := List.getElem?_eq_some_iff.mp h1
  obtain ⟨a2, b2⟩ := List.getElem?_eq_some_iff.mp h2
  have p := List.pairwise_iff_getElem.mp nd
  rw [← b1, ← b2]
  rcases Nat.lt_or_gt_of_ne n with l | l
  · exact p i j a1 a2 l
  · exact (p j i a2 a1 l).symm
theorem yn_at (k : Int) (h0 : 0 ≤ k) (h1 : k < 2) : ∃ f, atI [V.str "yes", V.str "no"] k = some (.str (ynS f)) := by
  have : k = 0 ∨ k = 1 := by omega
  rcases this with rfl | rfl
  · exact ⟨true, rfl⟩
  · exact ⟨false, rfl⟩
def spLiteral : Sp := fun vs H Q _ => ∃ (b t1 t2 : Addr) (xs ys : List Str), vs = [.ref b, .ref t1, .ref t2] ∧ Bx b H ∧ Wld b t1 t2 xs ys H ∧
  ∀ (p : Addr) (l : Lit) H', Kp b H H' → Bx b H' → H' p = some (.tup (litV l)) → LitOk l → (∀ z ∈ namesOf l, z ∈ ys) → Q (.ref p) H'
section
variable {P : Program} {w : World} {K : PySem.W.Frag} {mg : Str → Option Value} {base : Heap} {a : Ad} {d : Fd}
theorem ok_law_literal (T : TX K mg a) (D : FDS K a d) : FnOk P w K mg base CX0 3 a.a_law_literal d.a_law_literal ["bag", "truths", "moments"] spLiteral := by
  have G__law_draw : FnOk P w K mg base CX0 1 a.a_law_draw d.a_law_draw ["bag", "size"] spDraw := ok_law_draw T D
  have G__law_integer : FnOk P w K mg base CX0 2 a.a_law_integer d.a_law_integer ["bag"] spInt := ok_law_integer T D
  refine D.F__law_literal.ok sc_law_literal (fun vs H Q E h => ?_) (fun cdv A outer s H vs Q E hr h => ?_)
  · obtain ⟨b, t1, t2, xs, ys, rfl, _⟩ := h
    rfl
  · obtain ⟨b, t1, t2, xs, ys, rfl, X, W, fin⟩ := h
    refine ⟨_, (pss_cons (ps_set (i := 3) sc_law_literal.nd rfl (Or.inl rfl) (pe_call G__law_draw (hr.mono (by decide)) rfl T.f__law_draw T.k__law_draw D.B__law_draw .nil pass0 (pa_cons (pv 0) (pa_cons pe_int pa_nil))))
        (pss_cons (ps_if (pt_cmpR op_lt (pv 3) pe_int (nomark _)) (pss_one (ps_ret (pe_tup (pa_cons (pe_ix (ix_listK (K := K)) (pe_lst (pa_cons pe_str (pa_cons pe_str pa_nil))) (pv 3) (fun _ _ => rfl)) (pa_cons (pe_ix (ix_listK (K := K)) (pv 1) (pe_call G__law_draw (hr.mono (by decide)) rfl T.f__law_draw T.k__law_draw D.B__law_draw .nil pass0 (pa_cons (pv 0) (pa_cons (pe_callB call_len_seq (by rfl) T.b_len (by decide +kernel) (pa_cons (pv 1) pa_nil)) pa_nil))) (fun _ _ => rfl)) pa_nil))))) pss_nil)
        (pss_cons (ps_set (i := 4) sc_law_literal.nd rfl (Or.inl rfl) (pe_call G__law_draw (hr.mono (by decide)) rfl T.f__law_draw T.k__law_draw D.B__law_draw .nil pass0 (pa_cons (pv 0) (pa_cons (pe_callB call_len_seq (by rfl) T.b_len (by decide +kernel) (pa_cons (pv 2) pa_nil)) pa_nil))))
        (pss_cons (ps_set (i := 5) sc_law_literal.nd rfl (Or.inl rfl) (pe_op op_modN (pe_callTy call_int1 (by rfl) T.b_int (by decide +kernel) (pa_cons (pe_op op_add (pe_op op_add (pv 4) pe_int) (pe_call G__law_draw (hr.mono (by decide)) rfl T.f__law_draw T.k__law_draw D.B__law_draw .nil pass0 (pa_cons (pv 0) (pa_cons (pe_op op_sub (pe_callB call_len_seq (by rfl) T.b_len (by decide +kernel) (pa_cons (pv 2) pa_nil)) pe_int) pa_nil)))) pa_nil)) (pe_callB call_len_seq (by rfl) T.b_len (by decide +kernel) (pa_cons (pv 2) pa_nil))))
        (pss_one (ps_ret (pe_tup (pa_cons pe_str (pa_cons (pe_ix (ix_listK (K := K)) (pv 2) (pv 4) (fun _ _ => rfl)) (pa_cons (pe_ix (ix_listK (K := K)) (pv 2) (pv 5) (fun _ _ => rfl)) (pa_cons (pe_call G__law_integer (hr.mono (by decide)) rfl T.f__law_integer T.k__law_integer D.B__law_integer .nil pass0 (pa_cons (pv 0) pa_nil)) pa_nil))))))))))), ?_⟩
    refine ⟨_, rfl, b, 5, rfl, X, by decide, by decide, fun kd H1 k1 X1 q0 q1 => ⟨_, rfl, _, _, rfl, rfl, _, rfl, ite2 (fun g => ?_) (fun g => ?_)⟩⟩
    · have g' := of_decide_eq_true g
      obtain ⟨f, hf⟩ := yn_at kd q0 g'
      refine ⟨(by show 2 ≤ sizeLine; decide), fun l3 hl3 => ⟨_, rfl, l3, _, kd, _, rfl, rfl, SqL.of upd_same, hf, ?_⟩⟩
      have x3 := Ex.new (o := .lst [.str "yes", .str "no"]) hl3
      have W2 := (W.kp k1).kp (Kp.ex x3)
      have lx : (xs.map V.str).length = xs.length := List.length_map _
      refine ⟨_, rfl, _, rfl, _, rfl, t1, _, rfl, .inl (SqL.of W2.l1), b, _, rfl, X1.ex x3, by rw [lx, W.x3]; decide, by rw [lx, W.x3]; decide, fun d2 H2 k2 X2 r0 r1 => ?_⟩
      rw [lx] at r1
      have W3 := W2.kp k2
      obtain ⟨x, hx, nx⟩ := W3.xat r0 r1
      refine ⟨t1, _, d2, _, rfl, rfl, SqL.of W3.l1, hx, (by show 2 ≤ sizeLine; decide), fun t ht => ?_⟩
      exact fin t (.yn f x) _ ((k1.trans (Kp.ex x3)).trans (k2.trans (Kp.ex (Ex.new ht)))) (X2.ex (Ex.new ht)) upd_same nx (fun z h => absurd h List.not_mem_nil)
    · have ly : (ys.map V.str).length = ys.length := List.length_map _
      have W1 := W.kp k1
      refine ⟨_, rfl, _, rfl, t2, _, rfl, .inl (SqL.of W1.l2), b, _, rfl, X1, by rw [ly, W.y4]; decide, by rw [ly, W.y4]; decide, fun one H2 k2 X2 r0 r1 => ?_⟩
      rw [ly] at r1
      have W2 := W1.kp k2
      refine ⟨_, rfl, _, _, rfl, rfl, _, rfl, _, rfl, t2, _, rfl, .inl (SqL.of W2.l2), _, _, rfl, rfl, b, _, rfl, X2, by rw [ly, W.y4]; decide, by rw [ly, W.y4]; decide, fun m H3 k3 X3 s0 s1 => ?_⟩
      rw [ly] at s1
      have W3 := W2.kp k3
      refine ⟨_, _, rfl, rfl, .inl ⟨_, rfl, _, rfl, t2, _, rfl, .inl (SqL.of W3.l2), _, _, rfl, rfl, (by rw [ly, W.y4]; show (4 : Int) ≠ 0; decide), ?_⟩⟩
      rw [ly, W.y4]
      rw [W.y4] at r1 s1
      obtain ⟨m0, m4, mn⟩ := two_apart r0 r1 s0 s1
      obtain ⟨x, hx, hx2, hx3, nx⟩ := W3.yat r0 (by rw [W.y4]; exact r1)
      obtain ⟨y, hy, hy2, hy3, ny⟩ := W3.yat m0 (by rw [W.y4]; exact m4)
      have xy : x ≠ y := nd_ne W.nd hx2 hy2 (by omega)
      refine ⟨_, rfl, _, rfl, t2, _, one, _, rfl, rfl, SqL.of W3.l2, hx, _, rfl, _, rfl, t2, _, _, _, rfl, rfl, SqL.of W3.l2, hy, _, rfl, b, rfl, X3, fun i H4 k4 X4 lo hi => ⟨(by show 4 ≤ sizeLine; decide), fun t ht => ?_⟩⟩
      exact fin t (.most x y i) _ (((k1.trans k2).trans k3).trans (k4.trans (Kp.ex (Ex.new ht)))) (X4.ex (Ex.new ht)) upd_same ⟨nx, ny, xy, by omega, by omega⟩ (fun z h => by
        simp only [namesOf, List.mem_cons, List.not_mem_nil, or_false] at h
        rcases h with rfl | rfl
        · exact hx3
        · exact hy3)
end
end E5
set_option maxRecDepth 100000
set_option maxHeartbeats 8000000
namespace E5
open PySem L2 Evl GP HR SC
def prK (q : Str × Int) : L2.Key × V := (.inr q.1, .int q.2)
def tvOf (ps : List (Str × Int)) (z : Str) : Int := ((ps.find? fun q => decide (q.1 = z)).map Prod.snd).getD 0
/-- truths and times as they stand -/
structure Val (H : Hp) (v n tm : Addr) (o : Obj) (pa : List Addr) (ns : List Str) (ps : List (Str × Int)) : Prop where
  hv : H v = some (.tup [.ref n, .ref tm])
  hn : H n = some (.tup (ns.map V.str))
  ht : H tm = some (.frz o (.tup (pa.map V.ref)))
  od : o.dict = none
  len : pa.length = ps.length
  at_ : ∀ (i : Nat) (q : Str × Int), ps[i]? = some q → ∃ t, pa[i]? = some t ∧ H t = some (.tup [.str q.1, .int q.2])
  nd : (ps.map Prod.fst).Nodup
  few : ps.length ≤ 60
theorem Val.ex {H H' : Hp} {v n tm : Addr} {o : Obj} {pa : List Addr} {ns : List Str} {ps : List (Str × Int)} (A : Val H v n tm o pa ns ps) (e : Ex H H') : Val H' v n tm o pa ns ps :=
  { A with hv := e _ _ A.hv, hn := e _ _ A.hn, ht := e _ _ A.ht, at_ := fun i q h => let ⟨t, h1, h2⟩ := A.at_ i q h; ⟨t, h1, e _ _ h2⟩ }
theorem Val.prs {K : PySem.W.Frag} {H : Hp} {v n tm : Addr} {o : Obj} {pa : List Addr} {ns : List Str} {ps : List (Str × Int)} (A : Val H v n tm o pa ns ps) : Prs K H (pa.map V.ref) ps := ⟨by rw [List.length_map, A.len], fun i q h => by
  obtain ⟨t, h1, h2⟩ := A.at_ i q h
  exact ⟨t, by rw [List.getElem?_map, h1]; rfl, SqT.of h2⟩⟩
theorem pair_at {K : PySem.W.Frag} {H : Hp} : ∀ {pa : List Addr} {ps : List (Str × Int)}, pa.length = ps.length → (∀ (i : Nat) (q : Str × Int), ps[i]? = some q → ∃ t, pa[i]? = some t ∧ H t = some (.tup [.str q.1, .int q.2])) → Paired (fun p kv => SqT K H p [kV kv.1, kv.2]) pa (ps.map prK)
  | [], [], _, _ => .nil
  | [], _ :: _, l, _ => by simp at l
  | _ :: _, [], l, _ => by simp at l
  | a :: pa, q :: ps, l, h => by
    obtain ⟨t, h1, h2⟩ := h 0 q rfl
    obtain rfl : a = t := Option.some.inj h1
    exact .cons (SqT.of h2) (pair_at (by simpa using l) fun i r g => h (i + 1) r g)
theorem merge_new : ∀ (more acc : List (L2.Key × V)), ((acc ++ more).map Prod.fst).Nodup → mergeK acc more = acc ++ more := by
  intro more
  induction more with
  | nil => intro acc _; rw [List.append_nil]; rfl
  | cons x r ih =>
    intro acc nd
    have nx : ¬ (acc.any fun kv => decide (kv.1 = x.1)) = true := fun h => by
      obtain ⟨kv, hk, e⟩ := List.any_eq_true.mp h
      have e := of_decide_eq_true e
      rw [List.map_append, List.map_cons] at nd
      exact (List.nodup_append.mp nd).2.2 kv.1 (List.mem_map_of_mem hk) x.1 List.mem_cons_self e
    have e : putK acc x.1 x.2 = acc ++ [x] := by
      unfold putK
      rw [if_neg nx]
    show mergeK (putK acc x.1 x.2) r = _
    rw [e, ih (acc ++ [x]) (by rwa [List.append_assoc]), List.append_assoc]
    rfl
theorem val_at : ∀ {ps : List (Str × Int)} {z : Str}, z ∈ ps.map Prod.fst → valV (ps.map prK) (.inr z : L2.Key) = some (.int (tvOf ps z))
  | [], z, h => absurd h List.not_mem_nil
  | q :: ps, z, h => by
    by_cases g : q.1 = z
    · unfold tvOf valV
      rw [List.map_cons, List.find?_cons_of_pos (by simp [prK, g]), List.find?_cons_of_pos (by simp [g])]
      rfl
    · have := val_at (ps := ps) (z := z) (by
        rcases List.mem_cons.mp h with e | h
        · exact absurd e.symm g
        · exact h)
      unfold tvOf valV at this ⊢
      rw [List.map_cons, List.find?_cons_of_neg (by simp [prK, g]), List.find?_cons_of_neg (by simp [g])]
      exact this
theorem val_of {ps : List (Str × Int)} (nd : (ps.map Prod.fst).Nodup) {z : Str} (hz : z ∈ ps.map Prod.fst) : valV (mergeK [] (ps.map prK)) (.inr z : L2.Key) = some (.int (tvOf ps z)) := by
  rw [merge_new (ps.map prK) [] ?_, List.nil_append]
  · exact val_at hz
  · rw [List.nil_append, List.map_map]
    have : (Prod.fst ∘ prK) = (fun z => (Sum.inr z : L2.Key)) ∘ (Prod.fst : Str × Int → Str) := rfl
    rw [this, ← List.map_map]
    exact List.Pairwise.map _ (fun x y n e => n (Sum.inr.inj e)) nd
def spHolds : Sp := fun vs H Q _ => ∃ (p v n tm : Addr) (o : Obj) (pa : List Addr) (l : Lit) (ns : List Str) (ps : List (Str × Int)), vs = [.ref p, .ref v] ∧ H p = some (.tup (litV l)) ∧ Val H v n tm o pa ns ps ∧ (∀ z ∈ namesOf l, z ∈ ps.map Prod.fst) ∧ ∀ H', Ex H H' → Q (.bl (holdsL ns (tvOf ps) l)) H'
section
variable {P : Program} {w : World} {K : PySem.W.Frag} {mg : Str → Option Value} {base : Heap} {a : Ad} {d : Fd}
theorem ok_law_holds (T : TX K mg a) (D : FDS K a d) : FnOk P w K mg base CX0 1 a.a_law_holds d.a_law_holds ["literal", "values"] spHolds := by
  refine D.F__law_holds.ok sc_law_holds (fun vs H Q E h => ?_) (fun cdv A outer s H vs Q E hr h => ?_)
  · obtain ⟨p, v, n, tm, o, pa, l, ns, ps, rfl, _⟩ := h
    rfl
  · obtain ⟨p, v, n, tm, o, pa, l, ns, ps, rfl, hp, VL, sub, fin⟩ := h
    refine ⟨_, (pss_cons (ps_if (pt_cmpR op_eq (pe_ix ix_tup (pv 0) pe_int (fun _ _ => rfl)) pe_str (nomark _)) (pss_one (ps_ret (pe_cmpR op_in_seq (pe_ix ix_tup (pv 0) pe_int (fun _ _ => rfl)) (pe_ix ix_tup (pv 1) pe_int (fun _ _ => rfl)) rfl))) pss_nil)
        (pss_cons (ps_if (pt_cmpR op_eq (pe_ix ix_tup (pv 0) pe_int (fun _ _ => rfl)) pe_str (nomark _)) (pss_one (ps_ret (pe_cmpR op_notIn_seq (pe_ix ix_tup (pv 0) pe_int (fun _ _ => rfl)) (pe_ix ix_tup (pv 1) pe_int (fun _ _ => rfl)) rfl))) pss_nil)
        (pss_cons (ps_set (i := 2) sc_law_holds.nd rfl (Or.inl rfl) (pe_callTy (cr_dictF rfl) (by rfl) T.b_dict (by decide +kernel) (pa_cons (pe_ix ix_tup (pv 1) pe_int (fun _ _ => rfl)) pa_nil)))
        (pss_one (ps_ret (pe_cmpR op_le (pe_op op_sub (pe_dget (hu_of hr) (pv 2) (pe_ix ix_tup (pv 0) pe_int (fun _ _ => rfl)) (fun _ _ => rfl)) (pe_dget (hu_of hr) (pv 2) (pe_ix ix_tup (pv 0) pe_int (fun _ _ => rfl)) (fun _ _ => rfl))) (pe_ix ix_tup (pv 0) pe_int (fun _ _ => rfl)) (nomark _))))))), ?_⟩
    cases l with
    | yn b x =>
      cases b with
      | true =>
        refine ⟨_, rfl, p, _, 0, .str "yes", rfl, rfl, SqT.of hp, rfl, rfl, _, rfl, iteT' (by decide +kernel) ⟨_, rfl, p, _, 1, .str x, rfl, rfl, SqT.of hp, rfl, _, rfl, v, _, 0, .ref n, rfl, rfl, SqT.of VL.hv, rfl, n, _, rfl, .inr (SqT.of VL.hn), rfl, flat_strs, ?_⟩⟩
        rw [if_neg Bool.false_ne_true, inV_strs]
        exact ex_q fin (by show decide (decide (x ∈ ns) = true) = _; cases decide (x ∈ ns) <;> rfl) (Ex.refl _)
      | false =>
        refine ⟨_, rfl, p, _, 0, .str "no", rfl, rfl, SqT.of hp, rfl, rfl, _, rfl, iteF' (by decide +kernel) ⟨_, rfl, p, _, 0, .str "no", rfl, rfl, SqT.of hp, rfl, rfl, _, rfl, iteT' (by decide +kernel) ⟨_, rfl, p, _, 1, .str x, rfl, rfl, SqT.of hp, rfl, _, rfl, v, _, 0, .ref n, rfl, rfl, SqT.of VL.hv, rfl, n, _, rfl, .inr (SqT.of VL.hn), rfl, flat_strs, ?_⟩⟩⟩
        rw [if_pos rfl, inV_strs]
        exact ex_q fin (by show decide (decide (x ∈ ns) = false) = _; cases decide (x ∈ ns) <;> rfl) (Ex.refl _)
    | most x y k =>
      refine ⟨_, rfl, p, _, 0, .str "most", rfl, rfl, SqT.of hp, rfl, rfl, _, rfl, iteF' (by decide +kernel) ⟨_, rfl, p, _, 0, .str "most", rfl, rfl, SqT.of hp, rfl, rfl, _, rfl, iteF' (by decide +kernel) ?_⟩⟩
      refine ⟨_, rfl, v, _, 1, .ref tm, rfl, rfl, SqT.of VL.hv, rfl, tm, o, pa, ps.map prK, rfl, VL.ht, VL.od, pair_at VL.len VL.at_, fun t ht => ?_⟩
      have x1 := Ex.new (o := .dK (mergeK [] (ps.map prK))) ht
      have hp1 := x1 _ _ hp
      have hx := val_of VL.nd (sub x (by simp [namesOf]))
      have hy := val_of VL.nd (sub y (by simp [namesOf]))
      exact ⟨_, rfl, _, rfl, p, _, 1, .str x, rfl, rfl, SqT.of hp1, rfl, t, _, rfl, .inl ⟨_, .inr x, .inl upd_same, rfl, hx.symm⟩, _, rfl, _, rfl, p, _, 2, .str y, rfl, rfl, SqT.of hp1, rfl, t, _, rfl, .inl ⟨_, .inr y, .inl upd_same, rfl, hy.symm⟩, _, _, rfl, rfl, _, rfl, p, _, 3, .int k, rfl, rfl, SqT.of hp1, rfl, _, _, rfl, rfl, fin _ x1⟩
end
end E5
set_option maxRecDepth 100000
set_option maxHeartbeats 4000000
/-! a tuple times 0 or 1 -/
namespace HR
open PySem PySem.Spec PyProof.Rows L2
theorem tuple_mul1W (l : Addr) (items : Array Value) (n : Nat) (dd : Option Addr) (sl : Array (Option Value)) (u : Tok) :
    Meets (Builtin.«tuple.__mul__» ⟨[.ref l, .int 1 u], []⟩) (fun _ R s => s.heap.get? l = some { cls := .type "tuple", dict := dd, data := .seq items n, slots := sl } ∧ R (.ok (.ret (Value.ref l))) s) :=
  .of_wp fun prog w A R s h => by
    obtain ⟨hp, g, d, tk, os⟩ := s
    obtain ⟨hl, h⟩ := h
    have f1 := AutoSeq1.idx_int
    wp_walk using wpAny_loadPart' hl
    exact ⟨_, rfl, h⟩
theorem tuple_mul0W (l : Addr) (items : Array Value) (n : Nat) (dd : Option Addr) (sl : Array (Option Value)) (u : Tok) (c1 : items.isEmpty = false) :
    Meets (Builtin.«tuple.__mul__» ⟨[.ref l, .int 0 u], []⟩) (fun _ R s => s.heap.get? l = some { cls := .type "tuple", dict := dd, data := .seq items n, slots := sl } ∧
      R (.ok (.ret (Value.ref s.heap.objs.size))) { s with heap := s.heap.push { cls := Value.type "tuple", data := Data.seq #[] }, toks := s.toks }) :=
  .of_wp fun prog w A R s h => by
    obtain ⟨hp, g, d, tk, os⟩ := s
    obtain ⟨hl, h⟩ := h
    have f1 := AutoSeq1.idx_int
    wp_walk using wpAny_loadPart' hl
    exact ⟨_, rfl, h⟩
def rRep01 (K : PySem.W.Frag) : R2 := fun x y H Q => ∃ l k xs, x = .ref l ∧ y = .int k ∧ SqT K H l xs ∧ xs ≠ [] ∧ (k = 0 ∨ k = 1) ∧ (k = 1 → Q (.ref l) H) ∧ (k = 0 → ∀ p, H p = none → Q (.ref p) (upd H p (.tup [])))
theorem op_rep01 {X : Cx} {K : PySem.W.Frag} (hK : X.K = K := by rfl) : OpR X (binaryOp .Mult) (rRep01 K) := by
  subst hK
  intro pins s σ H x y v u Q I rx ry h
  obtain ⟨l, k, xs, rfl, rfl, hT, hne, hk, q1, q0⟩ := h
  cases rx
  obtain ⟨t, rfl⟩ := ry
  obtain ⟨its, r, ⟨⟨cls, dd, data, sl⟩, ho, hc, n, hd⟩, hs⟩ := I.tuple hT
  simp only at hc hd
  subst hc hd
  have hle : its.length = xs.length := r.length.symm
  have hn : its ≠ [] := fun e => hne (by
    rw [e] at hle
    exact List.eq_nil_of_length_eq_zero hle.symm)
  have hi : its.toArray.isEmpty = false := by
    cases its with
    | nil => exact absurd rfl hn
    | cons a b => rfl
  rcases hk with rfl | rfl
  · refine wpAny_binaryOp_repeat_ref (T := "tuple") (U := "int") (by decide) ⟨_, ho, rfl⟩ (fun s' => typeIs_int s' 0 t) noFill_tuple_mul F.fills_int_mul F.slot_int_rmul repeat_tuple F.slot_int_index.lookup
      (call_meets F.slot_int_rmul (typeIs_int s 0 t) F.entry_int_rmul (F.args_int_rmul_2 _ _) (int_rmul_tuple 0 t l its.toArray n dd sl)
        ⟨ho, rfl, ⟨_, ho, rfl⟩, call_meets F.slot_tuple_mul ⟨_, ho, rfl⟩ F.entry_tuple_mul (F.args_tuple_mul_2 _ _) (tuple_mul0W l its.toArray n dd sl t hi) ⟨ho, ?_⟩⟩)
    exact ⟨.ref s.heap.objs.size, _, I.laid (t' := s.toks) (o := .tup []) (fun b ob q => Heap.get?_push_of_some _ q) (Nat.le_refl _) ⟨Nat.zero_le _, [], .nil, IsTup.new _ _⟩, rfl, q0 rfl _ (I.hok.fresh (Nat.le_refl _))⟩
  · refine wpAny_binaryOp_repeat_ref (T := "tuple") (U := "int") (by decide) ⟨_, ho, rfl⟩ (fun s' => typeIs_int s' 1 t) noFill_tuple_mul F.fills_int_mul F.slot_int_rmul repeat_tuple F.slot_int_index.lookup
      (call_meets F.slot_int_rmul (typeIs_int s 1 t) F.entry_int_rmul (F.args_int_rmul_2 _ _) (int_rmul_tuple 1 t l its.toArray n dd sl)
        ⟨ho, rfl, ⟨_, ho, rfl⟩, call_meets F.slot_tuple_mul ⟨_, ho, rfl⟩ F.entry_tuple_mul (F.args_tuple_mul_2 _ _) (tuple_mul1W l its.toArray n dd sl t) ⟨ho, ?_⟩⟩)
    exact ⟨.ref l, _, I, rfl, q1 rfl⟩
end HR
set_option maxRecDepth 100000
set_option maxHeartbeats 8000000
namespace E5
open PySem L2 Evl GP HR SC
inductive Gt where
  | lit (l : Lit)
  | op (all : Bool) (ks : List Nat)
def opS (b : Bool) : Str := if b = true then "all" else "any"
def gw : Gt → Str
  | .lit _ => "lit"
  | .op b _ => opS b
def inner : Gt → List V
  | .lit l => litV l
  | .op _ ks => ks.map fun (k : Nat) => V.int (k : Int)
/-- tuples stay -/
def Tp (H H' : Hp) : Prop := ∀ t vs, H t = some (.tup vs) → H' t = some (.tup vs)
theorem Tp.ex {H H' : Hp} (e : Ex H H') : Tp H H' := fun t vs h => e _ _ h
theorem Tp.trans {H H1 H2 : Hp} (x : Tp H H1) (y : Tp H1 H2) : Tp H H2 := fun t vs h => y t vs (x t vs h)
theorem Kp.tp {b : Addr} {H H' : Hp} (k : Kp b H H') (X : Bx b H) : Tp H H' := fun t vs h => k.tup X h
theorem Tp.lst {H : Hp} {l : Addr} {vs ws : List V} (h : H l = some (.lst vs)) : Tp H (upd H l (.lst ws)) := fun t us g => by
  rw [upd_ne (fun e => by rw [e, h] at g; cases g)]
  exact g
structure Gts (H : Hp) (vs : List V) (gs : List Gt) : Prop where
  len : vs.length = gs.length
  at_ : ∀ (i : Nat) (g : Gt), gs[i]? = some g → ∃ t p, vs[i]? = some (.ref t) ∧ H t = some (.tup [.str (gw g), .ref p]) ∧ H p = some (.tup (inner g))
theorem Gts.tp {H H' : Hp} {vs : List V} {gs : List Gt} (A : Gts H vs gs) (e : Tp H H') : Gts H' vs gs := ⟨A.len, fun i g h => by
  obtain ⟨t, p, h1, h2, h3⟩ := A.at_ i g h
  exact ⟨t, p, h1, e _ _ h2, e _ _ h3⟩⟩
theorem Gts.nil {H : Hp} : Gts H [] [] := ⟨rfl, fun i g h => by simp at h⟩
theorem Gts.snoc {H : Hp} {vs : List V} {gs : List Gt} {t p : Addr} {g : Gt} (A : Gts H vs gs) (h1 : H t = some (.tup [.str (gw g), .ref p])) (h2 : H p = some (.tup (inner g))) : Gts H (vs ++ [.ref t]) (gs ++ [g]) := ⟨by simp [A.len], fun i q h => by
  rcases Nat.lt_trichotomy i gs.length with l | rfl | l
  · rw [List.getElem?_append_left l] at h
    obtain ⟨t', p', g1, g2, g3⟩ := A.at_ i q h
    exact ⟨t', p', by rw [List.getElem?_append_left (by rw [A.len]; exact l)]; exact g1, g2, g3⟩
  · rw [List.getElem?_append_right (Nat.le_refl _), Nat.sub_self] at h
    obtain rfl : g = q := Option.some.inj h
    exact ⟨t, p, by rw [← A.len, List.getElem?_append_right (Nat.le_refl _), Nat.sub_self]; rfl, h1, h2⟩
  · rw [List.getElem?_eq_none (by rw [List.length_append, List.length_singleton]; omega)] at h
    cases h⟩
theorem Gts.get {H : Hp} {vs : List V} {gs : List Gt} (A : Gts H vs gs) {i : Nat} {v : V} (h : vs[i]? = some v) : ∃ t p g, v = .ref t ∧ gs[i]? = some g ∧ H t = some (.tup [.str (gw g), .ref p]) ∧ H p = some (.tup (inner g)) := by
  have hi : i < gs.length := by rw [← A.len]; exact (List.getElem?_eq_some_iff.mp h).1
  obtain ⟨t, p, h1, h2, h3⟩ := A.at_ i gs[i] (List.getElem?_eq_getElem hi)
  exact ⟨t, p, gs[i], Option.some.inj (h.symm.trans h1), List.getElem?_eq_getElem hi, h2, h3⟩
theorem Gts.take {H : Hp} {vs : List V} {gs : List Gt} (A : Gts H vs gs) (n : Nat) : Gts H (vs.take n) (gs.take n) := ⟨by rw [List.length_take, List.length_take, A.len], fun i g h => by
  rw [List.getElem?_take] at h
  split at h
  · rename_i l
    obtain ⟨t, p, h1, h2, h3⟩ := A.at_ i g h
    exact ⟨t, p, by rw [List.getElem?_take, if_pos l]; exact h1, h2, h3⟩
  · cases h⟩
def GtOk (ys : List Str) (i : Nat) : Gt → Prop
  | .lit l => LitOk l ∧ ∀ z ∈ namesOf l, z ∈ ys
  | .op _ ks => ks.length ≤ 3 ∧ ∀ k ∈ ks, k < i
def GsOk (ys : List Str) (gs : List Gt) : Prop := ∀ (i : Nat) (g : Gt), gs[i]? = some g → GtOk ys i g
theorem GsOk.nil {ys : List Str} : GsOk ys [] := fun i g h => by simp at h
theorem GsOk.snoc {ys : List Str} {gs : List Gt} {g : Gt} (A : GsOk ys gs) (h1 : GtOk ys gs.length g) : GsOk ys (gs ++ [g]) := fun i q h => by
  rcases Nat.lt_trichotomy i gs.length with l | rfl | l
  · rw [List.getElem?_append_left l] at h
    exact A i q h
  · rw [List.getElem?_append_right (Nat.le_refl _), Nat.sub_self] at h
    obtain rfl : g = q := Option.some.inj h
    exact h1
  · rw [List.getElem?_eq_none (by rw [List.length_append, List.length_singleton]; omega)] at h
    cases h
theorem GsOk.take {ys : List Str} {gs : List Gt} (A : GsOk ys gs) (n : Nat) : GsOk ys (gs.take n) := fun i g h => by
  rw [List.getElem?_take] at h
  split at h
  · exact A i g h
  · cases h
structure GInv (b gl : Addr) (H0 : Hp) (ys : List Str) (i : Nat) (H' : Hp) (vs : List V) (gs : List Gt) : Prop where
  kp : Kp b H0 H'
  bx : Bx b H'
  hl : H' gl = some (.lst vs)
  gt : Gts H' vs gs
  ok : GsOk ys gs
  len : gs.length = i
theorem GInv.step {b gl : Addr} {H0 : Hp} {ys : List Str} {i : Nat} {H2 H' : Hp} {vs : List V} {gs : List Gt} {t p : Addr} {g : Gt} (I : GInv b gl H0 ys i H2 vs gs) (n0 : H0 gl = none) (X0 : Bx b H0) (k : Kp b H2 H') (X' : Bx b H') (ht : H' t = some (.tup [.str (gw g), .ref p])) (hp : H' p = some (.tup (inner g))) (ok : GtOk ys i g) :
    GInv b gl H0 ys (i + 1) (upd H' gl (.lst (vs ++ [.ref t]))) (vs ++ [.ref t]) (gs ++ [g]) := by
  have hl : H' gl = some (.lst vs) := k.k _ _ (X0.ne n0) I.hl
  have T : Tp H' (upd H' gl (.lst (vs ++ [.ref t]))) := Tp.lst hl
  exact ⟨(I.kp.trans k).mut n0, X'.upd (X0.ne n0), upd_same, (I.gt.tp ((k.tp I.bx).trans T)).snoc (T _ _ ht) (T _ _ hp), I.ok.snoc (by rw [I.len]; exact ok), by simp [I.len]⟩
theorem op_at (k : Int) (h0 : 0 ≤ k) (h1 : k < 2) : ∃ f, atI [V.str "all", V.str "any"] k = some (.str (opS f)) := by
  have : k = 0 ∨ k = 1 := by omega
  rcases this with rfl | rfl
  · exact ⟨true, rfl⟩
  · exact ⟨false, rfl⟩
def spGates : Sp := fun vs H Q _ => ∃ (b t1 t2 : Addr) (xs ys : List Str), vs = [.ref b, .ref t1, .ref t2] ∧ Bx b H ∧ Wld b t1 t2 xs ys H ∧
  ∀ (p : Addr) (us : List V) (gs : List Gt) H', Kp b H H' → Bx b H' → H' p = some (.tup us) → Gts H' us gs → GsOk ys gs → 1 ≤ gs.length → gs.length ≤ 32 → Q (.ref p) H'
section
variable {P : Program} {w : World} {K : PySem.W.Frag} {mg : Str → Option Value} {base : Heap} {a : Ad} {d : Fd}
theorem ok_law_gates (T : TX K mg a) (D : FDS K a d) : FnOk P w K mg base CX0 4 a.a_law_gates d.a_law_gates ["bag", "truths", "moments"] spGates := by
  have G__law_draw : FnOk P w K mg base CX0 1 a.a_law_draw d.a_law_draw ["bag", "size"] spDraw := ok_law_draw T D
  have G__law_literal : FnOk P w K mg base CX0 3 a.a_law_literal d.a_law_literal ["bag", "truths", "moments"] spLiteral := ok_law_literal T D
  refine D.F__law_gates.ok sc_law_gates (fun vs H Q E h => ?_) (fun cdv A outer s H vs Q E hr h => ?_)
  · obtain ⟨b, t1, t2, xs, ys, rfl, _⟩ := h
    rfl
  · obtain ⟨b, t1, t2, xs, ys, rfl, X, W, fin⟩ := h
    refine ⟨_, (pss_cons (ps_set (i := 3) sc_law_gates.nd rfl (Or.inl rfl) (pe_lst pa_nil))
        (pss_cons (ps_set (i := 4) sc_law_gates.nd rfl (Or.inl rfl) (pe_op op_mul pe_int (pe_callTy call_int1 (by rfl) T.b_int (by decide +kernel) (pa_cons (pe_cmpR op_eq (pe_call G__law_draw (hr.mono (by decide)) rfl T.f__law_draw T.k__law_draw D.B__law_draw .nil pass0 (pa_cons (pv 0) (pa_cons pe_int pa_nil))) pe_int (nomark _)) pa_nil))))
        (Evl.pss_cut (ps_for PassesOwn.never rfl (pi_range1 rfl T.b_range (pa_cons (pe_op op_add (pe_op op_add pe_int (pe_call G__law_draw (hr.mono (by decide)) rfl T.f__law_draw T.k__law_draw D.B__law_draw .nil pass0 (pa_cons (pv 0) (pa_cons pe_int pa_nil)))) (pv 4)) pa_nil)) (pg_name (i := 5) sc_law_gates.nd rfl (Or.inr rfl)) (pss_cons (ps_set (i := 6) sc_law_gates.nd rfl (Or.inl rfl) (pe_call G__law_draw (hr.mono (by decide)) rfl T.f__law_draw T.k__law_draw D.B__law_draw .nil pass0 (pa_cons (pv 0) (pa_cons pe_int pa_nil))))
        (pss_cons (ps_set (i := 7) sc_law_gates.nd rfl (Or.inl rfl) (pe_callB (call_min2 rfl) (by rfl) T.b_min (by decide +kernel) (pa_cons (pv 5) (pa_cons (pe_call G__law_draw (hr.mono (by decide)) rfl T.f__law_draw T.k__law_draw D.B__law_draw .nil pass0 (pa_cons (pv 0) (pa_cons pe_int pa_nil))) pa_nil))))
        (pss_one (ps_if (pt_cmpR op_eq (pv 6) pe_int (nomark _)) (pss_one (ps_expr (pe_bm PySem.F.plainAttrs_list PySem.F.slot_list_append PySem.F.type_list_append mt_append (pv 3) (pa_cons (pe_tup (pa_cons pe_str (pa_cons (pe_call G__law_literal (hr.mono (by decide)) rfl T.f__law_literal T.k__law_literal D.B__law_literal .nil pass0 (pa_cons (pv 0) (pa_cons (pv 1) (pa_cons (pv 2) pa_nil)))) pa_nil))) pa_nil)))) (pss_one (ps_if (pt_cmpR op_gt (pv 4) pe_int (nomark _)) (pss_one (ps_expr (pe_bm PySem.F.plainAttrs_list PySem.F.slot_list_append PySem.F.type_list_append mt_append (pv 3) (pa_cons (pe_tup (pa_cons (pe_ix (ix_listK (K := K)) (pe_lst (pa_cons pe_str (pa_cons pe_str pa_nil))) (pe_op op_sub (pv 6) pe_int) (fun _ _ => rfl)) (pa_cons (pe_op (op_rep01 (K := K)) (pe_tup (pa_cons (pe_op op_sub (pv 5) pe_int) pa_nil)) (pe_callB (call_min2 rfl) (by rfl) T.b_min (by decide +kernel) (pa_cons pe_int (pa_cons (pv 7) pa_nil)))) pa_nil))) pa_nil)))) (pss_cons (ps_set (i := 8) sc_law_gates.nd rfl (Or.inl rfl) (pe_callTy call_tuple_of (by rfl) T.b_tuple (by decide +kernel) (pa_cons (pe_lc (own := [("j", 9)]) (g := gName 9) (tt := tYes) rfl sc_law_gates.nd (pi_range1 rfl T.b_range (pa_cons (pv 7) pa_nil)) (blkOk_by (N := ["bag", "truths", "moments", "gates", "more", "k", "kind", "many", "refs", "j"]) (sc := defScope s_law_gates) (by decide +kernel)) (fun _ _ _ _ _ => (pg_name (i := 9) sc_law_gates.nd rfl (Or.inl rfl))) (fun _ _ _ _ _ => pts_nil) (fun _ _ _ _ _ => (pe_call G__law_draw (hr.mono (by decide)) rfl T.f__law_draw T.k__law_draw D.B__law_draw .nil pass0 (pa_cons (pv 0) (pa_cons (pv 5) pa_nil))))) pa_nil)))
        (pss_one (ps_expr (pe_bm PySem.F.plainAttrs_list PySem.F.slot_list_append PySem.F.type_list_append mt_append (pv 3) (pa_cons (pe_tup (pa_cons (pe_ix (ix_listK (K := K)) (pe_lst (pa_cons pe_str (pa_cons pe_str pa_nil))) (pe_op op_sub (pv 6) pe_int) (fun _ _ => rfl)) (pa_cons (pv 8) pa_nil))) pa_nil))))))))))))
        (pss_one (ps_ret (pe_callTy call_tuple_of (by rfl) T.b_tuple (by decide +kernel) (pa_cons (pv 3) pa_nil))))))), ?_⟩
    refine ⟨(by show 0 ≤ sizeLine; decide), fun gl hgl => ⟨_, rfl, b, 8, rfl, X.ex (Ex.new hgl), by decide, by decide, fun d0 H1 k1 X1 q0 q1 => ⟨rfl, .inr ⟨_, rfl, ?_⟩⟩⟩⟩
    have h24 : ∀ c : Bool, 0 ≤ 24 * (if c = true then (1 : Int) else 0) ∧ 24 * (if c = true then (1 : Int) else 0) ≤ 24 := by intro c; cases c <;> decide
    refine ⟨_, _, rfl, rfl, .inl (by constructor <;> decide), ?_⟩
    dsimp only
    have hm := h24 (decide (V.int d0 = V.int 7))
    generalize 24 * (if decide (V.int d0 = V.int 7) = true then (1 : Int) else 0) = more at *
    obtain ⟨m0, m24⟩ := hm
    refine ⟨fun σ' H' => ∃ (us : List V) (gs : List Gt) (o5 o6 o7 o8 : Option V), σ' = [some (.ref b), some (.ref t1), some (.ref t2), some (.ref gl), some (.int more), o5, o6, o7, o8, none] ∧ GInv b gl H ys gs.length H' us gs ∧ 1 ≤ gs.length ∧ gs.length ≤ 32, ?_, ?_⟩
    · refine ⟨_, rfl, b, 8, rfl, X1, by decide, by decide, fun d8 H2 k2 X2 r0 r1 => ⟨_, _, rfl, rfl, _, rfl, _, _, rfl, rfl, 1 + d8 + more, rfl, by omega, by omega, for_it (walk_range (lo := 0) (n := (1 + d8 + more).toNat)) (fun i σ H' => ∃ (us : List V) (gs : List Gt) (o5 o6 o7 o8 : Option V), σ = [some (.ref b), some (.ref t1), some (.ref t2), some (.ref gl), some (.int more), o5, o6, o7, o8, none] ∧ GInv b gl H ys i H' us gs) ?_ (fun _ _ _ _ _ => trivial) ?_ ?_⟩⟩
      · have n1 : gl ≠ b := X.ne hgl
        exact ⟨[], [], none, none, none, none, rfl, ⟨((Kp.ex (Ex.new hgl)).trans k1).trans k2, X2, k2.k _ _ n1 (k1.k _ _ n1 upd_same), Gts.nil, GsOk.nil, rfl⟩⟩
      · rintro i v σ H3 H3' hi ⟨us, gs, o5, o6, o7, o8, rfl, I⟩ ⟨rfl, hv⟩
        obtain rfl : v = .int (i : Int) := by rw [hv]; show V.int (0 + (i : Int)) = _; rw [Int.zero_add]
        have W3 := W.kp I.kp
        refine ⟨_, rfl, b, 3, rfl, I.bx, by decide, by decide, fun kd H4 k4 X4 s0 s1 => ⟨_, rfl, _, rfl, b, 4, rfl, X4, by decide, by decide, fun d4 H5 k5 X5 u0 u1 => ⟨_, _, rfl, ?_⟩⟩⟩
        have hm : 0 ≤ (if d4 < (i : Int) then d4 else (i : Int)) ∧ (if d4 < (i : Int) then d4 else (i : Int)) ≤ 3 ∧ (if d4 < (i : Int) then d4 else (i : Int)) ≤ (i : Int) := by split <;> omega
        generalize (if d4 < (i : Int) then d4 else (i : Int)) = many at *
        obtain ⟨h0, h3, hi2⟩ := hm
        have k35 := k4.trans k5
        have W5 := W3.kp k35
        have hl5 := k35.k _ _ (X.ne hgl) I.hl
        have lus : us.length = i := by rw [I.gt.len, I.len]
        have big : 1000 ≤ sizeLine := by decide
        refine ⟨_, rfl, rfl, _, rfl, ite2 (fun g => ?_) (fun g => ?_)⟩
        · refine ⟨_, rfl, .inl ⟨rfl, _, SqL.of hl5⟩, ?_⟩
          refine ⟨_, rfl, _, rfl, _, rfl, b, t1, t2, xs, ys, rfl, X5, W5, fun p l H6 k6 X6 hp ok sub => ⟨(by show 2 ≤ sizeLine; decide), fun t ht => ?_⟩⟩
          have xt := Ex.new (o := .tup [.str "lit", .ref p]) ht
          have J := I.step hgl X ((k35.trans k6).trans (Kp.ex xt)) (X6.ex xt) (t := t) (p := p) (g := .lit l) upd_same (xt _ _ hp) ⟨ok, sub⟩
          exact ⟨gl, us, _, rfl, rfl, xt _ _ (k6.k _ _ (X.ne hgl) hl5), by omega, us ++ [.ref t], gs ++ [.lit l], _, _, _, _, rfl, J⟩
        · have kd0 : kd ≠ 0 := fun e => g (decide_eq_true (by rw [e]))
          obtain ⟨f, hf⟩ := op_at (kd - 1) (by omega) (by omega)
          refine ⟨_, rfl, _, _, rfl, rfl, _, rfl, ite2 (fun g2 => ?_) (fun g2 => ?_)⟩
          · refine ⟨_, rfl, .inl ⟨rfl, _, SqL.of hl5⟩, ?_⟩
            refine ⟨(by show 2 ≤ sizeLine; decide), fun l3 hl3 => ⟨_, rfl, _, _, rfl, rfl, l3, _, kd - 1, _, rfl, rfl, SqL.of upd_same, hf, _, rfl, _, _, rfl, rfl, (by show 1 ≤ sizeLine; decide), fun p hp => ⟨_, rfl, _, _, rfl, ?_⟩⟩⟩
            have x3 := Ex.new (o := .lst [.str "all", .str "any"]) hl3
            have x4 := Ex.new (o := .tup [.int ((i : Int) - 1)]) hp
            refine ⟨p, _, [.int ((i : Int) - 1)], rfl, rfl, SqT.of upd_same, List.cons_ne_nil _ _, by split <;> omega, fun e => ?_, fun e p2 hp2 => ?_⟩
            · have hm1 : 1 ≤ many := by split at e <;> omega
              refine ⟨(by show 2 ≤ sizeLine; decide), fun t ht => ?_⟩
              have xt := Ex.new (o := .tup [.str (opS f), .ref p]) ht
              have ei : ((i : Int) - 1) = ((i - 1 : Nat) : Int) := by omega
              have J := I.step hgl X (k35.trans (Kp.ex ((x3.trans x4).trans xt))) (((X5.ex x3).ex x4).ex xt) (t := t) (p := p) (g := .op f [i - 1]) upd_same (xt _ _ (by rw [upd_same]; show some (HO.tup [V.int ((i : Int) - 1)]) = some (HO.tup [V.int ((i - 1 : Nat) : Int)]); rw [ei])) ⟨by simp, fun k hk => by rw [List.mem_singleton.mp hk]; omega⟩
              exact ⟨gl, us, _, rfl, rfl, xt _ _ (x4 _ _ (x3 _ _ hl5)), by omega, us ++ [.ref t], gs ++ [.op f [i - 1]], _, _, _, _, rfl, J⟩
            · refine ⟨(by show 2 ≤ sizeLine; decide), fun t ht => ?_⟩
              have x5 := Ex.new (o := .tup []) hp2
              have xt := Ex.new (o := .tup [.str (opS f), .ref p2]) ht
              have J := I.step hgl X (k35.trans (Kp.ex (((x3.trans x4).trans x5).trans xt))) ((((X5.ex x3).ex x4).ex x5).ex xt) (t := t) (p := p2) (g := .op f []) upd_same (xt _ _ upd_same) ⟨by simp, fun k hk => absurd hk List.not_mem_nil⟩
              exact ⟨gl, us, _, rfl, rfl, xt _ _ (x5 _ _ (x4 _ _ (x3 _ _ hl5))), by omega, us ++ [.ref t], gs ++ [.op f []], _, _, _, _, rfl, J⟩
          · refine ⟨_, rfl, many, rfl, by omega, by omega, fun D2 hD2 => lc_range (lo := 0) (n := many.toNat) (fun j H' => Kp b H5 H' ∧ Bx b H' ∧ ∃ ks : List Nat, H' D2 = some (.lst (ks.map fun (k : Nat) => V.int (k : Int))) ∧ ks.length = j ∧ ∀ k ∈ ks, k < i)
              ⟨Kp.mut (Kp.refl _ _) hD2, X5.upd (X5.ne hD2), [], upd_same, rfl, fun _ h => absurd h List.not_mem_nil⟩ ?_ ?_⟩
            · rintro j H7 hj ⟨k7, X7, ks, h7, l7, m7⟩
              unfold gName tYes
              dsimp only
              refine ⟨rfl, ?_⟩
              rw [if_pos rfl]
              refine ⟨_, rfl, _, rfl, b, (i : Int), rfl, X7, by omega, by omega, fun d5 H8 k8 X8 f0 f1 => ?_⟩
              have h8 := k8.k _ _ (X5.ne hD2) h7
              refine ⟨_, h8, by rw [List.length_map]; omega, (k7.trans k8).mut hD2, X8.upd (X5.ne hD2), ks ++ [d5.toNat], ?_, by simp [l7], fun k hk => ?_⟩
              · rw [upd_same, List.map_append]
                show _ = some (HO.lst (_ ++ [V.int ((d5.toNat : Nat) : Int)]))
                rw [show ((d5.toNat : Nat) : Int) = d5 by omega]
              · rcases List.mem_append.mp hk with hk | hk
                · exact m7 k hk
                · rw [List.mem_singleton.mp hk]; omega
            · rintro H7 ⟨k7, X7, ks, h7, l7, m7⟩
              refine ⟨D2, _, rfl, .inl ⟨SqL.of h7, fun p hp => ?_⟩⟩
              have hl7 := k7.k _ _ (X.ne hgl) hl5
              have x4 := Ex.new (o := .tup (ks.map fun (k : Nat) => V.int (k : Int))) hp
              refine ⟨_, rfl, .inl ⟨rfl, _, SqL.of (x4 _ _ hl7)⟩, (by show 2 ≤ sizeLine; decide), fun l3 hl3 => ⟨_, rfl, _, _, rfl, rfl, l3, _, kd - 1, _, rfl, rfl, SqL.of upd_same, hf, _, rfl, (by show 2 ≤ sizeLine; decide), fun t ht => ?_⟩⟩
              have x3 := Ex.new (o := .lst [.str "all", .str "any"]) hl3
              have xt := Ex.new (o := .tup [.str (opS f), .ref p]) ht
              have J := I.step hgl X ((k35.trans k7).trans (Kp.ex ((x4.trans x3).trans xt))) (((X7.ex x4).ex x3).ex xt) (t := t) (p := p) (g := .op f ks) upd_same (xt _ _ (x3 _ _ upd_same)) ⟨by omega, m7⟩
              exact ⟨gl, us, _, rfl, rfl, xt _ _ (x3 _ _ (x4 _ _ hl7)), by omega, us ++ [.ref t], gs ++ [.op f ks], _, _, _, _, rfl, J⟩
      · rintro σ H3 ⟨us, gs, o5, o6, o7, o8, rfl, I⟩
        have := I.len
        exact ⟨us, gs, o5, o6, o7, o8, rfl, ⟨I.kp, I.bx, I.hl, I.gt, I.ok, rfl⟩, by omega, by omega⟩
    · rintro σ' H3 ⟨us, gs, o5, o6, o7, o8, rfl, I, l1, l2⟩
      refine ⟨_, rfl, gl, _, rfl, .inl ⟨SqL.of I.hl, fun t ht => ?_⟩⟩
      exact fin t us gs _ (I.kp.trans (Kp.ex (Ex.new ht))) (I.bx.ex (Ex.new ht)) upd_same (I.gt.tp (Tp.ex (Ex.new ht))) I.ok l1 l2
end
end E5
set_option maxRecDepth 100000
set_option maxHeartbeats 8000000
namespace E5
open PySem L2 Evl GP HR SC
theorem Gts.zip {H : Hp} : ∀ {vs : List V} {gs : List Gt}, Gts H vs gs → ∃ zs : List (Addr × Addr × Gt), vs = zs.map (fun z => V.ref z.1) ∧ gs = zs.map (fun z => z.2.2) ∧ ∀ z ∈ zs, H z.1 = some (.tup [.str (gw z.2.2), .ref z.2.1]) ∧ H z.2.1 = some (.tup (inner z.2.2))
  | [], [], _ => ⟨[], rfl, rfl, fun _ h => absurd h List.not_mem_nil⟩
  | [], _ :: _, A => by have := A.len; simp at this
  | _ :: _, [], A => by have := A.len; simp at this
  | v :: vs, g :: gs, A => by
    obtain ⟨t, p, h1, h2, h3⟩ := A.at_ 0 g rfl
    obtain rfl : v = .ref t := Option.some.inj h1
    obtain ⟨zs, e1, e2, hz⟩ := Gts.zip (vs := vs) (gs := gs) ⟨by have := A.len; simpa using this, fun i r h => A.at_ (i + 1) r h⟩
    refine ⟨(t, p, g) :: zs, by rw [e1]; rfl, by rw [e2]; rfl, fun z hz' => ?_⟩
    rcases List.mem_cons.mp hz' with rfl | h
    · exact ⟨h2, h3⟩
    · exact hz z h
theorem put_new {ps : List (Str × Int)} {z : Str} {t : Int} (h : z ∉ ps.map Prod.fst) : putK (ps.map prK) (.inr z : L2.Key) (.int t) = (ps ++ [(z, t)]).map prK := by
  have nx : ¬ ((ps.map prK).any fun kv => decide (kv.1 = (.inr z : L2.Key))) = true := fun g => by
    obtain ⟨kv, hk, e⟩ := List.any_eq_true.mp g
    obtain ⟨q, hq, rfl⟩ := List.mem_map.mp hk
    have e2 : q.1 = z := Sum.inr.inj (of_decide_eq_true e)
    exact h (List.mem_map.mpr ⟨q, hq, e2⟩)
  unfold putK
  rw [if_neg nx, List.map_append]
  rfl
def putP (ps : List (Str × Int)) (z : Str) (t : Int) : List (Str × Int) := ps.map fun q => if q.1 = z then (q.1, t) else q
theorem putP_fst (ps : List (Str × Int)) (z : Str) (t : Int) : (putP ps z t).map Prod.fst = ps.map Prod.fst := by
  unfold putP
  rw [List.map_map]
  refine List.map_congr_left fun q _ => ?_
  show (if q.1 = z then (q.1, t) else q).1 = q.1
  split <;> rfl
theorem put_old {ps : List (Str × Int)} {z : Str} {t : Int} (h : z ∈ ps.map Prod.fst) : putK (ps.map prK) (.inr z : L2.Key) (.int t) = (putP ps z t).map prK := by
  obtain ⟨q, hq, e⟩ := List.mem_map.mp h
  have nx : ((ps.map prK).any fun kv => decide (kv.1 = (.inr z : L2.Key))) = true := List.any_eq_true.mpr ⟨prK q, List.mem_map_of_mem hq, decide_eq_true (by rw [← e]; rfl)⟩
  unfold putK putP
  rw [if_pos nx, List.map_map, List.map_map]
  refine List.map_congr_left fun r _ => ?_
  show (if (Sum.inr r.1 : L2.Key) = Sum.inr z then ((Sum.inr r.1 : L2.Key), V.int t) else prK r) = prK (if r.1 = z then (r.1, t) else r)
  by_cases g : r.1 = z
  · rw [if_pos (by rw [g]), if_pos g]
    rfl
  · rw [if_neg (fun e => g (Sum.inr.inj e)), if_neg g]
theorem val_some {ps : List (Str × Int)} {z : Str} : (valV (ps.map prK) (.inr z : L2.Key)).isSome = decide (z ∈ ps.map Prod.fst) := by
  rw [Bool.eq_iff_iff, decide_eq_true_iff]
  unfold valV
  rw [Option.isSome_map, List.find?_isSome]
  constructor
  · rintro ⟨kv, hk, e⟩
    obtain ⟨q, hq, rfl⟩ := List.mem_map.mp hk
    exact List.mem_map.mpr ⟨q, hq, Sum.inr.inj (of_decide_eq_true e)⟩
  · intro h
    obtain ⟨q, hq, e⟩ := List.mem_map.mp h
    exact ⟨prK q, List.mem_map_of_mem hq, decide_eq_true (by rw [← e]; rfl)⟩
def isMostG : Gt → Bool
  | .lit (.most _ _ _) => true
  | _ => false
/-- gate[0] == 'lit' and gate[1][0] == 'most' -/
theorem most_test {K : PySem.W.Frag} {σ : L2.St} {j : Nat} {t p : Addr} {g : Gt} {H : Hp} {Q : Bool → Hp → Prop} (hs : σ[j]? = some (some (.ref t))) (h1 : H t = some (.tup [.str (gw g), .ref p])) (h2 : H p = some (.tup (inner g))) (q : Q (isMostG g) H) :
    tAnd (tTest (tOp rEq (tOp (rIxT K) (tVar j) (tC (.int 0))) (tC (.str (Str.ofString "lit"))))) (tTest (tOp rEq (tOp (rIxT K) (tOp (rIxT K) (tVar j) (tC (.int 1))) (tC (.int 0))) (tC (.str (Str.ofString "most"))))) σ H Q := by
  cases g with
  | op f ks =>
    refine ⟨_, hs, t, _, 0, .str (opS f), rfl, rfl, SqT.of h1, rfl, rfl, _, rfl, iteF' (by cases f <;> decide +kernel) q⟩
  | lit l =>
    refine ⟨_, hs, t, _, 0, .str "lit", rfl, rfl, SqT.of h1, rfl, rfl, _, rfl, iteT' (by decide +kernel) ?_⟩
    cases l with
    | yn b x => exact ⟨_, hs, t, _, 1, .ref p, rfl, rfl, SqT.of h1, rfl, p, _, 0, .str (ynS b), rfl, rfl, SqT.of h2, rfl, rfl, _, rfl, by rw [show decide (V.str (ynS b) = V.str (Str.ofString "most")) = false by cases b <;> decide +kernel]; exact q⟩
    | most x y k => exact ⟨_, hs, t, _, 1, .ref p, rfl, rfl, SqT.of h1, rfl, p, _, 0, .str "most", rfl, rfl, SqT.of h2, rfl, rfl, _, rfl, by rw [show decide (V.str "most" = V.str (Str.ofString "most")) = true by decide +kernel]; exact q⟩
def spValues : Sp := fun vs H Q _ => ∃ (b t1 t2 gp : Addr) (xs ys : List Str) (us : List V) (gs : List Gt), vs = [.ref b, .ref t1, .ref t2, .ref gp] ∧ Bx b H ∧ Wld b t1 t2 xs ys H ∧ H gp = some (.tup us) ∧ Gts H us gs ∧ gs.length ≤ 32 ∧
  ∀ (v n tm : Addr) (o : Obj) (pa : List Addr) (ns : List Str) (ps : List (Str × Int)) H', Kp b H H' → Bx b H' → Val H' v n tm o pa ns ps → Q (.ref v) H'
section
variable {P : Program} {w : World} {K : PySem.W.Frag} {mg : Str → Option Value} {base : Heap} {a : Ad} {d : Fd}
theorem ok_law_values (T : TX K mg a) (D : FDS K a d) : FnOk P w K mg base CX0 3 a.a_law_values d.a_law_values ["bag", "truths", "moments", "gates"] spValues := by
  have G__law_draw : FnOk P w K mg base CX0 1 a.a_law_draw d.a_law_draw ["bag", "size"] spDraw := ok_law_draw T D
  have G__law_integer : FnOk P w K mg base CX0 2 a.a_law_integer d.a_law_integer ["bag"] spInt := ok_law_integer T D
  refine D.F__law_values.ok sc_law_values (fun vs H Q E h => ?_) (fun cdv A outer s H vs Q E hr h => ?_)
  · obtain ⟨b, t1, t2, gp, xs, ys, us, gs, rfl, _⟩ := h
    rfl
  · obtain ⟨b, t1, t2, gp, xs, ys, us, gs, rfl, X, W, hgp, G, g32, fin⟩ := h
    refine ⟨_, (pss_cons (ps_set (i := 4) sc_law_values.nd rfl (Or.inl rfl) (pe_lst pa_nil))
        (Evl.pss_cut (ps_for PassesOwn.never rfl (pi_list (pe_op op_cat (pv 1) (pe_lst (pa_cons pe_str pa_nil)))) (pg_name (i := 5) sc_law_values.nd rfl (Or.inl rfl)) (pss_one (ps_if (pt_cmpR op_eq (pe_call G__law_draw (hr.mono (by decide)) rfl T.f__law_draw T.k__law_draw D.B__law_draw .nil pass0 (pa_cons (pv 0) (pa_cons pe_int pa_nil))) pe_int (nomark _)) (pss_one (ps_expr (pe_bm PySem.F.plainAttrs_list PySem.F.slot_list_append PySem.F.type_list_append mt_append (pv 4) (pa_cons (pv 5) pa_nil)))) pss_nil)))
        (pss_cons (ps_set (i := 6) sc_law_values.nd rfl (Or.inr rfl) pe_dnewK)
        (Evl.pss_cut (ps_for PassesOwn.never rfl (pi_list (pv 2)) (pg_name (i := 5) sc_law_values.nd rfl (Or.inl rfl)) (pss_cons (ps_set (i := 7) sc_law_values.nd rfl (Or.inl rfl) (pe_call G__law_integer (hr.mono (by decide)) rfl T.f__law_integer T.k__law_integer D.B__law_integer .nil pass0 (pa_cons (pv 0) pa_nil)))
        (pss_one (ps_if (pt_cmpR op_lt (pe_call G__law_draw (hr.mono (by decide)) rfl T.f__law_draw T.k__law_draw D.B__law_draw .nil pass0 (pa_cons (pv 0) (pa_cons pe_int pa_nil))) pe_int (nomark _)) (pss_one (ps_dput (hu_of hr) (pv 6) (pv 5) (pv 7) rfl)) pss_nil))))
        (Evl.pss_cut (ps_setLc (i := 8) (own := [("gate", 9)]) (g := gName 9) rfl sc_law_values.nd rfl rfl (sw_true rfl rfl rfl (by decide +kernel)) (pi_tup (pv 3)) (blkOk_by (N := ["bag", "truths", "moments", "gates", "names", "one", "times", "time", "bounds", "gate"]) (sc := defScope s_law_values) (by decide +kernel)) (fun _ _ _ _ _ => (pg_name (i := 9) sc_law_values.nd rfl (Or.inl rfl))) (fun _ _ _ _ _ => (pts_one (PW.pt (pw_and (pt_cmpR op_eq (pe_ix (ix_tupK (K := K)) (pv 9) pe_int (fun _ _ => rfl)) pe_str (nomark _)) (pw_and1 (pt_cmpR op_eq (pe_ix (ix_tupK (K := K)) (pe_ix (ix_tupK (K := K)) (pv 9) pe_int (fun _ _ => rfl)) pe_int (fun _ _ => rfl)) pe_str (nomark _))))))) (fun _ _ _ _ _ => (pe_ix (ix_tupK (K := K)) (pv 9) pe_int (fun _ _ => rfl))))
        (Evl.pss_cut (ps_if (PW.pt (pw_and (pt_cmpR op_gt (pe_callB call_len_seq (by rfl) T.b_len (by decide +kernel) (pa_cons (pv 8) pa_nil)) pe_int (nomark _)) (pw_and1 (pt_cmpR op_eq (pe_call G__law_draw (hr.mono (by decide)) rfl T.f__law_draw T.k__law_draw D.B__law_draw .nil pass0 (pa_cons (pv 0) (pa_cons pe_int pa_nil))) pe_int (nomark _))))) (pss_cons (ps_set (i := 5) sc_law_values.nd rfl (Or.inl rfl) (pe_ix (ix_listK (K := K)) (pv 8) (pe_call G__law_draw (hr.mono (by decide)) rfl T.f__law_draw T.k__law_draw D.B__law_draw .nil pass0 (pa_cons (pv 0) (pa_cons (pe_callB call_len_seq (by rfl) T.b_len (by decide +kernel) (pa_cons (pv 8) pa_nil)) pa_nil))) (fun _ _ => rfl)))
        (pss_one (ps_if (PW.pt (pw_and (pt_cmp (pc_din (hu_of hr) (pe_ix ix_tup (pv 5) pe_int (fun _ _ => rfl)) (pv 6))) (pw_and1 (pt_cmp (pc_din (hu_of hr) (pe_ix ix_tup (pv 5) pe_int (fun _ _ => rfl)) (pv 6)))))) (pss_one (ps_dput (hu_of hr) (pv 6) (pe_ix ix_tup (pv 5) pe_int (fun _ _ => rfl)) (pe_op op_add (pe_op op_add (pe_dget (hu_of hr) (pv 6) (pe_ix ix_tup (pv 5) pe_int (fun _ _ => rfl)) (fun _ _ => rfl)) (pe_ix ix_tup (pv 5) pe_int (fun _ _ => rfl))) (pe_call G__law_draw (hr.mono (by decide)) rfl T.f__law_draw T.k__law_draw D.B__law_draw .nil pass0 (pa_cons (pv 0) (pa_cons pe_int pa_nil)))) rfl)) pss_nil))) pss_nil)
        (pss_one (ps_ret (pe_tup (pa_cons (pe_callTy call_tuple_of (by rfl) T.b_tuple (by decide +kernel) (pa_cons (pe_callB cr_sortedS (by rfl) T.b_sorted (by decide +kernel) (pa_cons (pv 4) pa_nil)) pa_nil)) (pa_cons (pe_callTy (cr_tupF (K := K)) (by rfl) T.b_tuple (by decide +kernel) (pa_cons (pe_lc (own := [("one", 5)]) (g := gName 5) (tt := tYes) rfl sc_law_values.nd (pi_list (pe_callB cr_sortedS (by rfl) T.b_sorted (by decide +kernel) (pa_cons (pe_callTy (call_list_dK rfl) (by rfl) T.b_list (by decide +kernel) (pa_cons (pv 6) pa_nil)) pa_nil))) (blkOk_by (N := ["bag", "truths", "moments", "gates", "names", "one", "times", "time", "bounds", "gate"]) (sc := defScope s_law_values) (by decide +kernel)) (fun _ _ _ _ _ => (pg_name (i := 5) sc_law_values.nd rfl (Or.inl rfl))) (fun _ _ _ _ _ => pts_nil) (fun _ _ _ _ _ => (pe_tup (pa_cons (pv 5) (pa_cons (pe_dget (hu_of hr) (pv 6) (pv 5) (fun _ _ => rfl)) pa_nil))))) pa_nil)) pa_nil))))))))))), ?_⟩
    have big : 1000 ≤ sizeLine := by decide
    obtain ⟨zs, eu, eg, hz⟩ := G.zip
    refine ⟨(by show 0 ≤ sizeLine; decide), fun nl hnl => ?_⟩
    have nnb : nl ≠ b := X.ne hnl
    refine ⟨fun σ' H' => ∃ (ns : List Str) (o5 : Option V), σ' = [some (.ref b), some (.ref t1), some (.ref t2), some (.ref gp), some (.ref nl), o5, none, none, none, none] ∧ Kp b H H' ∧ Bx b H' ∧ H' nl = some (.lst (ns.map V.str)) ∧ ns.length ≤ 4, ?_, ?_⟩
    · have x1 := Ex.new (o := .lst []) hnl
      have hxs : ∀ {H' : Hp}, H' t1 = some (.lst (xs.map V.str)) → H' t1 = some (.lst (xs.map V.str)) := fun h => h
      refine ⟨_, rfl, (by show 1 ≤ sizeLine; decide), fun q hq => ⟨t1, q, _, _, rfl, rfl, Ex.new hq _ _ (x1 _ _ W.l1), upd_same, by rw [List.length_map, W.x3]; decide, fun p hp => ⟨p, rfl, ⟨_, SqL.of upd_same⟩,
        for_it (walk_list (xs := xs.map V.str ++ [V.str "ppp0ppp0"])) (fun i σ H' => ∃ (ns : List Str) (o5 : Option V), σ = [some (.ref b), some (.ref t1), some (.ref t2), some (.ref gp), some (.ref nl), o5, none, none, none, none] ∧ Kp b H H' ∧ Bx b H' ∧ H' nl = some (.lst (ns.map V.str)) ∧ ns.length ≤ i ∧ H' p = some (.lst (xs.map V.str ++ [V.str "ppp0ppp0"]))) ?_ (fun i σ H' _ ⟨_, _, _, _, _, _, _, h⟩ => SqL.of h) ?_ ?_⟩⟩⟩
      · have x2 := Ex.new (o := .lst [.str "ppp0ppp0"]) hq
        have x3 := Ex.new (o := .lst (xs.map V.str ++ [V.str "ppp0ppp0"])) hp
        exact ⟨[], none, rfl, Kp.ex ((x1.trans x2).trans x3), ((X.ex x1).ex x2).ex x3, x3 _ _ (x2 _ _ upd_same), Nat.le_refl _, upd_same⟩
      · have x2 := Ex.new (o := .lst [.str "ppp0ppp0"]) hq
        have npb : p ≠ b := ((X.ex x1).ex x2).ne hp
        have npn : nl ≠ p := ne_of_none (x2 _ _ upd_same) hp
        rintro i v σ H2 H2' hi ⟨ns, o5, rfl, k2, X2, hn2, ln, h2⟩ ⟨rfl, hv⟩
        have li : i ≤ 3 := by rw [List.length_append, List.length_map, W.x3] at hi; have : ([V.str "ppp0ppp0"] : List V).length = 1 := rfl; omega
        obtain ⟨z, rfl⟩ : ∃ z, v = .str z := by
          have hm := List.mem_of_getElem? hv
          rcases List.mem_append.mp hm with hm | hm
          · obtain ⟨z, _, e⟩ := List.mem_map.mp hm
            exact ⟨z, e.symm⟩
          · exact ⟨_, List.mem_singleton.mp hm⟩
        refine ⟨_, rfl, b, 2, rfl, X2, by decide, by decide, fun d3 H3 k3 X3 _ _ => ⟨rfl, _, rfl, ite2 (fun g => ?_) (fun g => ?_)⟩⟩
        · have hn3 := k3.k _ _ nnb hn2
          refine ⟨_, rfl, .inl ⟨rfl, _, SqL.of hn3⟩, _, rfl, nl, _, _, rfl, rfl, hn3, by rw [List.length_map]; omega, ns ++ [z], _, rfl, (k2.trans k3).mut hnl, X3.upd nnb, by rw [upd_same, List.map_append]; rfl, by rw [List.length_append, List.length_singleton]; omega, ?_⟩
          rw [upd_ne npn.symm]
          exact k3.k _ _ npb h2
        · exact ⟨ns, _, rfl, k2.trans k3, X3, k3.k _ _ nnb hn2, by omega, k3.k _ _ npb h2⟩
      · rintro σ H2 ⟨ns, o5, rfl, k2, X2, hn2, ln, h2⟩
        refine ⟨ns, o5, rfl, k2, X2, hn2, ?_⟩
        rw [List.length_append, List.length_map, W.x3] at ln
        exact ln
    · rintro σ' H1 ⟨ns, o5, rfl, k1, X1, hn1, ln⟩
      refine fun td htd => ?_
      have W1 := W.kp k1
      have ntd : H td = none := k1.back X1 htd
      have ntb : td ≠ b := X1.ne htd
      have nnt : nl ≠ td := ne_of_none hn1 htd
      refine ⟨fun σ' H' => ∃ (ps : List (Str × Int)) (o5 o7 : Option V), σ' = [some (.ref b), some (.ref t1), some (.ref t2), some (.ref gp), some (.ref nl), o5, some (.ref td), o7, none, none] ∧ Kp b H H' ∧ Bx b H' ∧ H' nl = some (.lst (ns.map V.str)) ∧ H' td = some (.dK (ps.map prK)) ∧ (ps.map Prod.fst).Nodup ∧ ps.length ≤ 4, ?_, ?_⟩
      · have x1 := Ex.new (o := .dK []) htd
        refine ⟨_, rfl, t2, rfl, ⟨_, SqL.of (x1 _ _ W1.l2)⟩, for_it (walk_list (xs := ys.map V.str)) (fun i σ H' => ∃ (ps : List (Str × Int)) (o5 o7 : Option V), σ = [some (.ref b), some (.ref t1), some (.ref t2), some (.ref gp), some (.ref nl), o5, some (.ref td), o7, none, none] ∧ Kp b H H' ∧ Bx b H' ∧ H' nl = some (.lst (ns.map V.str)) ∧ H' td = some (.dK (ps.map prK)) ∧ (ps.map Prod.fst).Nodup ∧ ps.length ≤ i ∧ ∀ z ∈ ps.map Prod.fst, z ∈ ys.take i) ?_ (fun i σ H' _ ⟨_, _, _, _, k, _⟩ => SqL.of (W.kp k).l2) ?_ ?_⟩
        · exact ⟨[], o5, none, rfl, k1.trans (Kp.ex x1), X1.ex x1, x1 _ _ hn1, upd_same, List.nodup_nil, Nat.le_refl _, fun z h => absurd h List.not_mem_nil⟩
        · rintro i v σ H2 H2' hi ⟨ps, o5, o7, rfl, k2, X2, hn2, ht2, nd2, lp, sub⟩ ⟨rfl, hv⟩
          rw [List.length_map] at hi
          rw [List.getElem?_map, List.getElem?_eq_getElem hi] at hv
          cases hv
          have tk : ys.take (i + 1) = ys.take i ++ [ys[i]] := by rw [List.take_add_one, List.getElem?_eq_getElem hi]; rfl
          have nw : ys[i] ∉ ys.take i := fun h => by
            have nd := W.nd
            rw [← List.take_append_drop (i + 1) ys, tk] at nd
            have := (List.nodup_append.mp (List.nodup_append.mp nd).1).2.2
            exact this _ h _ (List.mem_singleton.mpr rfl) rfl
          generalize ys[i] = z at *
          refine ⟨_, rfl, b, rfl, X2, fun t H3 k3 X3 _ _ => ⟨_, rfl, b, 6, rfl, X3, by decide, by decide, fun d4 H4 k4 X4 _ _ => ⟨_, _, rfl, rfl, _, rfl, ite2 (fun g => ?_) (fun g => ?_)⟩⟩⟩
          · have k24 := k3.trans k4
            have ht4 := k24.k _ _ ntb ht2
            refine ⟨_, rfl, _, rfl, _, rfl, td, _, rfl, DPut.k (k := .inr z) ht4 (by rw [List.length_map]; have := W.y4; omega), ?_⟩
            have nz : z ∉ ps.map Prod.fst := fun h => nw (sub z h)
            refine ⟨ps ++ [(z, t)], _, _, rfl, (k2.trans k24).mut ntd, X4.upd ntb, by rw [upd_ne nnt]; exact k24.k _ _ nnb hn2, by rw [upd_same, put_new nz], ?_, by rw [List.length_append, List.length_singleton]; omega, fun y hy => ?_⟩
            · rw [List.map_append]
              exact List.nodup_append.mpr ⟨nd2, List.pairwise_singleton _ _, fun a ha c hc e => by
                rw [List.mem_singleton.mp hc] at e
                have e2 : a = z := e
                exact nz (e2 ▸ ha)⟩
            · rw [List.map_append] at hy
              rw [tk]
              rcases List.mem_append.mp hy with hy | hy
              · exact List.mem_append_left _ (sub y hy)
              · rw [List.mem_singleton.mp hy]
                exact List.mem_append_right _ (List.mem_singleton.mpr rfl)
          · exact ⟨ps, _, _, rfl, k2.trans (k3.trans k4), X4, (k3.trans k4).k _ _ nnb hn2, (k3.trans k4).k _ _ ntb ht2, nd2, by omega, fun y hy => by rw [tk]; exact List.mem_append_left _ (sub y hy)⟩
        · rintro σ H2 ⟨ps, o5, o7, rfl, k2, X2, hn2, ht2, nd2, lp, sub⟩
          exact ⟨ps, o5, o7, rfl, k2, X2, hn2, ht2, nd2, by rw [List.length_map, W.y4] at lp; exact lp⟩
      · rintro σ' H2 ⟨ps, o5, o7, rfl, k2, X2, hn2, ht2, nd2, lp⟩
        have hz2 : ∀ z ∈ zs, H2 z.1 = some (.tup [.str (gw z.2.2), .ref z.2.1]) ∧ H2 z.2.1 = some (.tup (inner z.2.2)) := fun z h => ⟨k2.tup X (hz z h).1, k2.tup X (hz z h).2⟩
        have z32 : zs.length ≤ 32 := by rw [← List.length_map (f := fun z : Addr × Addr × Gt => z.2.2), ← eg]; exact g32
        have hg2 : H2 gp = some (.tup (zs.map fun z => V.ref z.1)) := by rw [← eu]; exact k2.tup X hgp
        refine ⟨fun σ' H' => ∃ (bl : Addr), σ' = [some (.ref b), some (.ref t1), some (.ref t2), some (.ref gp), some (.ref nl), o5, some (.ref td), o7, some (.ref bl), none] ∧ Ex H2 H' ∧ H' bl = some (.lst ((zs.filter fun z => isMostG z.2.2).map fun z => V.ref z.2.1)) ∧ bl ≠ b, ?_, ?_⟩
        · refine ⟨_, rfl, gp, rfl, ⟨_, SqT.of hg2⟩, fun D1 hD1 => lcF (walk_tup (xs := zs.map fun z => V.ref z.1)) (fun z => isMostG z.2.2) (fun z => V.ref z.2.1) (by omega) (fun H' e => SqT.of (e _ _ hg2)) (fun _ => rfl) (fun z hzm H' e Q q => ?_) (fun z hzm hc H' e Q q => ?_) hD1 fun H3 e3 h3 => ?_⟩
          · have h1 := e _ _ (hz2 z hzm).1
            exact most_test rfl h1 (e _ _ (hz2 z hzm).2) (q H' (Ex.refl _))
          · exact ⟨_, rfl, z.1, _, 1, .ref z.2.1, rfl, rfl, SqT.of (e _ _ (hz2 z hzm).1), rfl, q H' (Ex.refl _)⟩
          · exact ⟨D1, rfl, e3, h3, X2.ne hD1⟩
        · rintro σ' H3 ⟨bl, rfl, e3, h3, nbl⟩
          have X3 := X2.ex e3
          have k3 := k2.trans (Kp.ex e3)
          have hz3 : ∀ z ∈ zs, H3 z.1 = some (.tup [.str (gw z.2.2), .ref z.2.1]) ∧ H3 z.2.1 = some (.tup (inner z.2.2)) := fun z h => ⟨e3 _ _ (hz2 z h).1, e3 _ _ (hz2 z h).2⟩
          have hn3 := e3 _ _ hn2
          have ht3 := e3 _ _ ht2
          refine ⟨fun σ' H' => ∃ (ps : List (Str × Int)) (o5 : Option V), σ' = [some (.ref b), some (.ref t1), some (.ref t2), some (.ref gp), some (.ref nl), o5, some (.ref td), o7, some (.ref bl), none] ∧ Kp b H H' ∧ Bx b H' ∧ H' nl = some (.lst (ns.map V.str)) ∧ H' td = some (.dK (ps.map prK)) ∧ (ps.map Prod.fst).Nodup ∧ ps.length ≤ 4, ?_, ?_⟩
          · generalize hbs : zs.filter (fun z => isMostG z.2.2) = bs at *
            have lbs : bs.length ≤ 32 := by rw [← hbs]; exact Nat.le_trans (List.length_filter_le _ _) z32
            have lbV : (bs.map fun z => V.ref z.2.1).length = bs.length := List.length_map _
            refine ⟨_, rfl, bl, _, rfl, .inl (SqL.of h3), _, _, rfl, rfl, _, rfl, ite2 (fun g => ?_) (fun g => ?_)⟩
            · have gb := of_decide_eq_true g
              rw [lbV] at gb
              refine ⟨_, rfl, b, 2, rfl, X3, by decide, by decide, fun d4 H4 k4 X4 _ _ => ⟨rfl, _, rfl, ite2 (fun g2 => ?_) (fun g2 => ?_)⟩⟩
              · have h4 := k4.k _ _ nbl h3
                refine ⟨_, rfl, _, rfl, _, rfl, bl, _, rfl, .inl (SqL.of h4), b, _, rfl, X4, by rw [lbV]; exact gb, by rw [lbV]; omega, fun d5 H5 k5 X5 u0 u1 => ?_⟩
                rw [lbV] at u1
                have hi : d5.toNat < bs.length := by omega
                have k35 := k4.trans k5
                have hm : bs[d5.toNat] ∈ bs := List.getElem_mem hi
                have hat : atI (bs.map fun z => V.ref z.2.1) d5 = some (.ref (bs[d5.toNat]).2.1) := at_lit (n := d5.toNat) (by omega) (by rw [List.getElem?_map, List.getElem?_eq_getElem hi]; rfl)
                refine ⟨bl, _, d5, _, rfl, rfl, SqL.of (k5.k _ _ nbl h4), hat, ?_⟩
                generalize bs[d5.toNat] = z at *
                rw [← hbs] at hm
                obtain ⟨hzm, hmost⟩ := List.mem_filter.mp hm
                obtain ⟨x, y, k, ez⟩ : ∃ x y k, z.2.2 = .lit (.most x y k) := by
                  cases e : z.2.2 with
                  | op f ks => rw [e] at hmost; cases hmost
                  | lit l =>
                    cases l with
                    | yn b x => rw [e] at hmost; cases hmost
                    | most x y k => exact ⟨x, y, k, rfl⟩
                have hp5 : H5 z.2.1 = some (.tup [.str "most", .str x, .str y, .int k]) := by
                  have := k35.tup X3 (hz3 z hzm).2
                  rw [ez] at this
                  exact this
                generalize z.2.1 = p at *
                have ht5 := k35.k _ _ ntb ht3
                have hn5 := k35.k _ _ nnb hn3
                refine ⟨_, rfl, p, _, 1, .str x, rfl, rfl, SqT.of hp5, rfl, _, rfl, td, _, rfl, DGet.k (k := .inr x) ht5, _, rfl, ?_⟩
                rw [val_some]
                by_cases gx : x ∈ ps.map Prod.fst
                · rw [decide_eq_true gx]
                  refine iteT' rfl ⟨_, rfl, p, _, 2, .str y, rfl, rfl, SqT.of hp5, rfl, _, rfl, td, _, rfl, DGet.k (k := .inr y) ht5, _, rfl, ?_⟩
                  rw [val_some]
                  by_cases gy : y ∈ ps.map Prod.fst
                  · rw [decide_eq_true gy]
                    refine iteT' rfl ⟨_, rfl, _, rfl, p, _, 2, .str y, rfl, rfl, SqT.of hp5, rfl, td, _, rfl, .inl ⟨_, .inr y, .inl ht5, rfl, (val_at gy).symm⟩, _, rfl, p, _, 3, .int k, rfl, rfl, SqT.of hp5, rfl, _, _, rfl, rfl, _, rfl, b, 2, rfl, X5, by decide, by decide, fun d6 H6 k6 X6 _ _ => ?_⟩
                    have hp6 := k6.tup X5 hp5
                    have ht6 := k6.k _ _ ntb ht5
                    refine ⟨_, _, rfl, rfl, _, rfl, _, rfl, p, _, 1, .str x, rfl, rfl, SqT.of hp6, rfl, td, _, rfl, DPut.k (k := .inr x) ht6 (by rw [List.length_map]; omega), putP ps x (tvOf ps y + k + d6), _, rfl, ((k3.trans k35).trans k6).mut ntd, X6.upd ntb, by rw [upd_ne nnt]; exact k6.k _ _ nnb hn5, by rw [upd_same, put_old gx], by rw [putP_fst]; exact nd2, by unfold putP; rw [List.length_map]; exact lp⟩
                  · rw [decide_eq_false gy]
                    exact iteF' rfl ⟨ps, _, rfl, k3.trans k35, X5, hn5, ht5, nd2, lp⟩
                · rw [decide_eq_false gx]
                  exact iteF' rfl (iteF' rfl ⟨ps, _, rfl, k3.trans k35, X5, hn5, ht5, nd2, lp⟩)
              · exact ⟨ps, o5, rfl, k3.trans k4, X4, k4.k _ _ nnb hn3, k4.k _ _ ntb ht3, nd2, lp⟩
            · dsimp only
              exact iteF' rfl ⟨ps, o5, rfl, k3, X3, hn3, ht3, nd2, lp⟩
          · rintro σ' H4 ⟨ps, o5, rfl, k4, X4, hn4, ht4, nd4, lp4⟩
            refine ⟨_, rfl, nl, ns, rfl, SqL.of hn4, by omega, fun ss p1 _ _ hp1 => ⟨p1, _, rfl, .inl ⟨SqL.of upd_same, fun n hn => ?_⟩⟩⟩
            have x1 := Ex.new (o := .lst (ss.map V.str)) hp1
            have x2 := Ex.new (o := .tup (ss.map V.str)) hn
            have ht5 := x2 _ _ (x1 _ _ ht4)
            have lk : ((ps.map prK).map fun kv => kV kv.1) = (ps.map Prod.fst).map V.str := by
              rw [List.map_map, List.map_map]
              rfl
            refine ⟨_, rfl, td, ps.map prK, rfl, ht5, fun q hq => ⟨q, ps.map Prod.fst, rfl, SqL.of (by rw [upd_same, lk]), by rw [List.length_map]; omega, fun ks p2 pm _ hp2 => ⟨p2, rfl, ⟨_, SqL.of upd_same⟩, fun D1 hD1 => ?_⟩⟩⟩
            have x3 := Ex.new (o := .lst ((ps.map prK).map fun kv => kV kv.1)) hq
            have x4 := Ex.new (o := .lst (ks.map V.str)) hp2
            have hn5 := x4 _ _ (x3 _ _ (upd_same (a := n) (o := .tup (ss.map V.str)) (H := upd H4 p1 (.lst (ss.map V.str)))))
            have hp5 := upd_same (a := p2) (o := .lst (ks.map V.str)) (H := upd (upd (upd H4 p1 (.lst (ss.map V.str))) n (.tup (ss.map V.str))) q (.lst ((ps.map prK).map fun kv => kV kv.1)))
            have ht6 := x4 _ _ (x3 _ _ ht5)
            have k5 := k4.trans (Kp.ex (((x1.trans x2).trans x3).trans x4))
            have X5 := (((X4.ex x1).ex x2).ex x3).ex x4
            have mk : ∀ z, z ∈ ks ↔ z ∈ ps.map Prod.fst := fun z => pm.mem_iff
            have lks : ks.length ≤ 4 := by rw [pm.length_eq, List.length_map]; exact lp4
            clear ht5 ht4 hn4
            generalize upd _ p2 _ = H5 at *
            generalize hrs : ks.map (fun z => (z, tvOf ps z)) = rs
            have lrs : rs.length = ks.length := by rw [← hrs, List.length_map]
            have fst : rs.map Prod.fst = ks := by
              rw [← hrs, List.map_map]
              exact List.map_id _
            refine lc_it (H1 := H5) (walk_list (xs := ks.map V.str)) (fun i H' => Ex H5 H' ∧ ∃ pa : List Addr, H' D1 = some (.lst (pa.map V.ref)) ∧ pa.length = i ∧ ∀ (j : Nat) (r : Str × Int), j < i → rs[j]? = some r → ∃ t, pa[j]? = some t ∧ H' t = some (.tup [.str r.1, .int r.2])) ⟨Ex.new hD1, [], upd_same, rfl, fun j r h => absurd h (Nat.not_lt_zero _)⟩ (fun i H' _ h => ex_l h.1 (SqL.of hp5)) ?_ ?_
            · rintro i v H6 H6' hi ⟨e6, pa, h6, lpa, A⟩ ⟨rfl, hv⟩
              rw [List.length_map] at hi
              rw [List.getElem?_map, List.getElem?_eq_getElem hi] at hv
              cases hv
              have hri : rs[i]? = some (ks[i], tvOf ps ks[i]) := by rw [← hrs, List.getElem?_map, List.getElem?_eq_getElem hi]; rfl
              have hm := (mk _).mp (List.getElem_mem hi)
              generalize ks[i] = z at *
              unfold gName tYes
              dsimp only
              refine ⟨rfl, iteT' rfl ⟨_, rfl, _, rfl, _, rfl, td, _, rfl, .inl ⟨_, .inr z, .inl (e6 _ _ ht6), rfl, (val_at hm).symm⟩, (by show 2 ≤ sizeLine; decide), fun t ht => ?_⟩⟩
              have xt := Ex.new (o := .tup [.str z, .int (tvOf ps z)]) ht
              have nt : t ≠ D1 := (ne_of_none h6 ht).symm
              refine ⟨_, xt _ _ h6, by rw [List.length_map]; omega, Ex.mut (e6.trans xt) hD1, pa ++ [t], by rw [upd_same, List.map_append]; rfl, by rw [List.length_append, List.length_singleton, lpa], fun j r hj hr => ?_⟩
              rcases Nat.lt_or_eq_of_le (Nat.le_of_lt_succ hj) with lt | rfl
              · obtain ⟨t', h1, h2⟩ := A j r lt hr
                refine ⟨t', by rw [List.getElem?_append_left (by omega)]; exact h1, ?_⟩
                rw [upd_ne (fun e => by rw [e, h6] at h2; cases h2)]
                exact xt _ _ h2
              · rw [hri] at hr
                obtain rfl := Option.some.inj hr
                refine ⟨t, by rw [List.getElem?_append_right (by omega), lpa, Nat.sub_self]; rfl, ?_⟩
                rw [upd_ne nt]
                exact upd_same
            · rintro H6 ⟨e6, pa, h6, lpa, A⟩
              rw [List.length_map] at lpa A
              refine ⟨D1, _, rfl, SqL.of h6, fun tm o _ od hl => ⟨(by show 2 ≤ sizeLine; decide), fun v hv => ?_⟩⟩
              have x7 := Ex.new (o := .frz o (.tup (pa.map V.ref))) hl
              have x8 := Ex.new (o := .tup [.ref n, .ref tm]) hv
              refine fin v n tm o pa ss rs _ (k5.trans (Kp.ex ((e6.trans x7).trans x8))) (((X5.ex e6).ex x7).ex x8) ⟨upd_same, x8 _ _ (x7 _ _ (e6 _ _ hn5)), x8 _ _ upd_same, od, by rw [lpa, lrs], fun j r hr => ?_, by rw [fst]; exact pm.nodup_iff.mpr nd4, by omega⟩
              obtain ⟨t, h1, h2⟩ := A j r (by rw [← lrs]; exact (List.getElem?_eq_some_iff.mp hr).1) hr
              exact ⟨t, h1, x8 _ _ (x7 _ _ h2)⟩
end
end E5
set_option maxRecDepth 100000
set_option maxHeartbeats 3200000
/-! set of a list of up to 99 texts -/
namespace TSet
open PySem PySem.Spec PyProof.Rows L2 Froz
variable {X : Cx}
def rSetX2 (K : PySem.W.Frag) (P : Program) (w : World) : List V → Hp → VK → Prop := fun vs H Q => ∃ (a : Addr) (xs : List Str), vs = [V.ref a] ∧ SqL K H a (xs.map V.str) ∧ xs.length < 100 ∧
  ∀ (l : List Str) (p : Addr), l.Nodup → (∀ z, z ∈ l ↔ z ∈ xs) → l.length ≤ xs.length → H p = none → Q (.ref p) (upd H p (SetX P w p l))
theorem cr_setX2 (hc : X.calm = true) : CallR X (.type "set") (rSetX2 X.K X.prog X.w) := by
  intro pins s σ H vs us Q I r h
  obtain ⟨a, xs, rfl, hs, few, q⟩ := h
  obtain ⟨its, rv, hl, _⟩ := I.list hs
  rw [Vals.ref1 r]
  refine set_txt (I.ok.hd hc) hl.isList rv.strs (by unfold scanBound; omega) fun h' tk D l' e F m ll keep => ?_
  exact ⟨.ref _, upd H s.heap.objs.size (SetX X.prog X.w s.heap.objs.size l'), I.laid (t' := tk) keep (Nat.le_refl _) (setX_new ⟨D, e, F⟩), rfl, q l' _ F.nd m ll (I.hok.fresh (Nat.le_refl _))⟩
end TSet
set_option maxRecDepth 100000
set_option maxHeartbeats 4000000
namespace HR
open PySem L2
theorem toList_inj {x y : Str} (h : x.cps.toList = y.cps.toList) : x = y := by
  obtain ⟨a⟩ := x
  obtain ⟨b⟩ := y
  have : a = b := Array.ext' h
  rw [this]
/-! ### ascending texts -/
def Asc (l : List Str) : Prop := l.Pairwise fun a b => a.cps.toList < b.cps.toList
instance (l : List Str) : Decidable (Asc l) := by unfold Asc; infer_instance
theorem lt_irr (a : Str) : ¬ a.cps.toList < a.cps.toList := List.lt_irrefl _
theorem lt_tri {a b : Str} (h1 : ¬ a.cps.toList < b.cps.toList) (h2 : ¬ b.cps.toList < a.cps.toList) : a = b := toList_inj (List.le_antisymm (List.not_lt.mp h2) (List.not_lt.mp h1))
theorem rise_pw : ∀ (l : List Str), PyProof.Rows.sortedS l = true → l.Pairwise fun a b => ¬ b.cps.toList < a.cps.toList
  | [], _ => List.Pairwise.nil
  | x :: l, h => by
    have go : ∀ (l : List Str) (p : Str), PyProof.Rows.risingS p l = true → (p :: l).Pairwise fun a b => ¬ b.cps.toList < a.cps.toList := by
      intro l
      induction l with
      | nil => intro p _; exact List.pairwise_singleton _ _
      | cons y l ih =>
        intro p h
        rw [PyProof.Rows.risingS, Bool.and_eq_true, Bool.not_eq_true', PyProof.Rows.ltCps_eq, decide_eq_false_iff_not] at h
        have hp := ih y h.2
        refine List.pairwise_cons.mpr ⟨fun z hz => ?_, hp⟩
        rcases List.mem_cons.mp hz with e | e
        · rw [e]; exact h.1
        · have hyz := (List.pairwise_cons.mp hp).1 z e
          exact fun q => h.1 (List.lt_of_le_of_lt (List.not_lt.mp hyz) q)
    exact go l x h
theorem asc_of {ys : List Str} (so : PyProof.Rows.sortedS ys = true) (nd : ys.Nodup) : Asc ys := by
  have h := rise_pw ys so
  unfold Asc
  refine List.Pairwise.imp₂ (R := fun a b => ¬ b.cps.toList < a.cps.toList) (S := fun a b => a ≠ b) (fun a b h1 h2 => ?_) h nd
  rcases Classical.em (a.cps.toList < b.cps.toList) with c | c
  · exact c
  · exact absurd (lt_tri c h1) h2
theorem asc_nodup {l : List Str} (h : Asc l) : l.Nodup := List.Pairwise.imp (fun {a b} q e => by rw [e] at q; exact lt_irr _ q) h
theorem asc_same : ∀ {xs ys : List Str}, Asc xs → Asc ys → (∀ z, z ∈ xs ↔ z ∈ ys) → xs = ys
  | [], [], _, _, _ => rfl
  | [], y :: ys, _, _, m => absurd ((m y).mpr List.mem_cons_self) (by simp)
  | x :: xs, [], _, _, m => absurd ((m x).mp List.mem_cons_self) (by simp)
  | x :: xs, y :: ys, hx, hy, m => by
    obtain ⟨x1, x2⟩ := List.pairwise_cons.mp hx
    obtain ⟨y1, y2⟩ := List.pairwise_cons.mp hy
    have e : x = y := by
      rcases List.mem_cons.mp ((m x).mp List.mem_cons_self) with e | e
      · exact e
      · rcases List.mem_cons.mp ((m y).mpr List.mem_cons_self) with e2 | e2
        · exact e2.symm
        · exact absurd (List.lt_trans (x1 y e2) (y1 x e)) (lt_irr _)
    subst e
    rw [asc_same x2 y2 fun z => ?_]
    constructor
    · intro h
      rcases List.mem_cons.mp ((m z).mp (List.mem_cons_of_mem _ h)) with e | e
      · exact absurd (x1 z h) (by rw [e]; exact lt_irr _)
      · exact e
    · intro h
      rcases List.mem_cons.mp ((m z).mpr (List.mem_cons_of_mem _ h)) with e | e
      · exact absurd (y1 z h) (by rw [e]; exact lt_irr _)
      · exact e
end HR
set_option maxRecDepth 100000
set_option maxHeartbeats 8000000
namespace E5
open PySem L2 Evl GP HR SC
def gNames : Gt → List Str
  | .lit l => namesOf l
  | .op _ _ => []
def Mem (gs : List Gt) (ms : List Str) : Prop := ∀ z, z ∈ ms ↔ ∃ g ∈ gs, z ∈ gNames g
theorem gNames_ok {ys : List Str} {gs : List Gt} (A : GsOk ys gs) {g : Gt} (hg : g ∈ gs) {z : Str} (hz : z ∈ gNames g) : z ∈ ys := by
  obtain ⟨i, hi⟩ := List.getElem?_of_mem hg
  have := A i g hi
  cases g with
  | lit l => exact this.2 z hz
  | op f ks => exact absurd hz List.not_mem_nil
def spMomL : Sp := fun vs H Q _ => ∃ (gp : Addr) (us : List V) (gs : List Gt) (ys : List Str), vs = [.ref gp] ∧ H gp = some (.tup us) ∧ Gts H us gs ∧ GsOk ys gs ∧ ys.length ≤ 5 ∧ gs.length ≤ 32 ∧
  ∀ (u : Addr) (ms : List Str) H', Ex H H' → H' u = some (.lst (ms.map V.str)) → Asc ms → Mem gs ms → Q (.ref u) H'
section
variable {P : Program} {w : World} {K : PySem.W.Frag} {mg : Str → Option Value} {base : Heap} {a : Ad} {d : Fd}
theorem ok_law_moments (T : TX K mg a) (D : FDS K a d) : FnOk P w K mg base CX0 1 a.a_law_moments d.a_law_moments ["gates"] spMomL := by
  refine D.F__law_moments.ok sc_law_moments (fun vs H Q E h => ?_) (fun cdv A outer s H vs Q E hr h => ?_)
  · obtain ⟨gp, us, gs, ys, rfl, _⟩ := h
    rfl
  · obtain ⟨gp, us, gs, ys, rfl, hgp, G, ok, y5, g32, fin⟩ := h
    refine ⟨_, (pss_cons (ps_set (i := 1) sc_law_moments.nd rfl (Or.inl rfl) (pe_lst pa_nil))
        (pss_cons (ps_for PassesOwn.never rfl (pi_tup (pv 0)) (pg_name (i := 2) sc_law_moments.nd rfl (Or.inl rfl)) (pss_one (ps_if (PW.pt (pw_and (pt_cmpR op_eq (pe_ix ix_tup (pv 2) pe_int (fun _ _ => rfl)) pe_str (nomark _)) (pw_and1 (pt_cmpR op_eq (pe_ix ix_tup (pe_ix ix_tup (pv 2) pe_int (fun _ _ => rfl)) pe_int (fun _ _ => rfl)) pe_str (nomark _))))) (pss_one (ps_expr (pe_bm PySem.F.plainAttrs_list PySem.F.slot_list_extend PySem.F.type_list_extend mt_extend (pv 1) (pa_cons (pe_lst (pa_cons (pe_ix ix_tup (pe_ix ix_tup (pv 2) pe_int (fun _ _ => rfl)) pe_int (fun _ _ => rfl)) (pa_cons (pe_ix ix_tup (pe_ix ix_tup (pv 2) pe_int (fun _ _ => rfl)) pe_int (fun _ _ => rfl)) pa_nil))) pa_nil)))) pss_nil)))
        (pss_one (ps_ret (pe_callB (TSet.cr_sortedX rfl) (by rfl) T.b_sorted (by decide +kernel) (pa_cons (pe_callTy (TSet.cr_setX2 rfl) (by rfl) T.b_set (by decide +kernel) (pa_cons (pv 1) pa_nil)) pa_nil)))))), ?_⟩
    have big : 1000 ≤ sizeLine := by decide
    refine ⟨(by show 0 ≤ sizeLine; decide), fun nl hnl => ?_⟩
    have x1 := Ex.new (o := .lst []) hnl
    refine ⟨_, rfl, gp, rfl, ⟨_, SqT.of (x1 _ _ hgp)⟩, for_it (walk_tup (xs := us)) (fun i σ H' => ∃ (ns : List Str) (o2 : Option V), σ = [some (.ref gp), some (.ref nl), o2] ∧ Ex H H' ∧ H' nl = some (.lst (ns.map V.str)) ∧ ns.length ≤ 2 * i ∧ Mem (gs.take i) ns) ?_ (fun i σ H' _ ⟨_, _, _, e, _⟩ => SqT.of (e _ _ hgp)) ?_ ?_⟩
    · exact ⟨[], none, rfl, x1, upd_same, Nat.le_refl _, fun z => by simp⟩
    · rintro i v σ H2 H2' hi ⟨ns, o2, rfl, e2, h2, ln, M⟩ ⟨rfl, hv⟩
      obtain ⟨t, p, g, rfl, hg, ht, hp⟩ := G.get hv
      have ht2 := e2 _ _ ht
      have hp2 := e2 _ _ hp
      have tk : gs.take (i + 1) = gs.take i ++ [g] := by rw [List.take_add_one, hg]; rfl
      have li : i < 32 := by have := (List.getElem?_eq_some_iff.mp hg).1; omega
      have mt : ∀ z, (∃ r ∈ gs.take (i + 1), z ∈ gNames r) ↔ (∃ r ∈ gs.take i, z ∈ gNames r) ∨ z ∈ gNames g := fun z => by
        rw [tk]
        constructor
        · rintro ⟨r, hr, h⟩
          rcases List.mem_append.mp hr with hr | hr
          · exact .inl ⟨r, hr, h⟩
          · rw [List.mem_singleton.mp hr] at h
            exact .inr h
        · rintro (⟨r, hr, h⟩ | h)
          · exact ⟨r, List.mem_append_left _ hr, h⟩
          · exact ⟨g, List.mem_append_right _ (List.mem_singleton.mpr rfl), h⟩
      refine most_test rfl ht2 hp2 ?_
      have skip : isMostG g = false → gNames g = [] := fun e => by
        cases g with
        | op f ks => rfl
        | lit l =>
          cases l with
          | yn b x => rfl
          | most x y k => cases e
      cases hm : isMostG g with
      | false =>
        refine iteF' rfl ⟨ns, _, rfl, e2, h2, by omega, fun z => ?_⟩
        rw [M z, mt z, skip hm]
        simp
      | true =>
        obtain ⟨x, y, k, rfl⟩ : ∃ x y k, g = .lit (.most x y k) := by
          cases g with
          | op f ks => cases hm
          | lit l =>
            cases l with
            | yn b x => cases hm
            | most x y k => exact ⟨x, y, k, rfl⟩
        refine iteT' rfl ⟨_, rfl, .inl ⟨rfl, _, SqL.of h2⟩, _, rfl, t, _, 1, .ref p, rfl, rfl, SqT.of ht2, rfl, p, _, 1, .str x, rfl, rfl, SqT.of hp2, rfl, _, rfl, t, _, 1, .ref p, rfl, rfl, SqT.of ht2, rfl, p, _, 2, .str y, rfl, rfl, SqT.of hp2, rfl, (by show 2 ≤ sizeLine; decide), fun q hq => ?_⟩
        have xq := Ex.new (o := .lst [.str x, .str y]) hq
        refine ⟨nl, q, _, _, rfl, rfl, xq _ _ h2, upd_same, by rw [List.length_map]; show ns.length + 2 ≤ _; omega, ns ++ [x, y], _, rfl, (e2.trans xq).mut hnl, by rw [upd_same, List.map_append]; rfl, by rw [List.length_append]; show ns.length + 2 ≤ _; omega, fun z => ?_⟩
        rw [List.mem_append, M z, mt z]
        rfl
    · rintro σ H2 ⟨ns, o2, rfl, e2, h2, ln, M⟩
      rw [G.len] at ln M
      rw [List.take_length] at M
      refine ⟨_, rfl, nl, ns, rfl, SqL.of h2, by omega, fun l p nd mem len hp => ⟨p, l, rfl, upd_same, ?_, fun ms u pm so hu => ?_⟩⟩
      · have : l.length ≤ ys.length := sub_len nd fun z hz => by
          obtain ⟨g, hg, h⟩ := (M z).mp ((mem z).mp hz)
          exact gNames_ok ok hg h
        omega
      · exact fin u ms _ (e2.trans ((Ex.new hp).trans (Ex.new hu))) upd_same (asc_of so (pm.nodup_iff.mpr nd)) fun z => by rw [pm.mem_iff, mem z, M z]
end
end E5
set_option maxRecDepth 100000
set_option maxHeartbeats 8000000
namespace E5
open PySem L2 Evl GP HR SC
theorem at_last {xs : List V} {v : V} (h : xs[xs.length - 1]? = some v) : atI xs (-1) = some v := by
  have hl : 0 < xs.length := by
    cases xs with
    | nil => simp at h
    | cons _ _ => simp
  unfold atI ixN
  rw [if_neg (by decide), if_pos (by omega)]
  show xs[((-1 : Int) + (xs.length : Int)).toNat]? = some v
  rw [show ((-1 : Int) + (xs.length : Int)).toNat = xs.length - 1 by omega]
  exact h
/-! ### what the gates come to -/
def stepG (ns : List Str) (tv : Str → Int) (acc : List Bool) (g : Gt) : List Bool := acc ++ [match g with
  | .lit l => holdsL ns tv l
  | .op true ks => ks.all fun k => acc.getD k false
  | .op false ks => ks.any fun k => acc.getD k false]
def valsG (ns : List Str) (tv : Str → Int) (gs : List Gt) : List Bool := gs.foldl (stepG ns tv) []
def dueB (ns : List Str) (tv : Str → Int) (gs : List Gt) : Bool := (valsG ns tv gs).getLastD false
theorem valsG_len (ns : List Str) (tv : Str → Int) : ∀ (gs : List Gt) (acc : List Bool), (gs.foldl (stepG ns tv) acc).length = acc.length + gs.length
  | [], acc => rfl
  | g :: gs, acc => by
    rw [List.foldl_cons, valsG_len ns tv gs, List.length_cons]
    unfold stepG
    rw [List.length_append]
    show acc.length + 1 + _ = _
    omega
theorem valsG_step {ns : List Str} {tv : Str → Int} {gs : List Gt} {i : Nat} {g : Gt} (h : gs[i]? = some g) : valsG ns tv (gs.take (i + 1)) = stepG ns tv (valsG ns tv (gs.take i)) g := by
  unfold valsG
  rw [List.take_add_one, h, List.foldl_append]
  rfl
theorem valsG_at {ns : List Str} {tv : Str → Int} {gs : List Gt} {i : Nat} (h : i ≤ gs.length) : (valsG ns tv (gs.take i)).length = i := by
  unfold valsG
  rw [valsG_len, List.length_take]
  show 0 + _ = _
  omega
theorem bool_at {acc : List Bool} {k : Nat} (h : k < acc.length) : atI (acc.map V.bl) (k : Int) = some (.bl (acc.getD k false)) := at_lit (n := k) rfl (by rw [List.getElem?_map, List.getElem?_eq_getElem h, List.getD_eq_getElem?_getD, List.getElem?_eq_getElem h]; rfl)
theorem last_at {bs : List Bool} (h : 1 ≤ bs.length) : atI (bs.map V.bl) (-1) = some (.bl (bs.getLastD false)) := at_last (by
  rw [List.length_map, List.getElem?_map, ← List.getLast?_eq_getElem?]
  cases e : bs.getLast? with
  | none => rw [List.getLast?_eq_none_iff] at e; rw [e] at h; exact absurd h (by decide)
  | some x =>
    rw [List.getLastD_eq_getLast?, e]
    rfl)
/-- what is due: the first moment that is missing, or the last gate's truth -/
def DueQ (H : Hp) (gs : List Gt) (ns : List Str) (ps : List (Str × Int)) (Q : VK) : Prop := ∀ ms, Asc ms → Mem gs ms →
  (missOf ms (ps.map Prod.fst) = none → ∀ H', Ex H H' → Q (.bl (dueB ns (tvOf ps) gs)) H') ∧
  ∀ y, missOf ms (ps.map Prod.fst) = some y → ∀ t H', Ex H H' → H' t = some (.tup [.str "unknown", .str y, .bl true, .bl true]) → Q (.ref t) H'
def spDue : Sp := fun vs H Q _ => ∃ (gp v n tm : Addr) (o : Obj) (pa : List Addr) (us : List V) (gs : List Gt) (ys ns : List Str) (ps : List (Str × Int)), vs = [.ref gp, .ref v] ∧ H gp = some (.tup us) ∧ Gts H us gs ∧ GsOk ys gs ∧ ys.length ≤ 5 ∧ 1 ≤ gs.length ∧ gs.length ≤ 32 ∧ Val H v n tm o pa ns ps ∧ DueQ H gs ns ps Q
section
variable {P : Program} {w : World} {K : PySem.W.Frag} {mg : Str → Option Value} {base : Heap} {a : Ad} {d : Fd}
theorem ok_law_due (T : TX K mg a) (D : FDS K a d) : FnOk P w K mg base CX0 2 a.a_law_due d.a_law_due ["gates", "values"] spDue := by
  have G__law_moments : FnOk P w K mg base CX0 1 a.a_law_moments d.a_law_moments ["gates"] spMomL := ok_law_moments T D
  have G__law_holds : FnOk P w K mg base CX0 1 a.a_law_holds d.a_law_holds ["literal", "values"] spHolds := ok_law_holds T D
  refine D.F__law_due.ok sc_law_due (fun vs H Q E h => ?_) (fun cdv A outer s H vs Q E hr h => ?_)
  · obtain ⟨gp, v, n, tm, o, pa, us, gs, ys, ns, ps, rfl, _⟩ := h
    rfl
  · obtain ⟨gp, v, n, tm, o, pa, us, gs, ys, ns, ps, rfl, hgp, G, ok, y5, g1, g32, VL, fin⟩ := h
    refine ⟨_, (pss_cons (ps_set (i := 2) sc_law_due.nd rfl (Or.inr rfl) (pe_lc (own := [("pair", 6)]) (g := gName 6) (tt := tYes) rfl sc_law_due.nd (pi_tup (pe_ix ix_tup (pv 1) pe_int (fun _ _ => rfl))) (blkOk_by (N := ["gates", "values", "listed", "missing", "truths", "gate", "pair", "one", "k"]) (sc := defScope s_law_due) (by decide +kernel)) (fun _ _ _ _ _ => (pg_name (i := 6) sc_law_due.nd rfl (Or.inl rfl))) (fun _ _ _ _ _ => pts_nil) (fun _ _ _ _ _ => (pe_ix (ix_tupK (K := K)) (pv 6) pe_int (fun _ _ => rfl)))))
        (pss_cons (ps_setLc (i := 3) (own := [("one", 7)]) (g := gName 7) rfl sc_law_due.nd rfl rfl (sw_true rfl rfl rfl (by decide +kernel)) (pi_list (pe_call G__law_moments (hr.mono (by decide)) rfl T.f__law_moments T.k__law_moments D.B__law_moments .nil pass0 (pa_cons (pv 0) pa_nil))) (blkOk_by (N := ["gates", "values", "listed", "missing", "truths", "gate", "pair", "one", "k"]) (sc := defScope s_law_due) (by decide +kernel)) (fun _ _ _ _ _ => (pg_name (i := 7) sc_law_due.nd rfl (Or.inl rfl))) (fun _ _ _ _ _ => (pts_one (pt_cmpR (op_notIn_seqK (K := K)) (pv 7) (pv 2) rfl))) (fun _ _ _ _ _ => (pv 7)))
        (pss_cons (ps_if (pt_cmpR op_gt (pe_callB call_len_seq (by rfl) T.b_len (by decide +kernel) (pa_cons (pv 3) pa_nil)) pe_int (nomark _)) (pss_one (ps_ret (pe_tup (pa_cons pe_str (pa_cons (pe_ix (ix_listK (K := K)) (pv 3) pe_int (fun _ _ => rfl)) (pa_cons pe_bl (pa_cons pe_bl pa_nil))))))) pss_nil)
        (pss_cons (ps_set (i := 4) sc_law_due.nd rfl (Or.inr rfl) (pe_lst pa_nil))
        (pss_cons (ps_for PassesOwn.never rfl (pi_tup (pv 0)) (pg_name (i := 5) sc_law_due.nd rfl (Or.inl rfl)) (pss_one (ps_if (pt_cmpR op_eq (pe_ix ix_tup (pv 5) pe_int (fun _ _ => rfl)) pe_str (nomark _)) (pss_one (ps_expr (pe_bm PySem.F.plainAttrs_list PySem.F.slot_list_append PySem.F.type_list_append mt_append (pv 4) (pa_cons (pe_call G__law_holds (hr.mono (by decide)) rfl T.f__law_holds T.k__law_holds D.B__law_holds .nil pass0 (pa_cons (pe_ix ix_tup (pv 5) pe_int (fun _ _ => rfl)) (pa_cons (pv 1) pa_nil))) pa_nil)))) (pss_one (ps_if (pt_cmpR op_eq (pe_ix ix_tup (pv 5) pe_int (fun _ _ => rfl)) pe_str (nomark _)) (pss_one (ps_expr (pe_bm PySem.F.plainAttrs_list PySem.F.slot_list_append PySem.F.type_list_append mt_append (pv 4) (pa_cons (pe_callB (cr_all rfl) (by rfl) T.b_all (by decide +kernel) (pa_cons (pe_lc (own := [("k", 8)]) (g := gName 8) (tt := tYes) rfl sc_law_due.nd (pi_tup (pe_ix ix_tup (pv 5) pe_int (fun _ _ => rfl))) (blkOk_by (N := ["gates", "values", "listed", "missing", "truths", "gate", "pair", "one", "k"]) (sc := defScope s_law_due) (by decide +kernel)) (fun _ _ _ _ _ => (pg_name (i := 8) sc_law_due.nd rfl (Or.inl rfl))) (fun _ _ _ _ _ => pts_nil) (fun _ _ _ _ _ => (pe_ix (ix_listK (K := K)) (pv 4) (pv 8) (fun _ _ => rfl)))) pa_nil)) pa_nil)))) (pss_one (ps_expr (pe_bm PySem.F.plainAttrs_list PySem.F.slot_list_append PySem.F.type_list_append mt_append (pv 4) (pa_cons (pe_callB (cr_any rfl) (by rfl) T.b_any (by decide +kernel) (pa_cons (pe_lc (own := [("k", 8)]) (g := gName 8) (tt := tYes) rfl sc_law_due.nd (pi_tup (pe_ix ix_tup (pv 5) pe_int (fun _ _ => rfl))) (blkOk_by (N := ["gates", "values", "listed", "missing", "truths", "gate", "pair", "one", "k"]) (sc := defScope s_law_due) (by decide +kernel)) (fun _ _ _ _ _ => (pg_name (i := 8) sc_law_due.nd rfl (Or.inl rfl))) (fun _ _ _ _ _ => pts_nil) (fun _ _ _ _ _ => (pe_ix (ix_listK (K := K)) (pv 4) (pv 8) (fun _ _ => rfl)))) pa_nil)) pa_nil)))))))))
        (pss_one (ps_ret (pe_ix (ix_listK (K := K)) (pv 4) (pe_un un_neg pe_int) (fun _ _ => rfl))))))))), ?_⟩
    have big : 1000 ≤ sizeLine := by decide
    have p60 := VL.few
    have PR : Prs K H (pa.map V.ref) ps := VL.prs
    have ht : SqT K H tm (pa.map V.ref) := .inl (.inr ⟨o, VL.ht⟩)
    refine ⟨_, rfl, v, _, 1, .ref tm, rfl, rfl, SqT.of VL.hv, rfl, tm, rfl, ⟨_, ht⟩, fun D1 hD1 => lc_it (H1 := H) (walk_tup (xs := pa.map V.ref)) (fun i H' => Ex H H' ∧ H' D1 = some (.lst (((ps.take i).map Prod.fst).map V.str))) ⟨Ex.new hD1, upd_same⟩ (fun i H' _ h => ex_t h.1 ht) ?_ ?_⟩
    · rintro i x H2 H2' hi ⟨e2, hl⟩ ⟨rfl, hx⟩
      have hi2 : i < ps.length := by rw [← PR.1]; exact hi
      obtain ⟨t, h1, h2⟩ := PR.2 i ps[i] (List.getElem?_eq_getElem hi2)
      rw [hx] at h1
      cases h1
      unfold gName tYes
      dsimp only
      refine ⟨rfl, iteT' rfl ⟨_, rfl, t, _, 0, .str ps[i].1, rfl, rfl, ex_t e2 h2, rfl, _, hl, by rw [List.length_map, List.length_map, List.length_take]; omega, Ex.mut e2 hD1, ?_⟩⟩
      rw [upd_same, List.take_add_one, List.getElem?_eq_getElem hi2, List.map_append, List.map_append]
      rfl
    · rintro H2 ⟨e2, hl⟩
      rw [List.length_map, VL.len, List.take_length] at hl
      refine ⟨_, rfl, gp, us, gs, ys, rfl, e2 _ _ hgp, G.tp (Tp.ex e2), ok, y5, g32, fun u ms H3 e3 hu asc M => ?_⟩
      obtain ⟨fin1, fin2⟩ := fin ms asc M
      generalize hzs : ps.map Prod.fst = zs at *
      have hl3 := e3 _ _ hl
      refine ⟨u, rfl, ⟨_, SqL.of hu⟩, fun D2 hD2 => lcF (walk_list (xs := ms.map V.str)) (fun y => !decide (y ∈ zs)) V.str ?_ (fun H' e => ex_l e (SqL.of hu)) (fun _ => rfl) (fun y hy H' e Q q => ?_) (fun y hy _ H' e Q q => ⟨_, rfl, q H' (Ex.refl _)⟩) hD2 fun H4 e4 h4 => ?_⟩
      · have : ms.length ≤ ys.length := sub_len (asc_nodup asc) fun z hz => by
          obtain ⟨g, hg, h⟩ := (M z).mp hz
          exact gNames_ok ok hg h
        omega
      · refine ⟨_, rfl, _, rfl, D1, _, rfl, .inl (SqL.of (e _ _ hl3)), rfl, flat_strs, _, rfl, ?_⟩
        rw [if_pos rfl, inV_strs]
        exact q H' (Ex.refl _)
      · have e24 := e3.trans e4
        have e04 := e2.trans e24
        have hmo : missOf ms zs = (ms.filter fun y => !decide (y ∈ zs)).head? := (List.head?_filter).symm
        have hl4 := e4 _ _ hl3
        have lm : ∀ ws : List Str, (ws.map V.str).length = ws.length := fun ws => List.length_map _
        generalize ms.filter (fun y => !decide (y ∈ zs)) = mi at *
        refine ⟨_, rfl, D2, _, rfl, .inl (SqL.of h4), _, _, rfl, rfl, _, rfl, ite2 (fun g => ?_) (fun g => ?_)⟩
        · have g' := of_decide_eq_true g
          rw [lm] at g'
          cases mi with
          | nil => exact absurd g' (by decide)
          | cons y r =>
            refine ⟨_, rfl, D2, _, 0, .str y, rfl, rfl, SqL.of h4, at_lit (n := 0) rfl rfl, (by show 4 ≤ sizeLine; decide), fun t ht => ?_⟩
            exact fin2 y hmo t _ (e04.trans (Ex.new ht)) upd_same
        · cases mi with
          | cons y r => exact absurd (decide_eq_true (by rw [lm, List.length_cons]; omega)) g
          | nil =>
            have all : ∀ z ∈ ms, z ∈ zs := fun z hz => by
              have := List.find?_eq_none.mp hmo z hz
              simpa using this
            refine ⟨(by show 0 ≤ sizeLine; decide), fun tl htl => ?_⟩
            have x5 := Ex.new (o := .lst []) htl
            have htl0 := fresh_back e04 htl
            refine ⟨_, rfl, gp, rfl, ⟨_, SqT.of (x5 _ _ (e04 _ _ hgp))⟩, for_it (walk_tup (xs := us)) (fun i σ H' => ∃ (o5 : Option V), σ = [some (.ref gp), some (.ref v), some (.ref D1), some (.ref D2), some (.ref tl), o5, none, none, none] ∧ Ex H H' ∧ H' tl = some (.lst ((valsG ns (tvOf ps) (gs.take i)).map V.bl))) ⟨none, rfl, e04.trans x5, upd_same⟩ (fun i σ H' _ ⟨_, _, e, _⟩ => SqT.of (e _ _ hgp)) ?_ ?_⟩
            · rintro i x σ H5 H5' hi ⟨o5, rfl, e5, h5⟩ ⟨rfl, hx⟩
              obtain ⟨t, p, gt, rfl, hg, ht5, hp5⟩ := G.get hx
              have ht5 := e5 _ _ ht5
              have hp5 := e5 _ _ hp5
              have hil := (List.getElem?_eq_some_iff.mp hg).1
              have lv := valsG_at (ns := ns) (tv := tvOf ps) (gs := gs) (Nat.le_of_lt hil)
              rw [valsG_step hg]
              generalize valsG ns (tvOf ps) (gs.take i) = acc at *
              have gok := ok i gt hg
              have gm := List.mem_of_getElem? hg
              have lacc : (acc.map V.bl).length < sizeLine := by rw [List.length_map]; omega
              have put : ∀ {c : Bool} {H' : Hp}, Ex H H' → H' tl = some (.lst (acc.map V.bl)) → stepG ns (tvOf ps) acc gt = acc ++ [c] → Ex H (upd H' tl (.lst (acc.map V.bl ++ [.bl c]))) ∧ upd H' tl (.lst (acc.map V.bl ++ [.bl c])) tl = some (.lst ((stepG ns (tvOf ps) acc gt).map V.bl)) := fun e h es => ⟨e.mut htl0, by rw [upd_same, es, List.map_append]; rfl⟩
              cases gt with
              | lit l =>
                refine ⟨_, rfl, t, _, 0, .str "lit", rfl, rfl, SqT.of ht5, rfl, rfl, _, rfl, iteT' (by decide +kernel) ⟨_, rfl, .inl ⟨rfl, _, SqL.of h5⟩, _, rfl, t, _, 1, .ref p, rfl, rfl, SqT.of ht5, rfl, _, rfl, p, v, n, tm, o, pa, l, ns, ps, rfl, hp5, VL.ex e5, fun z hz => ?_, fun H6 e6 => ?_⟩⟩
                · rw [hzs]
                  exact all z ((M z).mpr ⟨_, gm, hz⟩)
                · have h6 := e6 _ _ h5
                  obtain ⟨a1, a2⟩ := put (e5.trans e6) h6 rfl
                  exact ⟨tl, _, _, rfl, rfl, h6, lacc, _, rfl, a1, a2⟩
              | op f ks =>
                obtain ⟨k3, kin⟩ := gok
                have lc : ∀ {H' : Hp} {D : Addr}, True := fun {_ _} => trivial
                refine ⟨_, rfl, t, _, 0, .str (opS f), rfl, rfl, SqT.of ht5, rfl, rfl, _, rfl, iteF' (by cases f <;> decide +kernel) ⟨_, rfl, t, _, 0, .str (opS f), rfl, rfl, SqT.of ht5, rfl, rfl, _, rfl, ?_⟩⟩
                cases f with
                | true =>
                  refine iteT' (by decide +kernel) ⟨_, rfl, .inl ⟨rfl, _, SqL.of h5⟩, _, rfl, t, _, 1, .ref p, rfl, rfl, SqT.of ht5, rfl, p, rfl, ⟨_, SqT.of hp5⟩, fun D3 hD3 => lcM (walk_tup (xs := ks.map fun (k : Nat) => V.int (k : Int))) (fun k => V.bl (acc.getD k false)) (by omega) (fun H' e => SqT.of (e _ _ hp5)) (fun _ => rfl) (fun k hk H' e Q q => ⟨_, rfl, _, rfl, tl, _, _, _, rfl, rfl, SqL.of (e _ _ h5), bool_at (by have := kin k hk; omega), q H' (Ex.refl _)⟩) hD3 fun H6 e6 h6 => ?_⟩
                  refine ⟨D3, ks.map fun k => acc.getD k false, rfl, SqL.of (by rw [h6, List.map_map]; rfl), ?_⟩
                  have h7 := e6 _ _ h5
                  obtain ⟨a1, a2⟩ := put (e5.trans e6) h7 (c := (ks.map fun k => acc.getD k false).all id) (by rw [List.all_map]; rfl)
                  exact ⟨tl, _, _, rfl, rfl, h7, lacc, _, rfl, a1, a2⟩
                | false =>
                  refine iteF' (by decide +kernel) ⟨_, rfl, .inl ⟨rfl, _, SqL.of h5⟩, _, rfl, t, _, 1, .ref p, rfl, rfl, SqT.of ht5, rfl, p, rfl, ⟨_, SqT.of hp5⟩, fun D3 hD3 => lcM (walk_tup (xs := ks.map fun (k : Nat) => V.int (k : Int))) (fun k => V.bl (acc.getD k false)) (by omega) (fun H' e => SqT.of (e _ _ hp5)) (fun _ => rfl) (fun k hk H' e Q q => ⟨_, rfl, _, rfl, tl, _, _, _, rfl, rfl, SqL.of (e _ _ h5), bool_at (by have := kin k hk; omega), q H' (Ex.refl _)⟩) hD3 fun H6 e6 h6 => ?_⟩
                  refine ⟨D3, ks.map fun k => acc.getD k false, rfl, SqL.of (by rw [h6, List.map_map]; rfl), ?_⟩
                  have h7 := e6 _ _ h5
                  obtain ⟨a1, a2⟩ := put (e5.trans e6) h7 (c := (ks.map fun k => acc.getD k false).any id) (by rw [List.any_map]; rfl)
                  exact ⟨tl, _, _, rfl, rfl, h7, lacc, _, rfl, a1, a2⟩
            · rintro σ H5 ⟨o5, rfl, e5, h5⟩
              rw [G.len, List.take_length] at h5
              refine ⟨_, rfl, 1, rfl, tl, _, -1, _, rfl, rfl, SqL.of h5, last_at ?_, fin1 hmo _ e5⟩
              have := valsG_len ns (tvOf ps) gs []
              show 1 ≤ (gs.foldl (stepG ns (tvOf ps)) []).length
              rw [this]
              show 1 ≤ 0 + gs.length
              omega
end
end E5
set_option maxRecDepth 100000
set_option maxHeartbeats 4000000
/-! an instance called within a try -/
namespace HR
open PySem PySem.Spec PyProof.Rows L2 StX
section
variable {X : Cx} {CX : CXT} {k : Nat} {f C : Addr} {fd : FuncData} {ps : List Str} {sp : Sp} {E : L2.St → XK} {pos : Pos} {e fe : Expr} {es : List Expr} {tf : TE} {t : TA}
def tCallOS (C : Addr) (sp : Sp) (E : L2.St → XK) (tf : TE) (t : TA) : TE := fun σ H Q => tf σ H fun y H1 => ∃ a, y = V.ref a ∧ t σ H1 fun vs H2 => (∃ dx fs, H2 a = some (.ins C dx fs)) ∧ sp (V.ref a :: vs) H2 Q (E σ)
theorem run_fnRS {pins : List (Addr × Obj)} {σ : L2.St} {H : Hp} {s : Shared} {Q : VK} {us : List Value} {vs : List V} {E : XK} (F : FnR X.prog X.w X.K X.mg X.base CX k f sp) (hr : Room k X.A) (hx : PassesAt CX X σ E) (I : Inv X pins σ H s) (r : Vals vs us) (h : sp vs H Q E) :
    codeAny (model X.prog X.w) X.A (.call (.ref f) ⟨us, []⟩) (fun r s' => match r with | .ok (.ret v) => EP X pins σ Q v s' | .ok _ => False | .error e => X.xe e s') s := by
  refine codeAny_mono (F X.A X.stack s H us vs Q E hr I.env0 r h) fun r s' hq => ?_
  cases r with
  | error e => exact hx pins H s e s' I hq
  | ok fl =>
    cases fl with
    | ret u => exact I.after hq
    | next => exact False.elim hq
    | brk => exact False.elim hq
    | cont => exact False.elim hq
theorem pe_callOS (hf : PE X fe tf) (c : CallO X.K C f) (F : FnOk X.prog X.w X.K X.mg X.base CX k f fd ps sp) (hr : Room k X.A) (hb : Binds X.K fd ps []) (hx : ∀ σ, PassesAt CX X σ (E σ)) (ha : PA X (e :: es) t)
    (ht : eval (.Call fe (e :: es) [] pos) X.env = (do callWith pos (← eval fe X.env) [] (backTo pos (starEach (e :: es) X.env)) (backToKw pos (keywordEach [] X.env))) := by rfl)
    (he : starEach (e :: es) X.env = (false, eval e X.env) :: starEach es X.env := by rfl) (hpl : (backTo pos (starEach es X.env)).any (·.1) = false := by rfl) : PE X (.Call fe (e :: es) [] pos) (tCallOS C sp E tf t) := by
  refine ⟨fun pins s σ H Q I h => ?_⟩
  refine Call_ (thn (hf.run pins s σ H _ I h) fun u s1 ⟨y, H1, I1, ry, a, ey, q⟩ => ?_) ht
  subst ey
  obtain rfl : u = Value.ref a := ry
  refine callO_with (thn (ha.run pos pins s1 σ H1 _ I1 q) fun us s2 ⟨vs, H2, I2, r, hi, q2⟩ => ?_) he hpl
  obtain ⟨ox, od, J, hd⟩ := insC_at I2 (.inr hi)
  have R := F.raw hb .nil
  simp only [List.append_nil] at R
  exact ⟨⟨C, ox, od, J, hd⟩, wpAny_call (PySem.W.kco_code I2.kIn J hd c.at_ c.fn c.fi (run_fnRS (us := .ref a :: us) (vs := .ref a :: vs) R hr (hx σ) I2 (.cons rfl r) q2))⟩
end
end HR
set_option maxRecDepth 100000
set_option maxHeartbeats 8000000
namespace E5
open PySem L2 Evl GP HR SC
abbrev s_Middle_init : Stmt := inClass (top 14) 0
theorem sc_Middle_init : FnScope ["self", "gates"] ["self", "gates"] (defScope s_Middle_init) := ⟨rfl, rfl, rfl, by decide +kernel, rfl, by decide +kernel, by decide +kernel⟩
abbrev s_Middle_call : Stmt := inClass (top 14) 1
theorem sc_Middle_call : FnScope ["self", "values", "literals", "names", "times", "table", "truths", "word", "told", "gate", "index"] ["self", "values"] (defScope s_Middle_call) := ⟨rfl, rfl, rfl, by decide +kernel, rfl, by decide +kernel, by decide +kernel⟩
/-- the class of middles -/
structure MC (K : PySem.W.Frag) (mg : Str → Option Value) (C fI fC : Addr) (dI dC : FuncData) : Prop where
  cl : Cls K C
  nG : NoAttr K C "gates"
  gC : mg "Middle" = some (.ref C)
  mkr : Mk K C fI
  co : StX.CallO K C fC
  FI : Fun K "__init__" "Middle.__init__" s_Middle_init fI dI
  BI : Binds K dI ["self", "gates"] []
  FC : Fun K "__call__" "Middle.__call__" s_Middle_call fC dC
  BC : Binds K dC ["self", "values"] []
def spMInit (C : Addr) : Sp := fun vs H Q _ => ∃ (p dx : Addr) (g : V), vs = [.ref p, g] ∧ H p = some (.ins C dx []) ∧ Q .non (upd H p (.ins C dx [("gates", g)]))
def isLitG : Gt → Bool
  | .lit _ => true
  | _ => false
def litOf : Gt → Lit
  | .lit l => l
  | _ => .yn true ""
/-- a middle with these gates -/
def MidAt (C : Addr) (H : Hp) (m gp : Addr) : Prop := ∃ dx, H m = some (.ins C dx [("gates", .ref gp)])
def CallQ (cM : Addr) (H : Hp) (gs : List Gt) (ns : List Str) (ps : List (Str × Int)) (Q : VK) (E : XK) : Prop := ∀ ms, Asc ms → Mem gs ms →
  (missOf ms (ps.map Prod.fst) = none → ∀ H', Ex H H' → Q (.bl (dueB ns (tvOf ps) gs)) H') ∧
  ∀ y, missOf ms (ps.map Prod.fst) = some y → ∀ dd H', Ex H H' → H dd = none → H' dd = some (.xd [("name", .str y)]) → E (.ref cM) (some dd) H'
def spMCall (C cM : Addr) : Sp := fun vs H Q E => ∃ (m gp v n tm : Addr) (o : Obj) (pa : List Addr) (us : List V) (gs : List Gt) (ys ns : List Str) (ps : List (Str × Int)), vs = [.ref m, .ref v] ∧ MidAt C H m gp ∧ H gp = some (.tup us) ∧ Gts H us gs ∧ GsOk ys gs ∧ ys.length ≤ 5 ∧ 1 ≤ gs.length ∧ gs.length ≤ 32 ∧ Val H v n tm o pa ns ps ∧ CallQ cM H gs ns ps Q E
section
variable {P : Program} {w : World} {K : PySem.W.Frag} {mg : Str → Option Value} {base : Heap} {a : Ad} {d : Fd} {C fI fC : Addr} {dI dC : FuncData}
theorem ok_Middle_init (M : MC K mg C fI fC dI dC) : FnOk P w K mg base CX0 1 fI dI ["self", "gates"] (spMInit C) := by
  refine M.FI.ok sc_Middle_init (fun vs H Q E h => ?_) (fun cdv A outer s H vs Q E hr h => ?_)
  · obtain ⟨p, dx, g, rfl, _⟩ := h
    rfl
  · obtain ⟨p, dx, g, rfl, hp, fin⟩ := h
    refine ⟨_, (pss_one (ps_fld (pv 0) (pv 1) rfl)), ?_⟩
    exact ⟨_, rfl, _, rfl, p, C, dx, [], rfl, hp, M.cl, M.nG, (by show 0 < 1000; decide), fin⟩
theorem ok_Middle_call {cM fM : Addr} (T : TX K mg a) (D : FDS K a d) (M : MC K mg C fI fC dI dC) (EM : PySem.Sup.SupTxt K mg P "UnknownMoment" "name" "not a listed moment" cM fM) : FnOk P w K mg base (L2.CX P w) 5 fC dC ["self", "values"] (spMCall C cM) := by
  have G_moments_of : FnOk P w K mg base CX0 3 a.a_moments_of d.a_moments_of ["literals"] (spMoments K) := ok_moments_of T D
  have G_check_listed : FnOk P w K mg base (L2.CX P w) 1 a.a_check_listed d.a_check_listed ["moments", "values"] (spListed K cM) := ok_check_listed T D EM
  have G_literal_stands : FnOk P w K mg base CX0 3 a.a_literal_stands d.a_literal_stands ["literal", "names", "table"] (spStands K) := ok_literal_stands T D
  refine M.FC.okX sc_Middle_call (fun vs H Q E h => ?_) (fun cdv A outer s H vs Q E hr h => ?_)
  · obtain ⟨m, gp, v, n, tm, o, pa, us, gs, ys, ns, ps, rfl, _⟩ := h
    rfl
  · obtain ⟨m, gp, v, n, tm, o, pa, us, gs, ys, ns, ps, rfl, ⟨dx, hm⟩, hgp, G, ok, y5, g1, g32, VL, fin⟩ := h
    refine ⟨_, (pss_cons (ps_setLc (i := 2) (own := [("gate", 9)]) (g := gName 9) rfl sc_Middle_call.nd rfl rfl (sw_true rfl rfl rfl (by decide +kernel)) (pi_tup (pe_fld (pv 0) rfl)) (blkOk_by (N := ["self", "values", "literals", "names", "times", "table", "truths", "word", "told", "gate", "index"]) (sc := defScope s_Middle_call) (by decide +kernel)) (fun _ _ _ _ _ => (pg_name (i := 9) sc_Middle_call.nd rfl (Or.inl rfl))) (fun _ _ _ _ _ => (pts_one (pt_cmpR op_eq (pe_ix (ix_tupK (K := K)) (pv 9) pe_int (fun _ _ => rfl)) pe_str (nomark _)))) (fun _ _ _ _ _ => (pe_ix (ix_tupK (K := K)) (pv 9) pe_int (fun _ _ => rfl))))
        (pss_cons (ps_expr (pe_call G_check_listed (hr.mono (by decide)) rfl T.f_check_listed T.k_check_listed D.B_check_listed .nil (passes_call (takes_of rfl rfl rfl rfl) (fun _ _ _ _ h => h)) (pa_cons (pe_call G_moments_of (hr.mono (by decide)) rfl T.f_moments_of T.k_moments_of D.B_moments_of .nil pass0 (pa_cons (pv 2) pa_nil)) (pa_cons (pv 1) pa_nil))))
        (pss_cons (ps_asg (pv 1) (pg_tup rfl (pgs_cons (pg_name (i := 3) sc_Middle_call.nd rfl (Or.inl rfl)) (pgs_cons (pg_name (i := 4) sc_Middle_call.nd rfl (Or.inl rfl)) pgs_nil))))
        (pss_cons (ps_set (i := 5) sc_Middle_call.nd rfl (Or.inl rfl) (pe_callTy (cr_dictF rfl) (by rfl) T.b_dict (by decide +kernel) (pa_cons (pv 4) pa_nil)))
        (pss_cons (ps_set (i := 6) sc_Middle_call.nd rfl (Or.inr rfl) (pe_lst pa_nil))
        (pss_cons (ps_for PassesOwn.leaving rfl (pi_tup (pe_fld (pv 0) rfl)) (pg_tup rfl (pgs_cons (pg_name (i := 7) sc_Middle_call.nd rfl (Or.inl rfl)) (pgs_cons (pg_name (i := 8) sc_Middle_call.nd rfl (Or.inl rfl)) pgs_nil))) (pss_one (ps_if (pt_cmpR op_eq (pv 7) pe_str (nomark _)) (pss_one (ps_expr (pe_bm PySem.F.plainAttrs_list PySem.F.slot_list_append PySem.F.type_list_append mt_append (pv 6) (pa_cons (pe_call G_literal_stands (hr.mono (by decide)) rfl T.f_literal_stands T.k_literal_stands D.B_literal_stands .nil pass0 (pa_cons (pv 8) (pa_cons (pv 3) (pa_cons (pv 5) pa_nil)))) pa_nil)))) (pss_one (ps_if (pt_cmpR op_eq (pv 7) pe_str (nomark _)) (pss_one (ps_expr (pe_bm PySem.F.plainAttrs_list PySem.F.slot_list_append PySem.F.type_list_append mt_append (pv 6) (pa_cons (pe_callB (cr_all rfl) (by rfl) T.b_all (by decide +kernel) (pa_cons (pe_lc (own := [("index", 10)]) (g := gName 10) (tt := tYes) rfl sc_Middle_call.nd (pi_tup (pv 8)) (blkOk_by (N := ["self", "values", "literals", "names", "times", "table", "truths", "word", "told", "gate", "index"]) (sc := defScope s_Middle_call) (by decide +kernel)) (fun _ _ _ _ _ => (pg_name (i := 10) sc_Middle_call.nd rfl (Or.inl rfl))) (fun _ _ _ _ _ => pts_nil) (fun _ _ _ _ _ => (pe_ix (ix_listK (K := K)) (pv 6) (pv 10) (fun _ _ => rfl)))) pa_nil)) pa_nil)))) (pss_one (ps_expr (pe_bm PySem.F.plainAttrs_list PySem.F.slot_list_append PySem.F.type_list_append mt_append (pv 6) (pa_cons (pe_callB (cr_any rfl) (by rfl) T.b_any (by decide +kernel) (pa_cons (pe_lc (own := [("index", 10)]) (g := gName 10) (tt := tYes) rfl sc_Middle_call.nd (pi_tup (pv 8)) (blkOk_by (N := ["self", "values", "literals", "names", "times", "table", "truths", "word", "told", "gate", "index"]) (sc := defScope s_Middle_call) (by decide +kernel)) (fun _ _ _ _ _ => (pg_name (i := 10) sc_Middle_call.nd rfl (Or.inl rfl))) (fun _ _ _ _ _ => pts_nil) (fun _ _ _ _ _ => (pe_ix (ix_listK (K := K)) (pv 6) (pv 10) (fun _ _ => rfl)))) pa_nil)) pa_nil)))))))))
        (pss_one (ps_ret (pe_ix (ix_listK (K := K)) (pv 6) (pe_un un_neg pe_int) (fun _ _ => rfl)))))))))), ?_⟩
    have big : 1000 ≤ sizeLine := by decide
    obtain ⟨zs, eu, eg, hz⟩ := G.zip
    have z32 : zs.length ≤ 32 := by rw [← List.length_map (f := fun z : Addr × Addr × Gt => z.2.2), ← eg]; exact g32
    subst eu
    refine ⟨_, rfl, m, C, dx, _, _, rfl, hm, M.cl, M.nG, rfl, gp, rfl, ⟨_, SqT.of hgp⟩, fun D1 hD1 => lcF (walk_tup (xs := zs.map fun z => V.ref z.1)) (fun z => isLitG z.2.2) (fun z => V.ref z.2.1) (by omega) (fun H' e => SqT.of (e _ _ hgp)) (fun _ => rfl) (fun z hzm H' e Q q => ?_) (fun z hzm hc H' e Q q => ?_) hD1 fun H2 e2 h2 => ?_⟩
    · have h1 := e _ _ (hz z hzm).1
      refine ⟨_, rfl, z.1, _, 0, .str (gw z.2.2), rfl, rfl, SqT.of h1, rfl, rfl, _, rfl, ?_⟩
      have e1 : decide (V.str (gw z.2.2) = V.str (Str.ofString "lit")) = isLitG z.2.2 := by
        cases z.2.2 with
        | lit l => exact decide_eq_true rfl
        | op f ks =>
          show decide (V.str (opS f) = V.str (Str.ofString "lit")) = false
          cases f <;> decide +kernel
      rw [e1]
      exact q H' (Ex.refl _)
    · exact ⟨_, rfl, z.1, _, 1, .ref z.2.1, rfl, rfl, SqT.of (e _ _ (hz z hzm).1), rfl, q H' (Ex.refl _)⟩
    · have ml : ∀ z ∈ zs.filter (fun z => isLitG z.2.2), inner z.2.2 = litV (litOf z.2.2) ∧ gNames z.2.2 = namesOf (litOf z.2.2) ∧ z.2.2 ∈ gs ∧ (∃ l, z.2.2 = .lit l) ∧ z ∈ zs := fun z hz1 => by
        obtain ⟨h1, h2⟩ := List.mem_filter.mp hz1
        have hg : z.2.2 ∈ gs := by rw [eg]; exact List.mem_map_of_mem h1
        cases e : z.2.2 with
        | lit l => exact ⟨rfl, rfl, by rw [← e]; exact hg, ⟨l, rfl⟩, h1⟩
        | op f ks => rw [e] at h2; cases h2
      have mg2 : ∀ g ∈ gs, ∀ x ∈ gNames g, ∃ z ∈ zs.filter (fun z => isLitG z.2.2), z.2.2 = g := fun g hg x hx => by
        rw [eg] at hg
        obtain ⟨z, hz1, rfl⟩ := List.mem_map.mp hg
        refine ⟨z, List.mem_filter.mpr ⟨hz1, ?_⟩, rfl⟩
        cases e : z.2.2 with
        | lit l => rfl
        | op f ks => rw [e] at hx; exact absurd hx List.not_mem_nil
      generalize zs.filter (fun z => isLitG z.2.2) = bs at *
      have L : Lits H2 (bs.map fun z => V.ref z.2.1) (bs.map fun z => litOf z.2.2) := ⟨by rw [List.length_map, List.length_map], fun i l hl => by
        rw [List.getElem?_map] at hl
        obtain ⟨z, hz1, rfl⟩ := Option.map_eq_some_iff.mp hl
        have hm := List.mem_of_getElem? hz1
        refine ⟨z.2.1, by rw [List.getElem?_map, hz1]; rfl, ?_⟩
        rw [← (ml z hm).1]
        exact e2 _ _ (hz z (ml z hm).2.2.2.2).2⟩
      have gok : ∀ g ∈ gs, ∃ i, GtOk ys i g := fun g hg => by
        obtain ⟨i, hi⟩ := List.getElem?_of_mem hg
        exact ⟨i, ok i g hi⟩
      have lok : ∀ l ∈ bs.map (fun z => litOf z.2.2), LitOk l ∧ ∀ x ∈ namesOf l, x ∈ ys := fun l hl => by
        obtain ⟨z, hz1, rfl⟩ := List.mem_map.mp hl
        obtain ⟨_, _, h3, ⟨l, h4⟩, _⟩ := ml z hz1
        obtain ⟨i, g⟩ := gok _ h3
        rw [h4] at g ⊢
        exact g
      refine ⟨_, rfl, D1, _, _, ys, rfl, SqL.of h2, L, fun l hl => (lok l hl).1, by omega, fun l hl => (lok l hl).2, fun u ms H3 e3 hu nd so mem => ?_⟩
      have e03 := e2.trans e3
      have asc : Asc ms := asc_of so nd
      have MM : Mem gs ms := fun x => by
        rw [mem x]
        constructor
        · rintro ⟨l, hl, hx⟩
          obtain ⟨z, hz1, rfl⟩ := List.mem_map.mp hl
          exact ⟨z.2.2, (ml z hz1).2.2.1, by rw [(ml z hz1).2.1]; exact hx⟩
        · rintro ⟨g, hg, hx⟩
          obtain ⟨z, hz1, rfl⟩ := mg2 g hg x hx
          exact ⟨litOf z.2.2, List.mem_map_of_mem hz1, by rw [← (ml z hz1).2.1]; exact hx⟩
      obtain ⟨fin1, fin2⟩ := fin ms asc MM
      have VL3 := VL.ex e03
      refine ⟨_, rfl, u, v, tm, .ref n, ms, _, ps, rfl, SqT.of hu, SqT.of VL3.hv, .inl (.inr ⟨o, VL3.ht⟩), VL3.prs, VL.few, fun hmo H4 e4 => ?_, fun y hmo dd H4 e4 hd hdd => fin2 y hmo dd H4 (e03.trans e4) (fresh_back e03 hd) hdd⟩
      have VL4 := VL3.ex e4
      have e04 := e03.trans e4
      refine ⟨_, rfl, v, _, rfl, SqT.of VL4.hv, rfl, _, _, rfl, _, _, rfl, rfl, ?_⟩
      refine ⟨_, rfl, tm, o, pa, ps.map prK, rfl, VL4.ht, VL4.od, pair_at VL4.len VL4.at_, fun td htd => ⟨(by show 0 ≤ sizeLine; decide), fun tl htl => ?_⟩⟩
      have x5 := Ex.new (o := .dK (mergeK [] (ps.map prK))) htd
      have x6 := Ex.new (o := .lst []) htl
      have htd6 := x6 _ _ (upd_same (a := td) (o := .dK (mergeK [] (ps.map prK))) (H := H4))
      have e06 := e04.trans (x5.trans x6)
      have e46 := x5.trans x6
      have htl0 : H tl = none := fresh_back (e04.trans x5) htl
      have all : ∀ z ∈ ms, z ∈ ps.map Prod.fst := fun z hz => by
        have := List.find?_eq_none.mp hmo z hz
        simpa using this
      have htd0 : ∀ {H' : Hp}, Ex (upd (upd H4 td (.dK (mergeK [] (ps.map prK)))) tl (.lst [])) H' → True := fun _ => trivial
      have ndt : td ≠ tl := ne_of_none (upd_same (a := td) (o := .dK (mergeK [] (ps.map prK))) (H := H4)) htl
      have hupd : upd (upd H4 td (.dK (mergeK [] (ps.map prK)))) tl (.lst []) tl = some (.lst []) := upd_same
      generalize upd (upd H4 td (.dK (mergeK [] (ps.map prK)))) tl (.lst []) = H6 at *
      refine ⟨_, rfl, m, C, dx, _, _, rfl, e06 _ _ hm, M.cl, M.nG, rfl, gp, rfl, ⟨_, SqT.of (e06 _ _ hgp)⟩, for_it (walk_tup (xs := zs.map fun z => V.ref z.1)) (fun i σ H' => ∃ (o7 o8 : Option V), σ = [some (.ref m), some (.ref v), some (.ref D1), some (.ref n), some (.ref tm), some (.ref td), some (.ref tl), o7, o8, none, none] ∧ Ex H H' ∧ H' td = some (.dK (mergeK [] (ps.map prK))) ∧ H' tl = some (.lst ((valsG ns (tvOf ps) (gs.take i)).map V.bl))) ⟨none, none, rfl, e06, htd6, hupd⟩ (fun i σ H' _ ⟨_, _, _, e, _⟩ => SqT.of (e _ _ hgp)) ?_ ?_⟩
      · rintro i x σ H7 H7' hi ⟨o7, o8, rfl, e7, hd7, h7⟩ ⟨rfl, hx⟩
        obtain ⟨t, p, gt, rfl, hg, ht7, hp7⟩ := G.get hx
        have ht7 := e7 _ _ ht7
        have hp7 := e7 _ _ hp7
        have hil := (List.getElem?_eq_some_iff.mp hg).1
        have lv := valsG_at (ns := ns) (tv := tvOf ps) (gs := gs) (Nat.le_of_lt hil)
        rw [valsG_step hg]
        generalize valsG ns (tvOf ps) (gs.take i) = acc at *
        have gok := ok i gt hg
        have gm := List.mem_of_getElem? hg
        have lacc : (acc.map V.bl).length < sizeLine := by rw [List.length_map]; omega
        have put : ∀ {c : Bool} {H' : Hp}, Ex H H' → H' td = some (.dK (mergeK [] (ps.map prK))) → H' tl = some (.lst (acc.map V.bl)) → stepG ns (tvOf ps) acc gt = acc ++ [c] → Ex H (upd H' tl (.lst (acc.map V.bl ++ [.bl c]))) ∧ upd H' tl (.lst (acc.map V.bl ++ [.bl c])) td = some (.dK (mergeK [] (ps.map prK))) ∧ upd H' tl (.lst (acc.map V.bl ++ [.bl c])) tl = some (.lst ((stepG ns (tvOf ps) acc gt).map V.bl)) := fun e hd h es => ⟨e.mut htl0, by rw [upd_ne ndt]; exact hd, by rw [upd_same, es, List.map_append]; rfl⟩
        cases gt with
        | lit l =>
          refine ⟨t, _, rfl, SqT.of ht7, rfl, _, _, rfl, _, _, rfl, rfl, ?_⟩
          refine ⟨_, rfl, rfl, _, rfl, iteT' (by show decide (V.str "lit" = V.str (Str.ofString "lit")) = true; decide +kernel) ⟨_, rfl, .inl ⟨rfl, _, SqL.of h7⟩, _, rfl, _, rfl, _, rfl, p, n, td, l, ns, _, tvOf ps, rfl, hp7, gok.1, SqT.of (e7 _ _ VL.hn), hd7, fun z hz => val_of VL.nd (all z ((MM z).mpr ⟨_, gm, hz⟩)), fun H8 e8 => ?_⟩⟩
          obtain ⟨a1, a2, a3⟩ := put (e7.trans e8) (e8 _ _ hd7) (e8 _ _ h7) rfl
          exact ⟨tl, _, _, rfl, rfl, e8 _ _ h7, lacc, _, _, rfl, a1, a2, a3⟩
        | op f ks =>
          obtain ⟨k3, kin⟩ := gok
          refine ⟨t, _, rfl, SqT.of ht7, rfl, _, _, rfl, _, _, rfl, rfl, ?_⟩
          refine ⟨_, rfl, rfl, _, rfl, iteF' (by show decide (V.str (opS f) = V.str (Str.ofString "lit")) = false; cases f <;> decide +kernel) ⟨_, rfl, rfl, _, rfl, ?_⟩⟩
          cases f with
          | true =>
            refine iteT' (by show decide (V.str (opS true) = V.str (Str.ofString "all")) = true; decide +kernel) ⟨_, rfl, .inl ⟨rfl, _, SqL.of h7⟩, _, rfl, p, rfl, ⟨_, SqT.of hp7⟩, fun D3 hD3 => lcM (walk_tup (xs := ks.map fun (k : Nat) => V.int (k : Int))) (fun k => V.bl (acc.getD k false)) (by omega) (fun H' e => SqT.of (e _ _ hp7)) (fun _ => rfl) (fun k hk H' e Q q => ⟨_, rfl, _, rfl, tl, _, _, _, rfl, rfl, SqL.of (e _ _ h7), bool_at (by have := kin k hk; omega), q H' (Ex.refl _)⟩) hD3 fun H8 e8 h8 => ?_⟩
            refine ⟨D3, ks.map fun k => acc.getD k false, rfl, SqL.of (by rw [h8, List.map_map]; rfl), ?_⟩
            obtain ⟨a1, a2, a3⟩ := put (e7.trans e8) (e8 _ _ hd7) (e8 _ _ h7) (c := (ks.map fun k => acc.getD k false).all id) (by rw [List.all_map]; rfl)
            exact ⟨tl, _, _, rfl, rfl, e8 _ _ h7, lacc, _, _, rfl, a1, a2, a3⟩
          | false =>
            refine iteF' (by show decide (V.str (opS false) = V.str (Str.ofString "all")) = false; decide +kernel) ⟨_, rfl, .inl ⟨rfl, _, SqL.of h7⟩, _, rfl, p, rfl, ⟨_, SqT.of hp7⟩, fun D3 hD3 => lcM (walk_tup (xs := ks.map fun (k : Nat) => V.int (k : Int))) (fun k => V.bl (acc.getD k false)) (by omega) (fun H' e => SqT.of (e _ _ hp7)) (fun _ => rfl) (fun k hk H' e Q q => ⟨_, rfl, _, rfl, tl, _, _, _, rfl, rfl, SqL.of (e _ _ h7), bool_at (by have := kin k hk; omega), q H' (Ex.refl _)⟩) hD3 fun H8 e8 h8 => ?_⟩
            refine ⟨D3, ks.map fun k => acc.getD k false, rfl, SqL.of (by rw [h8, List.map_map]; rfl), ?_⟩
            obtain ⟨a1, a2, a3⟩ := put (e7.trans e8) (e8 _ _ hd7) (e8 _ _ h7) (c := (ks.map fun k => acc.getD k false).any id) (by rw [List.any_map]; rfl)
            exact ⟨tl, _, _, rfl, rfl, e8 _ _ h7, lacc, _, _, rfl, a1, a2, a3⟩
      · rintro σ H7 ⟨o7, o8, rfl, e7, hd7, h7⟩
        rw [G.len, List.take_length] at h7
        refine ⟨_, rfl, 1, rfl, tl, _, -1, _, rfl, rfl, SqL.of h7, last_at ?_, fin1 hmo _ e7⟩
        have := valsG_len ns (tvOf ps) gs []
        show 1 ≤ (gs.foldl (stepG ns (tvOf ps)) []).length
        rw [this]
        show 1 ≤ 0 + gs.length
        omega
end
end E5
set_option maxRecDepth 100000
set_option maxHeartbeats 4000000
namespace HR
open PySem PySem.Spec PyProof.Rows L2
/-- isinstance(e, c), e the exception that the suite holds, with a dict of its own -/
def rIsX (K : PySem.W.Frag) (a : Addr) (cls : Value) (d : Option Addr) : List V → Hp → VK → Prop := fun xs H Q => ∃ (D dd : Addr) (fs : List (Str × V)) (c : V) (cv : Value) (b : Bool),
  cls = .ref D ∧ d = some dd ∧ H dd = some (.xd fs) ∧ ExcC K D ∧ xs = [.ref a, c] ∧ ClsV c cv ∧ PySem.W.kitOne K (.ref D) cv = some b ∧ Q (.bl b) H
theorem call_isX {X : Cx} {a : Addr} {oe : Obj} {cls : Value} {d : Option Addr} {pn : List (Addr × Obj)} (hz : Zc cls d oe) (hf : ∃ vs, oe.data = .fields vs) : CallR (X.suite a ((a, oe) :: pn)) (.builtin "isinstance") (rIsX X.K a cls d) := by
  intro pins s σ H xs us Q I r h
  obtain ⟨D, dd, fs, c, cv, b, rfl, rfl, hdd, C, rfl, hcv, e, q⟩ := h
  obtain ⟨u1, u2, rfl, r1, r2⟩ := vals2 r
  have e2 := hcv.eq r2
  subst e2
  cases (show u1 = Value.ref a from r1)
  obtain ⟨hget, _⟩ := I.pin (a, oe) (List.mem_append.mpr (.inl List.mem_cons_self))
  obtain ⟨vs, hv⟩ := hf
  have hx : ObjOk X.prog X.w H s.heap dd (.xd fs) := I.hok dd _ hdd
  obtain ⟨mA, hns, _⟩ := hx
  obtain ⟨od, ho, _⟩ := lookIn_ns hns
  have J : PySem.W.InstAt s.heap a oe D (some od) := ⟨hget, hz.1, by unfold PySem.W.notCls; rw [hv] <;> rfl, by rw [hz.2]; exact ho⟩
  have hcl : (PySem.W.clsIn X.K D).isSome = true := by
    obtain ⟨cd, hc, _⟩ := PySem.W.any_some C.hd
    rw [hc]
    rfl
  exact PySem.W.kia_one (PySem.W.kitx_exc hcl C.hg C.hk C.hs C.ha C.hn C.ht C.hm) I.kIn J e (fun z => nomatch z) fun tk => ⟨.bl b, H, I.kept (t' := tk) fun _ _ z => z, rfl, q⟩
end HR
namespace E5
open PySem L2 Evl GP HR SC
/-- what of the errors' classes is asked -/
structure AX (K : PySem.W.Frag) (mg : Str → Option Value) (cR cM : Addr) : Prop where
  c_RingclauseError : mg "RingclauseError" = some (.ref cR)
  c_UnknownMoment : mg "UnknownMoment" = some (.ref cM)
  b_ValueError : mg "ValueError" = none
  te : PySem.W.exmOne K (.ref cM) (.ref cM) = some true
  xc : ExcC K cM
  xf : XfC K cM
  noF : PySem.W.findIn K (.ref cM) "name" = some none
  k1 : PySem.W.kitOne K (.ref cM) (.ref cR) = some true
  k2 : PySem.W.kitOne K (.ref cM) (.type "ValueError") = some true
def spAsked (C : Addr) : Sp := fun vs H Q _ => ∃ (m gp v n tm : Addr) (o : Obj) (pa : List Addr) (us : List V) (gs : List Gt) (ys ns : List Str) (ps : List (Str × Int)), vs = [.ref m, .ref v] ∧ MidAt C H m gp ∧ H gp = some (.tup us) ∧ Gts H us gs ∧ GsOk ys gs ∧ ys.length ≤ 5 ∧ 1 ≤ gs.length ∧ gs.length ≤ 32 ∧ Val H v n tm o pa ns ps ∧ DueQ H gs ns ps Q
def t_suite (K : PySem.W.Frag) (cM cR : Addr) : Addr → Value → Option Addr → TS := fun a cls d =>
  tSeq (tAsg (tCB (rIsX K a cls d) (tCons (tVar 2) (tCons (tC (.ref cR)) tNil))) (gName 3))
    (tRet (tTup (tCons (tC (.str "unknown")) (tCons (tXf a cls d cM "name" (tVar 2)) (tCons (tVar 3) (tCons (tCB (rIsX K a cls d) (tCons (tVar 2) (tCons (tC (.ty "ValueError")) tNil))) tNil))))))
def t_body (C cM : Addr) : WX → TS := fun W => tRet (tCallOS C (spMCall C cM) (WE W) (tVar 0) (tCons (tVar 1) tNil))
section
variable {P : Program} {w : World} {K : PySem.W.Frag} {mg : Str → Option Value} {base : Heap} {a : Ad} {d : Fd} {C fI fC cR : Addr} {dI dC : FuncData}
theorem ok_law_asked {cM fM : Addr} (T : TX K mg a) (D : FDS K a d) (M : MC K mg C fI fC dI dC) (EM : PySem.Sup.SupTxt K mg P "UnknownMoment" "name" "not a listed moment" cM fM) (AA : AX K mg cR cM) : FnOk P w K mg base CX0 6 a.a_law_asked d.a_law_asked ["middle", "values"] (spAsked C) := by
  have GM : FnOk P w K mg base (L2.CX P w) 5 fC dC ["self", "values"] (spMCall C cM) := ok_Middle_call T D M EM
  refine D.F__law_asked.ok sc_law_asked (fun vs H Q E h => ?_) (fun cdv A outer s H vs Q E hr h => ?_)
  · obtain ⟨m, gp, v, n, tm, o, pa, us, gs, ys, ns, ps, rfl, _⟩ := h
    rfl
  · obtain ⟨m, gp, v, n, tm, o, pa, us, gs, ys, ns, ps, rfl, ⟨dx, hm⟩, hgp, G, ok, y5, g1, g32, VL, fin⟩ := h
    have hr5 : Room 5 _ := hr.mono (by decide)
    refine ⟨_, pss_one (ps_try_as (i := 2) (tb := t_body C cM) (ts := t_suite K cM cR) (Wout := fun _ _ _ _ => False) rfl rfl sc_law_asked.nd rfl rfl ⟨rfl, by decide, Or.inl AA.c_UnknownMoment⟩ takes0
      (fun W pn xe tk _ => pss_one (ps_ret (pe_callOS (pv 0) M.co GM hr5 M.BC (fun σ => L2.passAt tk σ) (by exact (pa_cons (pv 1) pa_nil)))))
      (fun a oe cls d pn hz hf => pss_cons (ps_set (i := 3) sc_law_asked.nd rfl (Or.inl rfl) (pe_callB (call_isX hz hf) (by rfl) T.b_isinstance (by decide +kernel) (by exact (pa_cons (pv 2) (pa_cons (pe_glob (v := .ref cR) rfl AA.c_RingclauseError rfl) pa_nil)))))
        (pss_one (ps_ret (pe_tup (pa_cons pe_str (pa_cons (by exact (pe_xf AA.xf AA.noF hz hf (pv 2))) (pa_cons (pv 3) (pa_cons (pe_callB (call_isX hz hf) (by rfl) T.b_isinstance (by decide +kernel) (by exact (pa_cons (pv 2) (pa_cons (pe_bltn (v := .ty "ValueError") (by rfl) AA.b_ValueError (by decide +kernel) rfl) pa_nil)))) pa_nil))))))))), ?_⟩
    refine ⟨_, rfl, m, rfl, _, rfl, ⟨dx, _, hm⟩, m, gp, v, n, tm, o, pa, us, gs, ys, ns, ps, rfl, ⟨dx, hm⟩, hgp, G, ok, y5, g1, g32, VL, fun ms asc MM => ?_⟩
    obtain ⟨fin1, fin2⟩ := fin ms asc MM
    refine ⟨fun hmo H' e => fin1 hmo H' e, fun y hmo dd H' e _ hdd => ?_⟩
    refine ⟨true, AA.te, fun _ a0 ha0 => ?_, fun z => nomatch z⟩
    refine ⟨_, rfl, cM, dd, _, _, _, true, rfl, rfl, hdd, AA.xc, rfl, .own cR, AA.k1, ?_⟩
    refine ⟨_, rfl, rfl, rfl, dd, _, .str y, rfl, hdd, by simp [List.lookup], _, rfl, _, rfl, cM, dd, _, _, _, true, rfl, rfl, hdd, AA.xc, rfl, .ty "ValueError", AA.k2, (by show 4 ≤ sizeLine; decide), fun t ht => ?_⟩
    exact fin2 y hmo t _ (e.trans (Ex.new ht)) upd_same
end
end E5
set_option maxRecDepth 100000
set_option maxHeartbeats 8000000
namespace E5
open PySem L2 Evl GP HR SC
theorem cutV_to {xs : List V} {k : Nat} (h : k ≤ xs.length) : cutV xs none (some (k : Int)) = xs.take k := by
  unfold cutV
  rw [HT.sIx_none, HT.sIx_nat, Nat.min_eq_left h]
  simp
theorem Ex.kp {b : Addr} {H H1 H2 : Hp} (e : Ex H H1) (nb : H b = none) (k : Kp b H1 H2) : Ex H H2 := fun a o h => k.k a o (fun z => by rw [z, nb] at h; cases h) (e a o h)
theorem Bx.kp2 {b b1 : Addr} {H H' : Hp} (X : Bx b H) (n : b ≠ b1) (k : Kp b1 H H') : Bx b H' := by
  obtain ⟨r, m, q, h, r0⟩ := X
  exact ⟨r, m, q, k.k _ _ n h, r0⟩
theorem hu70 {k : Nat} {A : Around} (r : Room k A) : A.units + 70 < cLine := by have := r.un; omega
/-- repr of a tuple or of a bool -/
def rRep (K : PySem.W.Frag) : List V → Hp → VK → Prop := fun xs H Q => (∃ p d n c, xs = [.ref p] ∧ Dp K H (.ref p) d ∧ Rp n c d ∧ n ≤ 60 ∧ c ≤ sizeLine ∧ Q (.str d.shown) H) ∨ ∃ b, xs = [.bl b] ∧ Q (.str (PyData.bool b).shown) H
theorem cr_rep {X : Cx} {K : PySem.W.Frag} (gd : X.A.guards = some []) (hu : X.A.units + 70 < cLine) (hK : X.K = K := by rfl) : CallR X (.builtin "repr") (rRep K) := by
  subst hK
  exact cr_or (call_reprR gd hu) (call_reprBl gd hu)
def innerD : Gt → PyData
  | .lit l => litD l
  | .op _ ks => .tuple (ks.map fun (k : Nat) => PyData.int (k : Int))
def gD (g : Gt) : PyData := .tuple [.str (gw g), innerD g]
theorem ints_dp {K : PySem.W.Frag} {H : Hp} : ∀ ks : List Nat, DpAll K H (ks.map fun (k : Nat) => V.int (k : Int)) (ks.map fun (k : Nat) => PyData.int (k : Int))
  | [] => .nil
  | k :: ks => .cons (.int _) (ints_dp ks)
theorem inner_dp {K : PySem.W.Frag} {H : Hp} {p : Addr} {g : Gt} (h : H p = some (.tup (inner g))) : Dp K H (.ref p) (innerD g) := by
  cases g with
  | lit l => exact lit_dp (SqT.of h)
  | op f ks => exact .tup (SqT.of h) (ints_dp ks)
theorem Gts.dp {K : PySem.W.Frag} {H : Hp} : ∀ {vs : List V} {gs : List Gt}, Gts H vs gs → DpAll K H vs (gs.map gD)
  | [], [], _ => .nil
  | [], _ :: _, A => by have := A.len; simp at this
  | _ :: _, [], A => by have := A.len; simp at this
  | v :: vs, g :: gs, A => by
    obtain ⟨t, p, h1, h2, h3⟩ := A.at_ 0 g rfl
    obtain rfl : v = .ref t := Option.some.inj h1
    exact .cons (.tup (SqT.of h2) (.cons (.str _) (.cons (inner_dp h3) .nil))) (Gts.dp ⟨by have := A.len; simpa using this, fun i r h => A.at_ (i + 1) r h⟩)
theorem rp_inner {ys : List Str} {i : Nat} {g : Gt} (h : GtOk ys i g) (hi : i ≤ 40) : Rp 1 8010 (innerD g) := by
  cases g with
  | lit l => exact rp_lit h.1
  | op f ks =>
    obtain ⟨h3, hk⟩ := h
    refine (Rp.tuple (n := 0) (c := 2000) fun d hd => ?_).mono (Nat.le_refl _) (by rw [List.length_map]; omega)
    obtain ⟨k, hm, rfl⟩ := List.mem_map.mp hd
    have := hk k hm
    have lg : ((k : Int)).natAbs.log2 < 301 := PySem.Flt.log2_lt_of (by decide) (by
      have : (40 : Nat) < 2 ^ 301 := by decide
      omega)
    exact (Rp.int (Nat.lt_trans lg (by decide))).mono (Nat.le_refl _) (by decide)
theorem rp_opS (b : Bool) : Rp 0 2000 (.str (opS b)) := by
  refine (Rp.str ?_).mono (Nat.le_refl _) ?_ <;> cases b <;> decide +kernel
theorem rp_litw : Rp 0 2000 (.str ("lit" : Str)) := (Rp.str (by decide +kernel)).mono (Nat.le_refl _) (by decide +kernel)
theorem rp_gw (g : Gt) : Rp 0 2000 (.str (gw g)) := by
  cases g with
  | lit l => exact rp_litw
  | op f ks => exact rp_opS f
theorem rp_gates {ys : List Str} {gs : List Gt} (ok : GsOk ys gs) (few : gs.length ≤ 32) : Rp 3 600000 (.tuple (gs.map gD)) := by
  refine (Rp.tuple (n := 2) (c := 16026) fun d hd => ?_).mono (Nat.le_refl _) (by rw [List.length_map]; omega)
  obtain ⟨g, hg, rfl⟩ := List.mem_map.mp hd
  obtain ⟨i, hi⟩ := List.getElem?_of_mem hg
  have hil := (List.getElem?_eq_some_iff.mp hi).1
  refine (Rp.tuple (n := 1) (c := 8010) fun d hd => ?_).mono (Nat.le_refl _) (by show 2 * 8012 + 2 ≤ _; decide)
  simp only [List.mem_cons, List.not_mem_nil, or_false] at hd
  rcases hd with rfl | rfl
  · exact (rp_gw g).mono (by decide) (by decide)
  · exact rp_inner (ok i g hi) (by omega)
theorem rp_bool (b : Bool) : Rp 0 2000 (.bool b) := by
  refine ⟨?_, ?_, ?_, ?_⟩ <;> cases b <;> simp [PyData.showable, PyData.hasDict, PyData.depth, PyData.shown] <;> decide +kernel
theorem rp_unknown {y : Str} (h : isNameS y = true) : Rp 1 9000 (.tuple [.str "unknown", .str y, .bool true, .bool true]) := by
  refine (Rp.tuple (n := 0) (c := 2000) fun d hd => ?_).mono (Nat.le_refl _) (by show 4 * 2002 + 2 ≤ _; decide)
  simp only [List.mem_cons, List.not_mem_nil, or_false] at hd
  rcases hd with rfl | rfl | rfl | rfl
  · refine (Rp.str ?_).mono (Nat.le_refl _) ?_ <;> decide +kernel
  · exact rp_name h
  · exact rp_bool true
  · exact rp_bool true
theorem slA_go {K : PySem.W.Frag} {F : VK} {gp : Addr} {us : List V} {H : Hp} {m : Nat} {hi : Int} (h : H gp = some (.tup us)) (hm : hi = (m : Int)) (hl : m ≤ us.length) (q : ∀ pp H', Ex H H' → H' pp = some (.tup (us.take m)) → F (.ref pp) H') : rSlA K (.ref gp) none (some hi) H F := by
  subst hm
  refine ⟨gp, us, rfl, SqT.of h, fun hw => ?_, fun _ p hp => ?_⟩
  · have e : m = us.length := by
      have := hw.2
      rw [HT.sIx_nat, Nat.min_eq_left hl] at this
      exact this
    exact q gp H (Ex.refl _) (by rw [e, List.take_length]; exact h)
  · refine q p _ (Ex.new hp) ?_
    rw [upd_same, cutV_to hl]
/-- repr(_law_asked(m, v)) != repr(_law_due(g, v)) -/
theorem same_go {K : PySem.W.Frag} {C : Addr} {σ : L2.St} {H : Hp} {i j : Nat} {m gp v n tm : Addr} {o : Obj} {pa : List Addr} {us : List V} {gs : List Gt} {ys ns : List Str} {ps : List (Str × Int)} {Q : Bool → Hp → Prop} (hi : σ[i]? = some (some (.ref m))) (hj : σ[j]? = some (some (.ref gp))) (hv : σ[10]? = some (some (.ref v)))
    (hm : MidAt C H m gp) (hgp : H gp = some (.tup us)) (G : Gts H us gs) (ok : GsOk ys gs) (yn : ∀ z ∈ ys, isNameS z = true) (y5 : ys.length ≤ 5) (g1 : 1 ≤ gs.length) (g32 : gs.length ≤ 32) (VL : Val H v n tm o pa ns ps) (q : ∀ H', Ex H H' → Q false H') :
    tTest (tOp rNe (tCB (rRep K) (tCons (tCall (spAsked C) [] E0 (tCons (tVar i) (tCons (tVar 10) tNil))) tNil)) (tCB (rRep K) (tCons (tCall spDue [] E0 (tCons (tVar j) (tCons (tVar 10) tNil))) tNil))) σ H Q := by
  have dec : ∀ s : Str, (!decide (V.str s = V.str s)) = false := fun s => by rw [decide_eq_true rfl]; rfl
  have once : ∀ {ms ms2 : List Str}, Asc ms → Mem gs ms → Asc ms2 → Mem gs ms2 → ms2 = ms := fun a b c d => asc_same c a fun z => (d z).trans (b z).symm
  refine ⟨_, hi, _, hv, m, gp, v, n, tm, o, pa, us, gs, ys, ns, ps, rfl, hm, hgp, G, ok, y5, g1, g32, VL, fun ms asc MM => ⟨fun hmo H1 e1 => .inr ⟨_, rfl, ?_⟩, fun y hmo t H1 e1 ht => ?_⟩⟩
  · refine ⟨_, hj, _, hv, gp, v, n, tm, o, pa, us, gs, ys, ns, ps, rfl, e1 _ _ hgp, G.tp (Tp.ex e1), ok, y5, g1, g32, VL.ex e1, fun ms2 asc2 MM2 => ?_⟩
    rw [once asc MM asc2 MM2]
    refine ⟨fun _ H2 e2 => .inr ⟨_, rfl, rfl, _, rfl, ?_⟩, fun y hmo2 => absurd (hmo.symm.trans hmo2) (by simp)⟩
    rw [dec]
    exact q H2 (e1.trans e2)
  · have hy : isNameS y = true := by
      have h1 := List.mem_of_find?_eq_some hmo
      obtain ⟨g, hg, h2⟩ := (MM y).mp h1
      exact yn y (gNames_ok ok hg h2)
    have dp : ∀ {H' : Hp} {t : Addr}, H' t = some (.tup [.str "unknown", .str y, .bl true, .bl true]) → Dp K H' (.ref t) (.tuple [.str "unknown", .str y, .bool true, .bool true]) := fun h => .tup (SqT.of h) (.cons (.str _) (.cons (.str _) (.cons (.bl _) (.cons (.bl _) .nil))))
    refine .inl ⟨t, _, 1, 9000, rfl, dp ht, rp_unknown hy, by decide, by decide, ?_⟩
    refine ⟨_, hj, _, hv, gp, v, n, tm, o, pa, us, gs, ys, ns, ps, rfl, e1 _ _ hgp, G.tp (Tp.ex e1), ok, y5, g1, g32, VL.ex e1, fun ms2 asc2 MM2 => ?_⟩
    rw [once asc MM asc2 MM2]
    refine ⟨fun hmo2 => absurd (hmo.symm.trans hmo2) (by simp), fun y2 hmo2 t2 H2 e2 ht2 => ?_⟩
    obtain rfl : y = y2 := Option.some.inj (hmo.symm.trans hmo2)
    refine .inl ⟨t2, _, 1, 9000, rfl, dp ht2, rp_unknown hy, by decide, by decide, rfl, _, rfl, ?_⟩
    rw [dec]
    exact q H2 (e1.trans e2)
def spLaw (K : PySem.W.Frag) : Sp := fun vs H Q _ => ∃ (a : Addr) (ns : List Int), vs = [.ref a] ∧ SqL K H a (ns.map V.int) ∧ ∀ H', Q (.bl true) H'
section
variable {P : Program} {w : World} {K : PySem.W.Frag} {mg : Str → Option Value} {base : Heap} {a : Ad} {d : Fd} {C fI fC cR : Addr} {dI dC : FuncData}
theorem ok_law {cM fM : Addr} (T : TX K mg a) (D : FDS K a d) (M : MC K mg C fI fC dI dC) (EM : PySem.Sup.SupTxt K mg P "UnknownMoment" "name" "not a listed moment" cM fM) (AA : AX K mg cR cM) : FnG P w K mg base 7 a.a_law d.a_law ["script"] (spLaw K) := by
  have G__law_bag : FnOk P w K mg base CX0 1 a.a_law_bag d.a_law_bag ["script", "k"] (spBag K) := ok_law_bag T D
  have G__law_draw : FnOk P w K mg base CX0 1 a.a_law_draw d.a_law_draw ["bag", "size"] spDraw := ok_law_draw T D
  have G__law_names : FnOk P w K mg base CX0 3 a.a_law_names d.a_law_names ["bag"] spNames := ok_law_names T D
  have G__law_gates : FnOk P w K mg base CX0 4 a.a_law_gates d.a_law_gates ["bag", "truths", "moments"] spGates := ok_law_gates T D
  have G__law_values : FnOk P w K mg base CX0 3 a.a_law_values d.a_law_values ["bag", "truths", "moments", "gates"] spValues := ok_law_values T D
  have G__law_asked : FnOk P w K mg base CX0 6 a.a_law_asked d.a_law_asked ["middle", "values"] (spAsked C) := ok_law_asked T D M EM AA
  have G__law_due : FnOk P w K mg base CX0 2 a.a_law_due d.a_law_due ["gates", "values"] spDue := ok_law_due T D
  have GI : FnOk P w K mg base CX0 1 fI dI ["self", "gates"] (spMInit C) := ok_Middle_init M
  refine okG D.F_law sc_law (fun vs H Q E h => ?_) (fun cdv A outer s H vs Q E hr gd h => ?_)
  · obtain ⟨sa, ns, rfl, _⟩ := h
    rfl
  · obtain ⟨sa, ns, rfl, hs, fin⟩ := h
    refine ⟨_, (pss_cons (ps_set (i := 1) sc_law.nd rfl (Or.inl rfl) (pe_call G__law_bag (hr.mono (by decide)) rfl T.f__law_bag T.k__law_bag D.B__law_bag .nil pass0 (pa_cons (pv 0) (pa_cons pe_int pa_nil))))
        (pss_cons (ps_asg (pe_call G__law_names (hr.mono (by decide)) rfl T.f__law_names T.k__law_names D.B__law_names .nil pass0 (pa_cons (pv 1) pa_nil)) (pg_tup rfl (pgs_cons (pg_name (i := 2) sc_law.nd rfl (Or.inl rfl)) (pgs_cons (pg_name (i := 3) sc_law.nd rfl (Or.inl rfl)) pgs_nil))))
        (pss_cons (ps_set (i := 4) sc_law.nd rfl (Or.inl rfl) (pe_slice sl_list (pv 3) po_none (po_some pe_int)))
        (pss_cons (ps_set (i := 5) sc_law.nd rfl (Or.inl rfl) (pe_call G__law_gates (hr.mono (by decide)) rfl T.f__law_gates T.k__law_gates D.B__law_gates .nil pass0 (pa_cons (pe_call G__law_bag (hr.mono (by decide)) rfl T.f__law_bag T.k__law_bag D.B__law_bag .nil pass0 (pa_cons (pv 0) (pa_cons pe_int pa_nil))) (pa_cons (pv 2) (pa_cons (pv 4) pa_nil)))))
        (pss_cons (ps_set (i := 6) sc_law.nd rfl (Or.inl rfl) (pe_slice (sl_tupK (K := K)) (pv 5) po_none (po_some (pe_op op_add pe_int (pe_call G__law_draw (hr.mono (by decide)) rfl T.f__law_draw T.k__law_draw D.B__law_draw .nil pass0 (pa_cons (pv 1) (pa_cons (pe_callB call_len_seq (by rfl) T.b_len (by decide +kernel) (pa_cons (pv 5) pa_nil)) pa_nil)))))))
        (pss_cons (ps_set (i := 7) sc_law.nd rfl (Or.inl rfl) (pe_make M.mkr GI (hr.mono (by decide)) rfl M.gC M.BI .nil pass0 (pa_cons (pv 5) pa_nil)))
        (pss_cons (ps_set (i := 8) sc_law.nd rfl (Or.inl rfl) (pe_make M.mkr GI (hr.mono (by decide)) rfl M.gC M.BI .nil pass0 (pa_cons (pv 6) pa_nil)))
        (pss_cons (ps_for PassesOwn.never rfl (pi_range1 rfl T.b_range (pa_cons (pe_op op_add pe_int (pe_call G__law_draw (hr.mono (by decide)) rfl T.f__law_draw T.k__law_draw D.B__law_draw .nil pass0 (pa_cons (pv 1) (pa_cons pe_int pa_nil)))) pa_nil)) (pg_name (i := 9) sc_law.nd rfl (Or.inl rfl)) (pss_cons (ps_set (i := 10) sc_law.nd rfl (Or.inl rfl) (pe_call G__law_values (hr.mono (by decide)) rfl T.f__law_values T.k__law_values D.B__law_values .nil pass0 (pa_cons (pe_call G__law_bag (hr.mono (by decide)) rfl T.f__law_bag T.k__law_bag D.B__law_bag .nil pass0 (pa_cons (pv 0) (pa_cons (pe_op op_add pe_int (pv 9)) pa_nil))) (pa_cons (pv 2) (pa_cons (pv 4) (pa_cons (pv 5) pa_nil))))))
        (pss_cons (ps_if (pt_cmpR op_ne (pe_callB (cr_rep (K := K) gd (hu70 hr)) (by rfl) T.b_repr (by decide +kernel) (pa_cons (pe_call G__law_asked (hr.mono (by decide)) rfl T.f__law_asked T.k__law_asked D.B__law_asked .nil pass0 (pa_cons (pv 7) (pa_cons (pv 10) pa_nil))) pa_nil)) (pe_callB (cr_rep (K := K) gd (hu70 hr)) (by rfl) T.b_repr (by decide +kernel) (pa_cons (pe_call G__law_due (hr.mono (by decide)) rfl T.f__law_due T.k__law_due D.B__law_due .nil pass0 (pa_cons (pv 5) (pa_cons (pv 10) pa_nil))) pa_nil)) (nomark _)) (pss_one (ps_ret pe_bl)) pss_nil)
        (pss_one (ps_if (pt_cmpR op_ne (pe_callB (cr_rep (K := K) gd (hu70 hr)) (by rfl) T.b_repr (by decide +kernel) (pa_cons (pe_call G__law_asked (hr.mono (by decide)) rfl T.f__law_asked T.k__law_asked D.B__law_asked .nil pass0 (pa_cons (pv 8) (pa_cons (pv 10) pa_nil))) pa_nil)) (pe_callB (cr_rep (K := K) gd (hu70 hr)) (by rfl) T.b_repr (by decide +kernel) (pa_cons (pe_call G__law_due (hr.mono (by decide)) rfl T.f__law_due T.k__law_due D.B__law_due .nil pass0 (pa_cons (pv 6) (pa_cons (pv 10) pa_nil))) pa_nil)) (nomark _)) (pss_one (ps_ret pe_bl)) pss_nil)))))
        (pss_one (ps_ret (pe_and (pe_cmpR op_eq (pe_callB (cr_rep (K := K) gd (hu70 hr)) (by rfl) T.b_repr (by decide +kernel) (pa_cons (pe_fld (pv 7) rfl) pa_nil)) (pe_callB (cr_rep (K := K) gd (hu70 hr)) (by rfl) T.b_repr (by decide +kernel) (pa_cons (pv 5) pa_nil)) (nomark _)) (pe_one (pe_cmpR op_eq (pe_callB (cr_rep (K := K) gd (hu70 hr)) (by rfl) T.b_repr (by decide +kernel) (pa_cons (pe_fld (pv 8) rfl) pa_nil)) (pe_callB (cr_rep (K := K) gd (hu70 hr)) (by rfl) T.b_repr (by decide +kernel) (pa_cons (pv 6) pa_nil)) (nomark _)))))))))))))), ?_⟩
    have big : 1000000 ≤ sizeLine := by decide
    refine ⟨_, rfl, sa, ns, 0, rfl, hs, by decide, fun b H1 e1 nb X1 => ⟨_, rfl, b, rfl, X1, fun t l1 l2 xs ys H2 k2 X2 ht h1 h2 n1 n2 x3 y5 xn yn nd => ?_⟩⟩
    have e02 := Ex.kp e1 nb k2
    refine ⟨t, _, rfl, SqT.of ht, rfl, _, _, rfl, _, _, rfl, rfl, _, rfl, 4, rfl, l2, _, rfl, SqL.of h2, fun mm hmm => ?_⟩
    have cut4 : cutV (ys.map V.str) none (some 4) = (ys.take 4).map V.str := by
      rw [List.map_take]
      exact cutV_to (k := 4) (by rw [List.length_map, y5]; decide)
    have hm3 : upd H2 mm (.lst (cutV (ys.map V.str) none (some 4))) mm = some (.lst ((ys.take 4).map V.str)) := by rw [upd_same, cut4]
    have x3' := Ex.new (o := .lst (cutV (ys.map V.str) none (some 4))) hmm
    have X3 := X2.ex x3'
    have e03 := e02.trans x3'
    have h13 := x3' _ _ h1
    generalize upd H2 mm (.lst (cutV (ys.map V.str) none (some 4))) = H3 at *
    have y4 : (ys.take 4).length = 4 := by rw [List.length_take, y5]; rfl
    have yn4 : ∀ z ∈ ys.take 4, isNameS z = true := fun z hz => yn z (List.mem_of_mem_take hz)
    have nd4 : (ys.take 4).Nodup := nd.sublist (List.take_sublist 4 ys)
    generalize ys.take 4 = zs at *
    have WW : ∀ {b' : Addr} {H' : Hp}, Ex H3 H' → H3 b' = none → Wld b' l1 mm xs zs H' := fun e nb' => ⟨e _ _ h13, e _ _ hm3, ne_of_none h13 nb', ne_of_none hm3 nb', x3, y4, xn, yn4, nd4⟩
    refine ⟨_, rfl, sa, ns, 1, rfl, ex_l e03 hs, by decide, fun b1 H4 e4 nb1 X4 => ⟨_, rfl, _, rfl, b1, l1, mm, xs, zs, rfl, X4, WW e4 nb1, fun gp us gs H5 k5 X5 hgp G ok g1 g32 => ?_⟩⟩
    have e35 := Ex.kp e4 nb1 k5
    have X5b : Bx b H5 := X3.ex e35
    have lus := G.len
    refine ⟨_, rfl, _, rfl, _, rfl, gp, _, rfl, .inr (SqT.of hgp), b, _, rfl, X5b, by omega, by omega, fun d6 H6 k6 X6 r0 r1 => ⟨_, _, rfl, rfl, 1 + d6, rfl, ?_⟩⟩
    have nbh : H b = none := nb
    have e06 := Ex.kp (e03.trans e35) nb k6
    have ng : gp ≠ b := fun e => by
      obtain ⟨r, m, q, hb, _⟩ := X5b
      rw [e, hb] at hgp
      cases hgp
    have hgp6 := k6.tup X5b hgp
    have G6 := G.tp (k6.tp X5b)
    have h16 : H6 l1 = some (.lst (xs.map V.str)) := k6.k _ _ n1 (e35 _ _ h13)
    have nmb : mm ≠ b := X2.ne hmm
    have hm6 : H6 mm = some (.lst (zs.map V.str)) := k6.k _ _ nmb (e35 _ _ hm3)
    obtain ⟨pm, hpm⟩ : ∃ n : Nat, 1 + d6 = (n : Int) := ⟨(1 + d6).toNat, by omega⟩
    have pm1 : 1 ≤ pm := by omega
    have pml : pm ≤ us.length := by omega
    refine slA_go hgp6 hpm pml fun pp H7 e7 hpp => ?_
    have e07 := e06.trans e7
    have X7 := X6.ex e7
    have hgp7 := e7 _ _ hgp6
    have G7 := G6.tp (Tp.ex e7)
    have GP7 := G7.take pm
    have okP := ok.take pm
    have lgp : (gs.take pm).length = pm := by rw [List.length_take]; omega
    have h17 := e7 _ _ h16
    have hm7 := e7 _ _ hm6
    refine ⟨_, rfl, fun x dx nx ndx ne => ⟨x, dx, .ref gp, rfl, upd_same, rfl, ?_⟩⟩
    have ex8 : Ex H7 (upd (upd (upd H7 dx (.own x)) x (.ins C dx [])) x (.ins C dx [("gates", .ref gp)])) := ((Ex.new ndx).mut nx).mut nx
    have hx8 : upd (upd (upd H7 dx (.own x)) x (.ins C dx [])) x (.ins C dx [("gates", .ref gp)]) x = some (.ins C dx [("gates", .ref gp)]) := upd_same
    generalize upd (upd (upd H7 dx (.own x)) x (.ins C dx [])) x (.ins C dx [("gates", .ref gp)]) = H8 at *
    refine ⟨_, rfl, fun y dy ny ndy ne2 => ⟨y, dy, .ref pp, rfl, upd_same, rfl, ?_⟩⟩
    have ex9 : Ex H8 (upd (upd (upd H8 dy (.own y)) y (.ins C dy [])) y (.ins C dy [("gates", .ref pp)])) := ((Ex.new ndy).mut ny).mut ny
    have hy9 : upd (upd (upd H8 dy (.own y)) y (.ins C dy [])) y (.ins C dy [("gates", .ref pp)]) y = some (.ins C dy [("gates", .ref pp)]) := upd_same
    generalize upd (upd (upd H8 dy (.own y)) y (.ins C dy [])) y (.ins C dy [("gates", .ref pp)]) = H9 at *
    have e79 := ex8.trans ex9
    have X9 := X7.ex e79
    refine ⟨_, rfl, b, 4, rfl, X9, by decide, by decide, fun dk H10 k10 X10 u0 u1 => ⟨_, _, rfl, rfl, 2 + dk, rfl, by omega, by omega, ?_⟩⟩
    have e010 := Ex.kp (e07.trans e79) nb k10
    have nxb : x ≠ b := (X7.ne nx)
    have nyb : y ≠ b := ((X7.ex ex8).ne ny)
    have hx10 := k10.k _ _ nxb (ex9 _ _ hx8)
    have hy10 := k10.k _ _ nyb hy9
    have hgp10 := k10.tup X9 (e79 _ _ hgp7)
    have hpp10 := k10.tup X9 (e79 _ _ hpp)
    have G10 := G7.tp ((Tp.ex e79).trans (k10.tp X9))
    have GP10 := GP7.tp ((Tp.ex e79).trans (k10.tp X9))
    have h110 := k10.k _ _ n1 (e79 _ _ h17)
    have hm10 := k10.k _ _ nmb (e79 _ _ hm7)
    refine for_it (walk_range (lo := 0) (n := (2 + dk).toNat)) (fun i σ H' => ∃ (o9 o10 : Option V), σ = [some (.ref sa), some (.ref b), some (.ref l1), some (.ref l2), some (.ref mm), some (.ref gp), some (.ref pp), some (.ref x), some (.ref y), o9, o10] ∧ Ex H10 H') ⟨none, none, rfl, Ex.refl _⟩ (fun _ _ _ _ _ => trivial) ?_ ?_
    · rintro i v σ H11 H11' hi ⟨o9, o10, rfl, e11⟩ ⟨rfl, hv⟩
      have i6 : i < 6 := by omega
      obtain rfl : v = .int (i : Int) := by rw [hv]; show V.int (0 + (i : Int)) = _; rw [Int.zero_add]
      refine ⟨_, rfl, _, rfl, _, _, rfl, rfl, sa, ns, 2 + i, ?_, ex_l (e010.trans e11) hs, by omega, fun b2 H12 e12 nb2 X12 => ?_⟩
      · show [V.ref sa, V.int (2 + (i : Int))] = [V.ref sa, V.int ((2 + i : Nat) : Int)]
        rw [Int.natCast_add]
        rfl
      have e1012 := e11.trans e12
      refine ⟨_, rfl, _, rfl, _, rfl, b2, l1, mm, gp, xs, zs, us, gs, rfl, X12, ⟨e1012 _ _ h110, e1012 _ _ hm10, ne_of_none (e11 _ _ h110) nb2, ne_of_none (e11 _ _ hm10) nb2, x3, y4, xn, yn4, nd4⟩, e1012 _ _ hgp10, G10.tp (Tp.ex e1012), g32, fun vv n tm o pa nss ps H13 k13 X13 VL => ?_⟩
      have e1013 : Ex H10 H13 := e11.trans (Ex.kp e12 nb2 k13)
      refine same_go rfl rfl rfl ⟨dx, e1013 _ _ hx10⟩ (e1013 _ _ hgp10) (G10.tp (Tp.ex e1013)) ok yn4 (by omega) g1 g32 VL fun H14 e14 => iteF' rfl ?_
      have e1014 := e1013.trans e14
      refine same_go rfl rfl rfl ⟨dy, e1014 _ _ hy10⟩ (e1014 _ _ hpp10) (GP10.tp (Tp.ex e1014)) okP yn4 (by omega) (by omega) (by omega) (VL.ex e14) fun H15 e15 => iteF' rfl ?_
      exact ⟨_, _, rfl, e1014.trans e15⟩
    · rintro σ H11 ⟨o9, o10, rfl, e11⟩
      have dp1 : Dp K H11 (.ref gp) (.tuple (gs.map gD)) := .tup (SqT.of (e11 _ _ hgp10)) (G10.tp (Tp.ex e11)).dp
      have dp2 : Dp K H11 (.ref pp) (.tuple ((gs.take pm).map gD)) := .tup (SqT.of (e11 _ _ hpp10)) (GP10.tp (Tp.ex e11)).dp
      have rp1 := rp_gates ok g32
      have rp2 := rp_gates okP (by omega)
      have c6 : 600000 ≤ sizeLine := by omega
      refine ⟨_, rfl, x, C, dx, _, _, rfl, e11 _ _ hx10, M.cl, M.nG, rfl, .inl ⟨gp, _, 3, 600000, rfl, dp1, rp1, by decide, c6, _, rfl, .inl ⟨gp, _, 3, 600000, rfl, dp1, rp1, by decide, c6, rfl, ?_⟩⟩⟩
      refine ⟨_, rfl, iteT' (decide_eq_true rfl) ⟨_, rfl, y, C, dy, _, _, rfl, e11 _ _ hy10, M.cl, M.nG, rfl, .inl ⟨pp, _, 3, 600000, rfl, dp2, rp2, by decide, c6, _, rfl, .inl ⟨pp, _, 3, 600000, rfl, dp2, rp2, by decide, c6, rfl, ?_⟩⟩⟩⟩
      show Q (.bl (decide (V.str _ = V.str _))) H11
      rw [decide_eq_true rfl]
      exact fin H11
end
end E5
set_option maxRecDepth 100000
set_option maxHeartbeats 4000000
namespace E5
open PySem L2 Evl GP HR
theorem kit_sub {K : PySem.W.Frag} {C D : Addr} (h : PySem.W.subIn K (.ref C) (.ref D) = some true) (hdct : PySem.W.hasDictIn K D = true) (ht : PySem.W.typeIn K (.ref D) = some (.type "type")) : PySem.W.kitOne K (.ref C) (.ref D) = some true := by
  obtain ⟨cd, hc, _⟩ := PySem.W.any_some hdct
  have e2 : ((PySem.W.clsIn K D).isSome && PySem.W.typeIn K (.ref D) == some (.type "type")) = true := by rw [hc, ht] <;> rfl
  unfold PySem.W.kitOne
  split
  · rfl
  · show (if ((PySem.W.clsIn K D).isSome && PySem.W.typeIn K (.ref D) == some (.type "type")) = true then PySem.W.subIn K (.ref C) (.ref D) else none) = some true
    rw [if_pos e2]
    exact h
theorem kit_val {K : PySem.W.Frag} {C : Addr} (h : PySem.W.subIn K (.ref C) (.type "ValueError") = some true) : PySem.W.kitOne K (.ref C) (.type "ValueError") = some true := by
  have e2 : PySem.W.kitMeta "ValueError" = true := by decide +kernel
  unfold PySem.W.kitOne
  split
  · rfl
  · show (if PySem.W.kitMeta "ValueError" = true then PySem.W.subIn K (.ref C) (.type "ValueError") else none) = some true
    rw [if_pos e2]
    exact h
theorem all_mk {l : PySem.W.OpenLaw} {w : World} {K : PySem.W.Frag} {h : Heap} {mg : Str → Option Value} {fa cR cI C fX fI fC f1 f2 f3 f4 f5 f6 f7 f8 f9 f10 f11 f12 f13 f14 f15 f16 f17 f18 f19 : Addr} (X : K.In h) (G : h.Ns mainGlobals mg) (hfa : mg "law" = some (.ref fa))
    {od0 an0 od1 an1 od2 an2 od3 an3 od4 an4 od5 an5 od6 an6 od7 an7 od8 an8 od9 an9 od10 an10 od11 an11 od12 an12 od13 an13 od14 an14 od15 an15 od16 an16 od17 an17 od18 an18 od19 an19 odI anI odC anC : Option Addr} {sl0 sl1 sl2 sl3 sl4 sl5 sl6 sl7 sl8 sl9 sl10 sl11 sl12 sl13 sl14 sl15 sl16 sl17 sl18 sl19 slI slC : Array (Option Value)} {oc0 dc0 pm0 ct0 oc1 kV1 dc1 pm1 cd1 ct1 oc2 kV2 dc2 pm2 cd2 ct2 oc3 kV3 dc3 pm3 cd3 ct3 oc4 kV4 dc4 pm4 cd4 ct4 oc5 kV5 dc5 pm5 cd5 ct5 oc6 kV6 dc6 pm6 cd6 ct6 oc7 kV7 dc7 pm7 cd7 ct7 oc8 kV8 dc8 pm8 cd8 ct8 oc9 kV9 dc9 pm9 cd9 ct9 oc10 kV10 dc10 pm10 cd10 ct10 oc11 kV11 dc11 pm11 cd11 ct11 oc12 kV12 dc12 pm12 cd12 ct12 oc13 kV13 dc13 pm13 cd13 ct13 oc14 kV14 dc14 pm14 cd14 ct14 oc15 kV15 dc15 pm15 cd15 ct15 oc16 kV16 dc16 pm16 cd16 ct16 oc17 kV17 dc17 pm17 cd17 ct17 oc18 kV18 dc18 pm18 cd18 ct18 oc19 kV19 dc19 pm19 cd19 ct19 ocI kVI dcI pmI cdI ctI ocC kVC dcC pmC cdC ctC : Value}
    {nm q : Str} {NN : Addr} {bs bm : List Value} {sn : List Str} {sub : List Value} {ab : Bool} {col : Option Bool} {dd : Option Addr} {m0 m1 m2 m3 m5 : Option Value} {cda cc : Addr}
    {cl0 ccl : Value} {cld cdd : Option Addr} {csl ccs : Array (Option Value)} {rvs : Array Value} {file : Str} {tf t1 t2 t3 : Tok}
    (a1 : PySem.W.nsIn K mainGlobals "is_name" = some (some (.ref f1)))
    (l1 : K.lookup f1 = some ⟨oc1, od1, .func (PySem.W.fnOf "is_name" "is_name" (defArgs s_is_name) (defBody s_is_name) (defScope s_is_name) .none kV1 dc1 pm1 an1 cd1 ct1), sl1⟩)
    (c1 : PySem.W.codeIn K cd1 "is_name" = true)
    (k1 : PySem.W.keepIn K (.ref f1) = true)
    (a2 : PySem.W.nsIn K mainGlobals "is_integer" = some (some (.ref f2)))
    (l2 : K.lookup f2 = some ⟨oc2, od2, .func (PySem.W.fnOf "is_integer" "is_integer" (defArgs s_is_integer) (defBody s_is_integer) (defScope s_is_integer) .none kV2 dc2 pm2 an2 cd2 ct2), sl2⟩)
    (c2 : PySem.W.codeIn K cd2 "is_integer" = true)
    (k2 : PySem.W.keepIn K (.ref f2) = true)
    (a3 : PySem.W.nsIn K mainGlobals "is_bound" = some (some (.ref f3)))
    (l3 : K.lookup f3 = some ⟨oc3, od3, .func (PySem.W.fnOf "is_bound" "is_bound" (defArgs s_is_bound) (defBody s_is_bound) (defScope s_is_bound) .none kV3 dc3 pm3 an3 cd3 ct3), sl3⟩)
    (c3 : PySem.W.codeIn K cd3 "is_bound" = true)
    (k3 : PySem.W.keepIn K (.ref f3) = true)
    (a4 : PySem.W.nsIn K mainGlobals "moments_of" = some (some (.ref f4)))
    (l4 : K.lookup f4 = some ⟨oc4, od4, .func (PySem.W.fnOf "moments_of" "moments_of" (defArgs s_moments_of) (defBody s_moments_of) (defScope s_moments_of) .none kV4 dc4 pm4 an4 cd4 ct4), sl4⟩)
    (c4 : PySem.W.codeIn K cd4 "moments_of" = true)
    (k4 : PySem.W.keepIn K (.ref f4) = true)
    (a5 : PySem.W.nsIn K mainGlobals "check_listed" = some (some (.ref f5)))
    (l5 : K.lookup f5 = some ⟨oc5, od5, .func (PySem.W.fnOf "check_listed" "check_listed" (defArgs s_check_listed) (defBody s_check_listed) (defScope s_check_listed) .none kV5 dc5 pm5 an5 cd5 ct5), sl5⟩)
    (c5 : PySem.W.codeIn K cd5 "check_listed" = true)
    (k5 : PySem.W.keepIn K (.ref f5) = true)
    (a6 : PySem.W.nsIn K mainGlobals "literal_stands" = some (some (.ref f6)))
    (l6 : K.lookup f6 = some ⟨oc6, od6, .func (PySem.W.fnOf "literal_stands" "literal_stands" (defArgs s_literal_stands) (defBody s_literal_stands) (defScope s_literal_stands) .none kV6 dc6 pm6 an6 cd6 ct6), sl6⟩)
    (c6 : PySem.W.codeIn K cd6 "literal_stands" = true)
    (k6 : PySem.W.keepIn K (.ref f6) = true)
    (a7 : PySem.W.nsIn K mainGlobals "_law_bag" = some (some (.ref f7)))
    (l7 : K.lookup f7 = some ⟨oc7, od7, .func (PySem.W.fnOf "_law_bag" "_law_bag" (defArgs s_law_bag) (defBody s_law_bag) (defScope s_law_bag) .none kV7 dc7 pm7 an7 cd7 ct7), sl7⟩)
    (c7 : PySem.W.codeIn K cd7 "_law_bag" = true)
    (k7 : PySem.W.keepIn K (.ref f7) = true)
    (a8 : PySem.W.nsIn K mainGlobals "_law_draw" = some (some (.ref f8)))
    (l8 : K.lookup f8 = some ⟨oc8, od8, .func (PySem.W.fnOf "_law_draw" "_law_draw" (defArgs s_law_draw) (defBody s_law_draw) (defScope s_law_draw) .none kV8 dc8 pm8 an8 cd8 ct8), sl8⟩)
    (c8 : PySem.W.codeIn K cd8 "_law_draw" = true)
    (k8 : PySem.W.keepIn K (.ref f8) = true)
    (a9 : PySem.W.nsIn K mainGlobals "_law_letters" = some (some (.ref f9)))
    (l9 : K.lookup f9 = some ⟨oc9, od9, .func (PySem.W.fnOf "_law_letters" "_law_letters" (defArgs s_law_letters) (defBody s_law_letters) (defScope s_law_letters) .none kV9 dc9 pm9 an9 cd9 ct9), sl9⟩)
    (c9 : PySem.W.codeIn K cd9 "_law_letters" = true)
    (k9 : PySem.W.keepIn K (.ref f9) = true)
    (a10 : PySem.W.nsIn K mainGlobals "_law_names" = some (some (.ref f10)))
    (l10 : K.lookup f10 = some ⟨oc10, od10, .func (PySem.W.fnOf "_law_names" "_law_names" (defArgs s_law_names) (defBody s_law_names) (defScope s_law_names) .none kV10 dc10 pm10 an10 cd10 ct10), sl10⟩)
    (c10 : PySem.W.codeIn K cd10 "_law_names" = true)
    (k10 : PySem.W.keepIn K (.ref f10) = true)
    (a11 : PySem.W.nsIn K mainGlobals "_law_integer" = some (some (.ref f11)))
    (l11 : K.lookup f11 = some ⟨oc11, od11, .func (PySem.W.fnOf "_law_integer" "_law_integer" (defArgs s_law_integer) (defBody s_law_integer) (defScope s_law_integer) .none kV11 dc11 pm11 an11 cd11 ct11), sl11⟩)
    (c11 : PySem.W.codeIn K cd11 "_law_integer" = true)
    (k11 : PySem.W.keepIn K (.ref f11) = true)
    (a12 : PySem.W.nsIn K mainGlobals "_law_literal" = some (some (.ref f12)))
    (l12 : K.lookup f12 = some ⟨oc12, od12, .func (PySem.W.fnOf "_law_literal" "_law_literal" (defArgs s_law_literal) (defBody s_law_literal) (defScope s_law_literal) .none kV12 dc12 pm12 an12 cd12 ct12), sl12⟩)
    (c12 : PySem.W.codeIn K cd12 "_law_literal" = true)
    (k12 : PySem.W.keepIn K (.ref f12) = true)
    (a13 : PySem.W.nsIn K mainGlobals "_law_holds" = some (some (.ref f13)))
    (l13 : K.lookup f13 = some ⟨oc13, od13, .func (PySem.W.fnOf "_law_holds" "_law_holds" (defArgs s_law_holds) (defBody s_law_holds) (defScope s_law_holds) .none kV13 dc13 pm13 an13 cd13 ct13), sl13⟩)
    (c13 : PySem.W.codeIn K cd13 "_law_holds" = true)
    (k13 : PySem.W.keepIn K (.ref f13) = true)
    (a14 : PySem.W.nsIn K mainGlobals "_law_gates" = some (some (.ref f14)))
    (l14 : K.lookup f14 = some ⟨oc14, od14, .func (PySem.W.fnOf "_law_gates" "_law_gates" (defArgs s_law_gates) (defBody s_law_gates) (defScope s_law_gates) .none kV14 dc14 pm14 an14 cd14 ct14), sl14⟩)
    (c14 : PySem.W.codeIn K cd14 "_law_gates" = true)
    (k14 : PySem.W.keepIn K (.ref f14) = true)
    (a15 : PySem.W.nsIn K mainGlobals "_law_values" = some (some (.ref f15)))
    (l15 : K.lookup f15 = some ⟨oc15, od15, .func (PySem.W.fnOf "_law_values" "_law_values" (defArgs s_law_values) (defBody s_law_values) (defScope s_law_values) .none kV15 dc15 pm15 an15 cd15 ct15), sl15⟩)
    (c15 : PySem.W.codeIn K cd15 "_law_values" = true)
    (k15 : PySem.W.keepIn K (.ref f15) = true)
    (a16 : PySem.W.nsIn K mainGlobals "_law_moments" = some (some (.ref f16)))
    (l16 : K.lookup f16 = some ⟨oc16, od16, .func (PySem.W.fnOf "_law_moments" "_law_moments" (defArgs s_law_moments) (defBody s_law_moments) (defScope s_law_moments) .none kV16 dc16 pm16 an16 cd16 ct16), sl16⟩)
    (c16 : PySem.W.codeIn K cd16 "_law_moments" = true)
    (k16 : PySem.W.keepIn K (.ref f16) = true)
    (a17 : PySem.W.nsIn K mainGlobals "_law_due" = some (some (.ref f17)))
    (l17 : K.lookup f17 = some ⟨oc17, od17, .func (PySem.W.fnOf "_law_due" "_law_due" (defArgs s_law_due) (defBody s_law_due) (defScope s_law_due) .none kV17 dc17 pm17 an17 cd17 ct17), sl17⟩)
    (c17 : PySem.W.codeIn K cd17 "_law_due" = true)
    (k17 : PySem.W.keepIn K (.ref f17) = true)
    (a18 : PySem.W.nsIn K mainGlobals "_law_asked" = some (some (.ref f18)))
    (l18 : K.lookup f18 = some ⟨oc18, od18, .func (PySem.W.fnOf "_law_asked" "_law_asked" (defArgs s_law_asked) (defBody s_law_asked) (defScope s_law_asked) .none kV18 dc18 pm18 an18 cd18 ct18), sl18⟩)
    (c18 : PySem.W.codeIn K cd18 "_law_asked" = true)
    (k18 : PySem.W.keepIn K (.ref f18) = true)
    (a19 : PySem.W.nsIn K mainGlobals "law" = some (some (.ref f19)))
    (l19 : K.lookup f19 = some ⟨oc19, od19, .func (PySem.W.fnOf "law" "law" (defArgs s_law) (defBody s_law) (defScope s_law) .none kV19 dc19 pm19 an19 cd19 ct19), sl19⟩)
    (c19 : PySem.W.codeIn K cd19 "law" = true)
    (k19 : PySem.W.keepIn K (.ref f19) = true)
    (z_isinstance : PySem.W.nsIn K mainGlobals "isinstance" = some none)
    (z_str : PySem.W.nsIn K mainGlobals "str" = some none)
    (z_int : PySem.W.nsIn K mainGlobals "int" = some none)
    (z_bool : PySem.W.nsIn K mainGlobals "bool" = some none)
    (z_tuple : PySem.W.nsIn K mainGlobals "tuple" = some none)
    (z_list : PySem.W.nsIn K mainGlobals "list" = some none)
    (z_len : PySem.W.nsIn K mainGlobals "len" = some none)
    (z_range : PySem.W.nsIn K mainGlobals "range" = some none)
    (z_sorted : PySem.W.nsIn K mainGlobals "sorted" = some none)
    (z_abs : PySem.W.nsIn K mainGlobals "abs" = some none)
    (z_min : PySem.W.nsIn K mainGlobals "min" = some none)
    (z_all : PySem.W.nsIn K mainGlobals "all" = some none)
    (z_any : PySem.W.nsIn K mainGlobals "any" = some none)
    (z_set : PySem.W.nsIn K mainGlobals "set" = some none)
    (z_dict : PySem.W.nsIn K mainGlobals "dict" = some none)
    (z_repr : PySem.W.nsIn K mainGlobals "repr" = some none)
    (z_super : PySem.W.nsIn K mainGlobals "super" = some none)
    (z_ValueError : PySem.W.nsIn K mainGlobals "ValueError" = some none)
    (aLt : PySem.W.nsIn K mainGlobals "LETTERS" = some (some (.str letters t1)))
    (aSg : PySem.W.nsIn K mainGlobals "SIGNS" = some (some (.str signs t2)))
    (aLn : PySem.W.nsIn K mainGlobals "LONGEST_NAME" = some (some (.int 8 t3)))
    (aR : PySem.W.nsIn K mainGlobals "RingclauseError" = some (some (.ref cR)))
    (aI : PySem.W.nsIn K mainGlobals "UnknownMoment" = some (some (.ref cI)))
    (xI : K.lookup cI = some (excClassObj nm q cI NN bs bm true sn sub ab col dd m0 m1 m2 m3 m5 "ValueError.__new__"))
    (rv : PySem.HandSPX.refsVE bm = true)
    (sa : PySem.W.findIn K (.ref cI) "__setattr__" = some (some (.builtin "object.__setattr__")))
    (ga : PySem.W.findIn K (.ref cI) "__getattribute__" = some (some (.builtin "BaseException.__getattribute__")))
    (gg : PySem.W.findIn K (.ref cI) "__getattr__" = some none)
    (nF : PySem.W.findIn K (.ref cI) "name" = some none)
    (iX : PySem.W.findIn K (.ref cI) "__init__" = some (some (.ref fX)))
    (tF : PySem.W.typeIn K (.ref fX) = some (.type "function"))
    (kI : PySem.W.keepIn K (.ref cI) = true)
    (eI : PySem.W.subIn K (.ref cI) (.type "BaseException") = some true)
    (vI : PySem.W.subIn K (.ref cI) (.type "ValueError") = some true)
    (yI : PySem.W.typeIn K (.ref cI) = some (.type "type"))
    (hI : PySem.W.hasDictIn K cI = true)
    (mI : PySem.W.mroIn K cI (.ref cI) = some true)
    (oq : PySem.W.nsIn K cStatics "thirdparty.any" = some none)
    (su : PySem.W.ks_superIn K cI cI "__init__" = some (some (.builtin "ValueError.__init__")))
    (hT : (l.prog.main.scope.names.lookup ("super" : Str)).isSome = false)
    (lX : K.lookup fX = some ⟨oc0, od0, .func (PySem.Sup.sFn "name" "not a listed moment" "UnknownMoment.__init__" ⟨6, 17, 6, 21⟩ ⟨6, 23, 6, 27⟩ ⟨7, 8, 7, 13⟩ ⟨7, 8, 7, 15⟩ ⟨7, 8, 7, 24⟩ ⟨7, 25, 7, 46⟩ ⟨7, 8, 7, 47⟩ ⟨7, 8, 7, 47⟩ ⟨8, 8, 8, 12⟩ ⟨8, 8, 8, 17⟩ ⟨8, 20, 8, 24⟩ ⟨8, 8, 8, 24⟩ dc0 pm0 an0 cda cc ct0), sl0⟩)
    (cX : PySem.W.codeIn K (.ref cda) "UnknownMoment.__init__" = true)
    (lC : K.lookup cc = some ⟨cl0, cld, .cell (some (.ref cI)), csl⟩)
    (lD : K.lookup cda = some ⟨ccl, cdd, .fields rvs, ccs⟩)
    (rf : rvs[2]? = some (.str file tf))
    (fi : ((l.prog.main.file : Str) == file) = true)
    (hR : PySem.W.hasDictIn K cR = true)
    (yR : PySem.W.typeIn K (.ref cR) = some (.type "type"))
    (sR : PySem.W.subIn K (.ref cI) (.ref cR) = some true)
    (sI : PySem.W.subIn K (.ref cI) (.ref cI) = some true)
    (ka : PySem.W.findIn K (.ref cI) "__class__" = some (some (.builtin "object.__class__")))
    (kn : PySem.W.specialIn K (.builtin "object.__class__") "__get__" = some (some (.builtin "getset_descriptor.__get__")))
    (kt : PySem.W.takesIn K (.builtin "object.__class__") = some true)
    (km : PySem.W.mroIn K cI (.type "object") = some true)
    (aM : PySem.W.nsIn K mainGlobals "Middle" = some (some (.ref C)))
    (aIn : PySem.W.findIn K (.ref C) "__init__" = some (some (.ref fI)))
    (iI : PySem.W.isFn K (.ref fI) = true)
    (lI : K.lookup fI = some ⟨ocI, odI, .func (PySem.W.fnOf "__init__" "Middle.__init__" (defArgs s_Middle_init) (defBody s_Middle_init) (defScope s_Middle_init) .none kVI dcI pmI anI cdI ctI), slI⟩)
    (cI' : PySem.W.codeIn K cdI "Middle.__init__" = true)
    (aC : PySem.W.findIn K (.ref C) "__call__" = some (some (.ref fC)))
    (iC : PySem.W.isFn K (.ref fC) = true)
    (lC' : K.lookup fC = some ⟨ocC, odC, .func (PySem.W.fnOf "__call__" "Middle.__call__" (defArgs s_Middle_call) (defBody s_Middle_call) (defScope s_Middle_call) .none kVC dcC pmC anC cdC ctC), slC⟩)
    (cC : PySem.W.codeIn K cdC "Middle.__call__" = true)
    (fnC : PySem.W.fnIn K fC = true)
    (kFI : PySem.W.keepIn K (.ref fI) = true)
    (kFC : PySem.W.keepIn K (.ref fC) = true)
    (pg : PySem.W.plainGet K C Str.empty = true)
    (hd : PySem.W.hasDictIn K C = true)
    (po : PySem.W.plainOver K C = true)
    (sC : PySem.W.findIn K (.ref C) "__setattr__" = some (some (.builtin "object.__setattr__")))
    (mk : PySem.W.makesIn K C = true)
    (kc : PySem.W.keepIn K (.ref C) = true)
    (nG : PySem.W.findIn K (.ref C) "gates" = some none) :
    ∃ fd : FuncData, (∀ (s : Shared) (v : Value), BindsTo s fd ⟨[v], []⟩ [("script", v)]) ∧ ∀ base : Heap, K.In base → base.Ns mainGlobals mg → FnG l.prog w K mg base 7 fa fd ["script"] (spLaw K) := by
  have e := hfa.symm.trans (PySem.W.mg_of X G a19)
  cases e
  have g1 := PySem.W.mg_of X G a1
  have F1 := fun_mk (st := s_is_name) l1 c1 k1
  have b1 := F1.binds (ps := ["value"]) fun _ _ _ _ _ _ us hl => match us, hl with | [_], _ => rfl
  have g2 := PySem.W.mg_of X G a2
  have F2 := fun_mk (st := s_is_integer) l2 c2 k2
  have b2 := F2.binds (ps := ["value"]) fun _ _ _ _ _ _ us hl => match us, hl with | [_], _ => rfl
  have g3 := PySem.W.mg_of X G a3
  have F3 := fun_mk (st := s_is_bound) l3 c3 k3
  have b3 := F3.binds (ps := ["value"]) fun _ _ _ _ _ _ us hl => match us, hl with | [_], _ => rfl
  have g4 := PySem.W.mg_of X G a4
  have F4 := fun_mk (st := s_moments_of) l4 c4 k4
  have b4 := F4.binds (ps := ["literals"]) fun _ _ _ _ _ _ us hl => match us, hl with | [_], _ => rfl
  have g5 := PySem.W.mg_of X G a5
  have F5 := fun_mk (st := s_check_listed) l5 c5 k5
  have b5 := F5.binds (ps := ["moments", "values"]) fun _ _ _ _ _ _ us hl => match us, hl with | [_, _], _ => rfl
  have g6 := PySem.W.mg_of X G a6
  have F6 := fun_mk (st := s_literal_stands) l6 c6 k6
  have b6 := F6.binds (ps := ["literal", "names", "table"]) fun _ _ _ _ _ _ us hl => match us, hl with | [_, _, _], _ => rfl
  have g7 := PySem.W.mg_of X G a7
  have F7 := fun_mk (st := s_law_bag) l7 c7 k7
  have b7 := F7.binds (ps := ["script", "k"]) fun _ _ _ _ _ _ us hl => match us, hl with | [_, _], _ => rfl
  have g8 := PySem.W.mg_of X G a8
  have F8 := fun_mk (st := s_law_draw) l8 c8 k8
  have b8 := F8.binds (ps := ["bag", "size"]) fun _ _ _ _ _ _ us hl => match us, hl with | [_, _], _ => rfl
  have g9 := PySem.W.mg_of X G a9
  have F9 := fun_mk (st := s_law_letters) l9 c9 k9
  have b9 := F9.binds (ps := ["bag", "count"]) fun _ _ _ _ _ _ us hl => match us, hl with | [_, _], _ => rfl
  have g10 := PySem.W.mg_of X G a10
  have F10 := fun_mk (st := s_law_names) l10 c10 k10
  have b10 := F10.binds (ps := ["bag"]) fun _ _ _ _ _ _ us hl => match us, hl with | [_], _ => rfl
  have g11 := PySem.W.mg_of X G a11
  have F11 := fun_mk (st := s_law_integer) l11 c11 k11
  have b11 := F11.binds (ps := ["bag"]) fun _ _ _ _ _ _ us hl => match us, hl with | [_], _ => rfl
  have g12 := PySem.W.mg_of X G a12
  have F12 := fun_mk (st := s_law_literal) l12 c12 k12
  have b12 := F12.binds (ps := ["bag", "truths", "moments"]) fun _ _ _ _ _ _ us hl => match us, hl with | [_, _, _], _ => rfl
  have g13 := PySem.W.mg_of X G a13
  have F13 := fun_mk (st := s_law_holds) l13 c13 k13
  have b13 := F13.binds (ps := ["literal", "values"]) fun _ _ _ _ _ _ us hl => match us, hl with | [_, _], _ => rfl
  have g14 := PySem.W.mg_of X G a14
  have F14 := fun_mk (st := s_law_gates) l14 c14 k14
  have b14 := F14.binds (ps := ["bag", "truths", "moments"]) fun _ _ _ _ _ _ us hl => match us, hl with | [_, _, _], _ => rfl
  have g15 := PySem.W.mg_of X G a15
  have F15 := fun_mk (st := s_law_values) l15 c15 k15
  have b15 := F15.binds (ps := ["bag", "truths", "moments", "gates"]) fun _ _ _ _ _ _ us hl => match us, hl with | [_, _, _, _], _ => rfl
  have g16 := PySem.W.mg_of X G a16
  have F16 := fun_mk (st := s_law_moments) l16 c16 k16
  have b16 := F16.binds (ps := ["gates"]) fun _ _ _ _ _ _ us hl => match us, hl with | [_], _ => rfl
  have g17 := PySem.W.mg_of X G a17
  have F17 := fun_mk (st := s_law_due) l17 c17 k17
  have b17 := F17.binds (ps := ["gates", "values"]) fun _ _ _ _ _ _ us hl => match us, hl with | [_, _], _ => rfl
  have g18 := PySem.W.mg_of X G a18
  have F18 := fun_mk (st := s_law_asked) l18 c18 k18
  have b18 := F18.binds (ps := ["middle", "values"]) fun _ _ _ _ _ _ us hl => match us, hl with | [_, _], _ => rfl
  have g19 := PySem.W.mg_of X G a19
  have F19 := fun_mk (st := s_law) l19 c19 k19
  have b19 := F19.binds (ps := ["script"]) fun _ _ _ _ _ _ us hl => match us, hl with | [_], _ => rfl
  have n_isinstance := PySem.W.mg_none_of X G z_isinstance
  have n_str := PySem.W.mg_none_of X G z_str
  have n_int := PySem.W.mg_none_of X G z_int
  have n_bool := PySem.W.mg_none_of X G z_bool
  have n_tuple := PySem.W.mg_none_of X G z_tuple
  have n_list := PySem.W.mg_none_of X G z_list
  have n_len := PySem.W.mg_none_of X G z_len
  have n_range := PySem.W.mg_none_of X G z_range
  have n_sorted := PySem.W.mg_none_of X G z_sorted
  have n_abs := PySem.W.mg_none_of X G z_abs
  have n_min := PySem.W.mg_none_of X G z_min
  have n_all := PySem.W.mg_none_of X G z_all
  have n_any := PySem.W.mg_none_of X G z_any
  have n_set := PySem.W.mg_none_of X G z_set
  have n_dict := PySem.W.mg_none_of X G z_dict
  have n_repr := PySem.W.mg_none_of X G z_repr
  have n_super := PySem.W.mg_none_of X G z_super
  have n_ValueError := PySem.W.mg_none_of X G z_ValueError
  have sup : PySem.Sup.SupTxt K mg l.prog "UnknownMoment" "name" "not a listed moment" cI fX :=
    { gC := PySem.W.mg_of X G aI, ok := { bd := fun _ _ _ _ _ _ _ _ _ _ _ _ _ _ _ _ _ _ _ _ _ _ => rfl, lf := rfl, lc := rfl, ls := rfl, nd := by decide, ns := by decide }, cls := ⟨nm, q, NN, bs, bm, sn, sub, ab, col, dd, m0, m1, m2, m3, m5, xI, rv⟩,
      sa := sa, ga := ga, gg := gg, noF := nF, iC := iX, tF := tF, kC := kI, exC := eI, veC := vI, tyC := yI, hdC := hI, mC := mI, opq := oq, sup := su, htop := hT, mgS := n_super,
      fn := ⟨oc0, od0, _, dc0, pm0, an0, cda, cc, ct0, sl0, _, _, _, _, _, _, _, _, _, _, _, _, lX, fun _ _ => ⟨_, rfl⟩, cX, ⟨cl0, cld, csl, lC⟩, ⟨ccl, cdd, rvs, ccs, file, tf, lD, rf, fi⟩⟩ }
  have AA : AX K mg cR cI := { c_RingclauseError := PySem.W.mg_of X G aR, c_UnknownMoment := PySem.W.mg_of X G aI, b_ValueError := n_ValueError, te := PySem.W.exm_ref eI hI yI sI, xc := ⟨ga, gg, eI, hI, ka, kn, kt, km⟩, xf := ⟨ga, gg, eI, hI⟩, noF := nF, k1 := kit_sub sR hR yR, k2 := kit_val vI }
  have FI := fun_mk (st := s_Middle_init) lI cI' kFI
  have FC := fun_mk (st := s_Middle_call) lC' cC kFC
  have M : MC K mg C fI fC _ _ := { cl := ⟨pg, hd, po, sC⟩, nG := nG, gC := PySem.W.mg_of X G aM, mkr := ⟨mk, aIn, iI, kc⟩, co := ⟨aC, iC, fnC⟩, FI := FI, BI := FI.binds (ps := ["self", "gates"]) fun _ _ _ _ _ _ us hl => match us, hl with | [_, _], _ => rfl, FC := FC, BC := FC.binds (ps := ["self", "values"]) fun _ _ _ _ _ _ us hl => match us, hl with | [_, _], _ => rfl }
  let a : Ad := { a_is_name := f1, a_is_integer := f2, a_is_bound := f3, a_moments_of := f4, a_check_listed := f5, a_literal_stands := f6, a_law_bag := f7, a_law_draw := f8, a_law_letters := f9, a_law_names := f10, a_law_integer := f11, a_law_literal := f12, a_law_holds := f13, a_law_gates := f14, a_law_values := f15, a_law_moments := f16, a_law_due := f17, a_law_asked := f18, a_law := fa, tL := t1, tS := t2, tN := t3 }
  let d : Fd := { a_is_name := PySem.W.fnOf "is_name" "is_name" (defArgs s_is_name) (defBody s_is_name) (defScope s_is_name) .none kV1 dc1 pm1 an1 cd1 ct1, a_is_integer := PySem.W.fnOf "is_integer" "is_integer" (defArgs s_is_integer) (defBody s_is_integer) (defScope s_is_integer) .none kV2 dc2 pm2 an2 cd2 ct2, a_is_bound := PySem.W.fnOf "is_bound" "is_bound" (defArgs s_is_bound) (defBody s_is_bound) (defScope s_is_bound) .none kV3 dc3 pm3 an3 cd3 ct3, a_moments_of := PySem.W.fnOf "moments_of" "moments_of" (defArgs s_moments_of) (defBody s_moments_of) (defScope s_moments_of) .none kV4 dc4 pm4 an4 cd4 ct4, a_check_listed := PySem.W.fnOf "check_listed" "check_listed" (defArgs s_check_listed) (defBody s_check_listed) (defScope s_check_listed) .none kV5 dc5 pm5 an5 cd5 ct5, a_literal_stands := PySem.W.fnOf "literal_stands" "literal_stands" (defArgs s_literal_stands) (defBody s_literal_stands) (defScope s_literal_stands) .none kV6 dc6 pm6 an6 cd6 ct6, a_law_bag := PySem.W.fnOf "_law_bag" "_law_bag" (defArgs s_law_bag) (defBody s_law_bag) (defScope s_law_bag) .none kV7 dc7 pm7 an7 cd7 ct7, a_law_draw := PySem.W.fnOf "_law_draw" "_law_draw" (defArgs s_law_draw) (defBody s_law_draw) (defScope s_law_draw) .none kV8 dc8 pm8 an8 cd8 ct8, a_law_letters := PySem.W.fnOf "_law_letters" "_law_letters" (defArgs s_law_letters) (defBody s_law_letters) (defScope s_law_letters) .none kV9 dc9 pm9 an9 cd9 ct9, a_law_names := PySem.W.fnOf "_law_names" "_law_names" (defArgs s_law_names) (defBody s_law_names) (defScope s_law_names) .none kV10 dc10 pm10 an10 cd10 ct10, a_law_integer := PySem.W.fnOf "_law_integer" "_law_integer" (defArgs s_law_integer) (defBody s_law_integer) (defScope s_law_integer) .none kV11 dc11 pm11 an11 cd11 ct11, a_law_literal := PySem.W.fnOf "_law_literal" "_law_literal" (defArgs s_law_literal) (defBody s_law_literal) (defScope s_law_literal) .none kV12 dc12 pm12 an12 cd12 ct12, a_law_holds := PySem.W.fnOf "_law_holds" "_law_holds" (defArgs s_law_holds) (defBody s_law_holds) (defScope s_law_holds) .none kV13 dc13 pm13 an13 cd13 ct13, a_law_gates := PySem.W.fnOf "_law_gates" "_law_gates" (defArgs s_law_gates) (defBody s_law_gates) (defScope s_law_gates) .none kV14 dc14 pm14 an14 cd14 ct14, a_law_values := PySem.W.fnOf "_law_values" "_law_values" (defArgs s_law_values) (defBody s_law_values) (defScope s_law_values) .none kV15 dc15 pm15 an15 cd15 ct15, a_law_moments := PySem.W.fnOf "_law_moments" "_law_moments" (defArgs s_law_moments) (defBody s_law_moments) (defScope s_law_moments) .none kV16 dc16 pm16 an16 cd16 ct16, a_law_due := PySem.W.fnOf "_law_due" "_law_due" (defArgs s_law_due) (defBody s_law_due) (defScope s_law_due) .none kV17 dc17 pm17 an17 cd17 ct17, a_law_asked := PySem.W.fnOf "_law_asked" "_law_asked" (defArgs s_law_asked) (defBody s_law_asked) (defScope s_law_asked) .none kV18 dc18 pm18 an18 cd18 ct18, a_law := PySem.W.fnOf "law" "law" (defArgs s_law) (defBody s_law) (defScope s_law) .none kV19 dc19 pm19 an19 cd19 ct19 }
  have T : TX K mg a := { b_isinstance := n_isinstance, b_str := n_str, b_int := n_int, b_bool := n_bool, b_tuple := n_tuple, b_list := n_list, b_len := n_len, b_range := n_range, b_sorted := n_sorted, b_abs := n_abs, b_min := n_min, b_all := n_all, b_any := n_any, b_set := n_set, b_dict := n_dict, b_repr := n_repr, g_LETTERS := PySem.W.mg_of X G aLt, g_SIGNS := PySem.W.mg_of X G aSg, g_LONGEST_NAME := PySem.W.mg_of X G aLn, f_is_name := g1, k_is_name := k1, f_is_integer := g2, k_is_integer := k2, f_is_bound := g3, k_is_bound := k3, f_moments_of := g4, k_moments_of := k4, f_check_listed := g5, k_check_listed := k5, f_literal_stands := g6, k_literal_stands := k6, f__law_bag := g7, k__law_bag := k7, f__law_draw := g8, k__law_draw := k8, f__law_letters := g9, k__law_letters := k9, f__law_names := g10, k__law_names := k10, f__law_integer := g11, k__law_integer := k11, f__law_literal := g12, k__law_literal := k12, f__law_holds := g13, k__law_holds := k13, f__law_gates := g14, k__law_gates := k14, f__law_values := g15, k__law_values := k15, f__law_moments := g16, k__law_moments := k16, f__law_due := g17, k__law_due := k17, f__law_asked := g18, k__law_asked := k18, f_law := g19, k_law := k19 }
  have D : FDS K a d := { F_is_name := F1, B_is_name := b1, F_is_integer := F2, B_is_integer := b2, F_is_bound := F3, B_is_bound := b3, F_moments_of := F4, B_moments_of := b4, F_check_listed := F5, B_check_listed := b5, F_literal_stands := F6, B_literal_stands := b6, F__law_bag := F7, B__law_bag := b7, F__law_draw := F8, B__law_draw := b8, F__law_letters := F9, B__law_letters := b9, F__law_names := F10, B__law_names := b10, F__law_integer := F11, B__law_integer := b11, F__law_literal := F12, B__law_literal := b12, F__law_holds := F13, B__law_holds := b13, F__law_gates := F14, B__law_gates := b14, F__law_values := F15, B__law_values := b15, F__law_moments := F16, B__law_moments := b16, F__law_due := F17, B__law_due := b17, F__law_asked := F18, B__law_asked := b18, F_law := F19, B_law := b19 }
  exact ⟨d.a_law, fun s v => .of_eq rfl, fun base _ _ => ok_law (P := l.prog) (w := w) (base := base) T D M sup AA⟩
theorem walk {l : PySem.W.OpenLaw} {q : Program} {loose : List Str} {XP : (Str → Option Value) → Heap → Prop} {YP : World → Heap → Prop} {d : DefRec} {K : Params → PySem.W.Frag} (hn : l.most = some 63) (hdf : d.params.defaults = [])
    (hY : ∀ (w : World) (h : Heap), YP w h → (K w.params).In h)
    (H : ∀ (w : World) (mg : Str → Option Value) (fa : Addr) (h : Heap), (K w.params).In h → h.Ns mainGlobals mg → mg d.name = some (.ref fa) →
      ∃ fd : FuncData, (∀ (s : Shared) (u : Value), BindsTo s fd ⟨[u], []⟩ [("script", u)]) ∧ ∀ base : Heap, (K w.params).In base → base.Ns mainGlobals mg → FnG l.prog w (K w.params) mg base 7 fa fd ["script"] (spLaw (K w.params))) :
    PySem.W.WalkO q loose XP YP l.row.toRowW d [] (fun f vs => PySem.call f vs) :=
  walk_ofG (n := 63) (k := 7) (x := "script") (sp := fun w => spLaw (K w.params)) hn (by decide) hdf ⟨rfl, by decide, by decide⟩ hY H (fun _ _ a ns hl _ hS => ⟨a, ns, rfl, hS, fun _ => rfl⟩)
end E5
set_option maxRecDepth 100000
open PySem PySem.W PyProof.Rows in
set_option maxRecDepth 100000 in
set_option maxHeartbeats 0 in
theorem PySem.Challenge.cw_ringclause_k54_gates_and_calls_holds : PySem.Challenge.rw_ringclause_k54_gates_and_calls.Holds := by
  w_on; o_law; k_head; (case hw => w_witness2)
  k_fill
  refine E5.walk (l := PySem.Challenge.rw_ringclause_k54_gates_and_calls) rfl rfl (fun w h Y => PySem.W.kIn_of Y) ?F
  case F =>
    intro w mg fa h KX G hmg
    refine' E5.all_mk KX G hmg ?a1 ?l1 ?c1 ?k1 ?a2 ?l2 ?c2 ?k2 ?a3 ?l3 ?c3 ?k3 ?a4 ?l4 ?c4 ?k4 ?a5 ?l5 ?c5 ?k5 ?a6 ?l6 ?c6 ?k6 ?a7 ?l7 ?c7 ?k7 ?a8 ?l8 ?c8 ?k8 ?a9 ?l9 ?c9 ?k9 ?a10 ?l10 ?c10 ?k10 ?a11 ?l11 ?c11 ?k11 ?a12 ?l12 ?c12 ?k12 ?a13 ?l13 ?c13 ?k13 ?a14 ?l14 ?c14 ?k14 ?a15 ?l15 ?c15 ?k15 ?a16 ?l16 ?c16 ?k16 ?a17 ?l17 ?c17 ?k17 ?a18 ?l18 ?c18 ?k18 ?a19 ?l19 ?c19 ?k19 ?z_isinstance ?z_str ?z_int ?z_bool ?z_tuple ?z_list ?z_len ?z_range ?z_sorted ?z_abs ?z_min ?z_all ?z_any ?z_set ?z_dict ?z_repr ?z_super ?z_ValueError ?aLt ?aSg ?aLn ?aR ?aI ?xI ?rv ?sa ?ga ?gg ?nF ?iX ?tF ?kI ?eI ?vI ?yI ?hI ?mI ?oq ?su ?hT ?lX ?cX ?lC ?lD ?rf ?fi ?hR ?yR ?sR ?sI ?ka ?kn ?kt ?km ?aM ?aIn ?iI ?lI ?cI' ?aC ?iC ?lC' ?cC ?fnC ?kFI ?kFC ?pg ?hd ?po ?sC ?mk ?kc ?nG
    (case a1 => k_is)
    (case l1 => k_is)
    (case c1 => k_is)
    (case k1 => k_is)
    (case a2 => k_is)
    (case l2 => k_is)
    (case c2 => k_is)
    (case k2 => k_is)
    (case a3 => k_is)
    (case l3 => k_is)
    (case c3 => k_is)
    (case k3 => k_is)
    (case a4 => k_is)
    (case l4 => k_is)
    (case c4 => k_is)
    (case k4 => k_is)
    (case a5 => k_is)
    (case l5 => k_is)
    (case c5 => k_is)
    (case k5 => k_is)
    (case a6 => k_is)
    (case l6 => k_is)
    (case c6 => k_is)
    (case k6 => k_is)
    (case a7 => k_is)
    (case l7 => k_is)
    (case c7 => k_is)
    (case k7 => k_is)
    (case a8 => k_is)
    (case l8 => k_is)
    (case c8 => k_is)
    (case k8 => k_is)
    (case a9 => k_is)
    (case l9 => k_is)
    (case c9 => k_is)
    (case k9 => k_is)
    (case a10 => k_is)
    (case l10 => k_is)
    (case c10 => k_is)
    (case k10 => k_is)
    (case a11 => k_is)
    (case l11 => k_is)
    (case c11 => k_is)
    (case k11 => k_is)
    (case a12 => k_is)
    (case l12 => k_is)
    (case c12 => k_is)
    (case k12 => k_is)
    (case a13 => k_is)
    (case l13 => k_is)
    (case c13 => k_is)
    (case k13 => k_is)
    (case a14 => k_is)
    (case l14 => k_is)
    (case c14 => k_is)
    (case k14 => k_is)
    (case a15 => k_is)
    (case l15 => k_is)
    (case c15 => k_is)
    (case k15 => k_is)
    (case a16 => k_is)
    (case l16 => k_is)
    (case c16 => k_is)
    (case k16 => k_is)
    (case a17 => k_is)
    (case l17 => k_is)
    (case c17 => k_is)
    (case k17 => k_is)
    (case a18 => k_is)
    (case l18 => k_is)
    (case c18 => k_is)
    (case k18 => k_is)
    (case a19 => k_is)
    (case l19 => k_is)
    (case c19 => k_is)
    (case k19 => k_is)
    (case z_isinstance => k_is)
    (case z_str => k_is)
    (case z_int => k_is)
    (case z_bool => k_is)
    (case z_tuple => k_is)
    (case z_list => k_is)
    (case z_len => k_is)
    (case z_range => k_is)
    (case z_sorted => k_is)
    (case z_abs => k_is)
    (case z_min => k_is)
    (case z_all => k_is)
    (case z_any => k_is)
    (case z_set => k_is)
    (case z_dict => k_is)
    (case z_repr => k_is)
    (case z_super => k_is)
    (case z_ValueError => k_is)
    (case aLt => k_is)
    (case aSg => k_is)
    (case aLn => k_is)
    (case aR => k_is)
    (case aI => k_is)
    (case xI => k_is)
    (case rv => rfl)
    (case sa => k_is)
    (case ga => k_is)
    (case gg => k_is)
    (case nF => k_is)
    (case iX => k_is)
    (case tF => k_is)
    (case kI => k_is)
    (case eI => k_is)
    (case vI => k_is)
    (case yI => k_is)
    (case hI => k_is)
    (case mI => k_is)
    (case oq => k_is)
    (case su => ks_is)
    (case hT => rfl)
    (case lX => k_is)
    (case cX => k_is)
    (case lC => k_is)
    (case lD => k_is)
    (case rf => rfl)
    (case fi => rfl)
    (case hR => k_is)
    (case yR => k_is)
    (case sR => k_is)
    (case sI => k_is)
    (case ka => k_is)
    (case kn => k_is)
    (case kt => k_is)
    (case km => k_is)
    (case aM => k_is)
    (case aIn => k_is)
    (case iI => k_is)
    (case lI => k_is)
    (case cI' => k_is)
    (case aC => k_is)
    (case iC => k_is)
    (case lC' => k_is)
    (case cC => k_is)
    (case fnC => k_is)
    (case kFI => k_is)
    (case kFC => k_is)
    (case pg => k_is)
    (case hd => k_is)
    (case po => k_is)
    (case sC => k_is)
    (case mk => k_is)
    (case kc => k_is)
    (case nG => k_is)
