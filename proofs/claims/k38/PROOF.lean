import PyProof.Rows.All
import Wide.All
import OpenK.AllK
import Wide.FinOn
import HandS.SetTxt0
import HandS.ForMost
import HandS.Set
import HandS.SetFor
import HandS.Strs
import PyProof.Rows.SortStr
import PyProof.Rows.SortShellK
import HandS.DictTup
import HandS.Conv
import HandS.DictSubView
import KE.KDictCopyH
import KE.KDictWalk
import PyProof.TupleOfGen
import HandS.HotCalls
import HandS.Ends
import PyProof.ReprRoads
import HandS.SortKw
import HandS.MakeKw
import KE.DataMinMax
import KE.DataCmp
import PyProof.SliceList
import PyProof.CallFns
import HandS.DictComp
import KE.DataMinKey
import KE.GoesMore
import KE.GoesEnum
import HandS.Walk
import HandS.SortInts
import HandS.TupAny
import HandS.TupMul
import HandS.FStrTup
import PyProof.ReprText
import HandS.Wide
import HandS.WideBits
import HandS.Evl
import HandS.Star
import HandS.Deep
import PySem.Challenge.RW_ringclause_k38_least_hitting
import KE.RegKSuper
set_option Elab.async false
set_option linter.all false
set_option maxRecDepth 100000
set_option maxHeartbeats 3200000
/-! set(texts) and sorted of it -/
namespace TSet
open PySem PySem.Spec PyProof.Rows L2 Froz
def txtOf : Int × Value → Str | (_, .str x _) => x | _ => Str.empty
/-- the payload D of a set holds exactly the texts l, and can be walked -/
structure Txs (P : Program) (w : World) (D : SD) (l : List Str) : Prop where
  ok : TxOk P w D l
  pm : (D.1.toList.map txtOf).Perm l
  all : ∀ e ∈ D.1.toList, ∃ x t, e.2 = Value.str x t
  nd : l.Nodup
  ris : Ris D.2.2.place.toList
  led : w.params.followText "set-order" = true ∨ D.2.2.led = true
section
variable {P : Program} {w : World} {A : Around} {E : Value → Shared → Prop} {s : Shared}
theorem tail_perm (ep : Nat) (es : Array (Int × Value)) (t : SetTable) (b : Bool) : (tailTx ep es t b).1.toList.Perm es.toList := by
  unfold tailTx
  split
  · exact relayAll_perm _ _ _
  · exact List.Perm.refl _
theorem tail_ris (ep : Nat) (es : Array (Int × Value)) (t : SetTable) (b : Bool) (r : Ris t.place.toList) : Ris (tailTx ep es t b).2.2.place.toList := by
  unfold tailTx
  split
  · exact relayAll_ris _ _ _
  · exact r
theorem tail_led (ep : Nat) (es : Array (Int × Value)) (t : SetTable) (b : Bool) : (tailTx ep es t b).2.2.led = t.led := by
  unfold tailTx
  split
  · exact relayAll_led _ _ _
  · rfl
theorem Txs.add {D : SD} {l : List Str} {k : Str} (u : Tok) (F : Txs P w D l) (hk : k ∉ l) : Txs P w (addTx (hashStr w k) (.str k u) D) (k :: l) := by
  have hp : (addTx (hashStr w k) (.str k u) D).1.toList.Perm ((hashStr w k, Value.str k u) :: D.1.toList) := by
    refine (tail_perm _ _ _ _).trans ((layNew_perm _ _ _ _).trans ?_)
    rw [Array.toList_push]
    exact List.perm_append_singleton _ _
  refine ⟨add_ok u F.ok, ?_, fun e he => ?_, List.nodup_cons.mpr ⟨hk, F.nd⟩, tail_ris _ _ _ _ ?_, ?_⟩
  · exact (hp.map txtOf).trans (List.Perm.cons _ F.pm)
  · rcases List.mem_cons.mp (hp.mem_iff.mp he) with z | z
    · exact ⟨k, u, by rw [z]⟩
    · exact F.all e z
  · have r := layNew_ris D.2.2 D.1 (hashStr w k) (.str k u) F.ris
    split <;> exact r
  · refine F.led.imp id fun z => ?_
    refine (tail_led _ _ _ _).trans ?_
    have q := (layNew_led D.2.2 D.1 (hashStr w k) (.str k u)).trans z
    split <;> exact q
/-- a text that is there already -/
theorem add_old {a : Addr} {T : String} {D : SD} {l : List Str} {k : Str} {u : Tok} {Q : Bool → Shared → Prop} (at_ : s.heap.get? a = some (sObj T D)) (F : TxOk P w D l) (hk : k ∈ l) (few : l.length + 1 < scanBound) (h : Q false s) :
    wpAny (model P w) A (setAddHashed a (.str k u) (hashStr w k)) Q E s := by
  obtain ⟨es, ep, t⟩ := D
  have dt : (sObj T (es, ep, t)).data = .set es ep t := rfl
  have el : ElemsOf (strKind P w) es.toList := F.el
  have sz : es.size < scanBound := by have : es.size = l.length := F.sz; omega
  obtain ⟨j, hj⟩ : ∃ j, List.findIdx? (fun e => (strKind P w).is k e.2) es.toList = some j := by
    obtain ⟨e, he, q⟩ := (F.mem k).mp hk
    cases hr : List.findIdx? (fun e => (strKind P w).is k e.2) es.toList with
    | some j => exact ⟨j, rfl⟩
    | none =>
      have c := List.findIdx?_eq_none_iff.mp hr e he
      rw [q] at c
      cases c
  unfold setAddHashed
  unfold setAddHashedIn
  refine wpAny_holding (wpAny_bind (wpAny_setState_of at_ dt F.fit ?_))
  dsimp only
  rw [byScan_of rfl sz el]
  simp only [↓reduceIte]
  unfold setAddByScan
  refine wpAny_bind (wpAny_bind (wpAny_rule (wpAny_bind (wpAny_setScan_of (knd := strKind P w) (k := k) (is_str k u) at_ dt F.fit el ?_))))
  rw [hj]
  dsimp only
  exact wpAny_pure (wpAny_pure h)
theorem add_any {a : Addr} {D : SD} {l : List Str} {k : Str} {u : Tok} {Q : Bool → Shared → Prop} (at_ : s.heap.get? a = some (sObj "set" D)) (F : Txs P w D l) (few : l.length + 1 < scanBound)
    (h : ∀ b h' D' l', Heap.SameBut a s.heap h' → h'.get? a = some (sObj "set" D') → Txs P w D' l' → (∀ z, z ∈ l' ↔ z = k ∨ z ∈ l) → l'.length ≤ l.length + 1 → Q b { s with heap := h' }) :
    wpAny (model P w) A (setAddHashed a (.str k u) (hashStr w k)) Q E s := by
  by_cases hk : k ∈ l
  · exact add_old at_ F.ok hk few (h false s.heap D l (Heap.SameBut.refl a _) at_ F (fun z => ⟨.inr, fun q => q.elim (fun e => e ▸ hk) id⟩) (by omega))
  · refine add_x at_ F.ok hk few (h true _ _ _ ?_ (get_upd _ at_ rfl) (F.add u hk) (fun z => List.mem_cons) (Nat.le_refl _))
    exact ⟨Heap.size_after_update _ _ _, fun b hb => Heap.get?_update_ne _ _ _ _ hb⟩
end
section
variable {P : Program} {w : World} {A : Around} {E : Value → Shared → Prop} {s : Shared}
/-- the loop of set's making, for any way of adding: T i h says what the set is behind i items -/
theorem loop_any {I : Addr} {fp wr : List Addr} {G : Array GenState → Array GenState → Prop} {n : Nat} {Pv : Nat → Value → Prop} {St : Nat → Shared → Prop} {R : Result → Shared → Prop} (W : WalksS P w A.in1 I fp wr G n Pv St)
    {S : Addr} (out : S ∉ fp) (T : Nat → Heap → Prop) (fr : ∀ i h h', T i h → (∀ b o, b ∉ wr → h.get? b = some o → h'.get? b = some o) → T i h')
    (add : ∀ i v (s : Shared) (E : Value → Shared → Prop) (Q : Bool → Shared → Prop), i < n → Pv i v → T i s.heap → (∀ b h' tk, s.toks ≤ tk → Heap.SameBut S s.heap h' → T (i + 1) h' → Q b { s with heap := h', toks := tk }) → wpAny (model P w) A.in1 (setAdd S v) Q E s) :
    ∀ (k i : Nat) (s : Shared), n - i = k → i ≤ n → St i s → T i s.heap → (∀ s', Moved (S :: wr) G s s' → T n s'.heap → R (.ok (.ret .none)) s') → codeAny (model P w) A (.builtin "set.update.loop" ⟨[.ref S, .ref I], []⟩) R s := by
  intro k
  induction k with
  | zero =>
    intro i s ek ei st t r
    obtain rfl : i = n := by omega
    refine codeAny_builtin F.entry_set_update_loop ?_
    rw [Around.under_plainId F.plain_set_update_loop _]
    show wpAny (model P w) A.in1 (pyNext (.ref I) >>= _) _ _ s
    refine wpAny_bind (W.done s _ _ st fun s1 m => ?_)
    show wpAny (model P w) A.in1 (ret Value.none) _ _ s1
    exact wpAny_pure (r s1 ⟨fun b o nb => m.heap b o fun z => nb (List.mem_cons_of_mem _ z), m.gens, m.drawn, m.os, m.toks⟩ (fr i _ _ t m.heap))
  | succ k ih =>
    intro i s ek ei st t r
    have lt : i < n := by omega
    refine codeAny_builtin F.entry_set_update_loop ?_
    rw [Around.under_plainId F.plain_set_update_loop _]
    show wpAny (model P w) A.in1 (pyNext (.ref I) >>= _) _ _ s
    refine wpAny_bind (W.item i s _ _ lt st fun v s1 pv st1 m => ?_)
    show wpAny (model P w) A.in1 (holding [v] (setAdd S v) >>= _) _ _ s1
    refine wpAny_bind (wpAny_holding (add i v s1 _ _ lt pv (fr i _ _ t m.heap) fun b h' tk tk' same t' => ?_))
    refine wpAny_pure ⟨plainId_quiet F.plain_set_update_loop _, ih (i + 1) _ (by omega) lt (W.frame _ s1 _ _ st1 tk' fun c hc o e => ?_) t' fun s2 m2 t2 => r s2 ⟨fun c o nc e => ?_, W.gtrans _ _ _ m.gens m2.gens, m2.drawn.trans m.drawn, m2.os.trans m.os, ?_⟩ t2⟩
    · rw [same.2 c fun z : c = S => out (z ▸ hc)]
      exact e
    · refine m2.heap c o nc ?_
      show h'.get? c = some o
      rw [same.2 c fun z : c = S => nc (by rw [z]; exact List.mem_cons_self)]
      exact m.heap c o (fun z => nc (List.mem_cons_of_mem _ z)) e
    · exact Nat.le_trans m.toks (Nat.le_trans tk' m2.toks)
def freshSet (w : World) : Obj := { cls := .type "set", dict := none, data := .set #[] 0 (.fresh 0 0 (!w.params.followText "set-order")) }
def listIt (l : Addr) : Obj := { cls := .type "list_iterator", data := .fields #[.ref l, .int 0 0] }
/-- set(a list), for any way of adding -/
theorem made_any {l : Addr} {items : Array Value} {Q : Value → Shared → Prop} (hh : A.handled = none) (hl : s.heap.IsList l items) (T : Nat → Heap → Prop)
    (fr : ∀ i h h', T i h → (∀ b o, b ≠ s.heap.objs.size + 1 → h.get? b = some o → h'.get? b = some o) → T i h')
    (zero : ∀ h, h.get? s.heap.objs.size = some (freshSet w) → (∀ b o, s.heap.get? b = some o → h.get? b = some o) → T 0 h)
    (add : ∀ (B : Around) i v (s1 : Shared) (E : Value → Shared → Prop) (Q : Bool → Shared → Prop), B.units ≤ A.units + 3 → items[i]? = some v → T i s1.heap →
      (∀ b h' tk, s1.toks ≤ tk → Heap.SameBut s.heap.objs.size s1.heap h' → T (i + 1) h' → Q b { s1 with heap := h', toks := tk }) → wpAny (model P w) B (setAdd s.heap.objs.size v) Q E s1)
    (k : ∀ (h' : Heap) (tk : Nat), T items.size h' → (∀ b o, s.heap.get? b = some o → h'.get? b = some o) → Q (.ref s.heap.objs.size) { s with heap := h', toks := tk }) :
    wpAny (model P w) A (call (.type "set") [.ref l]) Q E s := by
  obtain ⟨_, _, hmro⟩ := PySem.F.called_set.mro
  have made_ := PySem.F.called_set.made
  have sub_ := PySem.F.called_set.sub
  refine wpAny_call (codeAny_of_tree ?_)
  show wpAny (model P w) _ (callAny (.type "set") _) _ _ _
  refine wpAny_pure ⟨Code.quiet_builtin _ (by decide +kernel), codeAny_builtin PySem.F.entry_type_call ?_⟩
  rw [Around.under_plain (weight_type_call_type "set" [.ref l] []) rfl]
  have notT := PySem.F.called_set.notType
  have canC := PySem.F.called_set.canCreate
  have typC := PySem.F.typeCall_set_1 (.ref l)
  repeat (any_goals (first | assumption | wp_step))
  let S := s.heap.objs.size
  let hp1 := s.heap.push (freshSet w)
  refine codeAny_mono (code_set_led1 (.ref l) (E := E) (Q₁ := fun obj s1 => obj = .ref S ∧ s1 = { s with heap := hp1 }) ⟨rfl, rfl⟩) fun r s1 hr => ?_
  rcases r with _ | e
  case error => exact hr
  cases e with
  | ret obj =>
    obtain ⟨rfl, rfl⟩ := hr
    have atS : hp1.get? S = some (freshSet w) := Heap.get?_push_size _ rfl
    have tyS : Shared.TypeIs { s with heap := hp1 } (.ref S) "set" := ⟨_, atS, rfl⟩
    have iLook := PySem.F.called_set.init.lookup
    have iBind := PySem.F.called_set.init.bind (.ref S)
    repeat (any_goals (first | assumption | wp_step))
    refine codeAny_mono (codeAny_call_builtin (R := wants (fun r s2 => r = .none ∧ ∃ h' tk, s2 = { s with heap := h', toks := tk } ∧ T items.size h' ∧ (∀ b o, s.heap.get? b = some o → h'.get? b = some o)) E)
      PySem.F.called_set.init.plain PySem.F.entry_set_init (check_set_init_1 tyS ?_)) fun r2 s2 hr2 => ?_
    · obtain ⟨ol, hol, cl, nl, dl⟩ := hl
      obtain ⟨ocl, odi, oda, osl⟩ := ol
      simp only at cl dl
      subst cl
      subst dl
      have ltl : l < S := Heap.lt_size hol
      have atl : hp1.get? l = some { cls := .type "list", dict := odi, data := .seq items nl, slots := osl } := Heap.get?_push_of_some _ hol
      have ls1 := PySem.F.sub_list_set
      have ls2 := PySem.F.sub_list_frozenset
      have nd1 : (Value.type "list" == Value.type "dict") = false := by decide
      have isl : hp1.IsList l items := ⟨_, atl, rfl, nl, rfl⟩
      have szI : hp1.objs.size = S + 1 := Heap.size_push ..
      unfold Builtin.«set.__init__» noKeywords Builtin.Frozenset.updateFrom
      generalize ePI : pyIter = PI
      wp_walk
      subst ePI
      refine wpAny_pyIter_list isl (wpAny_bind (wpAny_runValue ?_))
      have h3 : A.in1.in1.in1.handled = none := by simp [hh]
      have nI : l ≠ hp1.objs.size := by rw [szI]; exact Nat.ne_of_lt (Nat.lt_succ_of_lt ltl)
      have nS : S ∉ [hp1.objs.size, l] := by
        rw [szI]
        intro z
        rcases List.mem_cons.mp z with z | z
        · exact absurd z (Nat.ne_of_lt (Nat.lt_succ_self _))
        · exact absurd (List.mem_singleton.mp z) (Nat.ne_of_gt ltl)
      refine loop_any ((Walks.list h3 _ l nI items).toS) nS T (fun i h h' t e => fr i h h' t fun b o nb => e b o (by rw [szI]; simpa using nb)) (fun i v s1 E1 Q1 _ pv t q => add _ i v s1 E1 Q1 (Nat.le_refl _) pv t q)
        (items.size - 0) 0 _ (by omega) (Nat.zero_le _) ⟨⟨_, Heap.get?_push_size _ rfl, rfl, rfl⟩, isl.push _⟩ (zero _ (Heap.get?_push_of_some _ atS) fun b o e => Heap.get?_push_of_some _ (Heap.get?_push_of_some _ e)) ?_
      intro s' m t'
      obtain ⟨h', g', d', tk', os'⟩ := s'
      obtain rfl : g' = s.gens := m.gens
      obtain rfl : d' = s.drawn := m.drawn
      obtain rfl : os' = s.os := m.os
      show wpAny _ _ _ _ _ _
      refine wpAny_pure ?_
      show wpAny _ _ (ret Value.none) _ _ _
      refine wpAny_pure ⟨rfl, h', tk', rfl, t', fun b o e => ?_⟩
      have ltb : b < S := Heap.lt_size e
      refine m.heap b o (fun z => ?_) (Heap.get?_push_of_some _ (Heap.get?_push_of_some _ e))
      rcases List.mem_cons.mp z with z | z
      · exact absurd z (Nat.ne_of_lt ltb)
      · have z2 := List.mem_singleton.mp z
        rw [szI] at z2
        exact absurd z2 (Nat.ne_of_lt (Nat.lt_succ_of_lt ltb))
    · rcases r2 with _ | e2
      case error => exact hr2
      cases e2 with
      | ret r =>
        obtain ⟨rfl, h', tk, rfl, t', keep⟩ := hr2
        repeat (any_goals (first | assumption | wp_step))
        exact k _ _ t' keep
      | _ => exact hr2.elim
  | _ => exact hr.elim
end
section
variable {P : Program} {w : World} {A : Around} {E : Value → Shared → Prop} {s : Shared}
theorem Txs.fresh : Txs P w (#[], 0, .fresh 0 0 (!w.params.followText "set-order")) [] where
  ok := TxOk.nil rfl
  pm := List.Perm.refl _
  all := fun e he => by simp at he
  nd := List.nodup_nil
  ris := List.Pairwise.nil
  led := by
    show _ ∨ (!w.params.followText "set-order") = true
    cases w.params.followText "set-order"
    · exact .inr rfl
    · exact .inl rfl
theorem strs_get : ∀ {vs : List Value} {xs : List Str}, StrsAre vs xs → ∀ {i : Nat} {v : Value}, vs[i]? = some v → ∃ z t, xs[i]? = some z ∧ v = .str z t
  | _, _, .nil, _, _, h => by simp at h
  | _, _, .cons y t r, 0, v, h => ⟨y, t, rfl, (Option.some.inj h).symm⟩
  | _, _, .cons y t r, i + 1, v, h => strs_get r (by simpa using h)
/-- set(a list of texts) -/
theorem set_txt {l : Addr} {items : Array Value} {xs : List Str} {Q : Value → Shared → Prop} (hh : A.handled = none) (hl : s.heap.IsList l items) (hi : StrsAre items.toList xs) (few : xs.length + 1 < scanBound)
    (k : ∀ (h' : Heap) (tk : Nat) D l', h'.get? s.heap.objs.size = some (sObj "set" D) → Txs P w D l' → (∀ z, z ∈ l' ↔ z ∈ xs) → l'.length ≤ xs.length → (∀ b o, s.heap.get? b = some o → h'.get? b = some o) → Q (.ref s.heap.objs.size) { s with heap := h', toks := tk }) :
    wpAny (model P w) A (call (.type "set") [.ref l]) Q E s := by
  have len : items.size = xs.length := by
    have : ∀ {vs : List Value} {ys : List Str}, StrsAre vs ys → vs.length = ys.length := by
      intro vs ys h
      induction h with
      | nil => rfl
      | cons y t r ih => simp [ih]
    rw [← this hi, Array.length_toList]
  refine made_any hh hl (fun i h => ∃ D l', h.get? s.heap.objs.size = some (sObj "set" D) ∧ Txs P w D l' ∧ (∀ z, z ∈ l' ↔ z ∈ xs.take i) ∧ l'.length ≤ i) ?_ ?_ ?_ ?_
  · rintro i h h' ⟨D, l', a, f, m, n⟩ e
    exact ⟨D, l', e _ _ (Nat.ne_of_lt (Nat.lt_succ_self _)) a, f, m, n⟩
  · intro h a _
    exact ⟨(#[], 0, .fresh 0 0 (!w.params.followText "set-order")), [], a, Txs.fresh, fun z => by simp, Nat.le_refl _⟩
  · rintro B i v s1 E1 Q1 _ hv ⟨D, l', a, f, m, n⟩ q
    obtain ⟨z, t, hz, rfl⟩ := strs_get hi (i := i) (v := v) (by rw [Array.getElem?_toList]; exact hv)
    have li : i < xs.length := (List.getElem?_eq_some_iff.mp hz).1
    unfold setAdd
    refine wpAny_holding (wpAny_bind ((strKind P w).pyHash (k := z) (is_str z t) ?_))
    refine add_any (s := { s1 with toks := s1.toks + 1 }) a f (by omega) fun b h' D' l2 same a2 f2 m2 n2 => q b h' (s1.toks + 1) (Nat.le_succ _) same ⟨D', l2, a2, f2, fun y => ?_, by omega⟩
    rw [m2 y, m y, List.take_add_one, hz]
    simp only [Option.toList_some, List.mem_append, List.mem_singleton]
    exact Or.comm
  · rintro h' tk ⟨D, l', a, f, m, n⟩ keep
    exact k h' tk D l' a f (fun z => by rw [m z, List.take_of_length_le (by omega)]) (by omega) keep
/-- sorted(a set of texts) -/
theorem sorted_txt {a : Addr} {D : SD} {l : List Str} {Q : Value → Shared → Prop} (at_ : s.heap.get? a = some (sObj "set" D)) (F : Txs P w D l) (hh : A.handled = none) (few : l.length < 64)
    (k : ∀ s' p (out : Array Value) (c : Nat) (ys : List Str), (∀ b o, s.heap.get? b = some o → s'.heap.get? b = some o) → s'.gens = s.gens → s'.os = s.os → s.heap.objs.size ≤ p →
      s'.heap.get? p = some (seqObj "list" out c) → StrsAre out.toList ys → ys.Perm l → sortedS ys = true → Q (.ref p) s') : wpAny (model P w) A (call (.builtin "sorted") [.ref a]) Q E s := by
  obtain ⟨es, ep, t⟩ := D
  have sz : es.size = l.length := F.ok.sz
  have sc : es.size < scanBound := by unfold scanBound; omega
  refine Calls.call_function_entry kind_sorted plain_sorted entry_sorted (args_sorted1 _) ?_
  unfold Builtin.«sorted»
  refine wpAny_bind (m := checkCount "sorted" 1 1 _) (wpAny_pure (wpAny_bind ?_))
  refine collect_set (A := A.in1) hh ⟨_, at_, rfl, rfl⟩ F.ok.fit sc F.ris F.led fun s1 vs k1 z1 g1 o1 pm => ?_
  have lv : vs.length = l.length := by rw [pm.length_eq, List.length_map, Array.length_toList, sz]
  have sv : ∀ us : List Value, (∀ u ∈ us, ∃ x t, u = Value.str x t) → StrsAre us (us.map fun u => txtOf (0, u)) := by
    intro us
    induction us with
    | nil => exact fun _ => .nil
    | cons u us ih =>
      intro h
      obtain ⟨x, t, rfl⟩ := h u List.mem_cons_self
      exact .cons x t (ih fun v hv => h v (List.mem_cons_of_mem _ hv))
  have hS := sv vs fun u hu => by
    obtain ⟨e, he, rfl⟩ := List.mem_map.mp (pm.mem_iff.mp hu)
    exact F.all e he
  have pl : (vs.map fun u => txtOf (0, u)).Perm l := by
    refine (pm.map _).trans ?_
    rw [List.map_map]
    refine List.Perm.trans (List.Perm.of_eq ?_) F.pm
    exact List.map_congr_left fun e _ => by obtain ⟨h, v⟩ := e; cases v <;> rfl
  refine wpAny_bind (wpAny_newList ?_ (by rw [lv, sizeLine_eq]; omega))
  have oL : (s1.heap.push (seqObj "list" vs.toArray 0)).get? s1.heap.objs.size = some (seqObj "list" vs.toArray 0) := Heap.get?_push_size _ rfl
  refine wpAny_bind (wpAny_holding (wpAny_call_entry slot_list_sort ⟨_, oL, rfl⟩ entry_list_sort
    (list_sort_treeK strKind_oneLt oL hS.keysOf (fun v1 v2 rest e => keyKind_strs (by rw [← e]; exact hS)) (by rw [lv]; exact few) fun st h1 h2 => ⟨_, rfl, ?_⟩) (args_list_sort _)))
  obtain ⟨ys, a1, a2, a3⟩ := sorted_out_str hS h1 h2
  obtain ⟨c, hc⟩ := sortedHeap_at (vs := vs) (out := (arrOf st).map (·.2)) oL
  refine wpAny_pure ⟨_, rfl, k _ s1.heap.objs.size _ c ys (fun b u e => ?_) g1 o1 z1 hc a1 (a2.trans pl) a3⟩
  have q := k1 b u e
  have lt := Heap.lt_size q
  refine (sortedHeap_old (Nat.ne_of_lt lt) (by rw [size_push']; exact Nat.lt_succ_of_lt lt)).trans ?_
  exact Heap.get?_push_of_some _ q
end
/-! ### as calls -/
/-- at a a set of just the texts l -/
def SetX (P : Program) (w : World) (a : Addr) (l : List Str) : HO := .ext fun h => ∃ D, h.get? a = some (sObj "set" D) ∧ Txs P w D l
section
variable {X : Cx}
theorem setX_new {w : World} {P : Program} {H : Hp} {h : Heap} {a : Addr} {l : List Str} (R : ∃ D, h.get? a = some (sObj "set" D) ∧ Txs P w D l) : ObjOk P w H h a (SetX P w a l) := by
  obtain ⟨D, e, F⟩ := id R
  exact ⟨R, ⟨_, e⟩, fun h1 h2 ⟨D2, e2, F2⟩ keep => ⟨D2, keep _ e2, F2⟩⟩
def rSetX (K : PySem.W.Frag) (P : Program) (w : World) : List V → Hp → VK → Prop := fun vs H Q => ∃ (a : Addr) (xs : List Str), vs = [V.ref a] ∧ SqL K H a (xs.map V.str) ∧ xs.length < 64 ∧
  ∀ (l : List Str) (p : Addr), l.Nodup → (∀ z, z ∈ l ↔ z ∈ xs) → l.length ≤ xs.length → H p = none → Q (.ref p) (upd H p (SetX P w p l))
theorem cr_setX (hc : X.calm = true) : CallR X (.type "set") (rSetX X.K X.prog X.w) := by
  intro pins s σ H vs us Q I r h
  obtain ⟨a, xs, rfl, hs, few, q⟩ := h
  obtain ⟨its, rv, hl, _⟩ := I.list hs
  rw [Vals.ref1 r]
  refine set_txt (I.ok.hd hc) hl.isList rv.strs (by unfold scanBound; omega) fun h' tk D l' e F m ll keep => ?_
  exact ⟨.ref _, upd H s.heap.objs.size (SetX X.prog X.w s.heap.objs.size l'), I.laid (t' := tk) keep (Nat.le_refl _) (setX_new ⟨D, e, F⟩), rfl, q l' _ F.nd m ll (I.hok.fresh (Nat.le_refl _))⟩
def rSortedX (P : Program) (w : World) : List V → Hp → VK → Prop := fun vs H Q => ∃ (a : Addr) (l : List Str), vs = [V.ref a] ∧ H a = some (SetX P w a l) ∧ l.length < 64 ∧
  ∀ (ys : List Str) (p : Addr), ys.Perm l → sortedS ys = true → H p = none → Q (.ref p) (upd H p (.lst (ys.map V.str)))
theorem cr_sortedX (hc : X.calm = true) : CallR X (.builtin "sorted") (rSortedX X.prog X.w) := by
  intro pins s σ H vs us Q I r h
  obtain ⟨a, l, rfl, at_, few, q⟩ := h
  obtain ⟨D, e, F⟩ := (I.hok a _ at_).1
  rw [Vals.ref1 r]
  refine sorted_txt e F (I.ok.hd hc) few fun s' p out c ys keep g o hp he hy pm so => ?_
  have hn : H p = none := I.hok.fresh hp
  have hlen : (ys.map V.str).length ≤ sizeLine := by rw [List.length_map, pm.length_eq]; exact small64 few
  have J : Inv X pins σ (upd H p (.lst (ys.map V.str))) { s with heap := s'.heap, gens := s'.gens, drawn := s'.drawn, toks := s'.toks } :=
    I.call (ch := []) (Un.laid keep hp hn) (I.hok.laid keep hp ⟨hlen, out.toList, c, vals_of_strs hy, he⟩) (by rw [g]; exact I.bare) (fun _ z => nomatch z)
  have es : s' = { s with heap := s'.heap, gens := s'.gens, drawn := s'.drawn, toks := s'.toks } := by
    cases s'
    cases s
    cases o
    rfl
  rw [es]
  exact ⟨.ref p, _, J, rfl, q ys p pm so hn⟩
end
end TSet
set_option maxRecDepth 100000
set_option maxHeartbeats 4000000
/-! tuple(d.values()), the keys of d tuples of ints and texts -/
namespace TV
open PySem PySem.Spec PyProof.Rows L2
section
variable {prog : Program} {w : World} {A : Around} {E : Value → Shared → Prop} {s : Shared} {T : String} {r d : Addr} {n : Nat} {P : Nat → Value → Prop} {OK : Heap → Prop}
theorem collect_kdl {Q : List Value → Shared → Prop} (K : PySem.W.KdlSrc prog w T r d n P OK) (hh : A.handled = none) (hok : OK s.heap) (hn : n ≤ sizeLine)
    (hQ : ∀ (h' : Heap) (tk : Nat) (acc : Array Value), (∀ b o, s.heap.get? b = some o → h'.get? b = some o) → ItemsOf P acc n → Q acc.toList { s with heap := h', toks := tk }) :
    wpAny (model prog w) A (collect (.ref r)) Q E s := by
  have hok1 : OK (s.heap.push { cls := .type "list", data := .seq ([] : List Value).toArray }) := K.keep _ _ hok fun b _ o e => Heap.get?_push_of_some _ e
  have hlt := K.there _ hok
  unfold collect
  refine wpAny_bind (wpAny_runValue (codeAny_builtin F.entry_proto_collect ?_))
  rw [Around.under_plainId F.plain_proto_collect _]
  show wpAny _ A.in1 (newList [] >>= fun l => again (.builtin "list.__iadd__" ⟨[l, .ref r], []⟩)) _ _ s
  refine wpAny_bind (wpAny_newObj_type ?_)
  refine wpAny_pure ⟨plainId_quiet F.plain_list_iadd _, codeAny_builtin F.entry_list_iadd ?_⟩
  rw [Around.under_plainId F.plain_list_iadd _]
  show wpAny _ A.in1 (Builtin.List.listExtendWith (.ref s.heap.objs.size) (.ref r) (.ref s.heap.objs.size)) _ _ _
  have hS : (s.heap.push { cls := .type "list", data := .seq ([] : List Value).toArray }).get? s.heap.objs.size = some { cls := .type "list", data := .seq #[] 0 } := Heap.get?_push_size _ rfl
  refine wpAny_mono (PySem.W.kdl_extend (A := A) (R := fun rr s' => rr = .ok (.ret (.ref s.heap.objs.size)) ∧ ∃ (h' : Heap) (tk : Nat) (acc : Array Value) (c' : Nat), s' = { s with heap := h', toks := tk } ∧
      (∀ b o, s.heap.get? b = some o → h'.get? b = some o) ∧ h'.get? s.heap.objs.size = some { cls := .type "list", dict := none, data := .seq acc c', slots := #[] } ∧ ItemsOf P acc n)
    (s := { s with heap := s.heap.push { cls := .type "list", data := .seq ([] : List Value).toArray } }) K hh hok1 s.heap.objs.size (Nat.ne_of_gt hlt.1) (Nat.ne_of_gt hlt.2) _ 0 hS
    (fun h' tk acc c' hk e hi => ⟨rfl, h', tk, acc, c', rfl, fun b o q => hk b o (Nat.ne_of_lt (Heap.lt_size q)) (Heap.get?_push_of_some _ q), e, hi⟩) hn) (fun fin s' h => ?_) (fun e s' h => ?_)
  · cases fin with
    | done f =>
      obtain ⟨e, h', tk, acc, c', rfl, hk, hS', hi⟩ := h
      cases e
      show wpAny _ A (load s.heap.objs.size >>= _) _ _ _
      exact wpAny_bind (wpAny_load hS' (wpAny_pure (hQ h' tk acc hk hi)))
    | again c' =>
      refine ⟨h.1, codeAny_mono h.2 fun rr s'' hr' => ?_⟩
      obtain ⟨rfl, h', tk, acc, c', rfl, hk, hS', hi⟩ := hr'
      show wpAny _ A (load s.heap.objs.size >>= _) _ _ _
      exact wpAny_bind (wpAny_load hS' (wpAny_pure (hQ h' tk acc hk hi)))
  · exact absurd h.1 (by simp)
theorem code_tuple_new_vals {Q₁ : Value → Shared → Prop} (K : PySem.W.KdlSrc prog w "dict_values" r d n P OK) (hh : A.handled = none) (hok : OK s.heap) (hn : n ≤ sizeLine)
    (h : ∀ (h' : Heap) (tk : Nat) (acc : Array Value), (∀ b o, s.heap.get? b = some o → h'.get? b = some o) → ItemsOf P acc n →
      Q₁ (.ref h'.objs.size) { s with heap := h'.push { cls := .type "tuple", data := .seq acc }, toks := tk }) :
    codeAny (model prog w) A (.call (.builtin "tuple.__new__") ⟨[.type "tuple", .ref r], []⟩) (wants Q₁ E) s := by
  refine codeAny_of_tree ?_
  show wpAny _ A.in1 (do checkBuiltinCall "tuple.__new__" ⟨[.type "tuple", .ref r], []⟩; again (.builtin "tuple.__new__" ⟨[.type "tuple", .ref r], []⟩)) _ _ s
  refine wpAny_bind (wpAny_of_eq (F.newCall_tuple_1 _) (wpAny_pure ⟨plainId_quiet F.plain_tuple_new _, codeAny_builtin F.entry_tuple_new ?_⟩))
  rw [Around.under_plainId F.plain_tuple_new _]
  have hsub := sub_tuple_self
  have hinit := init_tuple_lookup
  have hmh := madeHere_tuple
  have hTI : s.TypeIs (.ref r) "dict_values" := K.type s hok
  have hh1 : A.in1.handled = none := hh
  wp_walk using wpAny_typeOf hTI, collect_kdl (A := A.in1) K hh1 hok hn
  intro h' tk acc hk hacc
  show wpAny _ _ (Builtin.Tuple.tupleExact acc.toList.toArray >>= fun v => ret v) _ _ _
  unfold Builtin.Tuple.tupleExact
  refine wpAny_bind (wpAny_newObj_type ?_ (by show acc.toList.toArray.size ≤ sizeLine; simp only [Array.toArray_toList]; rw [hacc.1]; exact hn))
  refine wpAny_pure ?_
  have e : acc.toList.toArray = acc := by simp
  rw [e]
  exact h h' tk acc hk hacc
theorem call_tuple_vals {Q : Value → Shared → Prop} (K : PySem.W.KdlSrc prog w "dict_values" r d n P OK) (hh : A.handled = none) (hok : OK s.heap) (hn : n ≤ sizeLine)
    (hQ : ∀ (h' : Heap) (tk : Nat) (acc : Array Value), (∀ b o, s.heap.get? b = some o → h'.get? b = some o) → ItemsOf P acc n →
      Q (.ref h'.objs.size) { s with heap := h'.push { cls := .type "tuple", data := .seq acc }, toks := tk }) :
    wpAny (model prog w) A (call (.type "tuple") [.ref r]) Q E s := by
  refine callType_codes (Q₁ := fun obj s₁ => s₁.TypeIs obj "tuple" ∧ Q obj s₁) F.called_tuple (F.typeCall_tuple_1 _) F.entry_object_init
    (code_tuple_new_vals (A := A.in1) K hh hok hn fun h' tk acc hk hacc => ⟨⟨_, Heap.get?_push_size _ rfl, rfl⟩, hQ h' tk acc hk hacc⟩) fun obj s₁ h₁ => ?_
  exact ⟨h₁.1, F.args_object_init_2 obj _, object_init_meets F.called_tuple.init.lookup F.called_tuple.made (by decide) prog w A.in1 _ s₁ ⟨h₁.1, rfl, h₁.2⟩⟩
end
section
variable {X : Cx} {e : Expr} {td : TE} {apos cpos : Pos}
theorem raw_of {P : Program} {w : World} {h : Heap} {a : Addr} {xs : List (List L2.Key × Addr × Value)} (x : h.DictOfH (tupleKind (mixKind P w)) a xs) : ∃ es ep, h.DictRaw a es ep ∧ es.toList = xs.map (entryOfKey (tupleKind (mixKind P w))) := by
  obtain ⟨o, es, ep, h1, h2, h3, h4, _⟩ := x
  exact ⟨es, ep, ⟨o, h1, h2, h3⟩, h4⟩
def tValsT (td : TE) : TE := fun σ H Q => td σ H fun x H1 => ∃ d, x = .ref d ∧ (∃ kvs, H1 d = some (.dT kvs)) ∧ ∀ p, H1 p = none → Q (.ref p) (upd H1 p (viewO "dict_values" p d))
theorem pe_valsT (he : PE X e td) (hbase : attributeBase e "values" X.env (eval e X.env) = eval e X.env := by rfl) (hline : (apos.endLine == cpos.line) = true := by rfl) : PE X (.Call (.Attribute e "values" apos) [] [] cpos) (tValsT td) := by
  refine ⟨fun pins s σ H Q I h => ?_⟩
  refine wpAny_Call_method (T := "dict") (id := "dict.values") hbase rfl hline F.plainAttrs_dict F.slot_dict_values F.type_dict_values (thn (he.run pins s σ H _ I h) fun u s1 ⟨x, H1, I1, rx, d, ex, ⟨kvs, hd⟩, q⟩ => ?_)
  subst ex
  obtain rfl : u = Value.ref d := rx
  obtain ⟨z, hs, xs, rel, dd⟩ := dt_of I1.hok hd
  obtain ⟨es, ep, raw, _⟩ := raw_of dd
  refine ⟨raw.typeIs, fun b e => ?_, ?_⟩
  · cases e
    obtain ⟨o, h1, h2, _⟩ := raw
    exact ⟨o, h1, h2.2.1⟩
  show wpAny _ _ (callWith cpos (.builtin "dict.values") [.ref d] [] []) _ X.xe s1
  exact method_meetsIn F.slot_dict_values F.entry_dict_values rfl (PySem.evalArgs_none ⟨rfl, raw.typeIs, F.args_dict_values_1 _, _, meets_dict_values_raw d hs, ⟨⟨es, ep, raw⟩, ⟨.ref s1.heap.objs.size, _, I1.laid (t' := s1.toks) (fun b o q => Heap.get?_push_of_some _ q) (Nat.le_refl _) (viewO_ok (Heap.get?_push_size _ rfl)), rfl, q _ (I1.hok.fresh (Nat.le_refl _))⟩⟩⟩)
theorem pair_get {α β : Type} {F : α → β → Prop} : ∀ {l : List α} {m : List β}, Paired F l m → ∀ {j : Nat} {a : α}, l[j]? = some a → ∃ b, m[j]? = some b ∧ F a b
  | _, _, .nil, _, _, h => by simp at h
  | _, _, .cons (a := c) (b := b) hq r, 0, a, h => ⟨b, rfl, by have e : c = a := Option.some.inj h; rw [← e]; exact hq⟩
  | _, _, .cons hq r, j + 1, a, h => pair_get r (j := j) (by simpa using h)
def rTupVals : List V → Hp → VK → Prop := fun xs H Q => ∃ (p d : Addr) (kvs : List (List L2.Key × V)), xs = [.ref p] ∧ H p = some (viewO "dict_values" p d) ∧ H d = some (.dT kvs) ∧ ∀ q, H q = none → Q (.ref q) (upd H q (.tup (kvs.map (·.2))))
theorem cr_tupVals (hc : X.calm = true) : CallR X (.type "tuple") rTupVals := by
  intro pins s σ H xs us Q I rx h
  obtain ⟨p, d, kvs, rfl, hp, hd, q⟩ := h
  rw [Vals.ref1 rx]
  have hv : s.heap.get? p = some (DSub.viewOb "dict_values" d) := (show ObjOk X.prog X.w H s.heap p (viewO "dict_values" p d) from I.hok p _ hp).1
  obtain ⟨z, hs, ys, rel, dd⟩ := dt_of I.hok hd
  obtain ⟨es, ep, raw, he⟩ := raw_of dd
  have hl : kvs.length = ys.length := Paired.length rel
  have hes : es.size = ys.length := by
    have := congrArg List.length he
    rwa [List.length_map, Array.length_toList] at this
  refine call_tuple_vals (PySem.KdlSrc.rawValues (r := p) (d := d) (es := es) (ep := ep)) (I.ok.hd hc) ⟨⟨_, hv, rfl, rfl⟩, raw⟩ (by omega) fun h' tk acc hk hacc => ?_
  have I1 : Inv X pins σ H { s with heap := h', toks := tk } := I.kept hk
  refine ⟨.ref h'.objs.size, upd H h'.objs.size (.tup (kvs.map (·.2))), I1.laid (t' := tk) (fun b o q => Heap.get?_push_of_some _ q) (Nat.le_refl _) (show ObjOk X.prog X.w _ _ _ (.tup (kvs.map (·.2))) from ⟨by rw [List.length_map]; exact z, acc.toList, ?_, ?_⟩), rfl, q _ (I1.hok.fresh (Nat.le_refl _))⟩
  · have el : acc.toList.length = acc.size := by simp
    refine vals_of_at (by rw [List.length_map, el, hacc.1, hl, hes]) fun j x w h1 h2 => ?_
    obtain ⟨hi, hw⟩ := hacc.2 j w (by rw [← Array.getElem?_toList]; exact h2)
    rw [List.getElem?_map] at h1
    obtain ⟨kv, hkv, rfl⟩ := Option.map_eq_some_iff.mp h1
    obtain ⟨y, hy, hr⟩ := pair_get rel hkv
    have e1 : es.toList[j]? = some (entryOfKey (tupleKind (mixKind X.prog X.w)) y) := by rw [he, List.getElem?_map, hy]; rfl
    have e2 : es.toList[j]? = some es[j] := by rw [Array.getElem?_toList, Array.getElem?_eq_getElem hi]
    have e3 := Option.some.inj (e2.symm.trans e1)
    rw [hw, e3]
    exact hr.2.2
  · have := IsTup.new h' acc.toList.toArray
    rw [Array.toArray_toList] at this ⊢
    exact this
end
end TV
set_option maxRecDepth 100000
set_option maxHeartbeats 4000000
/-! repr of tuples and lists: defs that are called while nothing is being shown -/
namespace GP
open PySem PySem.Spec PyProof.Rows L2
/-- what a def promises that is called while nothing is being shown -/
structure FnG (P : Program) (w : World) (K : PySem.W.Frag) (mg : Str → Option Value) (base : Heap) (k : Nat) (f : Addr) (fd : FuncData) (ps : List Str) (sp : Sp) : Prop where
  len : ∀ vs H Q E, sp vs H Q E → vs.length = ps.length
  run : ∀ (A : Around) (outer : List Env) (s : Shared) (H : Hp) (args : Args) (us : List Value) (vs : List V) (Q : VK) (E : XK), Room k A → A.guards = some [] → Env0 P w K mg base A outer s H → BindsTo s fd args (ps.zip us) → Vals vs us →
    sp vs H Q E → codeAny (model P w) A (.call (.ref f) args) (CR CX0 outer P w H s Q E) s
section
variable {P : Program} {w : World} {K : PySem.W.Frag} {mg : Str → Option Value} {base : Heap}
theorem FnG.of {k : Nat} {f : Addr} {fd : FuncData} {ps : List Str} {sp : Sp} (F : FnOk P w K mg base CX0 k f fd ps sp) : FnG P w K mg base k f fd ps sp :=
  ⟨F.len, fun A outer s H args us vs Q E hr _ => F.run A outer s H args us vs Q E hr⟩
/-- such a def by its body -/
theorem okG {x qual : Str} {st : Stmt} {f : Addr} {fd : FuncData} {N ps : List Str} {k : Nat} {sp : Sp} (F : Fun K x qual st f fd) (S : FnScope N ps (defScope st)) (len : ∀ vs H Q E, sp vs H Q E → vs.length = ps.length)
    (body : ∀ (cdv : Value) (A : Around) (outer : List Env) (s : Shared) (H : Hp) (vs : List V) (Q : VK) (E : XK), Room k (A.deeper (envOfC qual (defScope st) s.heap.objs.size f cdv)) → A.guards = some [] → sp vs H Q E →
      ∃ t, PSs (cxOf CX0 P w K mg base N qual (defScope st) f cdv A outer s H E).nox (defBody st) t ∧ t { nx := fun _ H' => Q .non H', rt := Q } (L2.start N vs) H) : FnG P w K mg base (k + 1) f fd ps sp := by
  obtain ⟨oc, od, kV, doc, pm, an, cdv, ct, osl, rfl, lk, hcd⟩ := F.ex
  refine ⟨len, fun A outer s H args us vs Q E room gd e0 bind r h => ?_⟩
  have lenV := len _ _ _ _ h
  have inS : K.In s.heap := e0.mod.kin.keeps fun b o e => (e0.bs b o e).1
  have noLim : s.heap.NoLimit := e0.mod.nolimit.keeps fun b o e => (e0.bs b o e).1
  have kinds : ∀ y ∈ ps.zip us, (defScope st).names.lookup y.1 = some .local ∨ ((defScope st).names.lookup y.1 = some .cell ∧ ((cellsFrom (s.heap.objs.size + 1) (defScope st).names []).lookup y.1).isSome = true) := by
    rintro ⟨n, v⟩ hy
    cases S.par n (List.of_mem_zip hy).1 with
    | inl q => exact .inl q
    | inr q => exact .inr ⟨q, PySem.W.cellsFrom_some _ _ _ (.inl q)⟩
  refine codeAny_call_function room.depth (inS _ _ lk) rfl S.co S.gen rfl (PySem.W.codeRec_of inS hcd) (bind _ _ _ _ (wpAny_newFunctionEnv_cells S.kind kinds fun env he s1 y => ?_))
  subst he
  refine ⟨noLim.keeps y.toInCall.keep, codeAny_func ?_⟩
  obtain ⟨t, ht0, hq⟩ := body cdv A outer s H vs Q E (room.deeper _) gd h
  have ht := ht0.nox
  have I0 := inv_start (CX := CX0) (E := E) S room.hd e0 lenV r y
  refine wpAny_mono (ht.run [] s1 (L2.start N vs) H _ I0 hq) (fun fl s' hs => ?_) fun e s' hs => hs
  cases fl with
  | ret u => obtain ⟨v, σ', H', J, rv, q⟩ := hs; exact ⟨v, H', J.os, J.bare, J.base, J.hok, rv, q⟩
  | next => obtain ⟨σ', H', J, q⟩ := hs; exact ⟨V.non, H', J.os, J.bare, J.base, J.hok, rfl, q⟩
  | brk => obtain ⟨_, _, _, q⟩ := hs; exact q.elim
  | cont => obtain ⟨_, _, _, q⟩ := hs; exact q.elim
end
section
variable {X : Cx} {k : Nat} {f : Addr} {fd : FuncData} {ps : List Str} {sp : Sp} {x : Str} {q pos : Pos} {e : Expr} {es : List Expr} {t : TA} {E : XK}
/-- the call of such a def -/
theorem pe_callG (F : FnG X.prog X.w X.K X.mg X.base k f fd ps sp) (hr : Room k X.A) (gd : X.A.guards = some []) (hg : Gl X x) (hm : X.mg x = some (.ref f)) (hk : PySem.W.keepIn X.K (.ref f) = true) (hb : Binds X.K fd ps []) (hx : Passes CX0 X E)
    (ha : PA X (e :: es) t) (hdb : (x == ("__debug__" : Str)) = false := by decide) (he : starEach (e :: es) X.env = (false, eval e X.env) :: starEach es X.env := by rfl) (hpl : (backTo pos (starEach es X.env)).any (·.1) = false := by rfl) :
    PE X (.Call (.Name x q) (e :: es) [] pos) (tCall sp [] E t) := by
  refine ⟨fun pins s σ H Q I h => wpAny_Call_Name_kw (ld_glob I hg hm ?_ hdb)⟩
  refine PySem.W.callWith_K (h₀ := X.base) I.ok.mod.kin hk (thn (ha.run pos pins s σ H _ I h) fun us s1 ⟨vs, H1, I1, r, w0⟩ => ⟨I1.kIn, ?_⟩) he hpl
  have w1 : sp (vs ++ []) H1 Q E := w0
  rw [List.append_nil] at w1
  have lenU : us.length = ps.length := by rw [← r.length]; exact F.len _ _ _ _ w1
  have bd := hb s1 us I1.kIn (by rw [List.append_nil]; exact lenU)
  rw [List.append_nil] at bd
  refine wpAny_call (codeAny_mono (F.run X.A X.stack s1 H1 ⟨us, []⟩ us vs Q E hr gd I1.env0 bd r w1) fun r s' hq => ?_)
  cases r with
  | error e => exact hx pins σ H1 s1 e s' I1 hq
  | ok fl =>
    cases fl with
    | ret u => exact I1.after hq
    | next => exact hq.elim
    | brk => exact hq.elim
    | cont => exact hq.elim
/-- repr of a tuple or a list -/
theorem call_reprD (gd : X.A.guards = some []) (hu : X.A.units + 70 < cLine) : CallR X (.builtin "repr") (fun xs H Q => ∃ p d, xs = [.ref p] ∧ Dp X.K H (.ref p) d ∧ d.showable = true ∧ d.hasDict = false ∧ d.depth ≤ 60 ∧ d.shown.length ≤ sizeLine ∧ Q (.str d.shown) H) := by
  intro pins s σ H xs us Q I r h
  obtain ⟨p, d, rfl, hd, sh, nd, dep, hsz, q⟩ := h
  obtain ⟨u, rfl, ru⟩ := vals1 r
  cases (show u = Value.ref p from ru)
  obtain ⟨as, r1⟩ := Dp.reads I d (.ref p) (.ref p) hd rfl
  exact repr_of_reads' r1 sh (fun z => by rw [nd] at z; cases z) gd (by omega) (fun _ _ z => z) (fun h' u tk hk => ⟨.str d.shown, H, I.kept (t' := tk) hk, ⟨u, rfl⟩, q⟩) hsz
end
end GP
set_option maxRecDepth 100000
set_option maxHeartbeats 4000000
/-! rules for sets of ints, min with default=, data compared by <, a list turned round, dict.update -/
namespace HR
open PySem PySem.Spec PyProof.Rows L2 PySem.W
section
variable {X : Cx}
theorem ints_get : ∀ {us : List Value} {ns : List Int}, IntsAre us ns → ∀ {i : Nat} {v : Value}, us[i]? = some v → ∃ z t, ns[i]? = some z ∧ v = .int z t
  | _, _, .nil, _, _, h => by simp at h
  | _, _, .cons n t _, 0, v, h => ⟨n, t, rfl, (Option.some.inj h).symm⟩
  | _, _, .cons n t r, i + 1, v, h => ints_get r (i := i) (by simpa using h)
/-- set(a list or tuple of ints) -/
def rSetI (K : PySem.W.Frag) (w : World) : List V → Hp → VK → Prop := fun vs H Q => ∃ (a : Addr) (ns : List Int), vs = [V.ref a] ∧ (SqL K H a (ns.map V.int) ∨ SqT K H a (ns.map V.int)) ∧ ns.length < 64 ∧
  ∀ (n : Nat) (p : Addr), n ≤ ns.length → H p = none → Q (.ref p) (upd H p (SetO w p (fun j => decide (j ∈ ns)) n))
theorem cr_setI (hc : X.calm = true) : CallR X (.type "set") (rSetI X.K X.w) := by
  intro pins s σ H vs us Q I r h
  obtain ⟨a, ns, rfl, hs, few, q⟩ := h
  rw [Vals.ref1 r]
  rcases hs with hs | hs
  · obtain ⟨its, rv, hl, _⟩ := I.list hs
    have hit : IntsAre its.toArray.toList ns := intsAre_of rv
    refine TSet.made_any (P := X.prog) (w := X.w) (items := its.toArray) (I.ok.hd hc) hl.isList (fun i h => ∃ c, c ≤ i ∧ SetR X.w h s.heap.objs.size (fun j => decide (j ∈ ns.take i)) c) (fun i h h' ⟨c, hc, S⟩ k => ⟨c, hc, S.at fun o e => k _ o (by omega) e⟩)
      (fun h e _ => ⟨0, Nat.le_refl _, setR_new_at e⟩) (fun B i v s1 E' Q' hB hv ⟨c, hc, S⟩ k => ?_) fun h' tk ⟨c, hc, S⟩ keep => ?_
    · obtain ⟨z, t, hz, rfl⟩ := ints_get hit (i := i) (v := v) (by rw [Array.getElem?_toList]; exact hv)
      have hi : i < ns.length := (List.getElem?_eq_some_iff.mp hz).1
      unfold setAdd
      refine wpAny_holding ?_
      refine wpAny_bind ((intKind X.prog X.w).pyHash (k := z) (intKind_is _ _ _ _) ?_)
      refine setR_add_hashed (s := { s1 with toks := s1.toks + 1 }) S (by unfold scanBound; omega) fun h' hsb hS2 => ?_
      have hS3 : SetR X.w h' s.heap.objs.size (fun j => decide (j ∈ ns.take (i + 1))) (if decide (z ∈ ns.take i) = true then c else c + 1) := hS2.congr fun j => by
        rw [List.take_add_one, hz]
        simp [List.mem_append]
      exact k _ h' _ (Nat.le_succ _) hsb ⟨_, by split <;> omega, hS3⟩
    · have e : ns.take its.toArray.size = ns := List.take_of_length_le (by
        have := IntsAre.length hit
        rw [← this]
        simp)
      rw [e] at S
      have hl2 : its.toArray.size = ns.length := by
        have := IntsAre.length hit
        simpa using this
      exact ⟨.ref _, upd H s.heap.objs.size (SetO X.w s.heap.objs.size (fun j => decide (j ∈ ns)) c), I.laid (t' := tk) keep (Nat.le_refl _) (setO_new S), rfl, q c _ (by omega) (I.hok.fresh (Nat.le_refl _))⟩
  · obtain ⟨its, rv, hl, _⟩ := I.tuple hs
    have hit : IntsAre its.toArray.toList ns := intsAre_of rv
    refine call_set_tupI ns (I.ok.hd hc) (show s.heap.IsTuple a its.toArray from hl) hit (by unfold scanBound; omega) fun h' tk c S hcl keep => ?_
    exact ⟨.ref _, upd H s.heap.objs.size (SetO X.w s.heap.objs.size (fun j => decide (j ∈ ns)) c), I.laid (t' := tk) keep (Nat.le_refl _) (setO_new S), rfl, q c _ hcl (I.hok.fresh (Nat.le_refl _))⟩
/-- min(a list of ints, default=d) -/
def minI (d : Int) : List Int → Int
  | [] => d
  | x :: r => r.foldl (fun a y => if y < a then y else a) x
theorem minD_ints (x : Int) : ∀ (r : List Int), minD (.int x) (r.map .int) = .int (r.foldl (fun a y => if y < a then y else a) x) := by
  intro r
  induction r generalizing x with
  | nil => rfl
  | cons y r ih =>
    unfold minD at ih ⊢
    rw [List.map_cons, List.foldl_cons, List.foldl_cons, dataLt_int]
    by_cases h : y < x
    · rw [decide_eq_true h, if_pos rfl, if_pos h]
      exact ih y
    · rw [decide_eq_false h, if_neg Bool.false_ne_true, if_neg h]
      exact ih x
def rMinDef (K : PySem.W.Frag) : List V → List V → Hp → VK → Prop := fun vs zs H Q => ∃ (a : Addr) (ns : List Int) (d : Int), vs = [V.ref a] ∧ zs = [V.int d] ∧ SqL K H a (ns.map V.int) ∧ Q (.int (minI d ns)) H
theorem dp_ints {K : PySem.W.Frag} {H : Hp} : ∀ ns : List Int, DpAll K H (ns.map V.int) (ns.map .int)
  | [] => .nil
  | n :: ns => .cons (.int n) (dp_ints ns)
theorem depth_ints : ∀ ns : List Int, PyData.depthAll (ns.map .int) ≤ 1
  | [] => by simp [PyData.depthAll]
  | n :: ns => by
    rw [List.map_cons, PyData.depthAll]
    exact Nat.max_le.mpr ⟨by simp [PyData.depth], depth_ints ns⟩
theorem cr_minDef (hc : X.calm = true) (hu : X.A.units + 64 < cLine) : CallRK X (.builtin "min") [Str.ofString "default"] (rMinDef X.K) := by
  intro pins s σ H xs zs us ws Q I rx rz h
  obtain ⟨a, ns, d, rfl, rfl, hs, q⟩ := h
  obtain ⟨wd, rfl, rd⟩ := vals1 rz
  obtain ⟨t, rfl⟩ := rd
  obtain ⟨its, rv, hl, _⟩ := I.list hs
  rw [Vals.ref1 rx]
  obtain ⟨as, rr⟩ := Dp.readsAll I (ns.map .int) (ns.map V.int) its (dp_ints ns) rv
  show wpAny _ _ (call (.builtin "min") [.ref a] [(Str.ofString "default", .int d t)]) _ _ s
  refine min_list_default (vs := its.toArray) (xs := ns.map .int) (as := as) (I.ok.hd hc) hl.isList rr ⟨fun x hx y hy => ?_, fun x hx => ?_⟩ (by have := depth_ints ns; omega) (fun e h' tk keep => ?_) fun y ys i v h' tk bs e hv rd keep => ?_
  · obtain ⟨n, _, rfl⟩ := List.mem_map.mp hx
    obtain ⟨m, _, rfl⟩ := List.mem_map.mp hy
    rfl
  · obtain ⟨n, _, rfl⟩ := List.mem_map.mp hx
    exact fun e => by cases e
  · have : ns = [] := by
      cases ns with
      | nil => rfl
      | cons _ _ => cases e
    subst this
    exact ⟨.int d, H, I.kept (t' := tk) keep, ⟨t, rfl⟩, q⟩
  · cases ns with
    | nil => cases e
    | cons n ns =>
      obtain ⟨rfl, rfl⟩ : .int n = y ∧ ns.map .int = ys := by
        have := List.cons.inj e
        exact ⟨this.1, this.2⟩
      rw [minD_ints] at rd
      obtain ⟨z, t2, hz, rfl⟩ := ints_get (show IntsAre its.toArray.toList (n :: ns) from intsAre_of rv) (i := i) (v := v) (by rw [Array.getElem?_toList]; exact hv)
      refine ⟨.int (minI d (n :: ns)), H, I.kept (t' := tk) keep, ?_, q⟩
      show ∃ t', Value.int z t2 = Value.int (ns.foldl (fun a y => if y < a then y else a) n) t'
      cases rd
      exact ⟨_, rfl⟩
/-- x < y, data of one shape -/
def rLtD (K : PySem.W.Frag) : R2 := fun x y H Q => ∃ d e, Dp K H x d ∧ Dp K H y e ∧ alike d e = true ∧ d ≠ .none ∧ d.depth ≤ 60 ∧ Q (.bl (dataLt d e)) H
theorem op_ltD (hu : X.A.units + 64 < cLine) : OpR X (compareOp .Lt) (rLtD X.K) := by
  intro pins s σ H x y v u Q I rx ry h
  obtain ⟨d, e, hd, he, al, nn, dep, q⟩ := h
  obtain ⟨as, r1⟩ := Dp.reads I d x v hd rx
  obtain ⟨bs, r2⟩ := Dp.reads I e y u he ry
  refine lt_data r1 r2 al nn (by have := Nat.min_le_left d.depth e.depth; omega) ⟨.bl (dataLt d e), H, I, rfl, q⟩
/-- repr(None) -/
theorem call_reprN (gd : X.A.guards = some []) (hu : X.A.units + 70 < cLine) : CallR X (.builtin "repr") (fun xs H Q => xs = [.non] ∧ Q (.str "None") H) := by
  intro pins s σ H xs us Q I r h
  obtain ⟨rfl, q⟩ := h
  obtain ⟨u, rfl, ru⟩ := vals1 r
  have e : u = .none := ru
  subst e
  exact PySem.P.repr_of_none ⟨.str "None", H, I.tok _, ⟨_, rfl⟩, q⟩
/-- xs[::-1] of a list -/
def tRev (K : PySem.W.Frag) (te : TE) : TE := fun σ H Q => te σ H fun x H1 => ∃ a xs, x = .ref a ∧ SqL K H1 a xs ∧ ∀ p, H1 p = none → Q (.ref p) (upd H1 p (.lst xs.reverse))
/-- d.update(e), dicts by ints and texts -/
def rUpdK : V → List V → Hp → VK → Prop := fun x xs H Q => ∃ (a b : Addr) (kvs more : List (L2.Key × V)), x = .ref a ∧ xs = [.ref b] ∧ a ≠ b ∧ H a = some (.dK kvs) ∧ H b = some (.dK more) ∧ kvs.length + more.length ≤ sizeLine ∧ Q .non (upd H a (.dK (mergeK kvs more)))
theorem mt_updK : MtR X "dict.update" rUpdK := by
  intro pins s σ H x xs v us Q I rx rxs h
  obtain ⟨a, b, kvs, more, rfl, rfl, nab, ha, hb, few, q⟩ := h
  cases rx
  rw [Vals.ref1 rxs]
  obtain ⟨z, hs, vs, rel, dd⟩ := dk_of I.hok ha
  obtain ⟨z2, hs2, ms, rel2, dd2⟩ := dk_of I.hok hb
  have l1 : kvs.length = vs.length := Paired.length rel
  have l2 : more.length = ms.length := Paired.length rel2
  refine call_meetsIn F.slot_dict_update dd.typeIs F.entry_dict_update (F.args_dict_update_2 _ _) (meets_dict_update (mixKind X.prog X.w) a b nab hs2) ⟨vs, ms, dd, dd2, by omega, fun h' d1 d2 same => ?_⟩
  have hz : (mergeK kvs more).length ≤ sizeLine := Nat.le_trans (length_mergeK more kvs) few
  have I2 : Inv X pins σ (upd H a (.dK (mergeK kvs more))) { s with heap := h', toks := s.toks } := d_write I (by rw [ha]; exact True.intro) same (by obtain ⟨ep, o, es, ho, _⟩ := d1.dictAt; exact ⟨o, ho⟩) (dk_new hz hs (KV.merge rel2 rel) d1)
  exact ⟨.non, _, I2, rfl, q⟩
end
end HR
set_option maxRecDepth 100000
set_option maxHeartbeats 4000000
/-! {k: v for ..} with keys that are tuples of ints and texts -/
namespace HR
open PySem PySem.Spec PyProof.Rows L2
/-- one more entry, by a tuple -/
theorem put_tup {X : Cx} {pp : List (Addr × Obj)} {st : L2.St} {G : Hp} {sh : Shared} {EE : Value → Shared → Prop} {D b : Addr} {kvs : List (List L2.Key × V)} {k : List L2.Key} {v : V} {r : Value} {Q : Unit → Shared → Prop} (roomy : X.A.units < cLine)
    (J : Inv X pp st G sh) (at_ : G D = some (.dT kvs)) (few : kvs.length < sizeLine) (key : G b = some (.tup (k.map kV))) (rv : RelV v r) (nxt : ∀ sh', Inv X pp st (upd G D (.dT (putK kvs k v))) sh' → Q () sh') :
    wpAny (model X.prog X.w) X.A (dictSet D (.ref b) r) Q EE sh := by
  obtain ⟨z, notSys, ys, rel, dd⟩ := dt_of J.hok at_
  have ly : ys.length ≤ sizeLine := by rw [← Paired.length rel]; exact z
  have lk : (putK kvs k v).length ≤ sizeLine := by have := length_putK kvs k v; omega
  refine wpAny_dictSet_heap (hsz := ly) (knd := tupleKind (mixKind X.prog X.w)) (k := k) (show X.A.units < cLine from roomy) (key_of J.hok key) dd fun h' dd' same => nxt _ ?_
  obtain ⟨o, es, ep, ho, h2, h3, h4, _, h5⟩ := dd'
  refine d_write J (by rw [at_]; exact True.intro) same ⟨o, ho⟩ ⟨lk, notSys, _, (rel.put k key rv).keeps fun c zs ec => ?_, o, es, ep, ho, h2, h3, h4, h5⟩
  rw [upd_ne (ne_of ec at_ (fun z => nomatch z))]
  exact ec
def tDcT (wi : TI) (g : TG) (tt : TT) (tk tv : TE) (own : List Nat) : TE := fun st G Q => wi st G fun J G1 => ∀ D, G1 D = none → ∃ W : Nat → Nat → Hp → Prop, (∃ m, W 0 m (upd G1 D (.dT []))) ∧ ∀ i m G, W i m G →
  (J.stop i G ∧ Q (.ref D) G) ∨ (J.go i G ∧ ∃ Nx : Hp → Prop, (∀ G', Nx G' → ∃ m', m' < m ∧ W (i + 1) m' G') ∧ ∀ x G', J.yld i G x G' → g x (wipe st own) G' fun st2 G2 => wipe st2 own = wipe st own ∧ tt st2 G2 fun yes G3 =>
    if yes = true then tk st2 G3 fun y G4 => tv st2 G4 fun z G5 => ∃ kvs k b, y = .ref b ∧ G5 b = some (.tup (k.map kV)) ∧ G5 D = some (.dT kvs) ∧ kvs.length < sizeLine ∧ Nx (upd G5 D (.dT (putK kvs k z))) else Nx G3)
section
variable {X : Cx} {kx vx tg iter : Expr} {ifs : List Expr} {scope : Scope} {own : List (Str × Nat)} {wi : TI} {g : TG} {tt : TT} {tk tv : TE}
theorem pe_dcT {pos : Pos} (calm : X.calm = true) (roomy : X.A.units < cLine) (diff : X.N.Nodup) (walk : PI X tg iter wi) (blk : BlkOk X.N X.env.scope scope own)
    (aim : ∀ (sh : Shared) (G : Hp) (C : Addr) (cl : List (Str × Addr)) (feet : List Addr), PG (X.blk sh G scope (compEnvC scope cl C X.env) feet) tg g)
    (tests : ∀ (sh : Shared) (G : Hp) (C : Addr) (cl : List (Str × Addr)) (feet : List Addr), PTs (X.blk sh G scope (compEnvC scope cl C X.env) feet) ifs tt)
    (keys : ∀ (sh : Shared) (G : Hp) (C : Addr) (cl : List (Str × Addr)) (feet : List Addr), PE (X.blk sh G scope (compEnvC scope cl C X.env) feet) kx tk)
    (vals : ∀ (sh : Shared) (G : Hp) (C : Addr) (cl : List (Str × Addr)) (feet : List Addr), PE (X.blk sh G scope (compEnvC scope cl C X.env) feet) vx tv)
    (plain : ∀ x, foldedSetIterable iter X.env x = pure x := by intro _; rfl) : PE X (.DictComp kx vx [⟨tg, iter, ifs, 0⟩] scope pos) (tDcT wi g tt tk tv (own.map (·.2))) := by
  refine ⟨fun pp sh0 st G0 Q I0 ask => ?_⟩
  rw [arm_eval_DictComp]
  have frees : ∀ y ∈ scope.names, y.2 = .free → ∃ c, X.env.cells.lookup y.1 = some c := fun y hy e => (blk.free y hy e).elim (fun k => I0.ok.has _ (.inl k)) fun k => I0.ok.has _ (.inr k)
  refine wpAny_comprehension_free (use := none) rfl plain (closure_ok frees) blk.kind (fun y hy e => by rw [blk.uniq y hy, e]) (thn (walk.run pp sh0 st G0 _ I0 ask) fun xv sh1 came => thn came fun itv sh2 more => ?_)
  obtain ⟨it, feet, ten, J, G2, rfl, I2, T, at0, free2, turn⟩ := more
  refine wpAny_newObj_type (newEnv_comp ?_)
  have new : G2 sh2.heap.objs.size = none := I2.hok.fresh (Nat.le_refl _)
  obtain ⟨W, ⟨m0, w0⟩, step⟩ := turn _ new
  -- the dict is laid
  obtain ⟨G3, eG3⟩ : ∃ G3, G3 = upd G2 sh2.heap.objs.size (.dT []) := ⟨_, rfl⟩
  rw [← eG3] at w0
  obtain ⟨sh3, e3⟩ : ∃ sh3 : Shared, sh3 = { sh2 with heap := sh2.heap.push { cls := .type "dict", data := .dict #[] } } := ⟨_, rfl⟩
  have I3 : Inv X pp st G3 sh3 := by
    rw [e3, eG3]
    exact I2.laid (t' := sh2.toks) (fun b o q => Heap.get?_push_of_some _ q) (Nat.le_refl _) (dt_empty sh2.heap I2.big)
  have heap3 : sh3.heap = sh2.heap.push { cls := .type "dict", data := .dict #[] } := by rw [e3]
  have low : ∀ b ∈ feet, b < sh2.heap.objs.size := fun b hb => Heap.lt_size (T.obj _ _ at0 b hb).choose_spec.1
  have free3 : ∀ b ∈ feet, FpOk X pp G3 b ∧ b < sh3.heap.objs.size := fun b hb => ⟨⟨by rw [eG3, upd_ne (Nat.ne_of_lt (low b hb))]; exact (free2 b hb).1, (free2 b hb).2⟩, by rw [heap3, Heap.size_push]; exact Nat.lt_succ_of_lt (low b hb)⟩
  have at3 : ten 0 sh3.heap := T.keep _ _ _ at0 fun b _ o q => by rw [heap3]; exact Heap.get?_push_of_some _ q
  have I4 := block_start I3 blk diff free3
  obtain ⟨C, eC⟩ : ∃ C, C = sh3.heap.objs.size := ⟨_, rfl⟩
  obtain ⟨cl, ecl⟩ : ∃ cl, cl = cellsFrom (sh3.heap.objs.size + 1) scope.names (cloFrom X.env.cells scope.names []) := ⟨_, rfl⟩
  obtain ⟨sh4, e4⟩ : ∃ sh4 : Shared, sh4 = { sh3 with heap := pushCells (sh3.heap.push { cls := .type "dict", data := .dict #[] }) scope.names } := ⟨_, rfl⟩
  rw [← ecl, ← eC, ← e4] at I4
  have at4 : ten 0 sh4.heap := T.keep _ _ _ at3 fun b _ o q => by rw [e4]; exact pushCells_keeps _ _ _ _ (Heap.get?_push_of_some _ q)
  have none3 : ∀ b ∈ feet, G3 b = none := fun b hb => (free3 b hb).1.1
  obtain ⟨Y, eY⟩ : ∃ Y, Y = X.blk sh3 G3 scope (compEnvC scope cl C X.env) feet := ⟨_, rfl⟩
  rw [← eY] at I4
  have held : ∀ {st' : L2.St} {G' : Hp} {sh' : Shared}, Inv Y [] st' G' sh' → (∀ b ∈ feet, G' b = none) → ∀ b ∈ feet, FpOk Y [] G' b := by
    subst eY
    exact fun {_ _ _} I' no b hb => ⟨no b hb, (I'.ok.exf b hb).1, I'.ok.exfs b hb, .inl hb, fun x c q => (I'.ok.exf b hb).2 x c q, fun p hp => absurd (show p ∈ ([] : List (Addr × Obj)) ++ [] from hp) (by simp)⟩
  have locC : (compEnvC scope cl C X.env).locals = C := rfl
  have loop : codeAny (model X.prog X.w) X.A (.compLoop (.DictComp kx vx [⟨tg, iter, ifs, 0⟩] scope pos) 0 (.ref it) (.ref sh2.heap.objs.size) (compEnvC scope cl C X.env)) (compPost (model X.prog X.w) X.A X.xe none (EP X pp st Q) (.ref sh2.heap.objs.size) C) sh4 := by
    subst eY
    refine compLoop_anyD (fun left sh => ∃ i G, Inv (X.blk sh3 G3 scope (compEnvC scope cl C X.env) feet) [] (wipe st (own.map (·.2))) G sh ∧ ten i sh.heap ∧ (∀ b ∈ feet, G b = none) ∧ W i left G) ?_ m0 ⟨0, G3, I4, at4, none3, w0⟩
    rintro left sh5 ⟨i, G5, I5, at5, no5, w5⟩
    rcases step i left G5 w5 with ⟨over, good⟩ | ⟨on, Nx, fewer, go⟩
    · -- the walk is over
      refine thnF (T.done (X.blk sh3 G3 scope (compEnvC scope cl C X.env) feet) rfl rfl rfl calm i [] sh5 _ G5 (fun _ _ => False) I5 (held I5 no5) at5 over) fun r sh6 ⟨er, I6⟩ => ?_
      subst er
      have I7 : Inv X pp st G5 sh6 := I3.call' (ch := feet) I6.os I6.base I6.hok I6.bare fun b hb => let f := (free3 b hb).1.2; ⟨f.2.2.1, f.1, f.2.2.2.1, f.2.2.2.2⟩
      have noC : G5 C = none := I6.free
      obtain ⟨m, names, _⟩ := I6.loc
      obtain ⟨f0, f1, f2, f3, f4, f5⟩ := I3.fpOk (Nat.le_of_eq eC.symm) noC
      exact ⟨m, names, fun h'' sb => ⟨.ref sh2.heap.objs.size, G5, I7.turned (t' := sh6.toks) (fun b o hb q => (sb.2 b hb).trans q) f0 f1 f3 f4 f5, rfl, good⟩⟩
    · -- one turn
      refine thnF (T.item (X.blk sh3 G3 scope (compEnvC scope cl C X.env) feet) rfl rfl rfl calm i [] sh5 _ G5 (fun _ _ => False) I5 (held I5 no5) at5 on) fun r sh6 ⟨u, er, rest⟩ => ?_
      subst er
      refine thnF rest fun _ sh7 ⟨x, G7, I7, rx, y7, at7, no7⟩ => ?_
      have P7 := I7.pinned (held I7 no7) (T.obj _ _ at7)
      refine thnF ((aim sh3 G3 C cl feet).run _ sh7 _ G7 x u _ P7 rx (go x G7 y7)) fun _ sh8 ⟨st8, G8, I8, same8, q8⟩ => ?_
      refine thnF ((tests sh3 G3 C cl feet).run _ sh8 st8 G8 _ I8 q8) fun yes sh9 ⟨G9, I9, q9⟩ => ?_
      have back : ∀ {sh' : Shared} {G' : Hp}, Inv (X.blk sh3 G3 scope (compEnvC scope cl C X.env) feet) ([] ++ pinsAt feet sh7.heap) st8 G' sh' → Nx G' →
          ∃ m, m < left ∧ ∃ i G, Inv (X.blk sh3 G3 scope (compEnvC scope cl C X.env) feet) [] (wipe st (own.map (·.2))) G sh' ∧ ten i sh'.heap ∧ (∀ b ∈ feet, G b = none) ∧ W i m G := by
        intro sh' G' I' nx
        obtain ⟨m', less, w'⟩ := fewer G' nx
        have pin : ∀ b ∈ feet, ∀ o, sh7.heap.get? b = some o → sh'.heap.get? b = some o ∧ G' b = none := fun b hb o q => by
          have z := I'.pin (b, o) (List.mem_append_right _ (List.mem_append_right _ (mem_pinsAt hb q)))
          exact ⟨z.1, z.2.1⟩
        have len : (wipe st (own.map (·.2))).length = st8.length := by rw [← same8, wipe_length]
        refine ⟨m', less, i + 1, G', (I'.unpinned (pins := [])).weak len (fun j v q => ?_), T.keep _ _ _ at7 fun b hb o q => (pin b hb o q).1, fun b hb => ?_, w'⟩
        · rw [← same8] at q
          exact (wipe_some q).1
        · obtain ⟨o, q, _⟩ := T.obj _ _ at7 b hb
          exact (pin b hb o q).2
      cases yes with
      | false => exact back I9 q9
      | true =>
        refine thnF ((keys sh3 G3 C cl feet).run _ sh9 st8 G9 _ I9 q9) fun ku sh10 ⟨yk, G10, I10, rk, q10⟩ => ?_
        refine thnF ((vals sh3 G3 C cl feet).run _ sh10 st8 G10 _ I10 q10) fun vu sh11 ⟨yv, G11, I11, rv, kvs, k, b, ek, hb, hD, few, nx⟩ => ?_
        subst ek
        obtain rfl : ku = .ref b := rk
        exact put_tup (X := X.blk sh3 G3 scope (compEnvC scope cl C X.env) feet) roomy I11 hD few hb rv fun sh12 I12 => back I12 nx
  show codeAny _ _ (.compStart (.DictComp kx vx [⟨tg, iter, ifs, 0⟩] scope pos) 0 (.ref it) (.ref sh2.heap.objs.size) (compEnvC scope (cellsFrom (sh2.heap.push { cls := .type "dict", data := .dict #[] }).objs.size.succ scope.names (cloFrom X.env.cells scope.names [])) (sh2.heap.push { cls := .type "dict", data := .dict #[] }).objs.size X.env)) _ _
  rw [heap3] at eC ecl
  subst e3
  subst e4 ecl eC
  exact codeAny_compStart_dict loop (T.self X.A 0 _ _ _ at4 loop)
end
end HR
set_option maxRecDepth 100000
set_option maxHeartbeats 4000000
/-! min(rows, key=len); xs[::-1]; list(d), d by tuples -/
namespace HR
open PySem PySem.Spec PyProof.Rows L2 PySem.W
section
variable {X : Cx} {e : Expr} {te : TE} {t : TA} {p p2 pos kpos : Pos}
theorem tups_at {pp : List (Addr × Obj)} {st : L2.St} {H : Hp} {s : Shared} (I : Inv X pp st H s) {xs : List V} {its : List Value} (r : Vals xs its) (all : ∀ v ∈ xs, ∃ b ys, v = V.ref b ∧ SqT X.K H b ys) :
    ∀ (i : Nat) (v : Value), its[i]? = some v → ∃ b ys us, v = Value.ref b ∧ xs[i]? = some (V.ref b) ∧ Vals ys us ∧ IsTup s.heap b us.toArray ∧ us.length ≤ sizeLine := by
  intro i v hv
  have hi : i < xs.length := by rw [r.length]; exact (List.getElem?_eq_some_iff.mp hv).1
  obtain ⟨u, hu, ru⟩ := r.get (List.getElem?_eq_getElem hi)
  obtain ⟨b, ys, eb, hb⟩ := all _ (List.getElem_mem hi)
  obtain ⟨us, rv, ht, z⟩ := I.tuple hb
  rw [eb] at ru
  have ev : u = Value.ref b := ru
  rw [hv] at hu
  exact ⟨b, ys, us, by rw [← ev]; exact (Option.some.inj hu), by rw [List.getElem?_eq_getElem hi, eb], rv, ht, by rw [← rv.length]; exact z⟩
/-- some row of a list of tuples (the shortest; which is not told) -/
def tMinLen (K : PySem.W.Frag) (t : TA) : TE := fun σ H Q => t σ H fun vs H1 => ∃ a xs, vs = [V.ref a] ∧ SqL K H1 a xs ∧ xs ≠ [] ∧ (∀ v ∈ xs, ∃ b ys, v = V.ref b ∧ SqT K H1 b ys) ∧ ∀ v ∈ xs, Q v H1
theorem pe_minLen (calm : X.calm = true) (hu : X.A.units + 64 < cLine) (g1 : Gl X "min") (m1 : X.mg "min" = none) (g2 : Gl X "len") (m2 : X.mg "len" = none) (ha : PA X [e] t)
    (h1 : backTo pos (starEach [e] X.env) = (false, eval e X.env) :: backTo pos (starEach [] X.env) := by rfl) (h2 : (backTo pos (starEach [e] X.env)).any (·.1) = false := by rfl) :
    PE X (.Call (.Name "min" p) [e] [⟨some "key", .Name "len" p2, kpos⟩] pos) (tMinLen X.K t) := by
  refine ⟨fun pins s σ H Q I h => ?_⟩
  refine wpAny_Call_Name_kw (ld_blt I g1 m1 (u := .builtin "min") (by first | rfl | decide +kernel) ?_)
  refine PyProof.Rows.callWith_kw (thn (ha.run pos pins s σ H _ I h) fun us s1 ⟨vs, H1, I1, r1, a, xs, ev, hs, ne, all, q⟩ => ?_) h1 h2
  subst ev
  obtain ⟨u, rfl, ru⟩ := vals1 r1
  have eu : u = Value.ref a := ru
  subst eu
  show wpAny _ _ (evalAll ((do let v ← eval (.Name "len" p2) X.env; standAt pos; pure v) :: [])) _ _ s1
  refine wpAny_evalAll_cons (wpAny_bind (ld_blt I1 g2 m2 (u := .builtin "len") (by first | rfl | decide +kernel) (wpAny_bind (wpAny_standAt (wpAny_pure ?_)))))
  refine wpAny_evalAll_nil ?_
  show wpAny _ _ (call (.builtin "min") [.ref a] [(Str.ofString "key", .builtin "len")]) _ _ s1
  obtain ⟨its, rv, hl, z⟩ := I1.list hs
  have hd : X.A.in1.handled = none := I1.ok.hd calm
  have at_ := tups_at I1 rv all
  have lx : xs.length = its.length := rv.length
  let lens : List Nat := its.map fun v => match v with | Value.ref b => (match s1.heap.get? b with | some o => (match o.data with | .seq vs _ => vs.size | _ => 0) | none => 0) | _ => 0
  have lenAt : ∀ (i : Nat) (v : Value), its[i]? = some v → ∃ b, ∃ us : List Value, v = Value.ref b ∧ IsTup s1.heap b us.toArray ∧ us.length ≤ sizeLine ∧ lens.getD i 0 = us.length := fun i v hv => by
    obtain ⟨b, ys, us, rfl, _, _, ht, zu⟩ := at_ i v hv
    refine ⟨b, us, rfl, ht, zu, ?_⟩
    obtain ⟨o, ho, _, n, hdt⟩ := id ht
    show (its.map _).getD i 0 = _
    rw [List.getD_eq_getElem?_getD, List.getElem?_map, hv]
    show (match s1.heap.get? b with | some o => (match o.data with | .seq vs _ => vs.size | _ => 0) | none => 0) = _
    rw [ho]
    show (match o.data with | .seq vs _ => vs.size | _ => 0) = _
    rw [hdt]
    simp
  refine call_min_walkKB (iter_listW (A := X.A.in1) hd hl.isList fun s2 e2 W st0 hfp hw hk => ?_)
  have hn : 0 < its.toArray.size := by
    rw [List.size_toArray, ← lx]
    exact List.length_pos_iff.mpr ne
  refine ⟨_, _, _, _, _, _, _, (fun s' => ∃ h' tk, s' = { s1 with heap := h', toks := tk } ∧ ∀ b o, s1.heap.get? b = some o → h'.get? b = some o), (fun i k _ => ∃ tk, k = Value.int (lens.getD i 0 : Nat) tk), (fun i j => (fun (m n : Nat) => decide (m < n)) (lens.getD i 0) (lens.getD j 0)), rfl, W, st0, hfp, hn, ?_, ⟨s2.heap, s2.toks, by rw [e2], hk⟩, fun v s' hv ⟨h', tk, es, keep⟩ => ?_⟩
  · exact {
      keep := fun s s' ⟨h', tk, es, keep⟩ m => by
        subst es
        obtain ⟨hp, g, d, tk', os⟩ := s'
        have hg : g = s1.gens := m.gens
        have hdr : d = s1.drawn := m.drawn
        have hos : os = s1.os := m.os
        subst hg hdr hos
        refine ⟨hp, tk', rfl, fun b o q => m.heap b o (fun hb => ?_) (keep b o q)⟩
        have hlt := Heap.lt_size q
        have e3 : s2.heap.objs.size = s1.heap.objs.size + 1 := by rw [e2]; exact Heap.size_push _ _
        simp only [List.mem_cons, List.not_mem_nil, or_false] at hb
        rcases hb with hb | hb
        · rw [hb, e3] at hlt
          exact absurd hlt (Nat.not_lt.mpr (Nat.le_succ _))
        · rw [hb] at hlt
          exact absurd hlt (Nat.lt_irrefl _)
      keepV := fun i k s s' hv _ => hv
      turn := fun i v s o Q' E' hi hv ⟨h', tk, es, keep⟩ st ho nxt => by
        subst es
        obtain ⟨b, us, rfl, ht, zu, el⟩ := lenAt i v (by simpa using hv)
        have ht2 : IsTup h' b us.toArray := by
          obtain ⟨o2, h1, h2, h3⟩ := ht
          exact ⟨o2, keep _ _ h1, h2, h3⟩
        refine len_tuple (s := { s1 with heap := h', toks := tk }) ht2 (by have := line63; rw [List.size_toArray]; omega) (nxt _ _ ⟨h', tk + 1 + 1, rfl, keep⟩ st ho ⟨tk + 1, ?_⟩ fun j k' z => z)
        rw [el, List.size_toArray]
      cmp := fun i j ki kj s Q' E' _ ⟨t1, e1⟩ ⟨t2, e2⟩ q' => by
        subst e1 e2
        refine P.lt_int ?_
        rw [show decide (((lens.getD i 0 : Nat) : Int) < ((lens.getD j 0 : Nat) : Int)) = decide (lens.getD i 0 < lens.getD j 0) from decide_eq_decide.mpr (by omega)]
        exact q' }
  · subst es
    have hb : argBest (fun i j => (fun (m n : Nat) => decide (m < n)) (lens.getD i 0) (lens.getD j 0)) (its.toArray.size - 1) < its.length := by
      have le : lens.length = its.length := List.length_map _
      cases hle : lens with
      | nil => rw [hle] at le; rw [List.size_toArray] at hn; simp at le; omega
      | cons x ls =>
        have ab := (argBest_fold (fun (m n : Nat) => decide (m < n)) 0 x ls (its.toArray.size - 1) (by rw [hle] at le; rw [List.size_toArray]; simp at le; omega)).1
        rw [List.size_toArray] at ab hn ⊢
        exact Nat.lt_of_le_of_lt ab (by omega)
    have hv2 : its[argBest (fun i j => (fun (m n : Nat) => decide (m < n)) (lens.getD i 0) (lens.getD j 0)) (its.toArray.size - 1)]? = some v := by simpa using hv
    obtain ⟨b, ys, us, rfl, hx, _⟩ := at_ _ v hv2
    exact ⟨.ref b, H1, I1.kept (t' := tk) keep, rfl, q _ (List.mem_of_getElem? hx)⟩
end
end HR
set_option maxRecDepth 100000
set_option maxHeartbeats 4000000
/-! xs[::-1]; list(d), d by tuples -/
namespace HR
open PySem PySem.Spec PyProof.Rows L2
theorem pick_back (l : List Value) : slicePick l.toArray none none (some (-1)) = l.reverse.toArray := by
  unfold slicePick
  rw [List.size_toArray]
  show ((sliceRange ((l.length : Int) - 1) (-1) (-1)).filterMap (l.toArray[·]?)).toArray = _
  congr 1
  unfold sliceRange
  by_cases h0 : l.length = 0
  · have : l = [] := List.eq_nil_of_length_eq_zero h0
    subst this
    rfl
  have c : (if (-1 : Int) > 0 then (if ((l.length : Int) - 1) < -1 then (-1 - ((l.length : Int) - 1) + -1 - 1) / -1 else 0) else (if ((l.length : Int) - 1) > -1 then ((l.length : Int) - 1 - -1 - -1 - 1) / (- -1) else 0)) = (l.length : Int) := by
    rw [if_neg (by decide), if_pos (by omega), show (- -1 : Int) = 1 from rfl, Int.ediv_one]
    omega
  dsimp only
  rw [c, Int.toNat_natCast]
  apply List.ext_getElem?
  intro i
  have fm : ∀ (n : Nat), n ≤ l.length → ((List.range n).map fun (k : Nat) => (((l.length : Int) - 1) + -1 * (k : Int)).toNat).filterMap (l.toArray[·]?) = l.reverse.take n := by
    intro n
    induction n with
    | zero => intro _; rfl
    | succ n ih =>
      intro hn
      rw [List.range_succ, List.map_append, List.filterMap_append, ih (by omega), List.take_add_one]
      congr 1
      have e : ((l.length : Int) - 1 + -1 * (n : Int)).toNat = l.length - 1 - n := by omega
      simp only [List.map_cons, List.map_nil, List.filterMap_cons, List.filterMap_nil, e]
      rw [List.getElem?_reverse (by omega)]
      have hi : l.length - 1 - n < l.length := by omega
      simp [List.getElem?_eq_getElem hi]
  rw [fm l.length (Nat.le_refl _), List.take_of_length_le (by simp)]
section
variable {X : Cx} {e st : Expr} {te ts : TE} {p2 pos : Pos}
/-- xs[::k] with k = -1 -/
def tBack (K : PySem.W.Frag) (te ts : TE) : TE := fun σ H Q => te σ H fun x H1 => ts σ H1 fun y H2 => y = .int (-1) ∧ ∃ a xs, x = .ref a ∧ SqL K H2 a xs ∧ ∀ p, H2 p = none → Q (.ref p) (upd H2 p (.lst xs.reverse))
theorem pe_back (he : PE X e te) (hs : PE X st ts) : PE X (.Subscript e (.Slice none none (some st) p2) pos) (tBack X.K te ts) := by
  refine ⟨fun pins s σ H Q I h => ?_⟩
  refine Subscript_ (thn (he.run pins s σ H _ I h) fun v s1 ⟨x, H1, I1, r1, q1⟩ => ?_)
  refine wpAny_Slice ?_
  rw [evalPart_none]
  refine wpAny_pure (wpAny_pure ?_)
  rw [evalPart_some]
  refine thn (hs.run pins s1 σ H1 _ I1 q1) fun u s2 ⟨y, H2, I2, r2, ey, a, xs, ex, hx, q⟩ => ?_
  subst ey ex
  obtain ⟨tk, rfl⟩ := r2
  obtain rfl : v = .ref a := r1
  have I3 : Inv X pins σ H2 { s2 with heap := s2.heap.push { cls := .type "slice", data := .fields #[.none, .none, .int (-1) tk] } } := I2.kept (t' := s2.toks) fun b ob q => Heap.get?_push_of_some _ q
  obtain ⟨its, r, ht, hz⟩ := I3.list hx
  show wpAny (model X.prog X.w) X.A (subscriptTail e (.Slice none none (some st) p2) (.ref a) (.ref s2.heap.objs.size)) (EP X pins σ Q) X.xe { s2 with heap := s2.heap.push { cls := .type "slice", data := .fields #[.none, .none, .int (-1) tk] } }
  refine tail_any (ops := [.ref a, .ref s2.heap.objs.size]) ht.isList.typeIs slot_list_getitem.lookup ?_ (by with_unfolding_all rfl)
  refine wpAny_getItem_list_slice ht.isList (Heap.IsSliceOf.new ..) .none .none (.int (-1) tk) (by simp) ?_ (by rw [List.size_toArray, ← r.length]; exact hz)
  rw [pick_back]
  refine ⟨.ref _, _, I3.laid (t' := s2.toks) (o := .lst xs.reverse) (fun b ob q => Heap.get?_push_of_some _ q) (Nat.le_refl _) ⟨by rw [List.length_reverse]; exact hz, its.reverse, 0, r.reverse, Heap.get?_push_size _ rfl⟩, rfl, q _ (I3.hok.fresh (Nat.le_refl _))⟩
/-- list(d), d by tuples: its keys -/
def rKeysT : List V → Hp → VK → Prop := fun xs H Q => ∃ (d : Addr) (kvs : List (List L2.Key × V)), xs = [.ref d] ∧ H d = some (.dT kvs) ∧ ∀ (ks : List Addr) q, ks.length = kvs.length → (∀ (i : Nat) (b : Addr) (kv : List L2.Key × V), ks[i]? = some b → kvs[i]? = some kv → H b = some (.tup (kv.1.map kV))) → H q = none → Q (.ref q) (upd H q (.lst (ks.map V.ref)))
theorem cr_keysT (hc : X.calm = true) : CallR X (.type "list") rKeysT := by
  intro pins s σ H xs us Q I rx h
  obtain ⟨d, kvs, rfl, hd, q⟩ := h
  rw [Vals.ref1 rx]
  obtain ⟨z, hs, ys, rel, dd⟩ := dt_of I.hok hd
  obtain ⟨es, ep, raw, he⟩ := TV.raw_of dd
  have hl : kvs.length = ys.length := Paired.length rel
  have hes : es.size = ys.length := by
    have := congrArg List.length he
    rwa [List.length_map, Array.length_toList] at this
  refine PySem.W.kdl_call (PySem.KdlSrc.rawDict (d := d) (es := es) (ep := ep) hs) (I.ok.hd hc) raw (by omega) fun h' tk acc c hk hS hacc => ?_
  have ent : ∀ (j : Nat) (w : Value), acc.toList[j]? = some w → ∃ y : List L2.Key × Addr × Value, ys[j]? = some y ∧ w = .ref y.2.1 := fun j w hw => by
    obtain ⟨hi, hv⟩ := hacc.2 j w (by rw [← Array.getElem?_toList]; exact hw)
    have hj : j < ys.length := by omega
    refine ⟨ys[j], List.getElem?_eq_getElem hj, ?_⟩
    have e1 : es.toList[j]? = some (entryOfKey (tupleKind (mixKind X.prog X.w)) ys[j]) := by rw [he, List.getElem?_map, List.getElem?_eq_getElem hj]; rfl
    have e2 : es.toList[j]? = some es[j] := by rw [Array.getElem?_toList, Array.getElem?_eq_getElem hi]
    rw [hv, Option.some.inj (e2.symm.trans e1)]
    rfl
  have la : acc.toList.length = ys.length := by rw [Array.length_toList, hacc.1, hes]
  refine ⟨.ref s.heap.objs.size, upd H s.heap.objs.size (.lst ((ys.map fun y => y.2.1).map V.ref)), I.laid (t' := tk) hk (Nat.le_refl _) (show ObjOk X.prog X.w _ _ _ (.lst _) from ⟨by rw [List.length_map, List.length_map, ← hl]; exact z, acc.toList, c, ?_, ?_⟩), rfl, q _ _ (by rw [List.length_map, hl]) (fun i b kv hb hkv => ?_) (I.hok.fresh (Nat.le_refl _))⟩
  · refine vals_of_at (by rw [List.length_map, List.length_map, la]) fun j x w h1 h2 => ?_
    obtain ⟨y, hy, rfl⟩ := ent j w h2
    rw [List.map_map, List.getElem?_map, hy] at h1
    cases h1
    rfl
  · rw [Array.toArray_toList]; exact hS
  · rw [List.getElem?_map] at hb
    obtain ⟨y, hy, rfl⟩ := Option.map_eq_some_iff.mp hb
    obtain ⟨y2, hy2, hr⟩ := TV.pair_get rel hkv
    rw [hy] at hy2
    cases hy2
    exact hr.2.1
end
end HR
set_option maxRecDepth 100000
set_option maxHeartbeats 4000000
/-! enumerate(a list or tuple) -/
namespace HR
open PySem PySem.Spec PyProof.Rows L2 PySem.W
/-- the tuple at a, its items in new pairs -/
def ItT (K : PySem.W.Frag) (a : Addr) : It :=
  ⟨fun i H => ∃ (xs : List V) (x : V), SqT K H a xs ∧ xs[i]? = some x, fun i H v H' => ∃ T x, v = .ref T ∧ H T = none ∧ H' = upd H T (.tup [.int (i : Nat), x]) ∧ ∀ xs, SqT K H a xs → xs[i]? = some x, fun i H => ∃ xs : List V, SqT K H a xs ∧ xs.length ≤ i⟩
theorem walk_enT {K : PySem.W.Frag} {a : Addr} {xs : List V} : L2.Walk (ItT K a) xs.length (fun H => SqT K H a xs) (YPair (fun i => some (.int (i : Nat))) (fun i => xs[i]?)) :=
  ⟨fun i _ hi q => ⟨xs, xs[i], q, by simp [hi]⟩, fun _ q => ⟨xs, q, Nat.le_refl _⟩, fun i H v H' _ q ⟨T, x, h1, h2, h3, h4⟩ => ⟨T, .int (i : Nat), x, h1, h2, h3, rfl, h4 xs q⟩⟩
theorem turn_enT {P : Program} {w : World} {K : PySem.W.Frag} {elts : List Expr} {kk : Nat} {tpos : Pos} (a e it : Addr) :
    Turn P w K (.Tuple elts kk tpos) (ItT K a) [e, it] e (fun i h => (∃ old, IsEnum h e it ((i : Nat) : Int) old) ∧ h.IsTupleIter it a i ∧ e ≠ it) where
  mem := List.mem_cons_self
  obj := fun i h st b hb => by
    obtain ⟨⟨old, he⟩, ⟨o, ho, _, hd⟩, _⟩ := st
    rcases List.mem_cons.mp hb with z | hb
    · rw [z]
      exact ⟨_, he, fun v q => nomatch q⟩
    · exact ⟨o, by rw [List.mem_singleton.mp hb]; exact ho, fun v q => by rw [hd] at q; cases q⟩
  keep := fun i h h' ⟨⟨old, he⟩, hi, ne⟩ k => ⟨⟨old, k e List.mem_cons_self _ he⟩, hi.at fun o q => k it (List.mem_cons_of_mem _ List.mem_cons_self) o q, ne⟩
  item := by
    intro X hP hw hK calm i pp s σ H E I feet ⟨⟨old, he⟩, hit, ne⟩ ⟨xs, x, hx, hi⟩
    subst hP hw hK
    obtain ⟨its, rv, pt, few⟩ := I.tuple hx
    obtain ⟨u, hu, ru⟩ := rv.get hi
    have he' : e < s.heap.objs.size := Heap.lt_size he
    have hit' : it < s.heap.objs.size := by obtain ⟨o, q, _⟩ := hit; exact Heap.lt_size q
    obtain ⟨f1, f2⟩ := feet it (List.mem_cons_of_mem _ List.mem_cons_self)
    obtain ⟨ob, hob, _⟩ := id hit
    have hai : a ≠ it := fun z => by
      obtain ⟨o2, h2, c2, _⟩ := pt
      obtain ⟨o3, h3, c3, _⟩ := id hit
      rw [z] at h2
      rw [h2] at h3
      cases h3
      rw [c2] at c3
      exact absurd (Value.type.inj c3) (by decide)
    have hae : e ∉ [it, a] := by
      intro z
      rcases List.mem_cons.mp z with z | z
      · exact ne z
      · rw [List.mem_singleton.mp z] at he
        obtain ⟨o2, h2, c2, _⟩ := pt
        rw [show s.heap.get? a = some _ from he] at h2
        cases h2
        exact absurd (Value.type.inj c2) (by decide)
    refine wpAny_pyNext_enum_itemD (Draws.tuple (prog := X.prog) (w := X.w) (A := X.A.in1) (I.ok.hd calm) it a hai its.toArray) he ⟨hit, pt⟩ (i := i) (by rw [List.size_toArray]; exact (List.getElem?_eq_some_iff.mp hu).1) ne hae fun y h' tk hy ho st' hT hsz hk => ?_
    have ey : y = u := by
      have : its[i]? = some y := by simpa using hy
      rw [hu] at this
      exact (Option.some.inj this).symm
    subst ey
    refine ⟨_, rfl, wpAny_letOwnedTupleGo_enum (s := { s with heap := h', toks := tk + 1 }) ho fun h'' he2 sb => ?_⟩
    have hT2 : h''.get? s.heap.objs.size = some { cls := .type "tuple", data := .seq #[.int i tk, y] } := (sb.2 _ (Nat.ne_of_gt he')).trans hT
    have new : ObjOk X.prog X.w (upd H s.heap.objs.size (.tup [.int (i : Nat), x])) h'' s.heap.objs.size (.tup [.int (i : Nat), x]) := ⟨by show 2 ≤ sizeLine; decide, [.int i tk, y], .cons ⟨_, rfl⟩ (.cons ru .nil), ⟨_, hT2, rfl, _, rfl⟩⟩
    have I2 : Inv X pp σ (upd H s.heap.objs.size (.tup [.int (i : Nat), x])) { s with heap := h'', toks := tk + 1 } :=
      I.turnedNew (ch := [e, it]) (fun b o hb q => (sb.2 b (fun z => hb (by rw [z]; exact List.mem_cons_self))).trans (hk b o (fun z => hb (by rw [z]; exact List.mem_cons_self)) (fun z => hb (by rw [z]; exact List.mem_cons_of_mem _ List.mem_cons_self)) q)) feet (Nat.le_refl _) new
    refine ⟨.ref s.heap.objs.size, _, I2, rfl, ⟨_, x, rfl, I.hok.fresh (Nat.le_refl _), rfl, fun ys hy2 => by rw [I.tuple_inj hy2 hx]; exact hi⟩, ⟨⟨y, ?_⟩, st'.1.at fun o q => (sb.2 it (Ne.symm ne)).trans q, ne⟩, fun b hb => ?_⟩
    · have e1 : ((i + 1 : Nat) : Int) = (i : Int) + 1 := by omega
      rw [e1]; exact he2
    · have lt : b < s.heap.objs.size := by
        rcases List.mem_cons.mp hb with z | z
        · rw [z]; exact he'
        · rw [List.mem_singleton.mp z]; exact hit'
      rw [upd_ne (Nat.ne_of_lt lt)]
      exact (feet b hb).1
  done := by
    intro X hP hw hK calm i pp s σ H E I feet ⟨⟨old, he⟩, hit, ne⟩ ⟨xs, hx, over⟩
    subst hP hw hK
    obtain ⟨its, rv, pt, few⟩ := I.tuple hx
    obtain ⟨f0, f1, f2, f3, f4, f5⟩ := feet it (List.mem_cons_of_mem _ List.mem_cons_self)
    have hai : a ≠ it := fun z => by
      obtain ⟨o2, h2, c2, _⟩ := pt
      obtain ⟨o3, h3, c3, _⟩ := id hit
      rw [z] at h2
      rw [h2] at h3
      cases h3
      rw [c2] at c3
      exact absurd (Value.type.inj c3) (by decide)
    have hl := rv.length
    have none_ : its.toArray[i]? = none := by simp; omega
    have hT : s.TypeIs (.ref e) "enumerate" := ⟨_, he, rfl⟩
    unfold pyNext
    refine wpAny_bind (wpAny_attempt (wpAny_callSpecial?_slot (name := Str.ofString "__next__") hT F.slot_enumerate_next (wpAny_call_entry F.slot_enumerate_next hT F.entry_enumerate_next ?_ (F.args_enumerate_next_1 _))))
    show wpAny _ _ (field (.ref e) 2 >>= _) _ _ _
    refine wpAny_bind (wpAny_field he rfl (x := .ref it) rfl ?_)
    refine wpAny_bind (wpAny_nextOf_tuple_end (I.ok.hd calm) hit pt none_ fun h' x eb hx' => ?_)
    obtain ⟨o, ho, hc⟩ := hx'
    refine wpAny_bind (wpAny_isInstance (T := "StopIteration") (b := true) ⟨o, ho, hc⟩ isSubtype_stop ?_)
    exact wpAny_pure ⟨rfl, I.turned (t' := s.toks) (fun b o hb q => eb b o hb q) f0 f1 f3 f4 f5⟩
  self := fun A i s Q E ⟨⟨_, he⟩, _⟩ h => wpAny_pyIter_enum he h
set_option maxHeartbeats 4000000 in
theorem meets_enum_new {v : Value} {o : Obj} {Hh : Heap → Prop} (B : Begins v o Hh) :
    Meets (Builtin.«enumerate.__new__» ⟨[.type "enumerate", v], []⟩) (fun _ R s => Hh s.heap ∧
      R (.ok (.ret (.ref (s.heap.push o).objs.size))) { s with heap := (s.heap.push o).push { cls := .type "enumerate", data := .fields #[.none, .bool false, .ref s.heap.objs.size, rawInt 0, .none, .none] } }) :=
  .of_wp fun prog w A R s both => by
    obtain ⟨hp, g, d, tk, os⟩ := s
    obtain ⟨h1, h⟩ := both
    have sub := sub_enumerate
    have it_ : ∀ {A' : Around} {E : Value → Shared → Prop} {Q : Value → Shared → Prop}, Q (.ref hp.objs.size) ⟨hp.push o, g, d, tk, os⟩ → wpAny (model prog w) A' (pyIter v) Q E ⟨hp, g, d, tk, os⟩ := fun q => B.iter prog w _ _ ⟨hp, g, d, tk, os⟩ _ h1 q
    wp_walk using it_
    refine wpAny_stack_any fun st => wpAny_pure ?_
    split
    · rename_i c _ _ _ _ _
      cases (c == Value.type "enumerate") <;> (wp_walk using it_; exact ⟨_, rfl, h⟩)
    · wp_walk using it_
      exact ⟨_, rfl, h⟩
section
variable {X : Cx} {e : Expr} {ta : TA} {p pos tpos : Pos} {elts : List Expr} {kk : Nat}
/-- enumerate(a list or tuple) -/
def iEnS (K : PySem.W.Frag) (ta : TA) : TI := fun σ H R => ta σ H fun vs H1 => ∃ a xs, vs = [.ref a] ∧ ((SqL K H1 a xs ∧ R (Ite K a) H1) ∨ (SqT K H1 a xs ∧ R (ItT K a) H1))
theorem pi_enS (hg : Gl X "enumerate") (hm : X.mg "enumerate" = none) (ha : PA X [e] ta) (hs : starEach [e] X.env = [(false, eval e X.env)] := by rfl) : PI X (.Tuple elts kk tpos) (.Call (.Name "enumerate" p) [e] [] pos) (iEnS X.K ta) := by
  refine ⟨fun pins s σ H R I h => ?_⟩
  refine Call_ (ld_blt I hg hm boot_enumerate (PyProof.Rows.callWith_type1 (thn (ha.run pos pins s σ H _ I h) fun us s1 ⟨vs, H1, I1, r1, a, xs, ex, q⟩ => ?_) hs rfl))
  subst ex
  obtain ⟨u, rfl, ru⟩ := vals1 r1
  have eu : u = Value.ref a := ru
  subst eu
  have low : ∀ b ∈ [s1.heap.objs.size + 1, s1.heap.objs.size], s1.heap.objs.size ≤ b := fun b hb => by
    rcases List.mem_cons.mp hb with z | z
    · rw [z]; exact Nat.le_succ _
    · rw [List.mem_singleton.mp z]; exact Nat.le_refl _
  rcases q with ⟨hq, q⟩ | ⟨hq, q⟩
  · obtain ⟨its, rv, p', hz⟩ := I1.list hq
    refine call_enumerate_list p'.isList fun h' he hit hsz hk => wpAny_pyIter_enum he ?_
    have I2 : Inv X pins σ H1 { s1 with heap := h' } := I1.kept (t' := s1.toks) hk
    exact ⟨s1.heap.objs.size + 1, [s1.heap.objs.size + 1, s1.heap.objs.size], _, _, H1, rfl, I2, turn_enum a (s1.heap.objs.size + 1) s1.heap.objs.size, ⟨⟨.none, he⟩, hit, Nat.succ_ne_self _⟩, fun b hb => I1.fpOk (low b hb) (I1.hok.fresh (low b hb)), q⟩
  · obtain ⟨its, rv, p', hz⟩ := I1.tuple hq
    refine callType_new F.called_enumerate (by decide) (F.typeCall_enumerate_1 _) (F.newCall_enumerate_1 _) (fun obj => F.args_object_init_2 obj _) F.entry_enumerate_new (meets_enum_new (begins_tuple a its.toArray)) ⟨p', ?_⟩
    have hz : (s1.heap.push { cls := .type "tuple_iterator", data := .fields #[.ref a, .int 0 0] }).objs.size = s1.heap.objs.size + 1 := Heap.size_push ..
    show _ ∧ _
    rw [hz]
    have he : IsEnum ((s1.heap.push { cls := .type "tuple_iterator", data := .fields #[.ref a, .int 0 0] }).push { cls := .type "enumerate", data := .fields #[.none, .bool false, .ref s1.heap.objs.size, rawInt 0, .none, .none] }) (s1.heap.objs.size + 1) s1.heap.objs.size 0 .none := by
      have z := Heap.get?_push_size (s1.heap.push { cls := .type "tuple_iterator", data := .fields #[.ref a, .int 0 0] }) (o := { cls := .type "enumerate", data := .fields #[.none, .bool false, .ref s1.heap.objs.size, rawInt 0, .none, .none] }) rfl
      rw [hz] at z
      exact z
    refine ⟨⟨_, he, rfl⟩, wpAny_pyIter_enum he ?_⟩
    have hk : ∀ b o, s1.heap.get? b = some o → ((s1.heap.push { cls := .type "tuple_iterator", data := .fields #[.ref a, .int 0 0] }).push { cls := .type "enumerate", data := .fields #[.none, .bool false, .ref s1.heap.objs.size, rawInt 0, .none, .none] }).get? b = some o := fun b o x => Heap.get?_push_of_some _ (Heap.get?_push_of_some _ x)
    exact ⟨s1.heap.objs.size + 1, [s1.heap.objs.size + 1, s1.heap.objs.size], _, _, H1, rfl, I1.kept (t' := s1.toks) hk, turn_enT a (s1.heap.objs.size + 1) s1.heap.objs.size, ⟨⟨.none, he⟩, ⟨_, Heap.get?_push_of_some _ (Heap.get?_push_size _ rfl), rfl, rfl⟩, Nat.succ_ne_self _⟩, fun b hb => I1.fpOk (low b hb) (I1.hok.fresh (low b hb)), q⟩
end
end HR
set_option maxRecDepth 100000
set_option maxHeartbeats 4000000
/-! sorted(a tuple of ints); what is walked, one of two ways -/
namespace HR
open PySem PySem.Spec PyProof.Rows L2 SrtO
section
variable {prog : Program} {w : World} {A : Around} {E : Value → Shared → Prop} {s : Shared}
theorem collect_tup {t : Addr} {vs : List Value} {Q : List Value → Shared → Prop} (ht : IsTup s.heap t vs.toArray) (few : vs.length ≤ sizeLine) (nxt : Q vs { s with heap := (s.heap.push (seqObj "list" #[] 0)).update s.heap.objs.size (Obj.mapSeq (· ++ vs.toArray)) }) :
    wpAny (model prog w) A (collect (.ref t)) Q E s := by
  obtain ⟨o, at_, cls, n, dat⟩ := id ht
  have new : (s.heap.push (seqObj "list" #[] 0)).get? s.heap.objs.size = some (seqObj "list" #[] 0) := Heap.get?_push_size _ rfl
  have at1 : (s.heap.push (seqObj "list" #[] 0)).get? t = some o := Heap.get?_push_of_some _ at_
  have ne : s.heap.objs.size ≠ t := Nat.ne_of_gt (Heap.lt_size at_)
  unfold collect
  refine wpAny_bind (wpAny_runValue (codeAny_builtin F.entry_proto_collect ?_))
  show wpAny _ _ (do again (.builtin "list.__iadd__" ⟨[← newList [], .ref t], []⟩)) _ _ s
  refine wpAny_bind (wpAny_newList (wpAny_pure ⟨Code.quiet_builtin _ (by decide +kernel), codeAny_builtin F.entry_list_iadd ?_⟩))
  show wpAny _ _ (Builtin.List.listExtendWith (.ref s.heap.objs.size) (.ref t) (.ref s.heap.objs.size)) _ _ { s with heap := s.heap.push (seqObj "list" #[] 0) }
  unfold Builtin.List.listExtendWith
  refine wpAny_bind (wpAny_typeOf (T := "tuple") ⟨o, at1, cls⟩ ?_)
  have same : Builtin.List.listSameRef (.ref s.heap.objs.size) (.ref t) = false := by simp [Builtin.List.listSameRef, ne]
  rw [if_pos (by rw [show (Value.type "tuple" == Value.type "tuple") = true from rfl]; simp)]
  refine wpAny_bind (listItems_at at1 dat ?_)
  refine wpAny_bind (listItems_at (xs := #[]) (n := 0) new rfl ?_)
  rw [if_neg (by simp)]
  refine wpAny_bind (listUpdate_at (xs := #[]) (n := 0) new rfl ?_ (Nat.zero_le _) (by show (#[] ++ vs.toArray).size ≤ sizeLine + 1; simp only [Array.size_append, List.size_toArray, List.length_nil]; omega))
  refine wpAny_pure ?_
  show wpAny (model prog w) A (load s.heap.objs.size >>= _) Q E _
  refine wpAny_bind (wpAny_load (get?_update_seq new _) ?_)
  show wpAny _ _ (pure ((#[] : Array Value) ++ vs.toArray).toList) Q E _
  rw [show ((#[] : Array Value) ++ vs.toArray).toList = vs by simp]
  exact wpAny_pure nxt
end
section
variable {X : Cx}
theorem pi_or {tg e : Expr} {t1 t2 : TI} (h1 : PI X tg e t1) (h2 : PI X tg e t2) : PI X tg e (fun σ H R => t1 σ H R ∨ t2 σ H R) :=
  ⟨fun pins s σ H R I h => h.elim (h1.run pins s σ H R I) (h2.run pins s σ H R I)⟩
def rSortedTI (K : PySem.W.Frag) : List V → Hp → VK → Prop := fun vs H Q => ∃ (a : Addr) (ns : List Int), vs = [V.ref a] ∧ SqT K H a (ns.map V.int) ∧ ∀ (ms : List Int) (p : Addr), ms.Perm ns → ms.Pairwise (· ≤ ·) → H p = none → Q (.ref p) (upd H p (.lst (ms.map V.int)))
theorem cr_sortedTI : CallR X (.builtin "sorted") (rSortedTI X.K) := by
  intro pins s σ H vs us Q I r h
  obtain ⟨a, ns, rfl, hs, q⟩ := h
  obtain ⟨its, rv, ht, few⟩ := I.tuple hs
  rw [Vals.ref1 r]
  have hi : IntsAre its ns := intsAre_of rv
  have hz : its.length ≤ sizeLine := by rw [← rv.length]; exact few
  refine Calls.call_function_entry kind_sorted plain_sorted entry_sorted (args_sorted1 _) ?_
  unfold Builtin.«sorted»
  refine wpAny_bind (m := checkCount "sorted" 1 1 _) (wpAny_pure ?_)
  refine wpAny_bind (collect_tup ht hz ?_)
  refine wpAny_bind (wpAny_newList ?_ hz)
  have size2 : ((s.heap.push (seqObj "list" #[] 0)).update s.heap.objs.size (Obj.mapSeq (· ++ its.toArray))).objs.size = s.heap.objs.size + 1 := by rw [Heap.size_update, size_push']
  show wpAny _ _ _ _ _ { s with heap := ((s.heap.push (seqObj "list" #[] 0)).update s.heap.objs.size (Obj.mapSeq (· ++ its.toArray))).push (seqObj "list" its.toArray 0) }
  rw [size2]
  have laid : (((s.heap.push (seqObj "list" #[] 0)).update s.heap.objs.size (Obj.mapSeq (· ++ its.toArray))).push (seqObj "list" its.toArray 0)).get? (s.heap.objs.size + 1) = some (seqObj "list" its.toArray 0) := by
    rw [← size2]
    exact Heap.get?_push_size _ rfl
  refine wpAny_bind (wpAny_holding (wpAny_call_entry slot_list_sort ⟨_, laid, rfl⟩ entry_list_sort (list_sort_ord swo_int laid hz (fun h2 => ints_sortable hi h2) fun out h1 h2 => ⟨_, rfl, ?_⟩) (args_list_sort _)))
  obtain ⟨k1, k2, k3⟩ := ints_out hi h1 h2
  obtain ⟨ep, he'⟩ := PyProof.Rows.sortedAll_at s.heap its out.toArray
  have few2 : ((out.map iv).map V.int).length ≤ sizeLine := by rw [List.length_map, k2.length_eq]; rw [List.length_map] at few; exact few
  exact wpAny_pure ⟨_, rfl, .ref _, upd H (s.heap.objs.size + 1) (.lst ((out.map iv).map V.int)), I.laid (t' := s.toks) (fun _ _ => PyProof.Rows.sortedAll_old) (Nat.le_succ _) ⟨few2, out, ep, vals_of_ints k1, he'⟩, rfl, q _ _ k2 k3 (I.hok.fresh (Nat.le_succ _))⟩
end
end HR
set_option maxRecDepth 100000
set_option maxHeartbeats 4000000
/-! x = {k: v for ..} with keys that are tuples of ints and texts -/
namespace HR
open PySem PySem.Spec PyProof.Rows L2
section
variable {X : Cx} {kx vx tg iter : Expr} {ifs : List Expr} {scope : Scope} {own : List (Str × Nat)} {wi : TI} {g : TG} {tt : TT} {tk tv : TE}
theorem ps_setDcT {pos spos py : Pos} {i : Nat} {y : Str} (calm : X.calm = true) (roomy : X.A.units < cLine) (diff : X.N.Nodup) (hN : X.N[i]? = some y) (hv : X.env.scope.names.lookup y = some NameKind.local) (hs : swapsWith (.DictComp kx vx [⟨tg, iter, ifs, 0⟩] scope pos) (some (.Name y py)) spos.line X.env = pure true) (walk : PI X tg iter wi) (blk : BlkOk X.N X.env.scope scope own)
    (aim : ∀ (sh : Shared) (G : Hp) (C : Addr) (cl : List (Str × Addr)) (feet : List Addr), PG (X.blk sh G scope (compEnvC scope cl C X.env) feet) tg g)
    (tests : ∀ (sh : Shared) (G : Hp) (C : Addr) (cl : List (Str × Addr)) (feet : List Addr), PTs (X.blk sh G scope (compEnvC scope cl C X.env) feet) ifs tt)
    (keys : ∀ (sh : Shared) (G : Hp) (C : Addr) (cl : List (Str × Addr)) (feet : List Addr), PE (X.blk sh G scope (compEnvC scope cl C X.env) feet) kx tk)
    (vals : ∀ (sh : Shared) (G : Hp) (C : Addr) (cl : List (Str × Addr)) (feet : List Addr), PE (X.blk sh G scope (compEnvC scope cl C X.env) feet) vx tv)
    (plain : ∀ x, foldedSetIterable iter X.env x = pure x := by intro _; rfl) : PS X (.Assign [.Name y py] (.DictComp kx vx [⟨tg, iter, ifs, 0⟩] scope pos) spos) (tAsg (tDcT wi g tt tk tv (own.map (·.2))) (gName i)) := by
  refine ⟨fun pp sh0 st G0 D0 I0 ask => ?_⟩
  rw [exec_Assign_Name_used _ _ _ _ hs, arm_evalThenUse_DictComp]
  refine wpAny_bind (wpAny_standAt ?_)
  have frees : ∀ y ∈ scope.names, y.2 = .free → ∃ c, X.env.cells.lookup y.1 = some c := fun y hy e => (blk.free y hy e).elim (fun k => I0.ok.has _ (.inl k)) fun k => I0.ok.has _ (.inr k)
  refine wpAny_bind (wpAny_bind (wpAny_comprehension_free (use := some (assign (.Name y py) X.env)) rfl plain (closure_ok frees) blk.kind (fun y hy e => by rw [blk.uniq y hy, e]) (thn (walk.run pp sh0 st G0 _ I0 ask) fun xv sh1 came => thn came fun itv sh2 more => ?_)))
  obtain ⟨it, feet, ten, J, G2, rfl, I2, T, at0, free2, turn⟩ := more
  refine wpAny_newObj_type (newEnv_comp ?_)
  have new : G2 sh2.heap.objs.size = none := I2.hok.fresh (Nat.le_refl _)
  obtain ⟨W, ⟨m0, w0⟩, step⟩ := turn _ new
  -- the dict is laid
  obtain ⟨G3, eG3⟩ : ∃ G3, G3 = upd G2 sh2.heap.objs.size (.dT []) := ⟨_, rfl⟩
  rw [← eG3] at w0
  obtain ⟨sh3, e3⟩ : ∃ sh3 : Shared, sh3 = { sh2 with heap := sh2.heap.push { cls := .type "dict", data := .dict #[] } } := ⟨_, rfl⟩
  have I3 : Inv X pp st G3 sh3 := by
    rw [e3, eG3]
    exact I2.laid (t' := sh2.toks) (fun b o q => Heap.get?_push_of_some _ q) (Nat.le_refl _) (dt_empty sh2.heap I2.big)
  have heap3 : sh3.heap = sh2.heap.push { cls := .type "dict", data := .dict #[] } := by rw [e3]
  have low : ∀ b ∈ feet, b < sh2.heap.objs.size := fun b hb => Heap.lt_size (T.obj _ _ at0 b hb).choose_spec.1
  have free3 : ∀ b ∈ feet, FpOk X pp G3 b ∧ b < sh3.heap.objs.size := fun b hb => ⟨⟨by rw [eG3, upd_ne (Nat.ne_of_lt (low b hb))]; exact (free2 b hb).1, (free2 b hb).2⟩, by rw [heap3, Heap.size_push]; exact Nat.lt_succ_of_lt (low b hb)⟩
  have at3 : ten 0 sh3.heap := T.keep _ _ _ at0 fun b _ o q => by rw [heap3]; exact Heap.get?_push_of_some _ q
  have I4 := block_start I3 blk diff free3
  obtain ⟨C, eC⟩ : ∃ C, C = sh3.heap.objs.size := ⟨_, rfl⟩
  obtain ⟨cl, ecl⟩ : ∃ cl, cl = cellsFrom (sh3.heap.objs.size + 1) scope.names (cloFrom X.env.cells scope.names []) := ⟨_, rfl⟩
  obtain ⟨sh4, e4⟩ : ∃ sh4 : Shared, sh4 = { sh3 with heap := pushCells (sh3.heap.push { cls := .type "dict", data := .dict #[] }) scope.names } := ⟨_, rfl⟩
  rw [← ecl, ← eC, ← e4] at I4
  have at4 : ten 0 sh4.heap := T.keep _ _ _ at3 fun b _ o q => by rw [e4]; exact pushCells_keeps _ _ _ _ (Heap.get?_push_of_some _ q)
  have none3 : ∀ b ∈ feet, G3 b = none := fun b hb => (free3 b hb).1.1
  obtain ⟨Y, eY⟩ : ∃ Y, Y = X.blk sh3 G3 scope (compEnvC scope cl C X.env) feet := ⟨_, rfl⟩
  rw [← eY] at I4
  have held : ∀ {st' : L2.St} {G' : Hp} {sh' : Shared}, Inv Y [] st' G' sh' → (∀ b ∈ feet, G' b = none) → ∀ b ∈ feet, FpOk Y [] G' b := by
    subst eY
    exact fun {_ _ _} I' no b hb => ⟨no b hb, (I'.ok.exf b hb).1, I'.ok.exfs b hb, .inl hb, fun x c q => (I'.ok.exf b hb).2 x c q, fun p hp => absurd (show p ∈ ([] : List (Addr × Obj)) ++ [] from hp) (by simp)⟩
  have locC : (compEnvC scope cl C X.env).locals = C := rfl
  have loop : codeAny (model X.prog X.w) X.A (.compLoop (.DictComp kx vx [⟨tg, iter, ifs, 0⟩] scope pos) 0 (.ref it) (.ref sh2.heap.objs.size) (compEnvC scope cl C X.env)) (compPost (model X.prog X.w) X.A X.xe (some (assign (.Name y py) X.env)) (fun _ sh => wpAny (model X.prog X.w) X.A (pure ()) (fun _ sh => wpAny (model X.prog X.w) X.A (pure Flow.next) (SP X pp D0) X.xe sh) X.xe sh) (.ref sh2.heap.objs.size) C) sh4 := by
    subst eY
    refine compLoop_anyD (fun left sh => ∃ i G, Inv (X.blk sh3 G3 scope (compEnvC scope cl C X.env) feet) [] (wipe st (own.map (·.2))) G sh ∧ ten i sh.heap ∧ (∀ b ∈ feet, G b = none) ∧ W i left G) ?_ m0 ⟨0, G3, I4, at4, none3, w0⟩
    rintro left sh5 ⟨i, G5, I5, at5, no5, w5⟩
    rcases step i left G5 w5 with ⟨over, good⟩ | ⟨on, Nx, fewer, go⟩
    · -- the walk is over
      refine thnF (T.done (X.blk sh3 G3 scope (compEnvC scope cl C X.env) feet) rfl rfl rfl calm i [] sh5 _ G5 (fun _ _ => False) I5 (held I5 no5) at5 over) fun r sh6 ⟨er, I6⟩ => ?_
      subst er
      have I7 : Inv X pp st G5 sh6 := I3.call' (ch := feet) I6.os I6.base I6.hok I6.bare fun b hb => let f := (free3 b hb).1.2; ⟨f.2.2.1, f.1, f.2.2.2.1, f.2.2.2.2⟩
      have noC : G5 C = none := I6.free
      obtain ⟨m, names, _⟩ := I6.loc
      obtain ⟨oC, esC, epC, hoC, hdC, restC⟩ := id names
      have pinC := I7.pinned (fp := [C]) (fun b hb => by rw [List.mem_singleton.mp hb]; exact I3.fpOk (Nat.le_of_eq eC.symm) noC) (fun b hb => by rw [List.mem_singleton.mp hb]; exact ⟨oC, hoC, fun v q => by rw [hdC] at q; cases q⟩)
      refine thn ((pg_name diff hN (.inl hv) (Or.inr hv)).run _ sh6 st G5 (.ref sh2.heap.objs.size) (.ref sh2.heap.objs.size) _ pinC rfl good) fun _ sh7 ⟨st7, G7, I8, q8⟩ => ?_
      have hp := I8.pin (C, oC) (List.mem_append_right _ (List.mem_append_right _ (mem_pinsAt (List.mem_singleton.mpr rfl) hoC)))
      obtain ⟨f0, f1, f2, f3, f4, f5⟩ := I3.fpOk (Nat.le_of_eq eC.symm) hp.2.1
      exact ⟨m, ⟨oC, esC, epC, hp.1, hdC, restC⟩, fun h'' sb => wpAny_pure (wpAny_pure ⟨st7, G7, I8.unpinned.turned (t' := sh7.toks) (fun b o hb q => (sb.2 b hb).trans q) f0 f1 f3 f4 f5, q8⟩)⟩
    · -- one turn
      refine thnF (T.item (X.blk sh3 G3 scope (compEnvC scope cl C X.env) feet) rfl rfl rfl calm i [] sh5 _ G5 (fun _ _ => False) I5 (held I5 no5) at5 on) fun r sh6 ⟨u, er, rest⟩ => ?_
      subst er
      refine thnF rest fun _ sh7 ⟨x, G7, I7, rx, y7, at7, no7⟩ => ?_
      have P7 := I7.pinned (held I7 no7) (T.obj _ _ at7)
      refine thnF ((aim sh3 G3 C cl feet).run _ sh7 _ G7 x u _ P7 rx (go x G7 y7)) fun _ sh8 ⟨st8, G8, I8, same8, q8⟩ => ?_
      refine thnF ((tests sh3 G3 C cl feet).run _ sh8 st8 G8 _ I8 q8) fun yes sh9 ⟨G9, I9, q9⟩ => ?_
      have back : ∀ {sh' : Shared} {G' : Hp}, Inv (X.blk sh3 G3 scope (compEnvC scope cl C X.env) feet) ([] ++ pinsAt feet sh7.heap) st8 G' sh' → Nx G' →
          ∃ m, m < left ∧ ∃ i G, Inv (X.blk sh3 G3 scope (compEnvC scope cl C X.env) feet) [] (wipe st (own.map (·.2))) G sh' ∧ ten i sh'.heap ∧ (∀ b ∈ feet, G b = none) ∧ W i m G := by
        intro sh' G' I' nx
        obtain ⟨m', less, w'⟩ := fewer G' nx
        have pin : ∀ b ∈ feet, ∀ o, sh7.heap.get? b = some o → sh'.heap.get? b = some o ∧ G' b = none := fun b hb o q => by
          have z := I'.pin (b, o) (List.mem_append_right _ (List.mem_append_right _ (mem_pinsAt hb q)))
          exact ⟨z.1, z.2.1⟩
        have len : (wipe st (own.map (·.2))).length = st8.length := by rw [← same8, wipe_length]
        refine ⟨m', less, i + 1, G', (I'.unpinned (pins := [])).weak len (fun j v q => ?_), T.keep _ _ _ at7 fun b hb o q => (pin b hb o q).1, fun b hb => ?_, w'⟩
        · rw [← same8] at q
          exact (wipe_some q).1
        · obtain ⟨o, q, _⟩ := T.obj _ _ at7 b hb
          exact (pin b hb o q).2
      cases yes with
      | false => exact back I9 q9
      | true =>
        refine thnF ((keys sh3 G3 C cl feet).run _ sh9 st8 G9 _ I9 q9) fun ku sh10 ⟨yk, G10, I10, rk, q10⟩ => ?_
        refine thnF ((vals sh3 G3 C cl feet).run _ sh10 st8 G10 _ I10 q10) fun vu sh11 ⟨yv, G11, I11, rv, kvs, k, b, ek, hb, hD, few, nx⟩ => ?_
        subst ek
        obtain rfl : ku = .ref b := rk
        exact put_tup (X := X.blk sh3 G3 scope (compEnvC scope cl C X.env) feet) roomy I11 hD few hb rv fun sh12 I12 => back I12 nx
  show codeAny _ _ (.compStart (.DictComp kx vx [⟨tg, iter, ifs, 0⟩] scope pos) 0 (.ref it) (.ref sh2.heap.objs.size) (compEnvC scope (cellsFrom (sh2.heap.push { cls := .type "dict", data := .dict #[] }).objs.size.succ scope.names (cloFrom X.env.cells scope.names [])) (sh2.heap.push { cls := .type "dict", data := .dict #[] }).objs.size X.env)) _ _
  rw [heap3] at eC ecl
  subst e3
  subst e4 ecl eC
  exact codeAny_compStart_dict loop (T.self X.A 0 _ _ _ at4 loop)
end
theorem sw_trueD {kx vx : Expr} {gs : List Comprehension} {scope : Scope} {pos py : Pos} {y : Str} {l : Nat} {env : Env} (h1 : env.scope.kind = ScopeKind.function) (h2 : List.lookup y env.scope.names = some NameKind.local) (h3 : (py.line == pos.line) = true)
   (h4 : (scope.names.any fun x => match x with | (n, k) => n == y && (k == NameKind.local || k == NameKind.cell)) = false) : swapsWith (.DictComp kx vx gs scope pos) (some (.Name y py)) l env = pure true := sw_true (elt := kx) (gs := gs) (l := l) h1 h2 h3 h4
end HR
set_option maxRecDepth 100000
set_option maxHeartbeats 4000000
/-! a + b of tuples, a empty or not, b not empty; calls by one of two rules -/
namespace HR
open PySem PySem.Spec PyProof.Rows L2
def rCatTx (K : PySem.W.Frag) : R2 := fun x y H Q => ∃ (a b : Addr) (xs ys : List V), x = .ref a ∧ y = .ref b ∧ SqT K H a xs ∧ SqT K H b ys ∧ ys ≠ [] ∧ xs.length + ys.length ≤ sizeLine ∧ (xs = [] → Q (.ref b) H) ∧ (xs ≠ [] → ∀ p : Addr, H p = none → Q (.ref p) (upd H p (.tup (xs ++ ys))))
theorem op_catTx {X : Cx} {K : PySem.W.Frag} (hK : X.K = K := by rfl) : OpR X (binaryOp .Add) (rCatTx K) := by
  subst hK
  intro pins s σ H x y v u Q I rx ry h
  obtain ⟨a, b, xs, ys, rfl, rfl, ha, hb, ny, few, q0, q1⟩ := h
  cases xs with
  | cons x0 xr => exact op_catT pins s σ H _ _ v u Q I rx ry ⟨a, b, _, ys, rfl, rfl, ha, hb, List.cons_ne_nil _ _, few, fun e => absurd e ny, fun _ => q1 (List.cons_ne_nil _ _)⟩
  | nil =>
    cases rx
    cases ry
    obtain ⟨i1, v1, t1, _⟩ := I.tuple ha
    obtain ⟨i2, v2, t2, _⟩ := I.tuple hb
    have e1 : i1 = [] := List.eq_nil_of_length_eq_zero (by rw [← v1.length]; rfl)
    subst e1
    refine wpAny_binaryOp_concat t1.typeIs t2.typeIs noFill_tuple_add seq_tuple_add ?_
    obtain ⟨⟨c1, dd1, da1, sl1⟩, g1, k1, n1, d1⟩ := id t1
    obtain ⟨⟨c2, dd2, da2, sl2⟩, g2, k2, n2, d2⟩ := id t2
    dsimp only at k1 k2 d1 d2
    subst k1 k2 d1 d2
    exact call_meetsIn F.slot_tuple_add t1.typeIs F.entry_tuple_add (F.args_tuple_add_2 _ _) ((tuple_addW0 a b #[] _ n1 n2 dd1 dd2 sl1 sl2 rfl).inModel _ _) ⟨g1, g2, ⟨.ref b, H, I, rfl, q0 rfl⟩⟩
theorem cr_or {X : Cx} {f : Value} {r1 r2 : List V → Hp → VK → Prop} (h1 : CallR X f r1) (h2 : CallR X f r2) : CallR X f (fun vs H Q => r1 vs H Q ∨ r2 vs H Q) := by
  intro pins s σ H vs us Q I r h
  rcases h with h | h
  · exact h1 pins s σ H vs us Q I r h
  · exact h2 pins s σ H vs us Q I r h
end HR
set_option maxRecDepth 100000
set_option maxHeartbeats 4000000
namespace GP
open PySem PySem.Spec PyProof.Rows L2
section
variable {P : Program} {w : World} {K : PySem.W.Frag} {mg mb : Str → Option Value} {k : Nat} {fa script : Addr} {fd : FuncData} {x : Str} {sp : Sp} {st : Shared} {cells : List Value} {ns : List Int}
def Fin0 (st : Shared) : Except Value Flow → Shared → Prop := fun r s2 => r = .ok (.ret (.bool true)) ∧ OldK st.heap s2.heap ∧ s2.os = st.os ∧ AllBare s2.gens
/-- the law, from a heap in which at most the script is told -/
theorem law_part (inK : K.In st.heap) (g1 : st.heap.Ns mainGlobals mg) (g2 : st.heap.Ns builtinsNs mb) (g3 : ∀ x : Str, x ≠ "__name__" → mb x = bootBuiltins x) (g4 : st.heap.NoLimit) (g5 : st.gens = #[])
    (is : st.heap.get? script = some { cls := .type "list", data := .seq cells.toArray }) (room : Room k callerA) (F : ∀ base : Heap, K.In base → base.Ns mainGlobals mg → FnG P w K mg base k fa fd [x] sp) (bind : ∀ (s : Shared) (u : Value), BindsTo s fd ⟨[u], []⟩ [(x, u)])
    (H : Hp) (only : Only H) (h : sp [.ref script] H (fun v _ => v = .bl true) fun _ _ _ => False) (ok : HOk P w H st.heap) (one : ∀ b, H b ≠ none → b = script) (notK : H script ≠ none → K.lookup script = none) :
    codeAny (model P w) callerA (.call (.ref fa) ⟨[.ref script], []⟩) (Fin0 st) st := by
  have seen : ∀ {b : Addr} {o : Obj}, st.heap.get? b = some o → H b = none → (hidT st.heap H).get? b = some o := fun a1 a2 => hidT_get a1 a2
  have free : ∀ {b : Addr} {o : Obj} {es : Array DictEntry} {ep : Nat}, st.heap.get? b = some o → o.data = .dict es ep → H b = none := by
    intro b o es ep a1 a2
    rcases e : H b with _ | u
    · rfl
    · have := one b (by rw [e]; exact fun z => nomatch z)
      rw [this, is] at a1
      rw [← Option.some.inj a1] at a2
      cases a2
  have names : ∀ {b : Addr} {m : Str → Option Value}, st.heap.Ns b m → (hidT st.heap H).Ns b m := by
    rintro b m ⟨o, es, ep, a1, a2, a3⟩
    exact ⟨o, es, ep, seen a1 (free a1 a2), a2, a3⟩
  have inB : K.In (hidT st.heap H) := by
    intro b o a1
    refine seen (inK b o a1) ?_
    rcases e : H b with _ | u
    · rfl
    · have := one b (by rw [e]; exact fun z => nomatch z)
      rw [this] at e a1
      rw [notK (by rw [e]; exact fun z => nomatch z)] at a1
      cases a1
  obtain ⟨mc, c1, c2⟩ := g4
  have M : Mod K mg (hidT st.heap H) := ⟨inB, names g1, ⟨mb, names g2, g3⟩, ⟨mc, names c1, c2⟩⟩
  have e0 : Env0 P w K mg (hidT st.heap H) callerA [] st H := ⟨rfl, M, fun b o e => of_hidT e, Nat.le_of_eq (hidT_size _ _), trivial, fun b hb => absurd hb List.not_mem_nil, ok, .of_eq g5⟩
  have R := (F _ inB (names g1)).run callerA [] st H ⟨[.ref script], []⟩ [.ref script] [.ref script] _ _ room rfl e0 (bind st (.ref script)) (.cons rfl .nil) h
  refine codeAny_mono R fun r s2 z => ?_
  match r, z with
  | .error e, z => exact absurd z (fun y => by exact y.elim)
  | .ok .next, z => exact z.elim
  | .ok .brk, z => exact z.elim
  | .ok .cont, z => exact z.elim
  | .ok (.ret u), ⟨v, H2, os, bare, un, ok2, ru, hv⟩ =>
    have hv2 : v = .bl true := hv
    rw [hv2] at ru
    have ru2 : u = Value.bool true := ru
    rw [ru2]
    refine ⟨rfl, OldK.of_keep fun b o a1 => ?_, os, bare⟩
    rcases e : H b with _ | t
    · exact un.keep b o a1 e (fun z => absurd z List.not_mem_nil) List.not_mem_nil
    · rcases only b with z | ⟨ob, xs, z⟩
      · rw [e] at z; cases z
      · have f1 := (ok b _ z).1
        have f2 := (ok2 b _ (un.frzs b ob _ z)).1
        rw [a1] at f1
        rw [Option.some.inj f1]
        exact f2
theorem law_whole (inK : K.In st.heap) (g1 : st.heap.Ns mainGlobals mg) (g2 : st.heap.Ns builtinsNs mb) (g3 : ∀ x : Str, x ≠ "__name__" → mb x = bootBuiltins x) (g4 : st.heap.NoLimit) (g5 : st.gens = #[])
    (is : st.heap.get? script = some { cls := .type "list", data := .seq cells.toArray }) (nums : IntsAre cells ns) (few : ns.length ≤ sizeLine) (room : Room k callerA) (F : ∀ base : Heap, K.In base → base.Ns mainGlobals mg → FnG P w K mg base k fa fd [x] sp)
    (bind : ∀ (s : Shared) (u : Value), BindsTo s fd ⟨[u], []⟩ [(x, u)]) (h : ∀ H : Hp, Only H → SqL K H script (ns.map V.int) → sp [.ref script] H (fun v _ => v = .bl true) fun _ _ _ => False) :
    codeAny (model P w) callerA (.call (.ref fa) ⟨[.ref script], []⟩) (Fin0 st) st := by
  have vals := vals_ints nums
  have len := nums.length
  rcases e : K.lookup script with _ | o
  · let ob : Obj := { cls := .type "list", data := .seq cells.toArray }
    let G : Hp := fun b => if b = script then some (.frz ob (.lst (ns.map V.int))) else none
    have at1 : G script = some (.frz ob (.lst (ns.map V.int))) := if_pos rfl
    have at2 : ∀ b, b ≠ script → G b = none := fun b n => if_neg n
    refine law_part inK g1 g2 g3 g4 g5 is room F bind G (fun b => ?_) (h G (fun b => ?_) (.inl (.inr ⟨ob, at1⟩))) (fun b u z => ?_) (fun b z => ?_) fun _ => e
    · by_cases n : b = script
      · exact .inr ⟨ob, _, by rw [n]; exact at1⟩
      · exact .inl (at2 b n)
    · by_cases n : b = script
      · exact .inr ⟨ob, _, by rw [n]; exact at1⟩
      · exact .inl (at2 b n)
    · by_cases n : b = script
      · subst n
        cases at1.symm.trans z
        exact ⟨is, by rw [List.length_map]; exact few, cells, _, vals, is⟩
      · cases (at2 b n).symm.trans z
    · by_cases n : b = script
      · exact n
      · exact absurd (at2 b n) z
  · have mine := inK script o e
    rw [is] at mine
    cases mine
    let G : Hp := fun _ => none
    exact law_part inK g1 g2 g3 g4 g5 is room F bind G (fun _ => .inl rfl) (h G (fun _ => .inl rfl) (.inr ⟨_, cells.toArray, _, e, rfl, rfl, rfl, by rw [List.size_toArray, len]; exact few, by simpa using vals⟩)) (fun _ _ z => nomatch z) (fun _ z => absurd rfl z) fun z => absurd rfl z
end
theorem walk_ofG {l : PySem.W.OpenLaw} {n k : Nat} {q : Program} {loose : List Str} {XP : (Str → Option Value) → Heap → Prop} {YP : World → Heap → Prop} {d : DefRec} {K : Params → PySem.W.Frag} {sp : World → Sp} {x : Str}
    (most : l.most = some n) (few : n ≤ sizeLine) (plain : d.params.defaults = []) (room : Room k callerA) (inK : ∀ (w : World) (h : Heap), YP w h → (K w.params).In h)
    (F : ∀ (w : World) (mg : Str → Option Value) (fa : Addr) (h : Heap), (K w.params).In h → h.Ns mainGlobals mg → mg d.name = some (.ref fa) →
      ∃ fd : FuncData, (∀ (s : Shared) (u : Value), BindsTo s fd ⟨[u], []⟩ [(x, u)]) ∧ ∀ base : Heap, (K w.params).In base → base.Ns mainGlobals mg → FnG l.prog w (K w.params) mg base k fa fd [x] (sp w))
    (h : ∀ (w : World) (H : Hp) (a : Addr) (ns : List Int), ns.length ≤ n → Only H → SqL (K w.params) H a (ns.map V.int) → sp w [.ref a] H (fun v _ => v = .bl true) fun _ _ _ => False) :
    PySem.W.WalkO q loose XP YP l.row.toRowW d [] (fun f vs => PySem.call f vs) := by
  refine Att.attach_call most plain fun w _ _ mg _ fa _ _ _ _ a cells ns S Y _ _ _ named is nums len gens => ?_
  obtain ⟨fd, bind, G⟩ := F w mg fa _ (inK w _ Y) S.T.g named
  exact law_whole (inK w _ Y) S.T.g S.T.b S.T.builtins S.T.nolimit gens is nums (Nat.le_trans len few) room G bind fun H only z => h w H a ns len only z
end GP
set_option maxRecDepth 100000
set_option maxHeartbeats 4000000
/-! which data repr may be asked of -/
namespace GP
open PySem PySem.Spec PyProof.Rows L2
structure Rp (n c : Nat) (d : PyData) : Prop where
  sh : d.showable = true
  nd : d.hasDict = false
  dp : d.depth ≤ n
  ln : d.shown.length ≤ c
theorem Rp.mono {n c m e : Nat} {d : PyData} (r : Rp n c d) (h1 : n ≤ m) (h2 : c ≤ e) : Rp m e d := ⟨r.sh, r.nd, Nat.le_trans r.dp h1, Nat.le_trans r.ln h2⟩
theorem Rp.none : Rp 0 4 .none := ⟨by simp [PyData.showable], by simp [PyData.hasDict], by simp [PyData.depth], by simp only [PyData.shown]; decide +kernel⟩
theorem Rp.int {i : Int} (h : i.natAbs.log2 < 1920) : Rp 0 1921 (.int i) := ⟨by simp only [PyData.showable]; exact decide_eq_true h, by simp [PyData.hasDict], by simp [PyData.depth], by simp only [PyData.shown]; exact int_text_len_1921 h⟩
theorem Rp.str {x : Str} (h : ∀ c ∈ x.cps.toList, c < 16 ^ 8) : Rp 0 (10 * x.length + 2) (.str x) := ⟨by simp [PyData.showable], by simp [PyData.hasDict], by simp [PyData.depth], by simp only [PyData.shown]; exact StrLaws.reprText_len x h⟩
theorem all_sh : ∀ {n c : Nat} {ds : List PyData}, (∀ d ∈ ds, Rp n c d) → PyData.showableAll ds = true ∧ PyData.hasDictAll ds = false ∧ PyData.depthAll ds ≤ n ∧ piled (PyData.shownAll ds) ≤ ds.length * (c + 2)
  | n, c, [], _ => ⟨by simp [PyData.showableAll], by simp [PyData.hasDictAll], by simp [PyData.depthAll], by simp [PyData.shownAll, piled]⟩
  | n, c, d :: ds, h => by
    have r := h d List.mem_cons_self
    obtain ⟨h1, h2, h3, h4⟩ := all_sh (n := n) (c := c) (ds := ds) fun x hx => h x (List.mem_cons_of_mem _ hx)
    refine ⟨by simp only [PyData.showableAll, r.sh, h1, Bool.and_self], by simp only [PyData.hasDictAll, r.nd, h2, Bool.or_self], ?_, ?_⟩
    · simp only [PyData.depthAll]
      exact Nat.max_le.mpr ⟨r.dp, h3⟩
    · simp only [PyData.shownAll]
      rw [piled_cons, List.length_cons, Nat.add_mul, Nat.one_mul]
      have := r.ln
      omega
theorem Rp.tuple {n c : Nat} {ds : List PyData} (h : ∀ d ∈ ds, Rp n c d) : Rp (n + 1) (ds.length * (c + 2) + 2) (.tuple ds) := by
  obtain ⟨h1, h2, h3, h4⟩ := all_sh h
  refine ⟨by simp only [PyData.showable, h1], by simp only [PyData.hasDict, h2], by simp only [PyData.depth]; omega, ?_⟩
  simp only [PyData.shown]
  exact Nat.le_trans (fmt_text _) (by omega)
theorem list_text (ts : List Str) : (listText ts).length ≤ piled ts + 2 := by
  have e1 : (("[" : Str)).length = 1 := rfl
  have e2 : (("]" : Str)).length = 1 := rfl
  rw [listText_eq_join, strLen_append, strLen_append, e1, e2]
  by_cases h : ts = []
  · subst h
    decide +kernel
  · have := join_length_add ts h
    omega
theorem Rp.list {n c : Nat} {ds : List PyData} (h : ∀ d ∈ ds, Rp n c d) : Rp (n + 1) (ds.length * (c + 2) + 2) (.list ds) := by
  obtain ⟨h1, h2, h3, h4⟩ := all_sh h
  refine ⟨by simp only [PyData.showable, h1], by simp only [PyData.hasDict, h2], by simp only [PyData.depth]; omega, ?_⟩
  simp only [PyData.shown]
  exact Nat.le_trans (list_text _) (by omega)
section
variable {X : Cx}
theorem call_reprR (gd : X.A.guards = some []) (hu : X.A.units + 70 < cLine) : CallR X (.builtin "repr") (fun xs H Q => ∃ p d n c, xs = [.ref p] ∧ Dp X.K H (.ref p) d ∧ Rp n c d ∧ n ≤ 60 ∧ c ≤ sizeLine ∧ Q (.str d.shown) H) := by
  intro pins s σ H xs us Q I r h
  obtain ⟨p, d, n, c, rfl, hd, rp, hn, hc, q⟩ := h
  exact call_reprD gd hu pins s σ H [.ref p] us Q I r ⟨p, d, rfl, hd, rp.sh, rp.nd, Nat.le_trans rp.dp hn, Nat.le_trans rp.ln hc, q⟩
end
end GP
set_option maxRecDepth 100000
set_option maxHeartbeats 4000000
namespace C8
open PySem L2 Evl GP HR
def top (i : Nat) : Stmt := PySem.Challenge.pw_ringclause_k38_least_hitting.main.body.getD i (.Pass ⟨0, 0, 0, 0⟩)
theorem at_lit {α : Type} {l : List α} {n : Nat} {z : Int} {v : α} (e : z = (n : Int)) (h : l[n]? = some v) : atI l z = some v := by
  rw [e]
  exact atI_nat h
theorem iteT' {c : Bool} {A B : Prop} (hc : c = true) (h : A) : if c = true then A else B := by
  rw [if_pos hc]
  exact h
theorem iteF' {c : Bool} {A B : Prop} (hc : c = false) (h : B) : if c = true then A else B := by
  rw [hc, if_neg Bool.false_ne_true]
  exact h
theorem ix_listK {X : Cx} {K : PySem.W.Frag} (h : X.K = K := by rfl) : IxR X (rIxL K) := by
  subst h
  exact ix_list
theorem op_notIn_seqK {X : Cx} {K : PySem.W.Frag} (h : X.K = K := by rfl) : OpR X (compareOp .NotIn) (rIn K true) := by
  subst h
  exact op_notIn_seq
theorem op_in_seqK {X : Cx} {K : PySem.W.Frag} (h : X.K = K := by rfl) : OpR X (compareOp .In) (rIn K false) := by
  subst h
  exact op_in_seq
theorem call_tuple_ofK {X : Cx} {K : PySem.W.Frag} (h : X.K = K := by rfl) : CallR X (.type "tuple") fun xs H Q => ∃ p ys, xs = [V.ref p] ∧ ((SqL K H p ys ∧ ∀ l : Addr, H l = none → Q (V.ref l) (upd H l (.tup ys))) ∨ SqT K H p ys ∧ Q (V.ref p) H) := by
  subst h
  exact call_tuple_of
theorem call_list_ofK {X : Cx} {K : PySem.W.Frag} (h : X.K = K := by rfl) : CallR X (.type "list") fun xs H Q => ∃ p ys, xs = [V.ref p] ∧ (SqL K H p ys ∨ SqT K H p ys) ∧ ∀ l : Addr, H l = none → Q (V.ref l) (upd H l (.lst ys)) := by
  subst h
  exact call_list_of
theorem call_len_seqK {X : Cx} {K : PySem.W.Frag} (h : X.K = K := by rfl) : CallR X (.builtin "len") fun xs H Q => ∃ p ys, xs = [V.ref p] ∧ (SqL K H p ys ∨ SqT K H p ys) ∧ Q (V.int (ys.length : Nat)) H := by
  subst h
  exact call_len_seq
theorem pi_tupK {X : Cx} {K : PySem.W.Frag} {tg l : Expr} {tl : TE} (he : PE X l tl) (h : X.K = K := by rfl) : PI X tg l (iTup K tl) := by
  subst h
  exact pi_tup he
theorem pi_listK {X : Cx} {K : PySem.W.Frag} {tg l : Expr} {tl : TE} (he : PE X l tl) (h : X.K = K := by rfl) : PI X tg l (iList K tl) := by
  subst h
  exact pi_list he
theorem pe_backK {X : Cx} {K : PySem.W.Frag} {e st : Expr} {te ts : TE} {p2 pos : Pos} (he : PE X e te) (hs : PE X st ts) (h : X.K = K := by rfl) : PE X (.Subscript e (.Slice none none (some st) p2) pos) (tBack K te ts) := by
  subst h
  exact pe_back he hs
theorem cr_sortedTIK {X : Cx} {K : PySem.W.Frag} (h : X.K = K := by rfl) : CallR X (.builtin "sorted") (rSortedTI K) := by
  subst h
  exact cr_sortedTI
theorem cr_setIK {X : Cx} {K : PySem.W.Frag} {w : World} (hc : X.calm = true := by rfl) (h : X.K = K := by rfl) (hw : X.w = w := by rfl) : CallR X (.type "set") (rSetI K w) := by
  subst h hw
  exact cr_setI hc
theorem cr_sortedSetK {X : Cx} {w : World} (hc : X.calm = true := by rfl) (hw : X.w = w := by rfl) : CallR X (.builtin "sorted") (rSortedSet w) := by
  subst hw
  exact cr_sortedSet hc
theorem cr_anyK {X : Cx} {K : PySem.W.Frag} (hc : X.calm = true := by rfl) (h : X.K = K := by rfl) : CallR X (.builtin "any") (rAny K) := by
  subst h
  exact cr_any hc
theorem cr_sumK {X : Cx} {K : PySem.W.Frag} (hc : X.calm = true := by rfl) (h : X.K = K := by rfl) : CallR X (.builtin "sum") (rSum K) := by
  subst h
  exact cr_sum hc
theorem ix_tupK {X : Cx} {K : PySem.W.Frag} (h : X.K = K := by rfl) : IxR X (rIxT K) := by
  subst h
  exact ix_tup
theorem ix_seqK {X : Cx} {K : PySem.W.Frag} (h : X.K = K := by rfl) : IxR X (rIx K) := by
  subst h
  exact ix_seq
theorem op_catTK {X : Cx} {K : PySem.W.Frag} (h : X.K = K := by rfl) : OpR X (binaryOp .Add) (rCatT K) := by
  subst h
  exact op_catT
theorem hu65 {k : Nat} {A : Around} (r : Room k A) : A.units + 65 < cLine := by have := r.un; omega
theorem hu70 {k : Nat} {A : Around} (r : Room k A) : A.units + 70 < cLine := by have := r.un; omega
theorem hu1 {k : Nat} {A : Around} (r : Room k A) : A.units < cLine := by have := r.un; omega
abbrev s_least_hitting : Stmt := top 1
theorem sc_least_hitting : FnScope ["sets", "weights", "rows", "best", "positions"] ["sets", "weights"] (defScope s_least_hitting) := ⟨rfl, rfl, rfl, by decide +kernel, rfl, by decide +kernel, by decide +kernel⟩
abbrev s_costs_of : Stmt := top 2
theorem sc_costs_of : FnScope ["weights", "many", "position", "weight"] ["weights"] (defScope s_costs_of) := ⟨rfl, rfl, rfl, by decide +kernel, rfl, by decide +kernel, by decide +kernel⟩
abbrev s_better_hitting : Stmt := top 3
theorem sc_better_hitting : FnScope ["rows", "costs", "chosen", "spent", "best", "tried", "position", "others", "row", "other"] ["rows", "costs", "chosen", "spent", "best"] (defScope s_better_hitting) := ⟨rfl, rfl, rfl, by decide +kernel, rfl, by decide +kernel, by decide +kernel⟩
abbrev s_unavoidable_cost : Stmt := top 4
theorem sc_unavoidable_cost : FnScope ["rows", "costs", "total", "used", "row", "position"] ["rows", "costs"] (defScope s_unavoidable_cost) := ⟨rfl, rfl, rfl, by decide +kernel, rfl, by decide +kernel, by decide +kernel⟩
abbrev s_law_bag : Stmt := top 6
theorem sc_law_bag : FnScope ["script", "place", "cell", "rest"] ["script", "place"] (defScope s_law_bag) := ⟨rfl, rfl, rfl, by decide +kernel, rfl, by decide +kernel, by decide +kernel⟩
abbrev s_law_take : Stmt := top 7
theorem sc_law_take : FnScope ["bag", "size", "digit", "first", "second", "third"] ["bag", "size"] (defScope s_law_take) := ⟨rfl, rfl, rfl, by decide +kernel, rfl, by decide +kernel, by decide +kernel⟩
abbrev s_law_tuples : Stmt := top 8
theorem sc_law_tuples : FnScope ["count", "found", "place", "one"] ["count"] (defScope s_law_tuples) := ⟨rfl, rfl, rfl, by decide +kernel, rfl, by decide +kernel, by decide +kernel⟩
abbrev s_law_hits : Stmt := top 9
theorem sc_law_hits : FnScope ["one", "sets", "row", "place"] ["one", "sets"] (defScope s_law_hits) := ⟨rfl, rfl, rfl, by decide +kernel, rfl, by decide +kernel, by decide +kernel⟩
abbrev s_law_best : Stmt := top 10
theorem sc_law_best : FnScope ["sets", "prices", "best", "one", "mark", "place"] ["sets", "prices"] (defScope s_law_best) := ⟨rfl, rfl, rfl, by decide +kernel, rfl, by decide +kernel, by decide +kernel⟩
abbrev s_law_same : Stmt := top 11
theorem sc_law_same : FnScope ["actual", "due"] ["actual", "due"] (defScope s_law_same) := ⟨rfl, rfl, rfl, by decide +kernel, rfl, by decide +kernel, by decide +kernel⟩
abbrev s_law_kind : Stmt := top 12
theorem sc_law_kind : FnScope ["bag", "row"] ["bag", "row"] (defScope s_law_kind) := ⟨rfl, rfl, rfl, by decide +kernel, rfl, by decide +kernel, by decide +kernel⟩
abbrev s_law_prices : Stmt := top 13
theorem sc_law_prices : FnScope ["bag", "count", "far", "turn"] ["bag"] (defScope s_law_prices) := ⟨rfl, rfl, rfl, by decide +kernel, rfl, by decide +kernel, by decide +kernel⟩
abbrev s_law_sets : Stmt := top 14
theorem sc_law_sets : FnScope ["bag", "count", "sets", "turn", "size", "place"] ["bag", "count"] (defScope s_law_sets) := ⟨rfl, rfl, rfl, by decide +kernel, rfl, by decide +kernel, by decide +kernel⟩
abbrev s_law_asked : Stmt := top 15
theorem sc_law_asked : FnScope ["bag", "sets", "prices", "due", "rows", "kept_rows", "handed", "weights", "row"] ["bag", "sets", "prices", "due"] (defScope s_law_asked) := ⟨rfl, rfl, rfl, by decide +kernel, rfl, by decide +kernel, by decide +kernel⟩
abbrev s_law : Stmt := top 16
theorem sc_law : FnScope ["script", "bag", "prices", "sets", "due", "kinds", "at", "more", "rest", "place", "row"] ["script"] (defScope s_law) := ⟨rfl, rfl, rfl, by decide +kernel, rfl, by decide +kernel, by decide +kernel⟩
/-- where the defs stand -/
structure Ad where
  a_least_hitting : Addr
  a_costs_of : Addr
  a_better_hitting : Addr
  a_unavoidable_cost : Addr
  a_law_bag : Addr
  a_law_take : Addr
  a_law_tuples : Addr
  a_law_hits : Addr
  a_law_best : Addr
  a_law_same : Addr
  a_law_kind : Addr
  a_law_prices : Addr
  a_law_sets : Addr
  a_law_asked : Addr
  a_law : Addr
structure Fd where
  a_least_hitting : FuncData
  a_costs_of : FuncData
  a_better_hitting : FuncData
  a_unavoidable_cost : FuncData
  a_law_bag : FuncData
  a_law_take : FuncData
  a_law_tuples : FuncData
  a_law_hits : FuncData
  a_law_best : FuncData
  a_law_same : FuncData
  a_law_kind : FuncData
  a_law_prices : FuncData
  a_law_sets : FuncData
  a_law_asked : FuncData
  a_law : FuncData
structure TX (K : PySem.W.Frag) (mg : Str → Option Value) (a : Ad) : Prop where
  b_int : mg "int" = none
  b_tuple : mg "tuple" = none
  b_list : mg "list" = none
  b_set : mg "set" = none
  b_len : mg "len" = none
  b_range : mg "range" = none
  b_sorted : mg "sorted" = none
  b_min : mg "min" = none
  b_sum : mg "sum" = none
  b_any : mg "any" = none
  b_enumerate : mg "enumerate" = none
  b_repr : mg "repr" = none
  f_least_hitting : mg "least_hitting" = some (.ref a.a_least_hitting)
  k_least_hitting : PySem.W.keepIn K (.ref a.a_least_hitting) = true
  f_costs_of : mg "costs_of" = some (.ref a.a_costs_of)
  k_costs_of : PySem.W.keepIn K (.ref a.a_costs_of) = true
  f_better_hitting : mg "better_hitting" = some (.ref a.a_better_hitting)
  k_better_hitting : PySem.W.keepIn K (.ref a.a_better_hitting) = true
  f_unavoidable_cost : mg "unavoidable_cost" = some (.ref a.a_unavoidable_cost)
  k_unavoidable_cost : PySem.W.keepIn K (.ref a.a_unavoidable_cost) = true
  f__law_bag : mg "_law_bag" = some (.ref a.a_law_bag)
  k__law_bag : PySem.W.keepIn K (.ref a.a_law_bag) = true
  f__law_take : mg "_law_take" = some (.ref a.a_law_take)
  k__law_take : PySem.W.keepIn K (.ref a.a_law_take) = true
  f__law_tuples : mg "_law_tuples" = some (.ref a.a_law_tuples)
  k__law_tuples : PySem.W.keepIn K (.ref a.a_law_tuples) = true
  f__law_hits : mg "_law_hits" = some (.ref a.a_law_hits)
  k__law_hits : PySem.W.keepIn K (.ref a.a_law_hits) = true
  f__law_best : mg "_law_best" = some (.ref a.a_law_best)
  k__law_best : PySem.W.keepIn K (.ref a.a_law_best) = true
  f__law_same : mg "_law_same" = some (.ref a.a_law_same)
  k__law_same : PySem.W.keepIn K (.ref a.a_law_same) = true
  f__law_kind : mg "_law_kind" = some (.ref a.a_law_kind)
  k__law_kind : PySem.W.keepIn K (.ref a.a_law_kind) = true
  f__law_prices : mg "_law_prices" = some (.ref a.a_law_prices)
  k__law_prices : PySem.W.keepIn K (.ref a.a_law_prices) = true
  f__law_sets : mg "_law_sets" = some (.ref a.a_law_sets)
  k__law_sets : PySem.W.keepIn K (.ref a.a_law_sets) = true
  f__law_asked : mg "_law_asked" = some (.ref a.a_law_asked)
  k__law_asked : PySem.W.keepIn K (.ref a.a_law_asked) = true
  f_law : mg "law" = some (.ref a.a_law)
  k_law : PySem.W.keepIn K (.ref a.a_law) = true
structure FDS (K : PySem.W.Frag) (a : Ad) (d : Fd) : Prop where
  F_least_hitting : Fun K "least_hitting" "least_hitting" s_least_hitting a.a_least_hitting d.a_least_hitting
  B_least_hitting : Binds K d.a_least_hitting ["sets", "weights"] []
  F_costs_of : Fun K "costs_of" "costs_of" s_costs_of a.a_costs_of d.a_costs_of
  B_costs_of : Binds K d.a_costs_of ["weights"] []
  F_better_hitting : Fun K "better_hitting" "better_hitting" s_better_hitting a.a_better_hitting d.a_better_hitting
  B_better_hitting : Binds K d.a_better_hitting ["rows", "costs", "chosen", "spent", "best"] []
  F_unavoidable_cost : Fun K "unavoidable_cost" "unavoidable_cost" s_unavoidable_cost a.a_unavoidable_cost d.a_unavoidable_cost
  B_unavoidable_cost : Binds K d.a_unavoidable_cost ["rows", "costs"] []
  F__law_bag : Fun K "_law_bag" "_law_bag" s_law_bag a.a_law_bag d.a_law_bag
  B__law_bag : Binds K d.a_law_bag ["script", "place"] []
  F__law_take : Fun K "_law_take" "_law_take" s_law_take a.a_law_take d.a_law_take
  B__law_take : Binds K d.a_law_take ["bag", "size"] []
  F__law_tuples : Fun K "_law_tuples" "_law_tuples" s_law_tuples a.a_law_tuples d.a_law_tuples
  B__law_tuples : Binds K d.a_law_tuples ["count"] []
  F__law_hits : Fun K "_law_hits" "_law_hits" s_law_hits a.a_law_hits d.a_law_hits
  B__law_hits : Binds K d.a_law_hits ["one", "sets"] []
  F__law_best : Fun K "_law_best" "_law_best" s_law_best a.a_law_best d.a_law_best
  B__law_best : Binds K d.a_law_best ["sets", "prices"] []
  F__law_same : Fun K "_law_same" "_law_same" s_law_same a.a_law_same d.a_law_same
  B__law_same : Binds K d.a_law_same ["actual", "due"] []
  F__law_kind : Fun K "_law_kind" "_law_kind" s_law_kind a.a_law_kind d.a_law_kind
  B__law_kind : Binds K d.a_law_kind ["bag", "row"] []
  F__law_prices : Fun K "_law_prices" "_law_prices" s_law_prices a.a_law_prices d.a_law_prices
  B__law_prices : Binds K d.a_law_prices ["bag"] []
  F__law_sets : Fun K "_law_sets" "_law_sets" s_law_sets a.a_law_sets d.a_law_sets
  B__law_sets : Binds K d.a_law_sets ["bag", "count"] []
  F__law_asked : Fun K "_law_asked" "_law_asked" s_law_asked a.a_law_asked d.a_law_asked
  B__law_asked : Binds K d.a_law_asked ["bag", "sets", "prices", "due"] []
  F_law : Fun K "law" "law" s_law a.a_law d.a_law
  B_law : Binds K d.a_law ["script"] []
end C8
set_option maxRecDepth 100000
set_option maxHeartbeats 8000000
namespace C8
open PySem L2 Evl GP HR
/-- all but b is as it was -/
structure Kp (b : Addr) (H H' : Hp) : Prop where
  k : ∀ a o, a ≠ b → H a = some o → H' a = some o
theorem Kp.refl (b : Addr) (H : Hp) : Kp b H H := ⟨fun _ _ _ h => h⟩
theorem Kp.trans {b : Addr} {H H1 H2 : Hp} (x : Kp b H H1) (y : Kp b H1 H2) : Kp b H H2 := ⟨fun a o n h => y.k a o n (x.k a o n h)⟩
theorem Kp.ex {b : Addr} {H H1 : Hp} (x : Ex H H1) : Kp b H H1 := ⟨fun a o _ h => x a o h⟩
theorem Kp.mut {b l : Addr} {H H' : Hp} {o : HO} (x : Kp b H H') (hl : H l = none) : Kp b H (upd H' l o) := ⟨fun a u n h => by
  rw [upd_ne (ne_of_none h hl)]
  exact x.k a u n h⟩
theorem Kp.box {b : Addr} {H : Hp} {o : HO} : Kp b H (upd H b o) := ⟨fun a u n h => by rw [upd_ne n]; exact h⟩
def Bx (b : Addr) (H : Hp) : Prop := ∃ r m q t : Int, H b = some (.lst [.int r, .int m, .int q, .int t]) ∧ 0 ≤ r
theorem Bx.ex {b : Addr} {H H1 : Hp} (x : Bx b H) (e : Ex H H1) : Bx b H1 := by
  obtain ⟨r, m, q, t, h, r0⟩ := x
  exact ⟨r, m, q, t, e _ _ h, r0⟩
theorem Bx.ne {b l : Addr} {H : Hp} (x : Bx b H) (hl : H l = none) : l ≠ b := by
  obtain ⟨r, m, q, t, h, _⟩ := x
  exact (ne_of_none h hl).symm
theorem Bx.upd {b l : Addr} {H : Hp} {o : HO} (x : Bx b H) (n : l ≠ b) : Bx b (upd H l o) := by
  obtain ⟨r, m, q, t, h, r0⟩ := x
  exact ⟨r, m, q, t, by rw [upd_ne n.symm]; exact h, r0⟩
theorem Kp.at {b : Addr} {H0 H H' : Hp} (y : Kp b H H') {a : Addr} {o : HO} (X : Bx b H0) (n : H0 a = none) (h : H a = some o) : H' a = some o := y.k a o (X.ne n) h
theorem Kp.back {b : Addr} {H H1 : Hp} {l : Addr} (k : Kp b H H1) (X : Bx b H1) (h : H1 l = none) : H l = none := by
  cases e : H l with
  | none => rfl
  | some o =>
    have := k.k l o (X.ne h) e
    rw [h] at this
    cases this
/-- tuples stay -/
theorem Kp.tup {b : Addr} {H H' : Hp} (k : Kp b H H') (X : Bx b H) {t : Addr} {vs : List V} (h : H t = some (.tup vs)) : H' t = some (.tup vs) := k.k t _ (fun e => by
  obtain ⟨r, m, q, u, hb, _⟩ := X
  rw [e, hb] at h
  cases h) h
theorem cut_map {α : Type} (f : α → V) (xs : List α) (lo hi : Option Int) : ∃ zs : List α, cutV (xs.map f) lo hi = zs.map f ∧ zs.Sublist xs ∧ zs = (xs.drop (HT.sIx xs.length 0 lo)).take (HT.sIx xs.length xs.length hi - HT.sIx xs.length 0 lo) := by
  refine ⟨(xs.drop (HT.sIx xs.length 0 lo)).take (HT.sIx xs.length xs.length hi - HT.sIx xs.length 0 lo), ?_, ?_, rfl⟩
  · unfold cutV
    rw [List.length_map, List.map_take, List.map_drop]
  · exact (List.take_sublist _ _).trans (List.drop_sublist _ _)
def spBag (K : PySem.W.Frag) : Sp := fun vs H Q _ => ∃ (a : Addr) (ns : List Int) (place : Nat), vs = [.ref a, .int (place : Int)] ∧ SqL K H a (ns.map V.int) ∧ ∀ b H', Ex H H' → H b = none → Bx b H' → Q (.ref b) H'
def spTake : Sp := fun vs H Q _ => ∃ (b : Addr) (size : Int), vs = [.ref b, .int size] ∧ Bx b H ∧ 0 < size ∧ size < 1073741824 ∧ ∀ (d : Int) H', Kp b H H' → Bx b H' → 0 ≤ d → d < size → Q (.int d) H'
section
variable {P : Program} {w : World} {K : PySem.W.Frag} {mg : Str → Option Value} {base : Heap} {a : Ad} {d : Fd}
theorem ok_law_take (T : TX K mg a) (D : FDS K a d) : FnOk P w K mg base CX0 1 a.a_law_take d.a_law_take ["bag", "size"] spTake := by
  refine D.F__law_take.ok sc_law_take (fun vs H Q E h => ?_) (fun cdv A outer s H vs Q E hr h => ?_)
  · obtain ⟨b, size, rfl, _⟩ := h
    rfl
  · obtain ⟨b, size, rfl, ⟨r, m, q, t, h1, r0⟩, s0, s9, fin⟩ := h
    refine ⟨_, (pss_cons (ps_if (pt_cmpR op_gt (pe_ix (ix_listK (K := K)) (pv 0) pe_int (fun _ _ => rfl)) pe_int (nomark _)) (pss_cons (ps_set (i := 2) sc_law_take.nd rfl (Or.inl rfl) (pe_op op_modN (pe_callTy call_int1 (by rfl) T.b_int (by decide +kernel) (pa_cons (pe_ix (ix_listK (K := K)) (pv 0) pe_int (fun _ _ => rfl)) pa_nil)) (pv 1)))
        (pss_cons (ps_asg (pe_op op_fdivN (pe_ix (ix_listK (K := K)) (pv 0) pe_int (fun _ _ => rfl)) (pv 1)) (pg_sub (pv 0) pe_int set_list))
        (pss_one (ps_ret (pv 2))))) pss_nil)
        (pss_cons (ps_asg (pe_op op_add (pe_ix (ix_listK (K := K)) (pv 0) pe_int (fun _ _ => rfl)) pe_int) (pg_sub (pv 0) pe_int set_list))
        (pss_cons (ps_set (i := 3) sc_law_take.nd rfl (Or.inl rfl) (pe_op op_modN (pe_callTy call_int1 (by rfl) T.b_int (by decide +kernel) (pa_cons (pe_op op_mul (pe_op op_add (pe_ix (ix_listK (K := K)) (pv 0) pe_int (fun _ _ => rfl)) (pe_op op_mul (pe_ix (ix_listK (K := K)) (pv 0) pe_int (fun _ _ => rfl)) pe_int)) pe_int) pa_nil)) pe_int))
        (pss_cons (ps_set (i := 4) sc_law_take.nd rfl (Or.inl rfl) (pe_op op_modN (pe_callTy call_int1 (by rfl) T.b_int (by decide +kernel) (pa_cons (pe_op op_add (pe_op op_add (pe_op op_mul (pv 3) (pv 3)) (pe_ix (ix_listK (K := K)) (pv 0) pe_int (fun _ _ => rfl))) (pe_op op_mul (pe_ix (ix_listK (K := K)) (pv 0) pe_int (fun _ _ => rfl)) pe_int)) pa_nil)) pe_int))
        (pss_cons (ps_set (i := 5) sc_law_take.nd rfl (Or.inl rfl) (pe_op op_modN (pe_callTy call_int1 (by rfl) T.b_int (by decide +kernel) (pa_cons (pe_op op_mul (pe_op op_add (pe_op op_fdivN (pv 4) pe_int) (pv 3)) pe_int) pa_nil)) pe_int))
        (pss_one (ps_ret (pe_op op_modN (pe_callTy call_int1 (by rfl) T.b_int (by decide +kernel) (pa_cons (pe_op op_fdivN (pv 5) pe_int) pa_nil)) (pv 1))))))))), ?_⟩
    have rng : ∀ z : Int, 0 ≤ Int.fmod z size ∧ Int.fmod z size < size := fun z => by
      rw [Int.fmod_eq_emod_of_nonneg _ (by omega)]
      exact ⟨Int.emod_nonneg _ (by omega), Int.emod_lt_of_pos _ s0⟩
    refine ⟨_, rfl, b, _, 0, _, rfl, rfl, SqL.of h1, at_lit (n := 0) rfl rfl, _, _, rfl, rfl, _, rfl, ite2 (fun g => ?_) (fun g => ?_)⟩
    · refine ⟨_, rfl, b, _, 0, _, rfl, rfl, SqL.of h1, at_lit (n := 0) rfl rfl, .inl ⟨_, rfl, _, rfl, _, _, rfl, rfl, by omega, ?_⟩⟩
      dsimp only
      have fd : 0 ≤ Int.fdiv r size := by
        rw [Int.fdiv_eq_ediv_of_nonneg _ (by omega)]
        exact Int.ediv_nonneg r0 (by omega)
      exact ⟨_, rfl, b, _, 0, _, rfl, rfl, SqL.of h1, at_lit (n := 0) rfl rfl, _, rfl, _, _, rfl, rfl, ⟨by omega, by omega⟩, _, rfl, b, _, 0, 0, rfl, rfl, h1, rfl, _, rfl, fin _ _ Kp.box ⟨_, m, q, t, upd_same, fd⟩ (rng _).1 (rng _).2⟩
    · refine ⟨_, rfl, b, _, 3, _, rfl, rfl, SqL.of h1, at_lit (n := 3) rfl rfl, _, _, rfl, rfl, _, rfl, b, _, 3, 3, rfl, rfl, h1, rfl, ?_⟩
      generalize hH2 : upd H b _ = H2
      have h2 : H2 b = some (.lst [.int r, .int m, .int q, .int (t + 1)]) := by rw [← hH2]; exact upd_same
      have k2 : Kp b H H2 := by rw [← hH2]; exact Kp.box
      refine ⟨_, rfl, b, _, 1, _, rfl, rfl, SqL.of h2, at_lit (n := 1) rfl rfl, _, rfl, b, _, 3, _, rfl, rfl, SqL.of h2, at_lit (n := 3) rfl rfl, _, _, rfl, rfl, .inr (by decide), _, _, rfl, rfl, _, _, rfl, rfl, .inr (by decide), .inl ⟨_, rfl, _, _, rfl, rfl, (by show (2147483647 : Int) ≠ 0; decide), ?_⟩⟩
      dsimp only
      generalize hz : Int.fmod _ 2147483647 = z
      have z0 : 0 ≤ z ∧ z < 2147483647 := by
        rw [← hz, Int.fmod_eq_emod_of_nonneg _ (by decide)]
        exact ⟨Int.emod_nonneg _ (by decide), Int.emod_lt_of_pos _ (by decide)⟩
      refine ⟨_, rfl, _, rfl, _, _, rfl, rfl, .inl (by constructor <;> omega), _, rfl, b, _, 2, _, rfl, rfl, SqL.of h2, at_lit (n := 2) rfl rfl, _, _, rfl, rfl, _, rfl, b, _, 3, _, rfl, rfl, SqL.of h2, at_lit (n := 3) rfl rfl, _, _, rfl, rfl, .inr (by decide), _, _, rfl, rfl, .inl ⟨_, rfl, _, _, rfl, rfl, (by show (2147483399 : Int) ≠ 0; decide), ?_⟩⟩
      dsimp only
      generalize Int.fmod _ 2147483399 = y
      refine ⟨_, rfl, _, _, rfl, rfl, ⟨by decide, by decide⟩, _, rfl, _, _, rfl, rfl, _, _, rfl, rfl, .inr (by decide), .inl ⟨_, rfl, _, _, rfl, rfl, (by show (2147483563 : Int) ≠ 0; decide), ?_⟩⟩
      dsimp only
      exact ⟨_, rfl, _, _, rfl, rfl, ⟨by decide, by decide⟩, .inl ⟨_, rfl, _, rfl, _, _, rfl, rfl, by omega, fin _ _ k2 ⟨r, m, q, _, h2, r0⟩ (rng _).1 (rng _).2⟩⟩
theorem ok_law_bag (T : TX K mg a) (D : FDS K a d) : FnOk P w K mg base CX0 1 a.a_law_bag d.a_law_bag ["script", "place"] (spBag K) := by
  refine D.F__law_bag.ok sc_law_bag (fun vs H Q E h => ?_) (fun cdv A outer s H vs Q E hr h => ?_)
  · obtain ⟨a, ns, place, rfl, _⟩ := h
    rfl
  · obtain ⟨a, ns, place, rfl, ha, fin⟩ := h
    refine ⟨_, (pss_cons (ps_set (i := 2) sc_law_bag.nd rfl (Or.inl rfl) (pe_op op_add (pe_op op_add pe_int (pe_op op_mul pe_int (pv 1))) (pe_op op_modN (pe_callTy call_int1 (by rfl) T.b_int (by decide +kernel) (pa_cons (pe_callB (cr_sum rfl) (by rfl) T.b_sum (by decide +kernel) (pa_cons (pe_slice sl_list (pv 0) po_none (po_some pe_int)) pa_nil)) pa_nil)) pe_int)))
        (Evl.pss_cut (ps_if (pt_cmpR op_lt (pv 1) (pe_callB call_len_seq (by rfl) T.b_len (by decide +kernel) (pa_cons (pv 0) pa_nil)) (nomark _)) (pss_one (ps_set (i := 2) sc_law_bag.nd rfl (Or.inl rfl) (pe_ix (ix_listK (K := K)) (pv 0) (pv 1) (fun _ _ => rfl)))) pss_nil)
        (Evl.pss_cut (ps_if (pt_cmpR op_lt (pv 2) pe_int (nomark _)) (pss_one (ps_set (i := 2) sc_law_bag.nd rfl (Or.inl rfl) (pe_op op_sub pe_int (pe_op op_mul pe_int (pv 2))))) pss_nil)
        (pss_cons (ps_set (i := 3) sc_law_bag.nd rfl (Or.inl rfl) pe_int)
        (Evl.pss_cut (ps_if (pt_cmpR op_ge (pv 2) (pe_op op_pow pe_int pe_int) (nomark _)) (pss_one (ps_set (i := 3) sc_law_bag.nd rfl (Or.inl rfl) (pv 2))) pss_nil)
        (pss_one (ps_ret (pe_lst (pa_cons (pv 3) (pa_cons (pe_op op_modN (pe_callTy call_int1 (by rfl) T.b_int (by decide +kernel) (pa_cons (pv 2) pa_nil)) pe_int) (pa_cons (pe_op op_modN (pe_callTy call_int1 (by rfl) T.b_int (by decide +kernel) (pa_cons (pe_op op_fdivW (pv 2) pe_int) pa_nil)) pe_int) (pa_cons (pe_op op_mul pe_int (pv 1)) pa_nil)))))))))))), ?_⟩
    obtain ⟨cs, hcs, _⟩ := cut_map V.int ns none (some 1)
    refine ⟨_, rfl, _, _, rfl, rfl, .inl (by constructor <;> decide), _, _, rfl, rfl, _, rfl, 1, rfl, a, _, rfl, ha, fun p hp => ?_⟩
    rw [hcs]
    have xp := Ex.new (o := .lst (cs.map V.int)) hp
    refine ⟨p, cs, rfl, SqL.of upd_same, .inl ⟨_, rfl, _, _, rfl, rfl, (by show (1000003 : Int) ≠ 0; decide), _, _, rfl, rfl, ?_⟩⟩
    generalize hH1 : upd H p _ = H1 at *
    have ha1 := ex_l xp ha
    refine ⟨fun σ' H' => ∃ c : Int, σ' = [some (.ref a), some (.int (place : Int)), some (.int c), none] ∧ H' = H1, ?_, ?_⟩
    · refine ⟨_, rfl, _, rfl, a, _, rfl, .inl ha1, _, _, rfl, rfl, _, rfl, ite2 (fun g => ?_) (fun g => ⟨_, rfl, rfl⟩)⟩
      have hl := of_decide_eq_true g
      rw [List.length_map] at hl
      have hi : place < ns.length := by omega
      exact ⟨_, rfl, _, rfl, a, _, (place : Int), .int ns[place], rfl, rfl, ha1, at_lit (n := place) rfl (by rw [List.getElem?_map, List.getElem?_eq_getElem hi]; rfl), _, rfl, rfl⟩
    · rintro σ' H' ⟨c, rfl, rfl⟩
      refine ⟨fun σ' H2 => ∃ c : Int, σ' = [some (.ref a), some (.int (place : Int)), some (.int c), none] ∧ H2 = H' ∧ 0 ≤ c, ?_, ?_⟩
      · refine ⟨_, rfl, _, _, rfl, rfl, _, rfl, ite2 (fun g => ?_) (fun g => ⟨c, rfl, rfl, ?_⟩)⟩
        · have := of_decide_eq_true g
          exact ⟨_, rfl, _, _, rfl, rfl, .inl (by constructor <;> decide), _, _, rfl, rfl, _, rfl, rfl, by omega⟩
        · have : ¬ c < 0 := fun e => g (decide_eq_true e)
          omega
      · rintro σ' H' ⟨c, rfl, rfl, c0⟩
        refine ⟨fun σ' H2 => ∃ r : Int, σ' = [some (.ref a), some (.int (place : Int)), some (.int c), some (.int r)] ∧ H2 = H' ∧ 0 ≤ r, ?_, ?_⟩
        · exact ⟨_, rfl, _, _, rfl, rfl, ⟨by decide, by decide, by decide⟩, _, _, rfl, rfl, _, rfl, ite2 (fun g => ⟨_, rfl, _, rfl, rfl, c0⟩) (fun g => ⟨_, rfl, rfl, by decide⟩)⟩
        · rintro σ' H' ⟨r, rfl, rfl, r0⟩
          refine ⟨_, rfl, _, rfl, .inl ⟨_, rfl, _, _, rfl, rfl, (by show (2147483647 : Int) ≠ 0; decide), _, rfl, _, _, rfl, rfl, ⟨by decide, by decide +kernel⟩, .inl ⟨_, rfl, _, _, rfl, rfl, (by show (2147483629 : Int) ≠ 0; decide), _, rfl, _, _, rfl, rfl, .inl (by constructor <;> decide), (by show 4 ≤ sizeLine; decide), fun b hb => ?_⟩⟩⟩
          exact fin b _ (xp.trans (Ex.new hb)) (fresh_back xp hb) ⟨_, _, _, _, upd_same, r0⟩
end
end C8
set_option maxRecDepth 100000
set_option maxHeartbeats 8000000
namespace C8
open PySem L2 Evl GP HR
/-- what a position costs -/
def costZ (m : Nat) (w : Int) (i : Nat) : Int := (w * (m + 1) + 1) * 2 ^ m - 2 ^ (m - 1 - i)
def costsL (ws : List Int) : List Int := (List.range ws.length).map fun i => costZ ws.length (ws.getD i 0) i
theorem costsL_len (ws : List Int) : (costsL ws).length = ws.length := by simp [costsL]
def spCosts (K : PySem.W.Frag) : Sp := fun vs H Q _ => ∃ (a : Addr) (ws : List Int), vs = [.ref a] ∧ (SqL K H a (ws.map V.int) ∨ SqT K H a (ws.map V.int)) ∧ ws.length ≤ 12 ∧ (∀ w ∈ ws, w.natAbs < 2 ^ 110) ∧ ∀ c H', Ex H H' → H' c = some (.lst ((costsL ws).map V.int)) → Q (.ref c) H'
theorem log_le {n k : Nat} (h : n < 2 ^ k) : n.log2 ≤ k := by
  rcases Nat.eq_zero_or_pos n with rfl | p
  · exact Nat.zero_le _
  · exact Nat.le_of_lt ((Nat.log2_lt (by omega)).mpr h)
theorem enS_go {K : PySem.W.Frag} {ta : TA} {a : Addr} {xs : List V} {σ : St} {H : Hp} {R : It → Hp → Prop} (ht : ∀ Q : List V → Hp → Prop, Q [.ref a] H → ta σ H Q) (h : SqL K H a xs ∨ SqT K H a xs)
    (hR : ∀ (J : It) (G : Hp → Prop), L2.Walk J xs.length G (YPair (fun i => some (.int (i : Nat))) (fun i => xs[i]?)) → (∀ H', Ex H H' → G H') → R J H) :
    iEnS K ta σ H R := by
  refine ht _ ⟨a, xs, rfl, ?_⟩
  rcases h with h | h
  · exact .inl ⟨h, hR _ _ walk_enum fun _ e => ex_l e h⟩
  · exact .inr ⟨h, hR _ _ walk_enT fun _ e => ex_t e h⟩
section
variable {P : Program} {w : World} {K : PySem.W.Frag} {mg : Str → Option Value} {base : Heap} {a : Ad} {d : Fd}
theorem ok_costs_of (T : TX K mg a) (D : FDS K a d) : FnOk P w K mg base CX0 1 a.a_costs_of d.a_costs_of ["weights"] (spCosts K) := by
  refine D.F_costs_of.ok sc_costs_of (fun vs H Q E h => ?_) (fun cdv A outer s H vs Q E hr h => ?_)
  · obtain ⟨a, ws, rfl, _⟩ := h
    rfl
  · obtain ⟨a, ws, rfl, ha, l12, small, fin⟩ := h
    refine ⟨_, (pss_cons (ps_set (i := 1) sc_costs_of.nd rfl (Or.inr rfl) (pe_callB call_len_seq (by rfl) T.b_len (by decide +kernel) (pa_cons (pv 0) pa_nil)))
        (pss_one (ps_ret (pe_lc (own := [("position", 2), ("weight", 3)]) (g := (gTup K 2 (gCons (gName 2) (gCons (gName 3) gNil)))) (tt := tYes) rfl sc_costs_of.nd (pi_enS (by rfl) T.b_enumerate (pa_cons (pv 0) pa_nil)) (blkOk_by (N := ["weights", "many", "position", "weight"]) (sc := defScope s_costs_of) (by decide +kernel)) (fun _ _ _ _ _ => (pg_tup rfl (pgs_cons (pg_name (i := 2) sc_costs_of.nd rfl (Or.inl rfl)) (pgs_cons (pg_name (i := 3) sc_costs_of.nd rfl (Or.inl rfl)) pgs_nil)))) (fun _ _ _ _ _ => pts_nil) (fun _ _ _ _ _ => (pe_op op_sub (pe_op op_shlN (pe_op op_add (pe_op op_mulW (pv 3) (pe_op op_add (pv 1) pe_int)) pe_int) (pv 1)) (pe_op op_oneShl pe_int (pe_op op_sub (pe_op op_sub (pv 1) pe_int) (pv 2))))))))), ?_⟩
    have big : 100 ≤ sizeLine := by decide
    have lw : (ws.map V.int).length = ws.length := List.length_map _
    refine ⟨_, rfl, a, _, rfl, ha, ?_⟩
    unfold gName tRet tLc
    dsimp only
    refine enS_go (fun Q q => ⟨_, rfl, q⟩) ha fun J G wk hG D1 hD1 => lc_it (H1 := H) wk (fun i H' => Ex H H' ∧ H' D1 = some (.lst (((costsL ws).take i).map V.int)))
      ⟨Ex.new hD1, upd_same⟩ (fun i H' _ z => hG H' z.1) ?_ ?_
    · rintro i v H2 H2' hi ⟨e2, hw⟩ ⟨T4, x, y, rfl, hT4, rfl, hx, hy⟩
      cases hx
      rw [lw] at hi
      replace hy : (ws.map V.int)[i]? = some y := hy
      rw [List.getElem?_map, List.getElem?_eq_getElem hi] at hy
      cases hy
      have x4 := Ex.new (o := .tup [.int (i : Nat), .int ws[i]]) hT4
      refine ⟨T4, _, rfl, SqT.of upd_same, rfl, _, _, rfl, _, _, rfl, rfl, rfl, ?_⟩
      unfold tYes
      dsimp only
      rw [if_pos rfl]
      have sm := small ws[i] (List.getElem_mem hi)
      have sm2 : (ws[i] * ((ws.length : Int) + 1) + 1).natAbs < 2 ^ 120 := by
        have h1 : (ws[i] * ((ws.length : Int) + 1)).natAbs = ws[i].natAbs * (ws.length + 1) := by rw [Int.natAbs_mul]; congr 1
        have h2 := Int.natAbs_add_le (ws[i] * ((ws.length : Int) + 1)) 1
        have h3 : ws[i].natAbs * (ws.length + 1) ≤ 2 ^ 110 * 13 := Nat.mul_le_mul (by omega) (by omega)
        have h4 : (1 : Int).natAbs = 1 := rfl
        omega
      have cm : CMulW ws[i] ((ws.length : Int) + 1) := by
        have l1 : ws[i].natAbs.log2 ≤ 110 := log_le (by omega)
        have l2 : ((ws.length : Int) + 1).natAbs.log2 ≤ 110 := log_le (by omega)
        unfold CMulW
        omega
      rw [lw]
      have e1 : ((ws.length : Int) - 1 - (i : Int)) = ((ws.length - 1 - i : Nat) : Int) := by omega
      refine ⟨_, rfl, _, rfl, _, _, rfl, rfl, _, _, rfl, rfl, cm, _, _, rfl, rfl, _, rfl, _, ws.length, rfl, rfl, shl_ok sm2 (by omega), _, rfl, _, _, rfl, rfl, _, rfl, _, _, rfl, rfl, _, rfl, congrArg V.int e1, by omega, _, _, rfl, rfl, ?_⟩
      refine ⟨_, x4 _ _ hw, ?_, Ex.mut (e2.trans x4) hD1, ?_⟩
      · rw [List.length_map]
        exact Nat.lt_of_le_of_lt (Nat.le_trans (List.length_take_le ..) (by omega)) (Nat.lt_of_lt_of_le (by omega : 12 < 100) big)
      · rw [upd_same]
        have hc : (costsL ws)[i]? = some (costZ ws.length ws[i] i) := by
          unfold costsL
          rw [List.getElem?_map, List.getElem?_range hi, Option.map_some, List.getD_eq_getElem?_getD, List.getElem?_eq_getElem hi]
          rfl
        rw [List.take_add_one, hc, List.map_append]
        unfold costZ
        rfl
    · rintro H2 ⟨e2, hw⟩
      refine fin D1 H2 e2 ?_
      rw [lw, ← costsL_len, List.take_length] at hw
      exact hw
end
end C8
set_option maxRecDepth 100000
set_option maxHeartbeats 8000000
namespace C8
open PySem L2 Evl GP HR
/-! ### comprehensions -/
section
variable {K : PySem.W.Frag} {σ : L2.St} {H1 : Hp} {J : It} {G : Hp → Prop} {te : TE} {tt : TT}
/-- one name, a condition, the items' values are written -/
theorem lcF {α : Type} {xs : List α} {f : α → V} (w : L2.Walk J (xs.map f).length G (YAt (xs.map f))) (c : α → Bool) (r : α → V) {j : Nat} {vs : List Nat} (hz : xs.length < sizeLine) (hG : ∀ H', Ex H1 H' → G H') (hw : ∀ v, wipe ((wipe σ vs).set j (some v)) vs = wipe σ vs)
    (ht : ∀ v ∈ xs, ∀ H', Ex H1 H' → ∀ Q : Bool → Hp → Prop, (∀ H'', Ex H' H'' → Q (c v) H'') → tt ((wipe σ vs).set j (some (f v))) H' Q)
    (he : ∀ v ∈ xs, c v = true → ∀ H', Ex H1 H' → ∀ Q : VK, (∀ H'', Ex H' H'' → Q (r v) H'') → te ((wipe σ vs).set j (some (f v))) H' Q) {Qd : Hp → Prop} {D : Addr} (hD : H1 D = none) (k : ∀ H', Ex H1 H' → H' D = some (.lst ((xs.filter c).map r)) → Qd H') :
    ∃ W : Nat → Nat → Hp → Prop, (∃ m, W 0 m (upd H1 D (.lst []))) ∧ ∀ i m H, W i m H →
      (J.stop i H ∧ Qd H) ∨ (J.go i H ∧ ∃ Nx : Hp → Prop, (∀ H', Nx H' → ∃ m', m' < m ∧ W (i + 1) m' H') ∧ ∀ x H', J.yld i H x H' → gName j x (wipe σ vs) H' fun σ2 H2 => wipe σ2 vs = wipe σ vs ∧ tt σ2 H2 fun b H3 =>
        if b = true then te σ2 H3 fun y H4 => ∃ acc, H4 D = some (.lst acc) ∧ acc.length < sizeLine ∧ Nx (upd H4 D (.lst (acc ++ [y]))) else Nx H3) := by
  refine lc_it w (fun i H => Ex H1 H ∧ H D = some (.lst (((xs.take i).filter c).map r))) ⟨Ex.new hD, upd_same⟩ (fun i H _ p => hG H p.1) ?_ (fun H p => k H p.1 (by have := p.2; rwa [List.length_map, List.take_length] at this))
  rintro i x H H' hi ⟨e, hl⟩ ⟨rfl, hx⟩
  rw [List.length_map] at hi
  rw [List.getElem?_map, List.getElem?_eq_getElem hi] at hx
  cases hx
  have hm : xs[i] ∈ xs := List.getElem_mem hi
  unfold gName
  dsimp only
  refine ⟨hw _, ht _ hm H' e _ fun H3 e3 => ?_⟩
  have tk : (xs.take (i + 1)).filter c = (xs.take i).filter c ++ (if c xs[i] = true then [xs[i]] else []) := by
    rw [List.take_add_one, List.getElem?_eq_getElem hi, List.filter_append]
    simp only [Option.toList_some]
    by_cases hc : c xs[i] = true
    · rw [if_pos hc]; simp [hc]
    · rw [if_neg hc]; simp [hc]
  cases hc : c xs[i] with
  | true =>
    rw [if_pos rfl]
    refine he _ hm hc H3 (e.trans e3) _ fun H4 e4 => ⟨_, e4 D _ (e3 D _ hl), ?_, Ex.mut ((e.trans e3).trans e4) hD, ?_⟩
    · have := List.length_filter_le c (xs.take i)
      rw [List.length_map]
      rw [List.length_take] at this
      omega
    · rw [upd_same, tk, hc, if_pos rfl, List.map_append]
      rfl
  | false =>
    rw [if_neg Bool.false_ne_true]
    refine ⟨e.trans e3, ?_⟩
    rw [tk, hc, if_neg Bool.false_ne_true, List.append_nil]
    exact e3 D _ hl
end
section
variable {K : PySem.W.Frag} {σ : L2.St} {H1 : Hp} {J : It} {G : Hp → Prop} {te : TE} {tt : TT}
/-- one name, no condition -/
theorem lcM {α : Type} {xs : List α} {f : α → V} (w : L2.Walk J (xs.map f).length G (YAt (xs.map f))) (r : α → V) {j : Nat} {vs : List Nat} (hz : xs.length < sizeLine) (hG : ∀ H', Ex H1 H' → G H') (hw : ∀ v, wipe ((wipe σ vs).set j (some v)) vs = wipe σ vs)
    (he : ∀ v ∈ xs, ∀ H', Ex H1 H' → ∀ Q : VK, (∀ H'', Ex H' H'' → Q (r v) H'') → te ((wipe σ vs).set j (some (f v))) H' Q) {Qd : Hp → Prop} {D : Addr} (hD : H1 D = none) (k : ∀ H', Ex H1 H' → H' D = some (.lst (xs.map r)) → Qd H') :
    ∃ W : Nat → Nat → Hp → Prop, (∃ m, W 0 m (upd H1 D (.lst []))) ∧ ∀ i m H, W i m H →
      (J.stop i H ∧ Qd H) ∨ (J.go i H ∧ ∃ Nx : Hp → Prop, (∀ H', Nx H' → ∃ m', m' < m ∧ W (i + 1) m' H') ∧ ∀ x H', J.yld i H x H' → gName j x (wipe σ vs) H' fun σ2 H2 => wipe σ2 vs = wipe σ vs ∧ tYes σ2 H2 fun b H3 =>
        if b = true then te σ2 H3 fun y H4 => ∃ acc, H4 D = some (.lst acc) ∧ acc.length < sizeLine ∧ Nx (upd H4 D (.lst (acc ++ [y]))) else Nx H3) :=
  lcF w (fun _ => true) r hz hG hw (fun v _ H' _ Q q => q H' (Ex.refl _)) (fun v hv _ => he v hv) hD fun H' e h => k H' e (by rwa [List.filter_eq_self.mpr (fun _ _ => rfl)] at h)
end
structure Us (kvs : List (L2.Key × V)) (u : List Int) (n : Nat) : Prop where
  few : kvs.length ≤ n
  has : ∀ p : Int, (∃ kv ∈ kvs, kv.1 = (.inl p : L2.Key)) ↔ p ∈ u
theorem Us.nil : Us [] [] 0 := ⟨Nat.le_refl _, fun p => ⟨fun ⟨_, h, _⟩ => absurd h (by simp), fun h => absurd h (by simp)⟩⟩
theorem any_key {kvs : List (L2.Key × V)} {k : L2.Key} : kvs.any (fun kv => decide (kv.1 = k)) = true ↔ ∃ kv ∈ kvs, kv.1 = k := by simp [List.any_eq_true]
theorem keys_putK (kvs : List (L2.Key × V)) (k : L2.Key) (v : V) (q : L2.Key) : (∃ kv ∈ putK kvs k v, kv.1 = q) ↔ (∃ kv ∈ kvs, kv.1 = q) ∨ q = k := by
  unfold putK
  by_cases h : kvs.any (fun kv => decide (kv.1 = k)) = true
  · rw [if_pos h]
    obtain ⟨kv0, h0, e0⟩ := any_key.mp h
    constructor
    · rintro ⟨kv, hkv, rfl⟩
      obtain ⟨kv1, h1, rfl⟩ := List.mem_map.mp hkv
      refine .inl ⟨kv1, h1, ?_⟩
      by_cases g : kv1.1 = k
      · rw [if_pos g]
      · rw [if_neg g]
    · rintro (⟨kv, hkv, rfl⟩ | rfl)
      · refine ⟨_, List.mem_map.mpr ⟨kv, hkv, rfl⟩, ?_⟩
        by_cases g : kv.1 = k
        · rw [if_pos g]
        · rw [if_neg g]
      · refine ⟨_, List.mem_map.mpr ⟨kv0, h0, rfl⟩, ?_⟩
        rw [if_pos e0]
        exact e0
  · rw [if_neg h]
    constructor
    · rintro ⟨kv, hkv, rfl⟩
      rcases List.mem_append.mp hkv with hkv | hkv
      · exact .inl ⟨kv, hkv, rfl⟩
      · exact .inr (by rw [List.mem_singleton.mp hkv])
    · rintro (⟨kv, hkv, rfl⟩ | rfl)
      · exact ⟨kv, List.mem_append_left _ hkv, rfl⟩
      · exact ⟨_, List.mem_append_right _ (List.mem_singleton.mpr rfl), rfl⟩
theorem len_putK_le (kvs : List (L2.Key × V)) (k : L2.Key) (v : V) : (putK kvs k v).length ≤ kvs.length + 1 := by
  unfold putK
  split
  · rw [List.length_map]; omega
  · rw [List.length_append, List.length_singleton]; omega
theorem Us.put {kvs : List (L2.Key × V)} {u : List Int} {n : Nat} (A : Us kvs u n) (p : Int) (v : V) : Us (putK kvs (.inl p) v) (u ++ [p]) (n + 1) := ⟨by have := len_putK_le kvs (.inl p) v; have := A.few; omega, fun q => by
  rw [keys_putK, A.has, List.mem_append, List.mem_singleton]
  constructor
  · rintro (h | h)
    · exact .inl h
    · exact .inr (Sum.inl.inj h)
  · rintro (h | h)
    · exact .inl h
    · exact .inr (by rw [h])⟩
theorem keys_mergeK (more : List (L2.Key × V)) : ∀ (kvs : List (L2.Key × V)) (q : L2.Key), (∃ kv ∈ mergeK kvs more, kv.1 = q) ↔ (∃ kv ∈ kvs, kv.1 = q) ∨ (∃ kv ∈ more, kv.1 = q) := by
  induction more with
  | nil => intro kvs q; exact ⟨.inl, fun h => h.elim id fun ⟨_, h, _⟩ => absurd h (by simp)⟩
  | cons x r ih =>
    intro kvs q
    show (∃ kv ∈ mergeK (putK kvs x.1 x.2) r, kv.1 = q) ↔ _
    rw [ih, keys_putK, or_assoc]
    refine or_congr_right ⟨fun h => ?_, fun h => ?_⟩
    · rcases h with h | ⟨kv, h, e⟩
      · exact ⟨x, List.mem_cons_self, h.symm⟩
      · exact ⟨kv, List.mem_cons_of_mem _ h, e⟩
    · obtain ⟨kv, h, e⟩ := h
      rcases List.mem_cons.mp h with rfl | h
      · exact .inl e.symm
      · exact .inr ⟨kv, h, e⟩
theorem Us.merge {kvs more : List (L2.Key × V)} {u v : List Int} {n m : Nat} (A : Us kvs u n) (B : Us more v m) : Us (mergeK kvs more) (u ++ v) (n + m) := ⟨by have := length_mergeK more kvs; have := A.few; have := B.few; omega, fun q => by
  rw [keys_mergeK, A.has, B.has, List.mem_append]⟩
theorem Us.get {kvs : List (L2.Key × V)} {u : List Int} {n : Nat} (A : Us kvs u n) (p : Int) : (valV kvs (.inl p : L2.Key)).isSome = decide (p ∈ u) := by
  unfold valV
  rw [Option.isSome_map, Bool.eq_iff_iff, List.find?_isSome, decide_eq_true_iff, ← A.has p]
  simp
section
variable {σ : L2.St} {H1 : Hp} {J : It} {G : Hp → Prop}
/-- a dict of the numbers of a row -/
theorem dcU {xs : List Int} (w : L2.Walk J (xs.map V.int).length G (YAt (xs.map V.int))) {j : Nat} {vs : List Nat} {b : V} (hz : xs.length < sizeLine) (hG : ∀ H', Ex H1 H' → G H') (hw : ∀ v, wipe ((wipe σ vs).set j (some v)) vs = wipe σ vs) (hj : ∀ v, ((wipe σ vs).set j (some v))[j]? = some (some v))
    {Qd : Hp → Prop} {D : Addr} (hD : H1 D = none) (k : ∀ H' kvs, Ex H1 H' → H' D = some (.dK kvs) → Us kvs xs xs.length → Qd H') :
    ∃ W : Nat → Nat → Hp → Prop, (∃ m, W 0 m (upd H1 D (.dK []))) ∧ ∀ i m H, W i m H →
      (J.stop i H ∧ Qd H) ∨ (J.go i H ∧ ∃ Nx : Hp → Prop, (∀ H', Nx H' → ∃ m', m' < m ∧ W (i + 1) m' H') ∧ ∀ x H', J.yld i H x H' → gName j x (wipe σ vs) H' fun σ2 H2 => wipe σ2 vs = wipe σ vs ∧ tYes σ2 H2 fun yes H3 =>
        if yes = true then tVar j σ2 H3 fun y H4 => tC b σ2 H4 fun z H5 => ∃ kvs k, y = kV k ∧ H5 D = some (.dK kvs) ∧ kvs.length < sizeLine ∧ Nx (upd H5 D (.dK (putK kvs k z))) else Nx H3) := by
  refine ⟨fun i m H => m = xs.length - i ∧ i ≤ xs.length ∧ Ex H1 H ∧ ∃ kvs, H D = some (.dK kvs) ∧ Us kvs (xs.take i) i, ⟨_, rfl, Nat.zero_le _, Ex.new hD, [], upd_same, Us.nil⟩, ?_⟩
  rintro i m H ⟨rfl, hi, e, kvs, hd, U⟩
  rcases Nat.lt_or_eq_of_le hi with lt | rfl
  · refine .inr ⟨w.goes i H (by rw [List.length_map]; exact lt) (hG H e), fun H' => Ex H1 H' ∧ ∃ kvs, H' D = some (.dK kvs) ∧ Us kvs (xs.take (i + 1)) (i + 1), fun H' h => ⟨_, ?_, rfl, lt, h⟩, fun x H' hy => ?_⟩
    · omega
    · obtain ⟨rfl, hx⟩ := w.yields i H x H' (by rw [List.length_map]; exact lt) (hG H e) hy
      rw [List.getElem?_map, List.getElem?_eq_getElem lt] at hx
      cases hx
      unfold gName tYes
      dsimp only
      refine ⟨hw _, ?_⟩
      rw [if_pos rfl]
      refine ⟨_, hj _, kvs, .inl xs[i], rfl, hd, by have := U.few; omega, Ex.mut e hD, _, upd_same, ?_⟩
      rw [List.take_add_one, List.getElem?_eq_getElem lt]
      exact U.put xs[i] b
  · refine .inl ⟨?_, k H kvs e hd (by rwa [List.take_length] at U)⟩
    have := w.stops H (hG H e)
    rwa [List.length_map] at this
end
/-- rows: tuples of numbers -/
def rowV (z : Addr × List Int) : V := .ref z.1
def Rw (H : Hp) (zs : List (Addr × List Int)) : Prop := ∀ z ∈ zs, H z.1 = some (.tup (z.2.map V.int))
theorem Rw.ex {H H' : Hp} {zs : List (Addr × List Int)} (x : Rw H zs) (e : Ex H H') : Rw H' zs := fun z hz => e _ _ (x z hz)
/-! ### the least that rows cost which share nothing -/
def cst (cs : List Int) (p : Int) : Int := cs.getD p.toNat 0
def unavS (cs : List Int) (s : Int × List Int) (r : List Int) : Int × List Int :=
  if r.any (fun p => decide (p ∈ s.2)) then s else (s.1 + minI 0 (r.map (cst cs)), s.2 ++ r)
def unav (cs : List Int) (rs : List (List Int)) : Int := (rs.foldl (unavS cs) (0, [])).1
theorem cst_at {cs : List Int} {p : Int} (h0 : 0 ≤ p) (h1 : p < cs.length) : atI (cs.map V.int) p = some (.int (cst cs p)) := by
  refine at_lit (n := p.toNat) (by omega) ?_
  have hi : p.toNat < cs.length := by omega
  rw [List.getElem?_map, List.getElem?_eq_getElem hi, cst, List.getD_eq_getElem?_getD, List.getElem?_eq_getElem hi]
  rfl
def InRange (n : Nat) (r : List Int) : Prop := ∀ p ∈ r, 0 ≤ p ∧ p < (n : Int)
def spUnav (K : PySem.W.Frag) : Sp := fun vs H Q _ => ∃ (b c : Addr) (zs : List (Addr × List Int)) (cs : List Int), vs = [.ref b, .ref c] ∧ SqL K H b (zs.map rowV) ∧ Rw H zs ∧ SqL K H c (cs.map V.int) ∧ cs.length ≤ 12 ∧ zs.length ≤ 64 ∧
  (∀ z ∈ zs, z.2.length ≤ 12 ∧ InRange cs.length z.2) ∧ ∀ H', Ex H H' → Q (.int (unav cs (zs.map Prod.snd))) H'
section
variable {P : Program} {w : World} {K : PySem.W.Frag} {mg : Str → Option Value} {base : Heap} {a : Ad} {d : Fd}
theorem ok_unavoidable_cost (T : TX K mg a) (D : FDS K a d) : FnOk P w K mg base CX0 1 a.a_unavoidable_cost d.a_unavoidable_cost ["rows", "costs"] (spUnav K) := by
  refine D.F_unavoidable_cost.ok sc_unavoidable_cost (fun vs H Q E h => ?_) (fun cdv A outer s H vs Q E hr h => ?_)
  · obtain ⟨b, c, zs, cs, rfl, _⟩ := h
    rfl
  · obtain ⟨b, c, zs, cs, rfl, hb, hz, hc, c12, z64, ok, fin⟩ := h
    refine ⟨_, (pss_cons (ps_set (i := 2) sc_unavoidable_cost.nd rfl (Or.inl rfl) pe_int)
        (pss_cons (ps_set (i := 3) sc_unavoidable_cost.nd rfl (Or.inr rfl) pe_dnewK)
        (pss_cons (ps_for PassesOwn.never rfl (pi_list (pv 0)) (pg_name (i := 4) sc_unavoidable_cost.nd rfl (Or.inl rfl)) (pss_one (ps_if (pt_not (pt_val (pe_callB (cr_any rfl) (by rfl) T.b_any (by decide +kernel) (pa_cons (pe_lc (own := [("position", 5)]) (g := gName 5) (tt := tYes) rfl sc_unavoidable_cost.nd (pi_tup (pv 4)) (blkOk_by (N := ["rows", "costs", "total", "used", "row", "position"]) (sc := defScope s_unavoidable_cost) (by decide +kernel)) (fun _ _ _ _ _ => (pg_name (i := 5) sc_unavoidable_cost.nd rfl (Or.inl rfl))) (fun _ _ _ _ _ => pts_nil) (fun _ _ _ _ _ => (pe_cmp (pc_din (hu_of hr) (pv 5) (pv 3)) rfl))) pa_nil)))) (pss_cons (ps_aug (i := 2) sc_unavoidable_cost.nd rfl (Or.inl rfl) (pe_callBK (cr_minDef rfl hr.units) (by rfl) T.b_min (by rfl) (pa_cons (pe_lc (own := [("position", 5)]) (g := gName 5) (tt := tYes) rfl sc_unavoidable_cost.nd (pi_tup (pv 4)) (blkOk_by (N := ["rows", "costs", "total", "used", "row", "position"]) (sc := defScope s_unavoidable_cost) (by decide +kernel)) (fun _ _ _ _ _ => (pg_name (i := 5) sc_unavoidable_cost.nd rfl (Or.inl rfl))) (fun _ _ _ _ _ => pts_nil) (fun _ _ _ _ _ => (pe_ix (ix_listK (K := K)) (pv 1) (pv 5) (fun _ _ => rfl)))) pa_nil) (pk_cons pe_int pk_nil)) ip_add)
        (pss_one (ps_expr (pe_bm PySem.F.plainAttrs_dict PySem.F.slot_dict_update PySem.F.type_dict_update mt_updK (pv 3) (pa_cons (pe_dc (own := [("position", 5)]) (g := gName 5) (tt := tYes) rfl sc_unavoidable_cost.nd (pi_tup (pv 4)) (blkOk_by (N := ["rows", "costs", "total", "used", "row", "position"]) (sc := defScope s_unavoidable_cost) (by decide +kernel)) (fun _ _ _ _ _ => (pg_name (i := 5) sc_unavoidable_cost.nd rfl (Or.inl rfl))) (fun _ _ _ _ _ => pts_nil) (fun _ _ _ _ _ => (pv 5)) (fun _ _ _ _ _ => pe_bl)) pa_nil))))) pss_nil)))
        (pss_one (ps_ret (pv 2)))))), ?_⟩
    have big : 10000 ≤ sizeLine := by decide
    intro u hu
    have xu := Ex.new (o := .dK []) hu
    have lz : (zs.map rowV).length = zs.length := List.length_map _
    generalize hst : (fun i => ((zs.map Prod.snd).take i).foldl (unavS cs) (0, [])) = st
    have st0 : st 0 = (0, []) := by rw [← hst]; rfl
    have stS : ∀ i (hi : i < zs.length), st (i + 1) = unavS cs (st i) zs[i].2 := fun i hi => by
      rw [← hst]
      show ((zs.map Prod.snd).take (i + 1)).foldl (unavS cs) (0, []) = unavS cs (((zs.map Prod.snd).take i).foldl (unavS cs) (0, [])) zs[i].2
      rw [List.take_add_one, List.getElem?_map, List.getElem?_eq_getElem hi, List.foldl_append]
      rfl
    refine ⟨_, rfl, b, rfl, ⟨_, ex_l xu hb⟩, for_it (walk_list (xs := zs.map rowV)) (fun i σ H' => ∃ kvs o4, σ = [some (.ref b), some (.ref c), some (.int (st i).1), some (.ref u), o4, none] ∧ Ex H H' ∧ H' u = some (.dK kvs) ∧ Us kvs (st i).2 (12 * i))
      ⟨[], none, by rw [st0]; rfl, xu, upd_same, by rw [st0]; exact Us.nil⟩ (fun i σ H' _ ⟨_, _, _, e, _⟩ => ex_l e hb) ?_ ?_⟩
    · rintro i v σ H2 H2' hi ⟨kvs, o4, rfl, e2, hd, U⟩ ⟨rfl, hv⟩
      rw [lz] at hi
      rw [List.getElem?_map, List.getElem?_eq_getElem hi] at hv
      cases hv
      have hm : zs[i] ∈ zs := List.getElem_mem hi
      have hr2 := e2 _ _ (hz _ hm)
      obtain ⟨k12, inr⟩ := ok _ hm
      rw [stS i hi]
      generalize st i = S at *
      generalize zs[i] = z at *
      have small : z.2.length < sizeLine := by omega
      unfold rowV
      refine ⟨_, rfl, z.1, rfl, ⟨_, SqT.of hr2⟩, fun D1 hD1 => lcM walk_tup (fun p => .bl (decide (p ∈ S.2))) small (fun H' e => SqT.of (e _ _ hr2)) (fun _ => rfl) (fun p hp H3 e3 Q q => ⟨_, rfl, _, rfl, u, _, rfl, .inl ⟨kvs, .inl p, .inl (e3 _ _ hd), rfl, rfl⟩, by rw [U.get]; exact q H3 (Ex.refl _)⟩) hD1 fun H3 e3 h3 => ?_⟩
      have c3 := ex_l (e2.trans e3) hc
      have r3 := e3 _ _ hr2
      have ean : (z.2.map fun p => decide (p ∈ S.2)).any id = z.2.any fun p => decide (p ∈ S.2) := by rw [List.any_map]; rfl
      refine ⟨D1, z.2.map fun p => decide (p ∈ S.2), rfl, SqL.of (by rw [h3, List.map_map]; rfl), ?_⟩
      rw [ean]
      refine ⟨_, rfl, ite2 (fun g => ?_) (fun g => ?_)⟩
      · have g' : ¬ (z.2.any fun p => decide (p ∈ S.2)) = true := fun h => by rw [h] at g; cases g
        rw [show unavS cs S z.2 = (S.1 + minI 0 (z.2.map (cst cs)), S.2 ++ z.2) from if_neg g']
        refine ⟨_, rfl, _, rfl, z.1, rfl, ⟨_, SqT.of r3⟩, fun D2 hD2 => lcM walk_tup (fun p => .int (cst cs p)) small (fun H' e => SqT.of (e _ _ r3)) (fun _ => rfl) (fun p hp H4 e4 Q q => ⟨_, rfl, _, rfl, c, _, p, _, rfl, rfl, ex_l e4 c3, cst_at (inr p hp).1 (inr p hp).2, q H4 (Ex.refl _)⟩) hD2 fun H4 e4 h4 => ?_⟩
        refine ⟨D2, z.2.map (cst cs), 0, rfl, rfl, SqL.of (by rw [h4, List.map_map]; rfl), _, _, rfl, rfl, ?_⟩
        have d4 := e4 _ _ (e3 _ _ hd)
        have r4 := e4 _ _ r3
        refine ⟨_, rfl, .inr (.inr (.inl ⟨rfl, .inl ⟨_, d4⟩⟩)), ?_⟩
        refine ⟨_, rfl, z.1, rfl, ⟨_, SqT.of r4⟩, fun D3 hD3 => dcU walk_tup small (fun H' e => SqT.of (e _ _ r4)) (fun _ => rfl) (fun _ => rfl) hD3 fun H5 mo e5 h5 M => ?_⟩
        have nu : u ≠ D3 := fun e => by rw [e, hD3] at d4; cases d4
        have f1 := U.few
        have f2 := M.few
        refine ⟨u, D3, kvs, mo, rfl, rfl, nu, e5 _ _ d4, h5, by omega, mergeK kvs mo, _, rfl, Ex.mut ((e2.trans e3).trans (e4.trans e5)) hu, upd_same, ?_⟩
        have UM := U.merge M
        exact ⟨by have := UM.few; omega, UM.has⟩
      · have g' : (z.2.any fun p => decide (p ∈ S.2)) = true := by
          cases h : (z.2.any fun p => decide (p ∈ S.2)) with
          | true => rfl
          | false => rw [h] at g; exact absurd rfl g
        rw [show unavS cs S z.2 = S from if_pos g']
        exact ⟨kvs, _, rfl, e2.trans e3, e3 _ _ hd, ⟨by have := U.few; omega, U.has⟩⟩
    · rintro σ H2 ⟨kvs, o4, rfl, e2, hd, U⟩
      have e : (st (zs.map rowV).length).1 = unav cs (zs.map Prod.snd) := by
        rw [← hst, lz]
        show (((zs.map Prod.snd).take zs.length).foldl (unavS cs) (0, [])).1 = _
        rw [List.take_of_length_le (by rw [List.length_map]; exact Nat.le_refl _)]
        rfl
      rw [e]
      exact ⟨_, rfl, fin _ e2⟩
end
end C8
set_option maxRecDepth 100000
set_option maxHeartbeats 8000000
namespace C8
open PySem L2 Evl GP HR
/-! ### the search, as numbers -/
def tot (cs : List Int) (S : List Int) : Int := (S.map (cst cs)).sum
def Hit (rs : List (List Int)) (S : List Int) : Prop := ∀ r ∈ rs, ∃ p ∈ r, p ∈ S
theorem tot_nil (cs : List Int) : tot cs [] = 0 := rfl
theorem tot_cons (cs : List Int) (p : Int) (S : List Int) : tot cs (p :: S) = cst cs p + tot cs S := by simp [tot]
theorem tot_nonneg {cs S : List Int} (h : ∀ p ∈ S, 0 ≤ cst cs p) : 0 ≤ tot cs S := by
  induction S with
  | nil => exact Int.le_refl _
  | cons p S ih =>
    rw [tot_cons]
    have h1 := h p List.mem_cons_self
    have h2 := ih fun q hq => h q (List.mem_cons_of_mem _ hq)
    omega
theorem tot_mem {cs S : List Int} (h : ∀ p ∈ S, 0 ≤ cst cs p) {p : Int} (hp : p ∈ S) : cst cs p ≤ tot cs S := by
  induction S with
  | nil => cases hp
  | cons q S ih =>
    rw [tot_cons]
    have h0 := h q List.mem_cons_self
    have h2 : ∀ p ∈ S, 0 ≤ cst cs p := fun q hq => h q (List.mem_cons_of_mem _ hq)
    have h1 := tot_nonneg h2
    rcases List.mem_cons.mp hp with rfl | hp
    · omega
    · have := ih h2 hp
      omega
theorem tot_erase {cs S : List Int} {p : Int} (hp : p ∈ S) : tot cs S = cst cs p + tot cs (S.erase p) := by
  induction S with
  | nil => cases hp
  | cons q S ih =>
    by_cases e : q = p
    · rw [e, List.erase_cons_head, tot_cons]
    · have hp' : p ∈ S := (List.mem_cons.mp hp).resolve_left (Ne.symm e)
      rw [List.erase_cons_tail (by simpa using e), tot_cons, tot_cons, ih hp']
      omega
theorem foldl_min (r : List Int) : ∀ x : Int, r.foldl (fun a y => if y < a then y else a) x ≤ x ∧ ∀ y ∈ r, r.foldl (fun a y => if y < a then y else a) x ≤ y := by
  induction r with
  | nil => exact fun x => ⟨Int.le_refl _, fun y h => absurd h (by simp)⟩
  | cons z r ih =>
    intro x
    rw [List.foldl_cons]
    obtain ⟨h1, h2⟩ := ih (if z < x then z else x)
    have hz : (if z < x then z else x) ≤ z ∧ (if z < x then z else x) ≤ x := by split <;> constructor <;> omega
    refine ⟨by omega, fun y hy => ?_⟩
    rcases List.mem_cons.mp hy with rfl | hy
    · omega
    · exact h2 y hy
theorem minI_le {d : Int} {l : List Int} {y : Int} (h : y ∈ l) : minI d l ≤ y := by
  cases l with
  | nil => cases h
  | cons x r =>
    obtain ⟨h1, h2⟩ := foldl_min r x
    rcases List.mem_cons.mp h with rfl | h
    · exact h1
    · exact h2 y h
theorem filter_le {cs S : List Int} (h : ∀ p ∈ S, 0 ≤ cst cs p) (f : Int → Bool) : tot cs (S.filter f) ≤ tot cs S := by
  induction S with
  | nil => exact Int.le_refl _
  | cons q S ih =>
    have h0 := h q List.mem_cons_self
    have i := ih fun p hp => h p (List.mem_cons_of_mem _ hp)
    by_cases g : f q = true
    · rw [List.filter_cons_of_pos g, tot_cons, tot_cons]; omega
    · rw [List.filter_cons_of_neg g, tot_cons]; omega
theorem filter_or {cs S : List Int} (f g : Int → Bool) (d : ∀ p, f p = true → g p = true → False) : tot cs (S.filter fun p => f p || g p) = tot cs (S.filter f) + tot cs (S.filter g) := by
  induction S with
  | nil => rfl
  | cons q S ih =>
    cases hf : f q with
    | true =>
      have hg : g q = false := by
        cases hg : g q with
        | true => exact (d q hf hg).elim
        | false => rfl
      rw [List.filter_cons_of_pos (by simp [hf]), List.filter_cons_of_pos hf, List.filter_cons_of_neg (by simp [hg]), tot_cons, tot_cons, ih]
      omega
    | false =>
      cases hg : g q with
      | true =>
        rw [List.filter_cons_of_pos (by simp [hg]), List.filter_cons_of_neg (by simp [hf]), List.filter_cons_of_pos hg, tot_cons, tot_cons, ih]
        omega
      | false =>
        rw [List.filter_cons_of_neg (by simp [hf, hg]), List.filter_cons_of_neg (by simp [hf]), List.filter_cons_of_neg (by simp [hg]), ih]
theorem unav_le {cs S : List Int} (h : ∀ p ∈ S, 0 ≤ cst cs p) {rs : List (List Int)} (hit : Hit rs S) : unav cs rs ≤ tot cs S := by
  have gen : ∀ (rs : List (List Int)) (s : Int × List Int), Hit rs S → s.1 ≤ tot cs (S.filter fun p => decide (p ∈ s.2)) → (rs.foldl (unavS cs) s).1 ≤ tot cs (S.filter fun p => decide (p ∈ (rs.foldl (unavS cs) s).2)) := by
    intro rs
    induction rs with
    | nil => exact fun s _ h => h
    | cons r rs ih =>
      intro s hit hs
      rw [List.foldl_cons]
      refine ih _ (fun r' hr' => hit r' (List.mem_cons_of_mem _ hr')) ?_
      unfold unavS
      by_cases g : (r.any fun p => decide (p ∈ s.2)) = true
      · rw [if_pos g]
        exact hs
      · rw [if_neg g]
        have dis : ∀ p, p ∈ s.2 → p ∈ r → False := fun p h1 h2 => g (List.any_eq_true.mpr ⟨p, h2, decide_eq_true h1⟩)
        obtain ⟨p, hp, hpS⟩ := hit r List.mem_cons_self
        have e : (fun q => decide (q ∈ s.2 ++ r)) = fun q => decide (q ∈ s.2) || decide (q ∈ r) := by
          funext q
          simp [List.mem_append]
        show s.1 + minI 0 (r.map (cst cs)) ≤ tot cs (S.filter fun q => decide (q ∈ s.2 ++ r))
        rw [e, filter_or _ _ fun q h1 h2 => dis q (of_decide_eq_true h1) (of_decide_eq_true h2)]
        have h1 : minI 0 (r.map (cst cs)) ≤ cst cs p := minI_le (List.mem_map.mpr ⟨p, hp, rfl⟩)
        have h2 : cst cs p ≤ tot cs (S.filter fun q => decide (q ∈ r)) := tot_mem (fun q hq => h q (List.mem_filter.mp hq).1) (List.mem_filter.mpr ⟨hpS, decide_eq_true hp⟩)
        omega
  refine Int.le_trans (gen rs (0, []) hit ?_) (filter_le h _)
  show (0 : Int) ≤ _
  exact tot_nonneg fun q hq => h q (List.mem_filter.mp hq).1
/-! what a search gives back -/
abbrev Bst := Option (Int × List Int)
def Le (o : Bst) (z : Int) : Prop := ∃ x, o = some x ∧ x.1 ≤ z
structure Srch (n : Nat) (cs : List Int) (rs : List (List Int)) (ch : List Int) (sp : Int) (o o' : Bst) : Prop where
  sound : o' = o ∨ ∃ S : List Int, S.Nodup ∧ (∀ p ∈ S, ∃ r ∈ rs, p ∈ r) ∧ Hit rs S ∧ o' = some (sp + tot cs S, ch ++ S)
  mono : ∀ z, Le o z → Le o' z
  best : ∀ S : List Int, S.Nodup → InRange n S → Hit rs S → Le o' (sp + tot cs S)
/-- half way through a row: the positions ps are tried -/
structure Half (n : Nat) (cs : List Int) (rs : List (List Int)) (ch : List Int) (sp : Int) (o : Bst) (ps : List Int) (o' : Bst) : Prop where
  sound : o' = o ∨ ∃ S : List Int, S.Nodup ∧ (∀ p ∈ S, ∃ r ∈ rs, p ∈ r) ∧ Hit rs S ∧ o' = some (sp + tot cs S, ch ++ S)
  mono : ∀ z, Le o z → Le o' z
  best : ∀ S : List Int, S.Nodup → InRange n S → Hit rs S → (∃ p ∈ ps, p ∈ S) → Le o' (sp + tot cs S)
theorem Half.nil {n : Nat} {cs : List Int} {rs : List (List Int)} {ch : List Int} {sp : Int} {o : Bst} : Half n cs rs ch sp o [] o := ⟨.inl rfl, fun _ h => h, fun _ _ _ _ ⟨_, h, _⟩ => absurd h (by simp)⟩
def othersOf (rs : List (List Int)) (ps : List Int) (p : Int) : List (List Int) := (rs.filter fun r => !decide (p ∈ r)).map fun r => r.filter fun q => !decide (q ∈ ps)
theorem mem_others {rs : List (List Int)} {ps : List Int} {p : Int} {r' : List Int} (h : r' ∈ othersOf rs ps p) : ∃ r ∈ rs, p ∉ r ∧ r' = r.filter fun q => !decide (q ∈ ps) := by
  obtain ⟨r, hr, rfl⟩ := List.mem_map.mp h
  obtain ⟨h1, h2⟩ := List.mem_filter.mp hr
  exact ⟨r, h1, fun e => by simp [e] at h2, rfl⟩
theorem others_mem {rs : List (List Int)} {ps : List Int} {p : Int} {r : List Int} (h : r ∈ rs) (hp : p ∉ r) : (r.filter fun q => !decide (q ∈ ps)) ∈ othersOf rs ps p :=
  List.mem_map.mpr ⟨r, List.mem_filter.mpr ⟨h, by simp [hp]⟩, rfl⟩
theorem Half.step {n : Nat} {cs : List Int} {rs : List (List Int)} {ch : List Int} {sp : Int} {o o1 o2 : Bst} {ps : List Int} {p : Int} (A : Half n cs rs ch sp o ps o1) (hp : ∃ r ∈ rs, p ∈ r)
    (B : Srch n cs (othersOf rs ps p) (ch ++ [p]) (sp + cst cs p) o1 o2) : Half n cs rs ch sp o (ps ++ [p]) o2 := by
  refine ⟨?_, fun z h => B.mono z (A.mono z h), fun S nd ir hit h => ?_⟩
  · rcases B.sound with e | ⟨S, nd, hS, hit, e⟩
    · rw [e]
      exact A.sound
    · have np : p ∉ S := fun h => by
        obtain ⟨r', hr', hpr⟩ := hS p h
        obtain ⟨r, _, hn, rfl⟩ := mem_others hr'
        exact hn (List.mem_filter.mp hpr).1
      refine .inr ⟨p :: S, List.nodup_cons.mpr ⟨np, nd⟩, fun q hq => ?_, fun r hr => ?_, ?_⟩
      · rcases List.mem_cons.mp hq with rfl | hq
        · exact hp
        · obtain ⟨r', hr', hqr⟩ := hS q hq
          obtain ⟨r, h1, _, rfl⟩ := mem_others hr'
          exact ⟨r, h1, (List.mem_filter.mp hqr).1⟩
      · by_cases g : p ∈ r
        · exact ⟨p, g, List.mem_cons_self⟩
        · obtain ⟨q, hq, hqS⟩ := hit _ (others_mem hr g)
          exact ⟨q, (List.mem_filter.mp hq).1, List.mem_cons_of_mem _ hqS⟩
      · rw [e, tot_cons, List.append_assoc]
        congr 2
        omega
  · by_cases old : ∃ q ∈ ps, q ∈ S
    · exact B.mono _ (A.best S nd ir hit old)
    · have pS : p ∈ S := by
        obtain ⟨q, hq, hqS⟩ := h
        rcases List.mem_append.mp hq with hq | hq
        · exact (old ⟨q, hq, hqS⟩).elim
        · rw [← List.mem_singleton.mp hq]
          exact hqS
      have := B.best (S.erase p) (nd.erase p) (fun q hq => ir q (List.mem_of_mem_erase hq)) fun r' hr' => by
        obtain ⟨r, hr, hn, rfl⟩ := mem_others hr'
        obtain ⟨q, hq, hqS⟩ := hit r hr
        refine ⟨q, List.mem_filter.mpr ⟨hq, ?_⟩, ?_⟩
        · have : q ∉ ps := fun e => old ⟨q, e, hqS⟩
          simp [this]
        · exact (List.mem_erase_of_ne fun e => hn (by rw [← e]; exact hq)).mpr hqS
      rw [tot_erase pS]
      rwa [← Int.add_assoc]
theorem Half.done {n : Nat} {cs : List Int} {rs : List (List Int)} {ch : List Int} {sp : Int} {o o1 : Bst} {r : List Int} (A : Half n cs rs ch sp o r o1) (hr : r ∈ rs) : Srch n cs rs ch sp o o1 :=
  ⟨A.sound, A.mono, fun S nd ir hit => A.best S nd ir hit (hit r hr)⟩
theorem Srch.cut {n : Nat} {cs : List Int} {rs : List (List Int)} {ch : List Int} {sp : Int} {x : Int × List Int} (pos : ∀ p, 0 ≤ p → p < (n : Int) → 0 ≤ cst cs p) (h : x.1 ≤ sp + unav cs rs) : Srch n cs rs ch sp (some x) (some x) :=
  ⟨.inl rfl, fun _ h => h, fun S nd ir hit => ⟨x, rfl, by
    have := unav_le (fun p hp => pos p (ir p hp).1 (ir p hp).2) hit
    omega⟩⟩
theorem Srch.leaf {n : Nat} {cs : List Int} {ch : List Int} {sp : Int} {o : Bst} (pos : ∀ p, 0 ≤ p → p < (n : Int) → 0 ≤ cst cs p) (h : ∀ x, o = some x → sp < x.1) : Srch n cs [] ch sp o (some (sp, ch)) :=
  ⟨.inr ⟨[], List.nodup_nil, fun p hp => absurd hp (by simp), fun r hr => absurd hr (by simp), by rw [tot_nil, Int.add_zero, List.append_nil]⟩, fun z ⟨x, e, hx⟩ => ⟨_, rfl, by have := h x e; show sp ≤ z; omega⟩, fun S nd ir _ => ⟨_, rfl, by
    have := tot_nonneg (cs := cs) (S := S) fun p hp => pos p (ir p hp).1 (ir p hp).2
    show sp ≤ _
    omega⟩⟩
theorem others_len {rs : List (List Int)} {ps : List Int} {p : Int} {r : List Int} (h : r ∈ rs) (hp : p ∈ r) : (othersOf rs ps p).length < rs.length := by
  unfold othersOf
  rw [List.length_map]
  exact List.length_filter_lt_length_iff_exists.mpr ⟨r, h, by simp [hp]⟩
end C8
set_option maxRecDepth 100000
set_option maxHeartbeats 8000000
namespace C8
open PySem L2 Evl GP HR
def BestAt (H : Hp) (v : V) : Bst → Prop
  | none => v = .non
  | some x => ∃ t u, v = .ref t ∧ H t = some (.tup [.int x.1, .ref u]) ∧ H u = some (.tup (x.2.map V.int))
theorem BestAt.ex {H H' : Hp} {v : V} {o : Bst} (x : BestAt H v o) (e : Ex H H') : BestAt H' v o := by
  cases o with
  | none => exact x
  | some y =>
    obtain ⟨t, u, h1, h2, h3⟩ := x
    exact ⟨t, u, h1, e _ _ h2, e _ _ h3⟩
structure Rows (n : Nat) (H : Hp) (zs : List (Addr × List Int)) : Prop where
  at_ : Rw H zs
  ok : ∀ z ∈ zs, z.2.length ≤ 12 ∧ InRange n z.2
def spBetter (K : PySem.W.Frag) (n : Nat) : Sp := fun vs H Q _ => ∃ (b c t : Addr) (zs : List (Addr × List Int)) (cs ch : List Int) (sp : Int) (bv : V) (o : Bst),
  vs = [.ref b, .ref c, .ref t, .int sp, bv] ∧ SqL K H b (zs.map rowV) ∧ Rows cs.length H zs ∧ SqL K H c (cs.map V.int) ∧ H t = some (.tup (ch.map V.int)) ∧ BestAt H bv o ∧ cs.length ≤ 12 ∧ zs.length < n ∧ n ≤ 64 ∧ ch.length + n ≤ 100 ∧
  (∀ p, 0 ≤ p → p < (cs.length : Int) → 0 ≤ cst cs p) ∧ ∀ v o' H', Ex H H' → BestAt H' v o' → Srch cs.length cs (zs.map Prod.snd) ch sp o o' → Q v H'
theorem eqV_int {i j : Int} : eqV (.int i) (.int j) = true ↔ i = j := by
  show decide (i = j) = true ↔ _
  exact decide_eq_true_iff
theorem inV_ints {p : Int} {r : List Int} : inV (.int p) (r.map V.int) = decide (p ∈ r) := by
  rw [Bool.eq_iff_iff, decide_eq_true_iff]
  unfold inV
  rw [List.any_map, List.any_eq_true]
  constructor
  · rintro ⟨q, hq, e⟩
    rw [← eqV_int.mp e]
    exact hq
  · exact fun h => ⟨p, h, eqV_int.mpr rfl⟩
theorem flat_ints {r : List Int} : (r.map V.int).all flatV = true := by
  rw [List.all_map, List.all_eq_true]
  exact fun _ _ => rfl
theorem othersOf_snoc {rs : List (List Int)} {ps : List Int} {p : Int} {r : List Int} : othersOf (rs ++ [r]) ps p = othersOf rs ps p ++ (if p ∈ r then [] else [r.filter fun q => !decide (q ∈ ps)]) := by
  unfold othersOf
  rw [List.filter_append, List.map_append]
  by_cases h : p ∈ r
  · rw [if_pos h, List.filter_cons_of_neg (by simp [h])]
    rfl
  · rw [if_neg h, List.filter_cons_of_pos (by simp [h])]
    rfl
section
variable {P : Program} {w : World} {K : PySem.W.Frag} {mg : Str → Option Value} {base : Heap} {a : Ad} {d : Fd}
theorem ok_better_hitting (T : TX K mg a) (D : FDS K a d) (n : Nat) : FnOk P w K mg base CX0 (n + 2) a.a_better_hitting d.a_better_hitting ["rows", "costs", "chosen", "spent", "best"] (spBetter K n) := by
  have G_unavoidable_cost : FnOk P w K mg base CX0 1 a.a_unavoidable_cost d.a_unavoidable_cost ["rows", "costs"] (spUnav K) := ok_unavoidable_cost T D
  induction n with
  | zero =>
    refine D.F_better_hitting.ok sc_better_hitting (fun vs H Q E h => ?_) (fun cdv A outer s H vs Q E hr h => ?_)
    · obtain ⟨_, _, _, _, _, _, _, _, _, _, _, _, _, _, _, _, h, _⟩ := h
      omega
    · obtain ⟨_, _, _, _, _, _, _, _, _, _, _, _, _, _, _, _, h, _⟩ := h
      omega
  | succ n G_better_hitting =>
    refine D.F_better_hitting.ok sc_better_hitting (fun vs H Q E h => ?_) (fun cdv A outer s H vs Q E hr h => ?_)
    · obtain ⟨b, c, t, zs, cs, ch, sp, bv, o, rfl, _⟩ := h
      rfl
    · obtain ⟨b, c, t, zs, cs, ch, sp, bv, o, rfl, hb, R, hc, ht, B, c12, zn, n64, ch100, pos, fin⟩ := h
      refine ⟨_, (Evl.pss_cut (ps_if (PW.pt (pw_and (pt_cmpR op_notN (pv 4) pe_non (nomark _)) (pw_and1 (pt_cmpR op_ge (pe_op op_add (pv 3) (pe_call G_unavoidable_cost (hr.mono (by omega)) rfl T.f_unavoidable_cost T.k_unavoidable_cost D.B_unavoidable_cost .nil pass0 (pa_cons (pv 0) (pa_cons (pv 1) pa_nil)))) (pe_ix ix_seq (pv 4) pe_int (fun _ _ => rfl)) (nomark _))))) (pss_one (ps_ret (pv 4))) pss_nil)
        (pss_cons (ps_if (pt_cmpR op_eq (pe_callB call_len_seq (by rfl) T.b_len (by decide +kernel) (pa_cons (pv 0) pa_nil)) pe_int (nomark _)) (pss_one (ps_ret (pe_tup (pa_cons (pv 3) (pa_cons (pv 2) pa_nil))))) pss_nil)
        (pss_cons (ps_set (i := 5) sc_better_hitting.nd rfl (Or.inr rfl) (pe_tup pa_nil))
        (pss_cons (ps_for PassesOwn.never rfl (pi_tup (pe_minLen rfl hr.units (by rfl) T.b_min (by rfl) T.b_len (pa_cons (pv 0) pa_nil))) (pg_name (i := 6) sc_better_hitting.nd rfl (Or.inr rfl)) (pss_cons (ps_setLc (i := 7) (own := [("row", 8)]) (g := gName 8) rfl sc_better_hitting.nd rfl rfl (sw_true rfl rfl rfl (by decide +kernel)) (pi_list (pv 0)) (blkOk_by (N := ["rows", "costs", "chosen", "spent", "best", "tried", "position", "others", "row", "other"]) (sc := defScope s_better_hitting) (by decide +kernel)) (fun _ _ _ _ _ => (pg_name (i := 8) sc_better_hitting.nd rfl (Or.inl rfl))) (fun _ _ _ _ _ => (pts_one (pt_cmpR (op_notIn_seqK (K := K)) (pv 6) (pv 8) rfl))) (fun _ _ _ _ _ => (pe_callTy (call_tuple_ofK (K := K)) (by rfl) T.b_tuple (by decide +kernel) (pa_cons (pe_lc (own := [("other", 9)]) (g := gName 9) rfl sc_better_hitting.nd (pi_tupK (K := K) (pv 8)) (blkOk_by (N := ["rows", "costs", "chosen", "spent", "best", "tried", "position", "others", "row", "other"]) (sc := _) rfl) (fun _ _ _ _ _ => (pg_name (i := 9) sc_better_hitting.nd rfl (Or.inl rfl))) (fun _ _ _ _ _ => (pts_one (pt_cmpR (op_notIn_seqK (K := K)) (pv 9) (pv 5) rfl))) (fun _ _ _ _ _ => (pv 9))) pa_nil))))
        (pss_cons (ps_set (i := 4) sc_better_hitting.nd rfl (Or.inl rfl) (pe_call G_better_hitting (hr.mono (by omega)) rfl T.f_better_hitting T.k_better_hitting D.B_better_hitting .nil pass0 (pa_cons (pv 7) (pa_cons (pv 1) (pa_cons (pe_tup (StX.pa_star (pv 2) (pa_cons (pv 6) pa_nil))) (pa_cons (pe_op op_add (pv 3) (pe_ix (ix_listK (K := K)) (pv 1) (pv 6) (fun _ _ => rfl))) (pa_cons (pv 4) pa_nil)))))))
        (pss_one (ps_set (i := 5) sc_better_hitting.nd rfl (Or.inr rfl) (pe_tup (StX.pa_star (pv 5) (pa_cons (pv 6) pa_nil))))))))
        (pss_one (ps_ret (pv 4))))))), ?_⟩
      generalize hrs : zs.map Prod.snd = rs at *
      have lz : (zs.map rowV).length = zs.length := List.length_map _
      have big : 1000 ≤ sizeLine := by decide
      refine ⟨fun σ' H' => σ' = [some (.ref b), some (.ref c), some (.ref t), some (.int sp), some bv, none, none, none, none, none] ∧ Ex H H' ∧ ∀ x, o = some x → sp + unav cs rs < x.1, ?_, ?_⟩
      · cases o with
        | none =>
          have B' : bv = .non := B
          subst B'
          exact ⟨_, rfl, rfl, _, rfl, iteF' (by decide) (iteF' rfl ⟨rfl, Ex.refl _, fun x e => nomatch e⟩)⟩
        | some x =>
          obtain ⟨t2, u2, rfl, h2, h3⟩ := id B
          refine ⟨_, rfl, rfl, _, rfl, iteT' rfl ⟨_, rfl, _, rfl, _, rfl, b, c, zs, cs, rfl, hb, R.at_, hc, c12, by omega, R.ok, fun H1 e1 => ?_⟩⟩
          rw [hrs]
          refine ⟨_, _, rfl, rfl, _, rfl, .inr (.inl ⟨t2, _, 0, .int x.1, rfl, rfl, SqT.of (e1 _ _ h2), rfl, _, _, rfl, rfl, _, rfl, ite2 (fun g => ?_) (fun g => ?_)⟩)⟩
          · have g' := of_decide_eq_true g
            exact ⟨_, rfl, fin _ _ H1 e1 (B.ex e1) (Srch.cut pos g')⟩
          · refine ⟨rfl, e1, fun y e => ?_⟩
            cases e
            have g' : ¬ x.1 ≤ sp + unav cs rs := fun h => g (decide_eq_true h)
            omega
      · rintro σ' H0 ⟨rfl, e0, need⟩
        refine ⟨_, rfl, b, _, rfl, .inl (ex_l e0 hb), rfl, _, rfl, ite2 (fun g => ?_) (fun g => ?_)⟩
        · have z0 : zs = [] := by
            have := V.int.inj (of_decide_eq_true g)
            rw [lz] at this
            exact List.eq_nil_of_length_eq_zero (by omega)
          subst z0
          have r0 : rs = [] := hrs.symm
          subst r0
          refine ⟨_, rfl, _, rfl, by show 2 ≤ sizeLine; omega, fun q hq => ?_⟩
          have xq := Ex.new (o := .tup [.int sp, .ref t]) hq
          refine fin (.ref q) (some (sp, ch)) _ (e0.trans xq) ⟨q, t, rfl, upd_same, xq _ _ (e0 _ _ ht)⟩ (Srch.leaf pos fun x e => ?_)
          have := need x e
          have : unav cs [] = 0 := rfl
          omega
        · have zne : zs ≠ [] := fun e => g (by rw [e]; rfl)
          refine ⟨by show 0 ≤ sizeLine; omega, fun t5 h5 => ?_⟩
          have x5 := Ex.new (o := .tup []) h5
          have e5 : Ex H (upd H0 t5 (.tup [])) := e0.trans x5
          generalize hH5 : upd H0 t5 (.tup []) = H5 at *
          have ht5 : H5 t5 = some (.tup []) := by rw [← hH5]; exact upd_same
          have hb5 := ex_l e5 hb
          have R5 := R.at_.ex e5
          refine ⟨_, rfl, b, _, rfl, hb5, fun e => zne (List.map_eq_nil_iff.mp e), fun v hv => ?_, fun v hv => ?_⟩
          · obtain ⟨z, hz, rfl⟩ := List.mem_map.mp hv
            exact ⟨z.1, _, rfl, SqT.of (R5 z hz)⟩
          · obtain ⟨z, hz, rfl⟩ := List.mem_map.mp hv
            obtain ⟨z12, zir⟩ := R.ok z hz
            have zr : z.2 ∈ rs := by rw [← hrs]; exact List.mem_map.mpr ⟨z, hz, rfl⟩
            refine ⟨z.1, rfl, ⟨_, SqT.of (R5 z hz)⟩, for_it (walk_tup (xs := z.2.map V.int)) (fun i σ H' => ∃ (tr : Addr) (bv' : V) (o6 o7 : Option V) (o' : Bst), σ = [some (.ref b), some (.ref c), some (.ref t), some (.int sp), some bv', some (.ref tr), o6, o7, none, none] ∧ Ex H5 H' ∧ H' tr = some (.tup ((z.2.take i).map V.int)) ∧ BestAt H' bv' o' ∧ Half cs.length cs rs ch sp o (z.2.take i) o')
              ⟨t5, bv, none, none, o, rfl, Ex.refl _, ht5, B.ex e5, Half.nil⟩ (fun i σ H' _ ⟨_, _, _, _, _, _, e, _⟩ => SqT.of (e _ _ (R5 z hz))) ?_ ?_⟩
            · rintro i v σ H6 H6' hi ⟨tr, bv', o6, o7, o', rfl, e6, htr, B6, A6⟩ ⟨rfl, hv⟩
              rw [List.length_map] at hi
              rw [List.getElem?_map, List.getElem?_eq_getElem hi] at hv
              cases hv
              have tk : z.2.take (i + 1) = z.2.take i ++ [z.2[i]] := by rw [List.take_add_one, List.getElem?_eq_getElem hi]; rfl
              have hpz : z.2[i] ∈ z.2 := List.getElem_mem hi
              obtain ⟨p0, p9⟩ := zir _ hpz
              have tl : (z.2.take i).length ≤ 12 := Nat.le_trans (List.length_take_le ..) (by omega)
              rw [tk]
              generalize z.2[i] = p at *
              generalize z.2.take i = ps at *
              have hb6 := ex_l e6 hb5
              have R6 := R5.ex e6
              refine ⟨_, rfl, b, rfl, ⟨_, hb6⟩, fun D1 hD1 => lc_it (H1 := H6') (walk_list (xs := zs.map rowV)) (fun i H' => Ex H6' H' ∧ ∃ ys : List (Addr × List Int), H' D1 = some (.lst (ys.map rowV)) ∧ Rw H' ys ∧ ys.map Prod.snd = othersOf (rs.take i) ps p)
                ⟨Ex.new hD1, [], upd_same, (fun z hz => absurd hz (by simp)), rfl⟩ (fun i H' _ h => ex_l h.1 hb6) ?_ ?_⟩
              · rintro k v H7 H7' hk ⟨e7, ys, hy, Y, ey⟩ ⟨rfl, hv⟩
                rw [lz] at hk
                rw [List.getElem?_map, List.getElem?_eq_getElem hk] at hv
                cases hv
                have ry : rs.take (k + 1) = rs.take k ++ [zs[k].2] := by rw [List.take_add_one, ← hrs, List.getElem?_map, List.getElem?_eq_getElem hk]; rfl
                have yz : zs[k] ∈ zs := List.getElem_mem hk
                have y12 := (R.ok _ yz).1
                have h7 := e7 _ _ (R6 _ yz)
                rw [ry, othersOf_snoc, ← ey]
                have yl : ys.length ≤ 64 := by
                  have h1 : (ys.map Prod.snd).length ≤ (rs.take k).length := by rw [ey]; unfold othersOf; rw [List.length_map]; exact List.length_filter_le _ _
                  rw [List.length_map] at h1
                  have := List.length_take_le k rs
                  omega
                generalize zs[k] = y at *
                refine ⟨rfl, _, rfl, _, rfl, y.1, _, rfl, .inr (SqT.of h7), rfl, flat_ints, _, rfl, ?_⟩
                rw [if_pos rfl, inV_ints]
                by_cases g : p ∈ y.2
                · rw [show (!decide (p ∈ y.2)) = false by simp [g], if_pos g, List.append_nil]
                  exact iteF' rfl ⟨e7, ys, hy, Y, rfl⟩
                · rw [show (!decide (p ∈ y.2)) = true by simp [g], if_neg g]
                  refine iteT' rfl ⟨_, rfl, y.1, rfl, ⟨_, SqT.of h7⟩, fun D2 hD2 => lcF walk_tup (fun q => !decide (q ∈ ps)) V.int (by omega) (fun H' e => SqT.of (e _ _ h7)) (fun _ => rfl) (fun q hq H8 e8 Q' q' => ⟨_, rfl, _, rfl, tr, _, rfl, .inr (SqT.of (e8 _ _ (e7 _ _ htr))), rfl, flat_ints, _, rfl, by rw [if_pos rfl, inV_ints]; exact q' H8 (Ex.refl _)⟩) (fun q hq _ H8 e8 Q' q' => ⟨_, rfl, q' H8 (Ex.refl _)⟩) hD2 fun H8 e8 h8 => ⟨D2, _, rfl, .inl ⟨SqL.of h8, fun l hl => ?_⟩⟩⟩
                  have xl := Ex.new (o := .tup ((y.2.filter fun q => !decide (q ∈ ps)).map V.int)) hl
                  refine ⟨ys.map rowV, xl _ _ (e8 _ _ hy), by rw [List.length_map]; omega, Ex.mut ((e7.trans e8).trans xl) hD1, ys ++ [(l, y.2.filter fun q => !decide (q ∈ ps))], by rw [upd_same, List.map_append]; rfl, ?_, by rw [List.map_append]; rfl⟩
                  have nl : l ≠ D1 := fun e => by
                    have := e8 _ _ hy
                    rw [← e, hl] at this
                    cases this
                  intro x hx
                  rcases List.mem_append.mp hx with hx | hx
                  · have h1 := Y x hx
                    have nx : x.1 ≠ D1 := fun e => by rw [e, hy] at h1; cases h1
                    rw [upd_ne nx]
                    exact xl _ _ (e8 _ _ h1)
                  · rw [List.mem_singleton.mp hx, upd_ne nl]
                    exact upd_same
              · rintro H7 ⟨e7, ys, hy, Y, ey⟩
                have rl : rs.length = zs.length := by rw [← hrs, List.length_map]
                rw [lz, ← rl, List.take_length] at ey
                have pr : ∃ r ∈ rs, p ∈ r := ⟨z.2, zr, hpz⟩
                have yl : ys.length < zs.length := by
                  have := others_len (ps := ps) zr hpz
                  rw [← ey, List.length_map] at this
                  omega
                have ht7 := e7 _ _ (e6 _ _ (e5 _ _ ht))
                have hc7 := ex_l (e5.trans (e6.trans e7)) hc
                have yok : ∀ x ∈ ys, x.2.length ≤ 12 ∧ InRange cs.length x.2 := fun x hx => by
                  have h1 : x.2 ∈ ys.map Prod.snd := List.mem_map.mpr ⟨x, hx, rfl⟩
                  rw [ey] at h1
                  obtain ⟨r, hr, _, er⟩ := mem_others h1
                  rw [← hrs] at hr
                  obtain ⟨y, hy, rfl⟩ := List.mem_map.mp hr
                  obtain ⟨h2, h3⟩ := R.ok y hy
                  rw [er]
                  exact ⟨Nat.le_trans (List.length_filter_le _ _) h2, fun q hq => h3 q (List.mem_filter.mp hq).1⟩
                refine ⟨_, rfl, _, rfl, _, rfl, t, _, rfl, .inl (SqT.of ht7), _, rfl, by rw [List.length_append, List.length_map]; show _ + 1 ≤ _; omega, fun t2 h2 => ?_⟩
                have x2 := Ex.new (o := .tup (ch.map V.int ++ [.int p])) h2
                refine ⟨_, rfl, _, rfl, _, rfl, c, _, p, _, rfl, rfl, ex_l x2 hc7, cst_at p0 p9, _, _, rfl, rfl, _, rfl, D1, c, t2, ys, cs, ch ++ [p], sp + cst cs p, bv', o', rfl, SqL.of (x2 _ _ hy), ⟨Y.ex x2, yok⟩, ex_l x2 hc7, ?_, (B6.ex e7).ex x2, c12, by omega, by omega, by rw [List.length_append, List.length_singleton]; omega, pos, fun v o2 H8 e8 B8 S8 => ?_⟩
                · rw [List.map_append]
                  exact upd_same
                · rw [ey] at S8
                  have e68 := (e7.trans x2).trans e8
                  refine ⟨_, rfl, tr, _, rfl, .inl (SqT.of (e68 _ _ htr)), _, rfl, by rw [List.length_append, List.length_map]; show _ + 1 ≤ _; omega, fun t3 h3 => ?_⟩
                  have x3 := Ex.new (o := .tup (ps.map V.int ++ [.int p])) h3
                  exact ⟨t3, v, _, _, o2, rfl, (e6.trans e68).trans x3, by rw [List.map_append]; exact upd_same, B8.ex x3, A6.step pr S8⟩
            · rintro σ H6 ⟨tr, bv', o6, o7, o', rfl, e6, htr, B6, A6⟩
              rw [List.length_map, List.take_length] at A6
              exact ⟨_, rfl, fin _ _ H6 (e5.trans e6) B6 (A6.done zr)⟩
end
end C8
set_option maxRecDepth 100000
set_option maxHeartbeats 8000000
namespace C8
open PySem L2 Evl GP HR
theorem keys_put {κ : Type} [DecidableEq κ] (kvs : List (κ × V)) (k : κ) (v : V) (q : κ) : (∃ kv ∈ putK kvs k v, kv.1 = q) ↔ (∃ kv ∈ kvs, kv.1 = q) ∨ q = k := by
  unfold putK
  by_cases h : kvs.any (fun kv => decide (kv.1 = k)) = true
  · rw [if_pos h]
    obtain ⟨kv0, h0, e0⟩ : ∃ kv ∈ kvs, kv.1 = k := by simpa [List.any_eq_true] using h
    constructor
    · rintro ⟨kv, hkv, rfl⟩
      obtain ⟨kv1, h1, rfl⟩ := List.mem_map.mp hkv
      refine .inl ⟨kv1, h1, ?_⟩
      by_cases g : kv1.1 = k
      · rw [if_pos g]
      · rw [if_neg g]
    · rintro (⟨kv, hkv, rfl⟩ | rfl)
      · refine ⟨_, List.mem_map.mpr ⟨kv, hkv, rfl⟩, ?_⟩
        by_cases g : kv.1 = k
        · rw [if_pos g]
        · rw [if_neg g]
      · refine ⟨_, List.mem_map.mpr ⟨kv0, h0, rfl⟩, ?_⟩
        rw [if_pos e0]
        exact e0
  · rw [if_neg h]
    constructor
    · rintro ⟨kv, hkv, rfl⟩
      rcases List.mem_append.mp hkv with hkv | hkv
      · exact .inl ⟨kv, hkv, rfl⟩
      · exact .inr (by rw [List.mem_singleton.mp hkv])
    · rintro (⟨kv, hkv, rfl⟩ | rfl)
      · exact ⟨kv, List.mem_append_left _ hkv, rfl⟩
      · exact ⟨_, List.mem_append_right _ (List.mem_singleton.mpr rfl), rfl⟩
theorem dcT_it {J : It} {n : Nat} {G : Hp → Prop} {Y : Nat → Hp → V → Hp → Prop} (wk : L2.Walk J n G Y) {g : TG} {tt : TT} {tk tv : TE} {vs : List Nat} {σ : L2.St} {H1 : Hp} {D : Addr} {Qd : Hp → Prop} (Pv : Nat → Hp → Prop)
    (h0 : Pv 0 (upd H1 D (.dT []))) (hG : ∀ i H, i ≤ n → Pv i H → G H)
    (step : ∀ i x H H', i < n → Pv i H → Y i H x H' → g x (wipe σ vs) H' fun σ2 H2 => wipe σ2 vs = wipe σ vs ∧ tt σ2 H2 fun yes H3 => if yes = true then tk σ2 H3 fun y H4 => tv σ2 H4 fun z H5 => ∃ kvs k b, y = .ref b ∧ H5 b = some (.tup (k.map kV)) ∧ H5 D = some (.dT kvs) ∧ kvs.length < sizeLine ∧ Pv (i + 1) (upd H5 D (.dT (putK kvs k z))) else Pv (i + 1) H3)
    (fin : ∀ H, Pv n H → Qd H) :
    ∃ W : Nat → Nat → Hp → Prop, (∃ m, W 0 m (upd H1 D (.dT []))) ∧ ∀ i m H, W i m H →
      (J.stop i H ∧ Qd H) ∨ (J.go i H ∧ ∃ Nx : Hp → Prop, (∀ H', Nx H' → ∃ m', m' < m ∧ W (i + 1) m' H') ∧ ∀ x H', J.yld i H x H' → g x (wipe σ vs) H' fun σ2 H2 => wipe σ2 vs = wipe σ vs ∧ tt σ2 H2 fun yes H3 =>
        if yes = true then tk σ2 H3 fun y H4 => tv σ2 H4 fun z H5 => ∃ kvs k b, y = .ref b ∧ H5 b = some (.tup (k.map kV)) ∧ H5 D = some (.dT kvs) ∧ kvs.length < sizeLine ∧ Nx (upd H5 D (.dT (putK kvs k z))) else Nx H3) := by
  refine ⟨fun i m H => m = n - i ∧ i ≤ n ∧ Pv i H, ⟨_, rfl, Nat.zero_le _, h0⟩, ?_⟩
  rintro i m H ⟨rfl, hi, p⟩
  rcases Nat.lt_or_eq_of_le hi with lt | rfl
  · exact .inr ⟨wk.goes i H lt (hG i H hi p), Pv (i + 1), fun H' h => ⟨n - (i + 1), by omega, rfl, lt, h⟩, fun x H' hy => step i x H H' lt p (wk.yields i H x H' lt (hG i H hi p) hy)⟩
  · exact .inl ⟨wk.stops H (hG i H hi p), fin H p⟩
/-- rows handed in: lists or tuples of numbers -/
structure Sets (K : PySem.W.Frag) (n : Nat) (H : Hp) (zs : List (Addr × List Int)) : Prop where
  at_ : ∀ z ∈ zs, SqL K H z.1 (z.2.map V.int) ∨ SqT K H z.1 (z.2.map V.int)
  ok : ∀ z ∈ zs, z.2.length ≤ 12 ∧ InRange n z.2
structure Keys (n : Nat) (kvs : List (List L2.Key × V)) (ss : List (List Int)) (k : Nat) : Prop where
  few : kvs.length ≤ k
  row : ∀ kv ∈ kvs, ∃ r : List Int, kv.1 = r.map (Sum.inl : Int → L2.Key) ∧ r.length ≤ 12 ∧ InRange n r ∧ ∃ s ∈ ss, ∀ p, p ∈ r ↔ p ∈ s
  has : ∀ s ∈ ss, ∃ kv ∈ kvs, ∃ r : List Int, kv.1 = r.map (Sum.inl : Int → L2.Key) ∧ ∀ p, p ∈ r ↔ p ∈ s
theorem len_put {κ : Type} [DecidableEq κ] (kvs : List (κ × V)) (k : κ) (v : V) : (putK kvs k v).length ≤ kvs.length + 1 := length_putK kvs k v
theorem Keys.put {n k : Nat} {kvs : List (List L2.Key × V)} {ss : List (List Int)} (A : Keys n kvs ss k) {s r : List Int} (v : V) (r12 : r.length ≤ 12) (ir : InRange n r) (h : ∀ p, p ∈ r ↔ p ∈ s) : Keys n (putK kvs (r.map (Sum.inl : Int → L2.Key)) v) (ss ++ [s]) (k + 1) := by
  have sub : ∀ q : List L2.Key, (∃ kv ∈ putK kvs (r.map (Sum.inl : Int → L2.Key)) v, kv.1 = q) ↔ (∃ kv ∈ kvs, kv.1 = q) ∨ q = r.map (Sum.inl : Int → L2.Key) := keys_put kvs _ v
  refine ⟨by have := len_put kvs (r.map (Sum.inl : Int → L2.Key)) v; have := A.few; omega, fun kv hkv => ?_, fun s' hs => ?_⟩
  · rcases (sub kv.1).mp ⟨kv, hkv, rfl⟩ with ⟨kv0, h0, e0⟩ | e
    · obtain ⟨r0, e1, l0, i0, s0, hs0, w0⟩ := A.row kv0 h0
      exact ⟨r0, by rw [← e0, e1], l0, i0, s0, List.mem_append_left _ hs0, w0⟩
    · exact ⟨r, e, r12, ir, s, List.mem_append_right _ (List.mem_singleton.mpr rfl), h⟩
  · rcases List.mem_append.mp hs with hs | hs
    · obtain ⟨kv0, h0, r0, e0, w0⟩ := A.has s' hs
      obtain ⟨kv, hkv, e⟩ := (sub kv0.1).mpr (.inl ⟨kv0, h0, rfl⟩)
      exact ⟨kv, hkv, r0, by rw [e, e0], w0⟩
    · rw [List.mem_singleton.mp hs]
      obtain ⟨kv, hkv, e⟩ := (sub _).mpr (.inr rfl)
      exact ⟨kv, hkv, r, e, h⟩
/-- what least_hitting answers -/
def Sol (n : Nat) (cs : List Int) (ss : List (List Int)) : Option (List Int) → Prop
  | none => ∀ S : List Int, S.Nodup → InRange n S → ¬ Hit ss S
  | some R => R.Pairwise (· < ·) ∧ InRange n R ∧ Hit ss R ∧ ∀ S : List Int, S.Nodup → InRange n S → Hit ss S → tot cs R ≤ tot cs S
def AnsAt (H : Hp) (v : V) : Option (List Int) → Prop
  | none => v = .non
  | some R => ∃ t, v = .ref t ∧ H t = some (.tup (R.map V.int))
def spLeast (K : PySem.W.Frag) : Sp := fun vs H Q _ => ∃ (b c : Addr) (zs : List (Addr × List Int)) (ws : List Int), vs = [.ref b, .ref c] ∧ (SqL K H b (zs.map rowV) ∨ SqT K H b (zs.map rowV)) ∧ Sets K ws.length H zs ∧
  (SqL K H c (ws.map V.int) ∨ SqT K H c (ws.map V.int)) ∧ ws.length ≤ 12 ∧ zs.length ≤ 9 ∧ (∀ w ∈ ws, 1 ≤ w ∧ w.natAbs < 2 ^ 110) ∧ ∀ v o H', Ex H H' → AnsAt H' v o → Sol ws.length (costsL ws) (zs.map Prod.snd) o → Q v H'
theorem cst_costs {ws : List Int} {p : Int} (h0 : 0 ≤ p) (h1 : p < ws.length) : cst (costsL ws) p = costZ ws.length (ws.getD p.toNat 0) p.toNat := by
  unfold cst costsL
  rw [List.getD_eq_getElem?_getD, List.getElem?_map, List.getElem?_range (by omega)]
  rfl
theorem pow_pos2 (k : Nat) : (0 : Int) < 2 ^ k := Int.pow_pos (by decide)
theorem costZ_pos {m i : Nat} {w : Int} (hw : 1 ≤ w) : 0 < costZ m w i := by
  unfold costZ
  have h1 : (2 : Int) ^ (m - 1 - i) ≤ 2 ^ m := by
    have : (2 : Nat) ^ (m - 1 - i) ≤ 2 ^ m := Nat.pow_le_pow_right (by decide) (by omega)
    exact_mod_cast this
  have h2 : (2 : Int) * 2 ^ m ≤ (w * (m + 1) + 1) * 2 ^ m := by
    refine Int.mul_le_mul_of_nonneg_right ?_ (Int.le_of_lt (pow_pos2 m))
    have : (1 : Int) * (m + 1) ≤ w * (m + 1) := Int.mul_le_mul_of_nonneg_right hw (by omega)
    omega
  have h3 := pow_pos2 m
  omega
theorem cst_pos {ws : List Int} (h : ∀ w ∈ ws, 1 ≤ w) {p : Int} (h0 : 0 ≤ p) (h1 : p < ws.length) : 0 < cst (costsL ws) p := by
  rw [cst_costs h0 h1]
  refine costZ_pos ?_
  have hi : p.toNat < ws.length := by omega
  rw [List.getD_eq_getElem?_getD, List.getElem?_eq_getElem hi]
  exact h _ (List.getElem_mem hi)
theorem lt_go {K : PySem.W.Frag} {t : TE} {a : Addr} {xs : List V} {σ : St} {H : Hp} {R : It → Hp → Prop} (ht : ∀ Q : VK, Q (.ref a) H → t σ H Q) (h : SqL K H a xs ∨ SqT K H a xs)
    (hR : ∀ (J : It) (G : Hp → Prop), L2.Walk J xs.length G (YAt xs) → (∀ H', Ex H H' → G H') → R J H) : iList K t σ H R ∨ iTup K t σ H R := by
  rcases h with h | h
  · exact .inl (ht _ ⟨a, rfl, ⟨_, h⟩, hR _ _ walk_list fun _ e => ex_l e h⟩)
  · exact .inr (ht _ ⟨a, rfl, ⟨_, h⟩, hR _ _ walk_tup fun _ e => ex_t e h⟩)
theorem tot_perm {cs S S' : List Int} (p : S.Perm S') : tot cs S = tot cs S' := by
  induction p with
  | nil => rfl
  | cons x _ ih => rw [tot_cons, tot_cons, ih]
  | swap x y l => rw [tot_cons, tot_cons, tot_cons, tot_cons]; omega
  | trans _ _ h1 h2 => rw [h1, h2]
theorem Sets.or_ex {K : PySem.W.Frag} {H H' : Hp} {a : Addr} {xs : List V} (e : Ex H H') (h : SqL K H a xs ∨ SqT K H a xs) : SqL K H' a xs ∨ SqT K H' a xs := h.elim (fun h => .inl (ex_l e h)) fun h => .inr (ex_t e h)
theorem Keys.rows {n k : Nat} {kvs : List (List L2.Key × V)} {ss : List (List Int)} (A : Keys n kvs ss k) : ∃ rs : List (List Int), kvs.map Prod.fst = rs.map (fun r => r.map (Sum.inl : Int → L2.Key)) := by
  have gen : ∀ kvs : List (List L2.Key × V), (∀ kv ∈ kvs, ∃ r : List Int, kv.1 = r.map (Sum.inl : Int → L2.Key)) → ∃ rs : List (List Int), kvs.map Prod.fst = rs.map (fun r => r.map (Sum.inl : Int → L2.Key)) := by
    intro kvs
    induction kvs with
    | nil => exact fun _ => ⟨[], rfl⟩
    | cons kv kvs ih =>
      intro h
      obtain ⟨r, hr⟩ := h kv List.mem_cons_self
      obtain ⟨rs, e⟩ := ih fun x hx => h x (List.mem_cons_of_mem _ hx)
      exact ⟨r :: rs, by rw [List.map_cons, List.map_cons, e, hr]⟩
  exact gen kvs fun kv h => let ⟨r, e, _⟩ := A.row kv h; ⟨r, e⟩
theorem inl_inj {r s : List Int} (h : r.map (Sum.inl : Int → L2.Key) = s.map (Sum.inl : Int → L2.Key)) : r = s := by
  have := congrArg (fun l => l.map fun k : L2.Key => match k with | .inl i => i | .inr _ => 0) h
  simpa [List.map_map, Function.comp_def] using this
theorem Keys.row2 {n k : Nat} {kvs : List (List L2.Key × V)} {ss rs : List (List Int)} (A : Keys n kvs ss k) (e : kvs.map Prod.fst = rs.map (fun r => r.map (Sum.inl : Int → L2.Key))) :
    rs.length = kvs.length ∧ (∀ r ∈ rs, r.length ≤ 12 ∧ InRange n r) ∧ (∀ S, Hit rs S ↔ Hit ss S) := by
  have len : rs.length = kvs.length := by have := congrArg List.length e; rw [List.length_map, List.length_map] at this; exact this.symm
  have up : ∀ r ∈ rs, ∃ kv ∈ kvs, kv.1 = r.map (Sum.inl : Int → L2.Key) := fun r hr => by
    have : r.map (Sum.inl : Int → L2.Key) ∈ kvs.map Prod.fst := by rw [e]; exact List.mem_map.mpr ⟨r, hr, rfl⟩
    exact List.mem_map.mp this
  have down : ∀ kv ∈ kvs, ∃ r ∈ rs, kv.1 = r.map (Sum.inl : Int → L2.Key) := fun kv h => by
    have : kv.1 ∈ rs.map (fun r => r.map (Sum.inl : Int → L2.Key)) := by rw [← e]; exact List.mem_map.mpr ⟨kv, h, rfl⟩
    obtain ⟨r, hr, h⟩ := List.mem_map.mp this
    exact ⟨r, hr, h.symm⟩
  refine ⟨len, fun r hr => ?_, fun S => ⟨fun h s hs => ?_, fun h r hr => ?_⟩⟩
  · obtain ⟨kv, hkv, e1⟩ := up r hr
    obtain ⟨r', e2, h1, h2, _⟩ := A.row kv hkv
    rw [inl_inj (e1.symm.trans e2)]
    exact ⟨h1, h2⟩
  · obtain ⟨kv, hkv, r', e2, w⟩ := A.has s hs
    obtain ⟨r, hr, e1⟩ := down kv hkv
    obtain ⟨p, hp, hS⟩ := h r hr
    rw [inl_inj (e1.symm.trans e2)] at hp
    exact ⟨p, (w p).mp hp, hS⟩
  · obtain ⟨kv, hkv, e1⟩ := up r hr
    obtain ⟨r', e2, _, _, s, hs, w⟩ := A.row kv hkv
    obtain ⟨p, hp, hS⟩ := h s hs
    refine ⟨p, ?_, hS⟩
    rw [inl_inj (e1.symm.trans e2)]
    exact (w p).mpr hp
theorem zip_rowV {ks : List Addr} {rs : List (List Int)} (h : ks.length = rs.length) : (ks.zip rs).map rowV = ks.map V.ref := by
  have : (ks.zip rs).map Prod.fst = ks := List.map_fst_zip (by omega)
  rw [show (rowV : Addr × List Int → V) = V.ref ∘ Prod.fst from rfl, ← List.map_map, this]
theorem zip_snd {ks : List Addr} {rs : List (List Int)} (h : ks.length = rs.length) : (ks.zip rs).map Prod.snd = rs := List.map_snd_zip (by omega)
theorem sol_of {n : Nat} {cs : List Int} {rs ss : List (List Int)} {o : Bst} (A : Srch n cs rs [] 0 none o) (hit : ∀ S, Hit rs S ↔ Hit ss S) (ir : ∀ r ∈ rs, InRange n r) :
    (o = none ∧ Sol n cs ss none) ∨ ∃ x, o = some x ∧ ∀ ms : List Int, ms.Perm x.2 → ms.Pairwise (· ≤ ·) → Sol n cs ss (some ms) := by
  cases o with
  | none =>
    refine .inl ⟨rfl, fun S nd i h => ?_⟩
    obtain ⟨x, e, _⟩ := A.best S nd i ((hit S).mpr h)
    cases e
  | some x =>
    refine .inr ⟨x, rfl, fun ms pm pw => ?_⟩
    rcases A.sound with e | ⟨S, nd, hS, hh, e⟩
    · cases e
    · cases e
      rw [List.nil_append] at pm
      have nm : ms.Nodup := pm.nodup_iff.mpr nd
      refine ⟨?_, fun p hp => ?_, fun s hs => ?_, fun S' nd' i' h' => ?_⟩
      · exact (pw.and nm).imp fun ⟨h1, h2⟩ => by omega
      · obtain ⟨r, hr, hpr⟩ := hS p (pm.mem_iff.mp hp)
        exact ir r hr p hpr
      · obtain ⟨p, hp, h⟩ := (hit S).mp hh s hs
        exact ⟨p, hp, pm.mem_iff.mpr h⟩
      · obtain ⟨x, e, hx⟩ := A.best S' nd' i' ((hit S').mpr h')
        cases e
        rw [tot_perm pm]
        show tot cs S ≤ _
        have : (0 : Int) + tot cs S ≤ 0 + tot cs S' := hx
        omega
section
variable {P : Program} {w : World} {K : PySem.W.Frag} {mg : Str → Option Value} {base : Heap} {a : Ad} {d : Fd}
theorem ok_least_hitting (T : TX K mg a) (D : FDS K a d) : FnOk P w K mg base CX0 13 a.a_least_hitting d.a_least_hitting ["sets", "weights"] (spLeast K) := by
  have G_costs_of : FnOk P w K mg base CX0 1 a.a_costs_of d.a_costs_of ["weights"] (spCosts K) := ok_costs_of T D
  have G_better_hitting : FnOk P w K mg base CX0 12 a.a_better_hitting d.a_better_hitting ["rows", "costs", "chosen", "spent", "best"] (spBetter K 10) := ok_better_hitting T D 10
  refine D.F_least_hitting.ok sc_least_hitting (fun vs H Q E h => ?_) (fun cdv A outer s H vs Q E hr h => ?_)
  · obtain ⟨b, c, zs, ws, rfl, _⟩ := h
    rfl
  · obtain ⟨b, c, zs, ws, rfl, hb, R, hc, w12, z9, wok, fin⟩ := h
    refine ⟨_, (pss_cons (ps_setDcT (i := 2) (own := [("positions", 4)]) (g := gName 4) (tt := tYes) rfl (hu1 hr) sc_least_hitting.nd rfl rfl (sw_trueD rfl rfl rfl (by decide +kernel)) (pi_or (pi_list (pv 0)) (pi_tup (pv 0))) (blkOk_by (N := ["sets", "weights", "rows", "best", "positions"]) (sc := defScope s_least_hitting) (by decide +kernel)) (fun _ _ _ _ _ => (pg_name (i := 4) sc_least_hitting.nd rfl (Or.inl rfl))) (fun _ _ _ _ _ => pts_nil) (fun _ _ _ _ _ => (pe_callTy (call_tuple_ofK (K := K)) (by rfl) T.b_tuple (by decide +kernel) (pa_cons (pe_callB (cr_sortedSetK (w := w)) (by rfl) T.b_sorted (by decide +kernel) (pa_cons (pe_callTy (cr_setIK (K := K) (w := w)) (by rfl) T.b_set (by decide +kernel) (pa_cons (pv 4) pa_nil)) pa_nil)) pa_nil))) (fun _ _ _ _ _ => pe_bl))
        (pss_cons (ps_set (i := 3) sc_least_hitting.nd rfl (Or.inl rfl) (pe_call G_better_hitting (hr.mono (by decide)) rfl T.f_better_hitting T.k_better_hitting D.B_better_hitting .nil pass0 (pa_cons (pe_callTy (cr_keysT rfl) (by rfl) T.b_list (by decide +kernel) (pa_cons (pv 2) pa_nil)) (pa_cons (pe_call G_costs_of (hr.mono (by decide)) rfl T.f_costs_of T.k_costs_of D.B_costs_of .nil pass0 (pa_cons (pv 1) pa_nil)) (pa_cons (pe_tup pa_nil) (pa_cons pe_int (pa_cons pe_non pa_nil)))))))
        (pss_one (ps_ret (pe_ifExp (pt_cmpR op_isN (pv 3) pe_non (nomark _)) pe_non (pe_callTy call_tuple_of (by rfl) T.b_tuple (by decide +kernel) (pa_cons (pe_callB cr_sortedTI (by rfl) T.b_sorted (by decide +kernel) (pa_cons (pe_ix ix_tup (pv 3) pe_int (fun _ _ => rfl)) pa_nil)) pa_nil))))))), ?_⟩
    have big : 1000 ≤ sizeLine := by decide
    have lz : (zs.map rowV).length = zs.length := List.length_map _
    unfold tSeq tAsg tDcT
    dsimp only
    refine lt_go (fun Q q => ⟨_, rfl, q⟩) hb fun J G wk hG D1 hD1 => dcT_it (H1 := H) wk (fun i H' => Ex H H' ∧ ∃ kvs, H' D1 = some (.dT kvs) ∧ Keys ws.length kvs ((zs.map Prod.snd).take i) i)
      ⟨Ex.new hD1, [], upd_same, Nat.le_refl _, fun _ h => absurd h (by simp), fun _ h => absurd h (by simp)⟩ (fun i H' _ h => hG H' h.1) ?_ ?_
    · rintro i v H2 H2' hi ⟨e2, kvs, hd, KV⟩ ⟨rfl, hv⟩
      rw [lz] at hi
      rw [List.getElem?_map, List.getElem?_eq_getElem hi] at hv
      cases hv
      have tk : (zs.map Prod.snd).take (i + 1) = (zs.map Prod.snd).take i ++ [zs[i].2] := by rw [List.take_add_one, List.getElem?_map, List.getElem?_eq_getElem hi]; rfl
      have hm : zs[i] ∈ zs := List.getElem_mem hi
      obtain ⟨z12, zir⟩ := R.ok _ hm
      have hz := Sets.or_ex e2 (R.at_ _ hm)
      rw [tk]
      generalize (zs.map Prod.snd).take i = done at *
      generalize zs[i] = z at *
      unfold gName tYes
      dsimp only
      refine ⟨rfl, iteT' rfl ⟨_, rfl, z.1, z.2, rfl, hz, by omega, fun n p hn hp => ⟨p, _, n, rfl, upd_same, by omega, fun ns q pw mem len hq => ⟨q, ns.map V.int, rfl, .inl ⟨SqL.of upd_same, fun l hl => ?_⟩⟩⟩⟩⟩
      have x1 := Ex.new (o := SetO w p (fun j => decide (j ∈ z.2)) n) hp
      have x2 := Ex.new (o := .lst (ns.map V.int)) hq
      have x3 := Ex.new (o := .tup (ns.map V.int)) hl
      have x := (x1.trans x2).trans x3
      have mem' : ∀ k, k ∈ ns ↔ k ∈ z.2 := fun k => by rw [mem k, decide_eq_true_iff]
      have few := KV.few
      refine ⟨kvs, ns.map Sum.inl, l, rfl, by rw [upd_same, List.map_map]; rfl, x _ _ hd, by omega, Ex.mut (e2.trans x) hD1, _, upd_same, KV.put _ (by omega) (fun k hk => zir k ((mem' k).mp hk)) mem'⟩
    · rintro H2 ⟨e2, kvs, hd, KV⟩
      rw [lz, ← List.length_map (f := Prod.snd) (as := zs), List.take_length] at KV
      obtain ⟨rs, ers⟩ := KV.rows
      obtain ⟨lr, rok, hit⟩ := KV.row2 ers
      have few := KV.few
      rw [List.length_map] at few
      refine ⟨_, rfl, D1, kvs, rfl, hd, fun ks q lk hk hq => ⟨_, rfl, c, ws, rfl, Sets.or_ex (e2.trans (Ex.new hq)) hc, w12, fun x hx => (wok x hx).2, fun cc H4 e4 h4 => ⟨by show 0 ≤ sizeLine; omega, fun t ht => ?_⟩⟩⟩
      have xq := Ex.new (o := .lst (ks.map V.ref)) hq
      have xt := Ex.new (o := .tup []) ht
      have x := (xq.trans e4).trans xt
      have lks : ks.length = rs.length := by omega
      refine ⟨q, cc, t, ks.zip rs, costsL ws, [], 0, .non, none, rfl, ?_, ⟨fun z hz => ?_, fun z hz => ?_⟩, SqL.of (xt _ _ h4), upd_same, rfl, by rw [costsL_len]; exact w12, ?_, by decide, by decide, fun p h0 h1 => ?_, fun v o H5 e5 B5 S5 => ?_⟩
      · rw [zip_rowV lks]
        exact SqL.of ((e4.trans xt) _ _ upd_same)
      · obtain ⟨i, hi⟩ := List.mem_iff_getElem?.mp hz
        obtain ⟨h1, h2⟩ := List.getElem?_zip_eq_some.mp hi
        have hkv : i < kvs.length := by rw [← lr]; exact (List.getElem?_eq_some_iff.mp h2).1
        have := hk i z.1 kvs[i] h1 (List.getElem?_eq_getElem hkv)
        have e3 : kvs[i].1 = z.2.map (Sum.inl : Int → L2.Key) := by
          have h3 : (kvs.map Prod.fst)[i]? = some kvs[i].1 := by rw [List.getElem?_map, List.getElem?_eq_getElem hkv]; rfl
          rw [ers, List.getElem?_map, h2] at h3
          exact (Option.some.inj h3).symm
        rw [e3, List.map_map] at this
        exact x _ _ this
      · have := rok z.2 (List.of_mem_zip hz).2
        rwa [costsL_len]
      · rw [List.length_zip]
        omega
      · rw [costsL_len] at h1
        exact Int.le_of_lt (cst_pos (fun w hw => (wok w hw).1) h0 h1)
      · rw [zip_snd lks, costsL_len] at S5
        have e05 := (e2.trans x).trans e5
        rcases sol_of S5 hit fun r hr => (rok r hr).2 with ⟨rfl, so⟩ | ⟨y, rfl, so⟩
        · have B' : v = .non := B5
          subst B'
          exact ⟨_, rfl, rfl, _, rfl, iteT' (by decide) (fin .non none H5 e05 rfl so)⟩
        · obtain ⟨t5, u5, rfl, h5, h6⟩ := B5
          refine ⟨_, rfl, rfl, _, rfl, iteF' rfl ⟨_, rfl, t5, _, 1, .ref u5, rfl, rfl, SqT.of h5, rfl, u5, y.2, rfl, SqT.of h6, fun ms p pm pw hp => ⟨p, _, rfl, .inl ⟨SqL.of upd_same, fun l hl => ?_⟩⟩⟩⟩
          exact fin (.ref l) (some ms) _ (e05.trans ((Ex.new hp).trans (Ex.new hl))) ⟨l, rfl, upd_same⟩ (so ms pm pw)
end
end C8
set_option maxRecDepth 100000
set_option maxHeartbeats 8000000
namespace C8
open PySem L2 Evl GP HR
/-- all tuples of ascending places below n, in the order of the law -/
def tupsL : Nat → List (List Int)
  | 0 => [[]]
  | n + 1 => tupsL n ++ (tupsL n).map fun r => r ++ [(n : Int)]
theorem tupsL_len (n : Nat) : (tupsL n).length = 2 ^ n := by
  induction n with
  | zero => rfl
  | succ n ih => rw [tupsL, List.length_append, List.length_map, ih, Nat.pow_succ]; omega
theorem tupsL_mem {n : Nat} {r : List Int} : r ∈ tupsL n ↔ r.Pairwise (· < ·) ∧ InRange n r := by
  induction n generalizing r with
  | zero =>
    constructor
    · intro h
      rw [List.mem_singleton.mp h]
      exact ⟨List.Pairwise.nil, fun _ h => absurd h (by simp)⟩
    · rintro ⟨_, h⟩
      cases r with
      | nil => exact List.mem_singleton.mpr rfl
      | cons x _ => have := h x List.mem_cons_self; omega
  | succ n ih =>
    rw [tupsL, List.mem_append, ih, List.mem_map]
    constructor
    · rintro (⟨h1, h2⟩ | ⟨q, hq, rfl⟩)
      · exact ⟨h1, fun p hp => by have := h2 p hp; omega⟩
      · obtain ⟨h1, h2⟩ := ih.mp hq
        refine ⟨List.pairwise_append.mpr ⟨h1, List.pairwise_singleton _ _, fun x hx y hy => ?_⟩, fun p hp => ?_⟩
        · rw [List.mem_singleton.mp hy]
          exact (h2 x hx).2
        · rcases List.mem_append.mp hp with hp | hp
          · have := h2 p hp; omega
          · rw [List.mem_singleton.mp hp]; omega
    · rintro ⟨h1, h2⟩
      rcases List.eq_nil_or_concat r with rfl | ⟨q, x, rfl⟩
      · exact .inl ⟨h1, fun _ h => absurd h (by simp)⟩
      · rw [List.concat_eq_append] at h1 h2 ⊢
        obtain ⟨a1, _, a3⟩ := List.pairwise_append.mp h1
        have hx := h2 x (by simp)
        have hq : ∀ y ∈ q, 0 ≤ y ∧ y < x := fun y hy => ⟨(h2 y (by simp [hy])).1, a3 y hy x (by simp)⟩
        by_cases e : x = (n : Int)
        · subst e
          exact .inr ⟨q, ih.mpr ⟨a1, fun y hy => hq y hy⟩, rfl⟩
        · refine .inl ⟨h1, fun p hp => ?_⟩
          rcases List.mem_append.mp hp with hp | hp
          · have := hq p hp; omega
          · rw [List.mem_singleton.mp hp]; omega
theorem sorted_len {n : Nat} {r : List Int} (h1 : r.Pairwise (· < ·)) (h2 : InRange n r) : r.length ≤ n := by
  have gen : ∀ (r : List Int) (l : Int), r.Pairwise (· < ·) → (∀ p ∈ r, l ≤ p ∧ p < (n : Int)) → l ≤ n → (r.length : Int) ≤ n - l := by
    intro r
    induction r with
    | nil => intro l _ _ h; simp; omega
    | cons x r ih =>
      intro l h1 h2 h3
      obtain ⟨hx, hr⟩ := List.pairwise_cons.mp h1
      have h0 := h2 x List.mem_cons_self
      have := ih (x + 1) hr (fun p hp => ⟨by have := hx p hp; omega, (h2 p (List.mem_cons_of_mem _ hp)).2⟩) (by omega)
      rw [List.length_cons]
      omega
  have := gen r 0 h1 (fun p hp => h2 p hp) (by omega)
  omega
theorem Rw.app {H : Hp} {zs ys : List (Addr × List Int)} (x : Rw H zs) (y : Rw H ys) : Rw H (zs ++ ys) := fun z h => (List.mem_append.mp h).elim (x z) (y z)
theorem Rw.mut {H : Hp} {zs : List (Addr × List Int)} {l : Addr} {xs ys : List V} (x : Rw H zs) (h : H l = some (.lst xs)) : Rw (upd H l (.lst ys)) zs := fun z hz => by
  have h1 := x z hz
  have n : z.1 ≠ l := fun e => by rw [e, h] at h1; cases h1
  rw [upd_ne n]
  exact h1
def spTuples : Sp := fun vs H Q _ => ∃ n : Nat, vs = [.int (n : Nat)] ∧ n ≤ 12 ∧ ∀ (b : Addr) (zs : List (Addr × List Int)) H', Ex H H' → H' b = some (.lst (zs.map rowV)) → Rw H' zs → zs.map Prod.snd = tupsL n → Q (.ref b) H'
def hitB (ss : List (List Int)) (S : List Int) : Bool := ss.all fun r => r.any fun p => decide (p ∈ S)
theorem hitB_iff {ss : List (List Int)} {S : List Int} : hitB ss S = true ↔ Hit ss S := by
  unfold hitB Hit
  rw [List.all_eq_true]
  refine ⟨fun h r hr => ?_, fun h r hr => ?_⟩
  · obtain ⟨p, hp, e⟩ := List.any_eq_true.mp (h r hr)
    exact ⟨p, hp, of_decide_eq_true e⟩
  · obtain ⟨p, hp, e⟩ := h r hr
    exact List.any_eq_true.mpr ⟨p, hp, decide_eq_true e⟩
/-- the law's sets: a list of lists of numbers -/
def Ls (H : Hp) (zs : List (Addr × List Int)) : Prop := ∀ z ∈ zs, H z.1 = some (.lst (z.2.map V.int))
theorem Ls.ex {H H' : Hp} {zs : List (Addr × List Int)} (x : Ls H zs) (e : Ex H H') : Ls H' zs := fun z hz => e _ _ (x z hz)
def spHits : Sp := fun vs H Q _ => ∃ (t b : Addr) (S : List Int) (zs : List (Addr × List Int)), vs = [.ref t, .ref b] ∧ H t = some (.tup (S.map V.int)) ∧ H b = some (.lst (zs.map rowV)) ∧ Ls H zs ∧ (∀ z ∈ zs, z.2.length ≤ 12) ∧ ∀ H', Ex H H' → Q (.bl (hitB (zs.map Prod.snd) S)) H'
section
variable {P : Program} {w : World} {K : PySem.W.Frag} {mg : Str → Option Value} {base : Heap} {a : Ad} {d : Fd}
theorem ok_law_tuples (T : TX K mg a) (D : FDS K a d) : FnOk P w K mg base CX0 1 a.a_law_tuples d.a_law_tuples ["count"] spTuples := by
  refine D.F__law_tuples.ok sc_law_tuples (fun vs H Q E h => ?_) (fun cdv A outer s H vs Q E hr h => ?_)
  · obtain ⟨n, rfl, _⟩ := h
    rfl
  · obtain ⟨n, rfl, n12, fin⟩ := h
    refine ⟨_, (pss_cons (ps_set (i := 1) sc_law_tuples.nd rfl (Or.inl rfl) (pe_lst (pa_cons (pe_tup pa_nil) pa_nil)))
        (pss_cons (ps_for PassesOwn.never rfl (pi_range1 rfl T.b_range (pa_cons (pv 0) pa_nil)) (pg_name (i := 2) sc_law_tuples.nd rfl (Or.inr rfl)) (pss_one (ps_set (i := 1) sc_law_tuples.nd rfl (Or.inl rfl) (pe_op op_cat (pv 1) (pe_lc (own := [("one", 3)]) (g := gName 3) (tt := tYes) rfl sc_law_tuples.nd (pi_list (pv 1)) (blkOk_by (N := ["count", "found", "place", "one"]) (sc := defScope s_law_tuples) (by decide +kernel)) (fun _ _ _ _ _ => (pg_name (i := 3) sc_law_tuples.nd rfl (Or.inl rfl))) (fun _ _ _ _ _ => pts_nil) (fun _ _ _ _ _ => (pe_op (op_catTx (K := K)) (pv 3) (pe_tup (pa_cons (pv 2) pa_nil)))))))))
        (pss_one (ps_ret (pv 1))))), ?_⟩
    have big : 10000 ≤ sizeLine := by decide
    refine ⟨by show 0 ≤ sizeLine; omega, fun t ht => ⟨by show 1 ≤ sizeLine; omega, fun f hf => ?_⟩⟩
    have x0 := (Ex.new (o := .tup []) ht).trans (Ex.new (o := .lst [.ref t]) hf)
    have nft : t ≠ f := fun e => by rw [← e, upd_same] at hf; cases hf
    refine ⟨_, rfl, n, rfl, by omega, by omega, for_it (walk_range (lo := 0) (n := n)) (fun i σ H' => ∃ (g : Addr) (zs : List (Addr × List Int)) (o2 : Option V), σ = [some (.int (n : Nat)), some (.ref g), o2, none] ∧ Ex H H' ∧ H' g = some (.lst (zs.map rowV)) ∧ Rw H' zs ∧ zs.map Prod.snd = tupsL i)
      ⟨f, [(t, [])], none, rfl, x0, upd_same, (fun z hz => by rw [List.mem_singleton.mp hz, upd_ne nft]; exact upd_same), rfl⟩ (fun _ _ _ _ _ => trivial) ?_ ?_⟩
    · rintro i v σ H2 H2' hi ⟨g, zs, o2, rfl, e2, hg, Z, ez⟩ ⟨rfl, hv⟩
      have hl : zs.length = 2 ^ i := by rw [← List.length_map (f := Prod.snd), ez, tupsL_len]
      have hp : 2 ^ i ≤ 2 ^ 11 := Nat.pow_le_pow_right (by decide) (by omega)
      have hp2 : (2 : Nat) ^ 11 = 2048 := by decide
      have e0 : v = .int (i : Nat) := by rw [hv]; show V.int (0 + (i : Nat)) = _; rw [Int.zero_add]
      subst e0
      have lz : (zs.map rowV).length = zs.length := List.length_map _
      refine ⟨_, rfl, _, rfl, g, rfl, ⟨_, SqL.of hg⟩, fun D1 hD1 => lc_it (H1 := H2') (walk_list (xs := zs.map rowV)) (fun k H' => Ex H2' H' ∧ ∃ ys : List (Addr × List Int), H' D1 = some (.lst (ys.map rowV)) ∧ Rw H' ys ∧ ys.map Prod.snd = ((zs.map Prod.snd).take k).map fun r => r ++ [(i : Int)])
        ⟨Ex.new hD1, [], upd_same, (fun z hz => absurd hz (by simp)), rfl⟩ (fun k H' _ h => SqL.of (h.1 _ _ hg)) ?_ ?_⟩
      · rintro k v H3 H3' hk ⟨e3, ys, hy, Y, ey⟩ ⟨rfl, hv⟩
        rw [lz] at hk
        rw [List.getElem?_map, List.getElem?_eq_getElem hk] at hv
        cases hv
        have tk : (zs.map Prod.snd).take (k + 1) = (zs.map Prod.snd).take k ++ [zs[k].2] := by rw [List.take_add_one, List.getElem?_map, List.getElem?_eq_getElem hk]; rfl
        have hm : zs[k] ∈ zs := List.getElem_mem hk
        have h3 := e3 _ _ (Z _ hm)
        have rl : zs[k].2.length ≤ 12 := by
          have : zs[k].2 ∈ tupsL i := by rw [← ez]; exact List.mem_map.mpr ⟨_, hm, rfl⟩
          exact Nat.le_trans (sorted_len (tupsL_mem.mp this).1 (tupsL_mem.mp this).2) (by omega)
        have yl : ys.length ≤ 2048 := by
          have h1 : (ys.map Prod.snd).length ≤ zs.length := by rw [ey, List.length_map, List.length_take, List.length_map]; omega
          rw [List.length_map] at h1
          omega
        rw [tk, List.map_append, ← ey]
        generalize zs[k] = y at *
        unfold gName tYes
        dsimp only
        refine ⟨rfl, iteT' rfl ⟨_, rfl, _, rfl, by show 1 ≤ sizeLine; omega, fun q hq => ⟨y.1, q, _, _, rfl, rfl, SqT.of ((Ex.new hq) _ _ h3), SqT.of upd_same, List.cons_ne_nil _ _, by rw [List.length_map]; show _ + 1 ≤ sizeLine; omega, fun e => ?_, fun ne p hp => ?_⟩⟩⟩
        · have xq := Ex.new (o := .tup [.int (i : Nat)]) hq
          have nq : q ≠ D1 := fun e => by rw [e, hy] at hq; cases hq
          have ye : y.2 = [] := List.map_eq_nil_iff.mp e
          refine ⟨_, xq _ _ hy, by rw [List.length_map]; omega, Ex.mut (e3.trans xq) hD1, ys ++ [(q, [(i : Int)])], by rw [upd_same, List.map_append]; rfl, ?_, by rw [List.map_append, ye]; rfl⟩
          refine Rw.mut (Rw.app (Y.ex xq) fun z hz => ?_) (xq _ _ hy)
          rw [List.mem_singleton.mp hz]
          exact upd_same
        · have xq := (Ex.new (o := .tup [.int (i : Nat)]) hq).trans (Ex.new (o := .tup (y.2.map V.int ++ [.int (i : Nat)])) hp)
          refine ⟨_, xq _ _ hy, by rw [List.length_map]; omega, Ex.mut (e3.trans xq) hD1, ys ++ [(p, y.2 ++ [(i : Int)])], by rw [upd_same, List.map_append]; rfl, ?_, by rw [List.map_append]; rfl⟩
          refine Rw.mut (Rw.app (Y.ex xq) fun z hz => ?_) (xq _ _ hy)
          rw [List.mem_singleton.mp hz]
          show _ = some (HO.tup ((y.2 ++ [(i : Int)]).map V.int))
          rw [List.map_append]
          exact upd_same
      · rintro H3 ⟨e3, ys, hy, Y, ey⟩
        rw [lz, ← List.length_map (f := Prod.snd) (as := zs), List.take_length, ez] at ey
        have yl : ys.length = 2 ^ i := by rw [← List.length_map (f := Prod.snd), ey, List.length_map, tupsL_len]
        refine ⟨g, D1, _, _, rfl, rfl, e3 _ _ hg, hy, by rw [List.length_map, List.length_map]; omega, fun p hp => ?_⟩
        have xp := Ex.new (o := .lst (zs.map rowV ++ ys.map rowV)) hp
        exact ⟨p, zs ++ ys, _, rfl, (e2.trans e3).trans xp, by rw [List.map_append]; exact upd_same, (Rw.app (Z.ex e3) Y).ex xp, by rw [List.map_append, ez, ey]; rfl⟩
    · rintro σ H2 ⟨g, zs, o2, rfl, e2, hg, Z, ez⟩
      exact ⟨_, rfl, fin g zs H2 e2 hg Z ez⟩
theorem ok_law_hits (T : TX K mg a) (D : FDS K a d) : FnOk P w K mg base CX0 1 a.a_law_hits d.a_law_hits ["one", "sets"] spHits := by
  refine D.F__law_hits.ok sc_law_hits (fun vs H Q E h => ?_) (fun cdv A outer s H vs Q E hr h => ?_)
  · obtain ⟨t, b, S, zs, rfl, _⟩ := h
    rfl
  · obtain ⟨t, b, S, zs, rfl, ht, hb, Z, z12, fin⟩ := h
    refine ⟨_, (pss_cons (ps_for PassesOwn.never rfl (pi_list (pv 1)) (pg_name (i := 2) sc_law_hits.nd rfl (Or.inl rfl)) (pss_one (ps_if (pt_not (pt_val (pe_callB (cr_any rfl) (by rfl) T.b_any (by decide +kernel) (pa_cons (pe_lc (own := [("place", 3)]) (g := gName 3) (tt := tYes) rfl sc_law_hits.nd (pi_list (pv 2)) (blkOk_by (N := ["one", "sets", "row", "place"]) (sc := defScope s_law_hits) (by decide +kernel)) (fun _ _ _ _ _ => (pg_name (i := 3) sc_law_hits.nd rfl (Or.inl rfl))) (fun _ _ _ _ _ => pts_nil) (fun _ _ _ _ _ => (pe_cmpR (op_in_seqK (K := K)) (pv 3) (pv 0) rfl))) pa_nil)))) (pss_one (ps_ret pe_bl)) pss_nil)))
        (pss_one (ps_ret pe_bl))), ?_⟩
    have big : 10000 ≤ sizeLine := by decide
    have lz : (zs.map rowV).length = zs.length := List.length_map _
    refine ⟨_, rfl, b, rfl, ⟨_, SqL.of hb⟩, for_it (walk_list (xs := zs.map rowV)) (fun i σ H' => ∃ o2, σ = [some (.ref t), some (.ref b), o2, none] ∧ Ex H H' ∧ hitB ((zs.map Prod.snd).take i) S = true)
      ⟨none, rfl, Ex.refl _, rfl⟩ (fun i σ H' _ ⟨_, _, e, _⟩ => SqL.of (e _ _ hb)) ?_ ?_⟩
    · rintro i v σ H2 H2' hi ⟨o2, rfl, e2, hh⟩ ⟨rfl, hv⟩
      rw [lz] at hi
      rw [List.getElem?_map, List.getElem?_eq_getElem hi] at hv
      cases hv
      have hm : zs[i] ∈ zs := List.getElem_mem hi
      have hz := e2 _ _ (Z _ hm)
      have small := z12 _ hm
      have tk : hitB ((zs.map Prod.snd).take (i + 1)) S = (zs[i].2.any fun p => decide (p ∈ S)) := by
        rw [List.take_add_one, List.getElem?_map, List.getElem?_eq_getElem hi]
        unfold hitB at hh ⊢
        rw [List.all_append, hh]
        simp
      have al : (zs[i].2.any fun p => decide (p ∈ S)) = false → hitB (zs.map Prod.snd) S = false := fun h => by
        cases e : hitB (zs.map Prod.snd) S with
        | false => rfl
        | true =>
          unfold hitB at e
          have := List.all_eq_true.mp e zs[i].2 (List.mem_map.mpr ⟨_, hm, rfl⟩)
          rw [h] at this
          cases this
      generalize zs[i] = z at *
      unfold rowV
      refine ⟨_, rfl, z.1, rfl, ⟨_, SqL.of hz⟩, fun D1 hD1 => lcM walk_list (fun p => .bl (decide (p ∈ S))) (by omega) (fun H' e => SqL.of (e _ _ hz)) (fun _ => rfl) (fun p hp H3 e3 Q q => ⟨_, rfl, _, rfl, t, _, rfl, .inr (SqT.of (e3 _ _ (e2 _ _ ht))), rfl, flat_ints, by rw [inV_ints]; exact q H3 (Ex.refl _)⟩) hD1 fun H3 e3 h3 => ?_⟩
      have ean : (z.2.map fun p => decide (p ∈ S)).any id = z.2.any fun p => decide (p ∈ S) := by rw [List.any_map]; rfl
      refine ⟨D1, z.2.map fun p => decide (p ∈ S), rfl, SqL.of (by rw [h3, List.map_map]; rfl), ?_⟩
      rw [ean]
      refine ⟨_, rfl, ?_⟩
      cases hb2 : (z.2.any fun p => decide (p ∈ S)) with
      | true => exact iteF' rfl ⟨_, rfl, e2.trans e3, by rw [tk, hb2]⟩
      | false =>
        have := fin H3 (e2.trans e3)
        rw [al hb2] at this
        exact iteT' rfl this
    · rintro σ H2 ⟨o2, rfl, e2, hh⟩
      rw [lz, ← List.length_map (f := Prod.snd) (as := zs), List.take_length] at hh
      have := fin H2 e2
      rw [hh] at this
      exact this
end
end C8
set_option maxRecDepth 100000
set_option maxHeartbeats 8000000
namespace C8
open PySem L2 Evl GP HR
/-! ### marks, and what they cost -/
def lexI : List Int → List Int → Bool
  | x :: xs, y :: ys => decide (x < y) || (!decide (y < x) && lexI xs ys)
  | _, _ => false
def mlt (s : Int) (r : List Int) (s' : Int) (r' : List Int) : Bool :=
  decide (s < s') || (!decide (s' < s) && (decide ((r.length : Int) < r'.length) || (!decide ((r'.length : Int) < r.length) && lexI r r')))
def mkD (s : Int) (r : List Int) : PyData := .tuple [.int s, .int (r.length : Nat), .tuple (r.map .int)]
theorem lexLt_cons (x y : Int) (xs ys : List (Int ⊕ List Nat)) : PyProof.Rows.lexLt PyProof.Rows.itemOrd (.inl x :: xs) (.inl y :: ys) = (decide (x < y) || (!decide (y < x) && PyProof.Rows.lexLt PyProof.Rows.itemOrd xs ys)) := by
  rw [PyProof.Rows.lexLt]
  rfl
theorem lexLt_one (xs ys : List (Int ⊕ List Nat)) : PyProof.Rows.lexLt PyProof.Rows.itemOrd (.inl 1 :: xs) (.inl 1 :: ys) = PyProof.Rows.lexLt PyProof.Rows.itemOrd xs ys := by
  rw [lexLt_cons]
  simp
theorem lex_toks {z : List (Int ⊕ List Nat)} (hz : PyProof.Rows.lexLt PyProof.Rows.itemOrd z z = false) : ∀ {r r' : List Int}, r.length = r'.length → PyProof.Rows.lexLt PyProof.Rows.itemOrd (W.keyToksAll (r.map PyData.int) ++ z) (W.keyToksAll (r'.map PyData.int) ++ z) = lexI r r' := by
  intro r
  induction r with
  | nil =>
    intro r' e
    have : r' = [] := List.eq_nil_of_length_eq_zero e.symm
    subst this
    rw [List.map_nil, W.keyToksAll.eq_1]
    show PyProof.Rows.lexLt PyProof.Rows.itemOrd (.inl 0 :: z) (.inl 0 :: z) = false
    rw [lexLt_cons, hz]
    rfl
  | cons x r ih =>
    intro r' e
    cases r' with
    | nil => cases e
    | cons y r' =>
      rw [List.map_cons, List.map_cons, W.keyToksAll.eq_2, W.keyToksAll.eq_2]
      show PyProof.Rows.lexLt PyProof.Rows.itemOrd (.inl 1 :: .inl x :: (W.keyToksAll (r.map PyData.int) ++ z)) (.inl 1 :: .inl y :: (W.keyToksAll (r'.map PyData.int) ++ z)) = _
      rw [lexLt_one, lexLt_cons, ih (Nat.succ.inj e)]
      rfl
theorem dataLt_mark (s s' : Int) (r r' : List Int) : W.dataLt (mkD s r) (mkD s' r') = mlt s r s' r' := by
  have k : ∀ (s : Int) (r : List Int), W.keyToks (mkD s r) = .inl 1 :: .inl s :: .inl 1 :: .inl (r.length : Nat) :: .inl 1 :: (W.keyToksAll (r.map PyData.int) ++ [.inl 0]) := by
    intro s r
    unfold mkD
    rw [W.keyToks.eq_6, W.keyToksAll.eq_2, W.keyToksAll.eq_2, W.keyToksAll.eq_2, W.keyToksAll.eq_1, W.keyToks.eq_6]
    rfl
  show PyProof.Rows.lexLt PyProof.Rows.itemOrd (W.keyToks (mkD s r)) (W.keyToks (mkD s' r')) = _
  rw [k, k, lexLt_one, lexLt_cons, lexLt_one, lexLt_cons, lexLt_one]
  unfold mlt
  by_cases h1 : (r.length : Int) < r'.length
  · rw [decide_eq_true h1, Bool.true_or, Bool.true_or]
  · by_cases h2 : (r'.length : Int) < r.length
    · rw [decide_eq_false h1, decide_eq_true h2]
      rfl
    · rw [lex_toks (z := [.inl 0]) (by decide) (by omega)]
/-- the second part of a cost -/
def bsum (m : Nat) (S : List Int) : Nat := (S.map fun p => 2 ^ (m - 1 - p.toNat)).sum
def sw (ws : List Int) (S : List Int) : Int := (S.map fun p => ws.getD p.toNat 0).sum
theorem bsum_cons (m : Nat) (p : Int) (S : List Int) : bsum m (p :: S) = 2 ^ (m - 1 - p.toNat) + bsum m S := by simp [bsum]
theorem sw_cons (ws : List Int) (p : Int) (S : List Int) : sw ws (p :: S) = ws.getD p.toNat 0 + sw ws S := by simp [sw]
theorem tot_eq {ws : List Int} : ∀ {S : List Int}, InRange ws.length S → tot (costsL ws) S = (sw ws S * ((ws.length : Int) + 1) + (S.length : Int)) * 2 ^ ws.length - (bsum ws.length S : Nat) := by
  intro S
  induction S with
  | nil => intro _; simp [tot, sw, bsum]
  | cons p S ih =>
    intro h
    obtain ⟨h0, h1⟩ := h p List.mem_cons_self
    rw [tot_cons, ih fun q hq => h q (List.mem_cons_of_mem _ hq), cst_costs h0 h1, sw_cons, bsum_cons, List.length_cons, costZ]
    generalize ws.getD p.toNat 0 = w
    generalize sw ws S = s
    generalize (2 : Int) ^ ws.length = M
    have c : ((2 ^ (ws.length - 1 - p.toNat) + bsum ws.length S : Nat) : Int) = 2 ^ (ws.length - 1 - p.toNat) + (bsum ws.length S : Nat) := by
      rw [Int.natCast_add]
      congr 1
    rw [c]
    generalize (2 : Int) ^ (ws.length - 1 - p.toNat) = z
    generalize ((bsum ws.length S : Nat) : Int) = b
    have e : (S.length + 1 : Nat) = (S.length : Int) + 1 := by omega
    rw [e]
    generalize (S.length : Int) = L
    generalize (ws.length : Int) + 1 = m1
    have d1 : (w * m1 + 1) * M = w * m1 * M + M := by rw [Int.add_mul, Int.one_mul]
    have d2 : (s * m1 + L) * M = s * m1 * M + L * M := by rw [Int.add_mul]
    have d3 : ((w + s) * m1 + (L + 1)) * M = w * m1 * M + s * m1 * M + (L * M + M) := by rw [Int.add_mul, Int.add_mul, Int.add_mul, Int.add_mul, Int.one_mul]
    rw [d1, d2, d3]
    omega
theorem bsum_lt {m : Nat} : ∀ {S : List Int} {l : Nat}, S.Pairwise (· < ·) → (∀ p ∈ S, (l : Int) ≤ p ∧ p < (m : Int)) → bsum m S < 2 ^ (m - l) := by
  intro S
  induction S with
  | nil => intro l _ _; show 0 < _; exact Nat.pow_pos (by decide)
  | cons p S ih =>
    intro l h1 h2
    obtain ⟨hp, hs⟩ := List.pairwise_cons.mp h1
    obtain ⟨p0, p1⟩ := h2 p List.mem_cons_self
    have := ih (l := p.toNat + 1) hs fun q hq => ⟨by have := hp q hq; omega, (h2 q (List.mem_cons_of_mem _ hq)).2⟩
    rw [bsum_cons]
    have e1 : m - (p.toNat + 1) = m - 1 - p.toNat := by omega
    rw [e1] at this
    have e2 : 2 ^ (m - 1 - p.toNat) + 2 ^ (m - 1 - p.toNat) ≤ 2 ^ (m - l) := by
      have : 2 ^ (m - 1 - p.toNat) + 2 ^ (m - 1 - p.toNat) = 2 ^ (m - 1 - p.toNat + 1) := by rw [Nat.pow_succ]; omega
      rw [this]
      exact Nat.pow_le_pow_right (by decide) (by omega)
    omega
theorem bsum_lex {m : Nat} : ∀ {S S' : List Int}, S.Pairwise (· < ·) → InRange m S → S'.Pairwise (· < ·) → InRange m S' → lexI S S' = true → S.length = S'.length → bsum m S' < bsum m S := by
  intro S
  induction S with
  | nil => intro S' _ _ _ _ h; cases S' <;> cases h
  | cons x S ih =>
    intro S' h1 h2 h3 h4 h e
    cases S' with
    | nil => cases h
    | cons y S' =>
      rw [lexI] at h
      obtain ⟨hx, hs⟩ := List.pairwise_cons.mp h1
      obtain ⟨hy, hs'⟩ := List.pairwise_cons.mp h3
      obtain ⟨x0, x1⟩ := h2 x List.mem_cons_self
      obtain ⟨y0, y1⟩ := h4 y List.mem_cons_self
      rw [bsum_cons m x]
      by_cases g : x < y
      · have b := bsum_lt (l := y.toNat) (m := m) h3 fun p hp => ⟨by
          rcases List.mem_cons.mp hp with rfl | hp
          · omega
          · have := hy p hp; omega, (h4 p hp).2⟩
        have : 2 ^ (m - y.toNat) ≤ 2 ^ (m - 1 - x.toNat) := Nat.pow_le_pow_right (by decide) (by omega)
        omega
      · rw [decide_eq_false g, Bool.false_or, Bool.and_eq_true] at h
        have g2 : ¬ y < x := by
          have := h.1
          simpa using this
        have exy : x = y := by omega
        have := ih hs (fun p hp => h2 p (List.mem_cons_of_mem _ hp)) hs' (fun p hp => h4 p (List.mem_cons_of_mem _ hp)) h.2 (Nat.succ.inj e)
        rw [bsum_cons, exy]
        omega
theorem lexI_total : ∀ {S S' : List Int}, S.length = S'.length → lexI S S' = false → lexI S' S = true ∨ S = S' := by
  intro S
  induction S with
  | nil => intro S' e _; exact .inr (List.eq_nil_of_length_eq_zero e.symm).symm
  | cons x S ih =>
    intro S' e h
    cases S' with
    | nil => cases e
    | cons y S' =>
      rw [lexI] at h
      rw [lexI]
      by_cases g : y < x
      · exact .inl (by rw [decide_eq_true g]; rfl)
      · have g2 : ¬ x < y := fun g2 => by rw [decide_eq_true g2] at h; cases h
        rw [decide_eq_false g2, decide_eq_false g] at h
        have h' : lexI S S' = false := h
        rw [decide_eq_false g, decide_eq_false g2]
        rcases ih (Nat.succ.inj e) h' with h | h
        · exact .inl h
        · exact .inr (by rw [h, show x = y by omega])
theorem mlt_tot {ws : List Int} {S S' : List Int} (h1 : S.Pairwise (· < ·)) (h2 : InRange ws.length S) (h3 : S'.Pairwise (· < ·)) (h4 : InRange ws.length S') (h : mlt (sw ws S) S (sw ws S') S' = true) : tot (costsL ws) S < tot (costsL ws) S' := by
  rw [tot_eq h2, tot_eq h4]
  have l1 := sorted_len h1 h2
  have l2 := sorted_len h3 h4
  have b1 := bsum_lt (l := 0) (m := ws.length) h3 fun p hp => h4 p hp
  rw [Nat.sub_zero] at b1
  have b2 : (bsum ws.length S' : Int) < 2 ^ ws.length := by exact_mod_cast b1
  have M0 := pow_pos2 ws.length
  unfold mlt at h
  generalize sw ws S = s at *
  generalize sw ws S' = s' at *
  have step : s * ((ws.length : Int) + 1) + (S.length : Int) + 1 ≤ s' * ((ws.length : Int) + 1) + (S'.length : Int) → (s * ((ws.length : Int) + 1) + (S.length : Int)) * 2 ^ ws.length - (bsum ws.length S : Nat) < (s' * ((ws.length : Int) + 1) + (S'.length : Int)) * 2 ^ ws.length - (bsum ws.length S' : Nat) := by
    intro g
    have := Int.mul_le_mul_of_nonneg_right g (Int.le_of_lt M0)
    rw [Int.add_mul, Int.one_mul] at this
    omega
  by_cases g : s < s'
  · apply step
    have : (s + 1) * ((ws.length : Int) + 1) ≤ s' * ((ws.length : Int) + 1) := Int.mul_le_mul_of_nonneg_right (by omega) (by omega)
    rw [Int.add_mul, Int.one_mul] at this
    omega
  · rw [decide_eq_false g, Bool.false_or, Bool.and_eq_true] at h
    have g2 : ¬ s' < s := by simpa using h.1
    have es : s = s' := by omega
    subst es
    have h' := h.2
    by_cases g3 : (S.length : Int) < S'.length
    · apply step
      omega
    · rw [decide_eq_false g3, Bool.false_or, Bool.and_eq_true] at h'
      have g4 : ¬ (S'.length : Int) < S.length := by simpa using h'.1
      have := bsum_lex h1 h2 h3 h4 h'.2 (by omega)
      have el : (S.length : Int) = S'.length := by omega
      rw [el]
      omega
theorem mlt_total {ws : List Int} {S S' : List Int} (h : mlt (sw ws S) S (sw ws S') S' = false) : mlt (sw ws S') S' (sw ws S) S = true ∨ S = S' := by
  unfold mlt at h ⊢
  by_cases g : sw ws S' < sw ws S
  · exact .inl (by rw [decide_eq_true g]; rfl)
  · have g2 : ¬ sw ws S < sw ws S' := fun g2 => by rw [decide_eq_true g2] at h; cases h
    rw [decide_eq_false g, decide_eq_false g2] at h ⊢
    by_cases k : (S'.length : Int) < S.length
    · exact .inl (by rw [decide_eq_true k]; rfl)
    · have k2 : ¬ (S.length : Int) < S'.length := fun k2 => by rw [decide_eq_true k2] at h; cases h
      rw [decide_eq_false k, decide_eq_false k2] at h ⊢
      have h' : lexI S S' = false := h
      rcases lexI_total (by omega) h' with e | e
      · exact .inl e
      · exact .inr e
theorem mlt_ge {ws : List Int} {S S' : List Int} (h1 : S.Pairwise (· < ·)) (h2 : InRange ws.length S) (h3 : S'.Pairwise (· < ·)) (h4 : InRange ws.length S') (h : mlt (sw ws S) S (sw ws S') S' = false) : tot (costsL ws) S' ≤ tot (costsL ws) S := by
  rcases mlt_total h with e | e
  · exact Int.le_of_lt (mlt_tot h3 h4 h1 h2 e)
  · rw [e]; exact Int.le_refl _
theorem tot_inj {ws : List Int} {S S' : List Int} (h1 : S.Pairwise (· < ·)) (h2 : InRange ws.length S) (h3 : S'.Pairwise (· < ·)) (h4 : InRange ws.length S') (h : tot (costsL ws) S = tot (costsL ws) S') : S = S' := by
  cases e : mlt (sw ws S) S (sw ws S') S' with
  | true => have := mlt_tot h1 h2 h3 h4 e; omega
  | false =>
    rcases mlt_total e with e | e
    · have := mlt_tot h3 h4 h1 h2 e; omega
    · exact e
theorem nodup_lt {S : List Int} (h : S.Pairwise (· < ·)) : S.Nodup := h.imp fun h => by omega
theorem sol_unique {ws : List Int} {ss : List (List Int)} {o o' : Option (List Int)} (A : Sol ws.length (costsL ws) ss o) (B : Sol ws.length (costsL ws) ss o') : o = o' := by
  cases o with
  | none =>
    cases o' with
    | none => rfl
    | some R => exact (A R (nodup_lt B.1) B.2.1 B.2.2.1).elim
  | some R =>
    cases o' with
    | none => exact (B R (nodup_lt A.1) A.2.1 A.2.2.1).elim
    | some D =>
      have h1 := A.2.2.2 D (nodup_lt B.1) B.2.1 B.2.2.1
      have h2 := B.2.2.2 R (nodup_lt A.1) A.2.1 A.2.2.1
      rw [tot_inj A.1 A.2.1 B.1 B.2.1 (by omega)]
/-- sorted ones are enough -/
theorem sorted_of (S : List Int) (nd : S.Nodup) : ∃ S' : List Int, S'.Perm S ∧ S'.Pairwise (· < ·) := by
  refine ⟨S.mergeSort, List.mergeSort_perm S _, ?_⟩
  have h1 : (S.mergeSort).Pairwise (fun a b : Int => decide (a ≤ b) = true) := List.pairwise_mergeSort (fun a b c h1 h2 => by simp at h1 h2 ⊢; omega) (fun a b => by simp; omega) S
  have h2 : (S.mergeSort).Nodup := (List.mergeSort_perm S _).nodup_iff.mpr nd
  exact (h1.and h2).imp fun ⟨h1, h2⟩ => by have := of_decide_eq_true h1; omega
theorem sol_some {n : Nat} {cs : List Int} {ss : List (List Int)} {R : List Int} (h1 : R.Pairwise (· < ·)) (h2 : InRange n R) (h3 : Hit ss R) (h : ∀ S ∈ tupsL n, Hit ss S → tot cs R ≤ tot cs S) : Sol n cs ss (some R) := by
  refine ⟨h1, h2, h3, fun S nd ir hit => ?_⟩
  obtain ⟨S', pm, pw⟩ := sorted_of S nd
  rw [← tot_perm pm]
  refine h S' (tupsL_mem.mpr ⟨pw, fun p hp => ir p (pm.mem_iff.mp hp)⟩) fun r hr => ?_
  obtain ⟨p, hp, hS⟩ := hit r hr
  exact ⟨p, hp, pm.mem_iff.mpr hS⟩
theorem sol_none {n : Nat} {cs : List Int} {ss : List (List Int)} (h : ∀ S ∈ tupsL n, ¬ Hit ss S) : Sol n cs ss none := by
  intro S nd ir hit
  obtain ⟨S', pm, pw⟩ := sorted_of S nd
  refine h S' (tupsL_mem.mpr ⟨pw, fun p hp => ir p (pm.mem_iff.mp hp)⟩) fun r hr => ?_
  obtain ⟨p, hp, hS⟩ := hit r hr
  exact ⟨p, hp, pm.mem_iff.mpr hS⟩
end C8
set_option maxRecDepth 100000
set_option maxHeartbeats 8000000
namespace C8
open PySem L2 Evl GP HR
theorem alike_ints : ∀ r r' : List Int, W.alikeAll (r.map PyData.int) (r'.map PyData.int) = true := by
  intro r
  induction r with
  | nil => intro r'; rfl
  | cons x r ih =>
    intro r'
    cases r' with
    | nil => rfl
    | cons y r' => exact ih r'
theorem depth_ints : ∀ r : List Int, PyData.depthAll (r.map PyData.int) ≤ 1 := by
  intro r
  induction r with
  | nil => decide
  | cons x r ih =>
    show max (PyData.depth (.int x)) (PyData.depthAll (r.map PyData.int)) ≤ 1
    have : PyData.depth (.int x) = 0 := rfl
    omega
theorem alike_mark (s s' : Int) (r r' : List Int) : W.alike (mkD s r) (mkD s' r') = true := by
  show (true && (true && (W.alikeAll (r.map PyData.int) (r'.map PyData.int) && true))) = true
  rw [alike_ints]
  rfl
theorem depth_mark (s : Int) (r : List Int) : (mkD s r).depth ≤ 60 := by
  show max 0 (max 0 (max (PyData.depthAll (r.map PyData.int) + 1) 0)) + 1 ≤ 60
  have := depth_ints r
  omega
theorem dp_mark {K : PySem.W.Frag} {H : Hp} {t u : Addr} {s : Int} {r : List Int} (h1 : H t = some (.tup [.int s, .int (r.length : Nat), .ref u])) (h2 : H u = some (.tup (r.map V.int))) : Dp K H (.ref t) (mkD s r) :=
  .tup (SqT.of h1) (.cons (.int _) (.cons (.int _) (.cons (.tup (SqT.of h2) (dp_ints r)) .nil)))
def MarkAt (ws : List Int) (H : Hp) (v : V) : Option (List Int) → Prop
  | none => v = .non
  | some D => ∃ t u, v = .ref t ∧ H t = some (.tup [.int (sw ws D), .int (D.length : Nat), .ref u]) ∧ H u = some (.tup (D.map V.int))
theorem MarkAt.ex {ws : List Int} {H H' : Hp} {v : V} {o : Option (List Int)} (x : MarkAt ws H v o) (e : Ex H H') : MarkAt ws H' v o := by
  cases o with
  | none => exact x
  | some D =>
    obtain ⟨t, u, h1, h2, h3⟩ := x
    exact ⟨t, u, h1, e _ _ h2, e _ _ h3⟩
def spBest : Sp := fun vs H Q _ => ∃ (b c : Addr) (zs : List (Addr × List Int)) (ws : List Int), vs = [.ref b, .ref c] ∧ H b = some (.lst (zs.map rowV)) ∧ Ls H zs ∧ (∀ z ∈ zs, z.2.length ≤ 12) ∧ H c = some (.lst (ws.map V.int)) ∧ ws.length ≤ 12 ∧
  ∀ v o H', Ex H H' → AnsAt H' v o → Sol ws.length (costsL ws) (zs.map Prod.snd) o → Q v H'
section
variable {P : Program} {w : World} {K : PySem.W.Frag} {mg : Str → Option Value} {base : Heap} {a : Ad} {d : Fd}
theorem ok_law_best (T : TX K mg a) (D : FDS K a d) : FnOk P w K mg base CX0 2 a.a_law_best d.a_law_best ["sets", "prices"] spBest := by
  have G__law_tuples : FnOk P w K mg base CX0 1 a.a_law_tuples d.a_law_tuples ["count"] spTuples := ok_law_tuples T D
  have G__law_hits : FnOk P w K mg base CX0 1 a.a_law_hits d.a_law_hits ["one", "sets"] spHits := ok_law_hits T D
  refine D.F__law_best.ok sc_law_best (fun vs H Q E h => ?_) (fun cdv A outer s H vs Q E hr h => ?_)
  · obtain ⟨b, c, zs, ws, rfl, _⟩ := h
    rfl
  · obtain ⟨b, c, zs, ws, rfl, hb, Z, z12, hc, w12, fin⟩ := h
    refine ⟨_, (pss_cons (ps_set (i := 2) sc_law_best.nd rfl (Or.inl rfl) pe_non)
        (pss_cons (ps_for PassesOwn.never rfl (pi_list (pe_call G__law_tuples (hr.mono (by decide)) rfl T.f__law_tuples T.k__law_tuples D.B__law_tuples .nil pass0 (pa_cons (pe_callB call_len_seq (by rfl) T.b_len (by decide +kernel) (pa_cons (pv 1) pa_nil)) pa_nil))) (pg_name (i := 3) sc_law_best.nd rfl (Or.inl rfl)) (pss_one (ps_if (pt_val (pe_call G__law_hits (hr.mono (by decide)) rfl T.f__law_hits T.k__law_hits D.B__law_hits .nil pass0 (pa_cons (pv 3) (pa_cons (pv 0) pa_nil)))) (pss_cons (ps_set (i := 4) sc_law_best.nd rfl (Or.inl rfl) (pe_tup (pa_cons (pe_callB (cr_sum rfl) (by rfl) T.b_sum (by decide +kernel) (pa_cons (pe_lc (own := [("place", 5)]) (g := gName 5) (tt := tYes) rfl sc_law_best.nd (pi_tup (pv 3)) (blkOk_by (N := ["sets", "prices", "best", "one", "mark", "place"]) (sc := defScope s_law_best) (by decide +kernel)) (fun _ _ _ _ _ => (pg_name (i := 5) sc_law_best.nd rfl (Or.inl rfl))) (fun _ _ _ _ _ => pts_nil) (fun _ _ _ _ _ => (pe_ix (ix_listK (K := K)) (pv 1) (pv 5) (fun _ _ => rfl)))) pa_nil)) (pa_cons (pe_callB call_len_seq (by rfl) T.b_len (by decide +kernel) (pa_cons (pv 3) pa_nil)) (pa_cons (pv 3) pa_nil)))))
        (pss_one (ps_if (PW.pt (pw_or (pt_cmpR op_isN (pv 2) pe_non (nomark _)) (pw_or1 (pt_cmpR (op_ltD hr.units) (pv 4) (pv 2) (nomark _))))) (pss_one (ps_set (i := 2) sc_law_best.nd rfl (Or.inl rfl) (pv 4))) pss_nil))) pss_nil)))
        (pss_cons (ps_if (pt_cmpR op_isN (pv 2) pe_non (nomark _)) (pss_one (ps_ret pe_non)) pss_nil)
        (pss_one (ps_ret (pe_ix ix_tup (pv 2) pe_int (fun _ _ => rfl))))))), ?_⟩
    have big : 10000 ≤ sizeLine := by decide
    generalize hss : zs.map Prod.snd = ss at *
    have lw : (ws.map V.int).length = ws.length := List.length_map _
    refine ⟨_, rfl, c, _, rfl, .inl (SqL.of hc), ws.length, by rw [lw]; rfl, w12, fun bt ts H1 e1 hbt Ts ets => ⟨bt, rfl, ⟨_, SqL.of hbt⟩, for_it (walk_list (xs := ts.map rowV)) (fun i σ H' => ∃ (bv : V) (o : Option (List Int)) (o3 o4 : Option V), σ = [some (.ref b), some (.ref c), some bv, o3, o4, none] ∧ Ex H1 H' ∧ MarkAt ws H' bv o ∧
        (o = none → ∀ S ∈ (tupsL ws.length).take i, hitB ss S = false) ∧ ∀ R, o = some R → R ∈ tupsL ws.length ∧ hitB ss R = true ∧ ∀ S ∈ (tupsL ws.length).take i, hitB ss S = true → tot (costsL ws) R ≤ tot (costsL ws) S)
      ⟨.non, none, none, none, rfl, Ex.refl _, rfl, fun _ _ h => absurd h (by simp), fun _ e => nomatch e⟩ (fun i σ H' _ ⟨_, _, _, _, _, e, _⟩ => SqL.of (e _ _ hbt)) ?_ ?_⟩⟩
    · rintro i v σ H2 H2' hi ⟨bv, o, o3, o4, rfl, e2, M, hN, hS⟩ ⟨rfl, hv⟩
      have lt : (ts.map rowV).length = ts.length := List.length_map _
      rw [lt] at hi
      rw [List.getElem?_map, List.getElem?_eq_getElem hi] at hv
      cases hv
      have hm : ts[i] ∈ ts := List.getElem_mem hi
      have tl : (tupsL ws.length)[i]? = some ts[i].2 := by rw [← ets, List.getElem?_map, List.getElem?_eq_getElem hi]; rfl
      have tk : (tupsL ws.length).take (i + 1) = (tupsL ws.length).take i ++ [ts[i].2] := by rw [List.take_add_one, tl]; rfl
      have tm : ts[i].2 ∈ tupsL ws.length := List.mem_of_getElem? tl
      have hz := e2 _ _ (Ts _ hm)
      obtain ⟨pw, ir⟩ := tupsL_mem.mp tm
      have rl := sorted_len pw ir
      have seen : ∀ S : List Int, S ∈ (tupsL ws.length).take (i + 1) → S ∈ (tupsL ws.length).take i ∨ S = ts[i].2 := fun S h => by
        rw [tk] at h
        exact (List.mem_append.mp h).imp id List.mem_singleton.mp
      generalize ts[i] = z at *
      unfold rowV
      refine ⟨_, rfl, _, rfl, z.1, b, z.2, zs, rfl, hz, (e1.trans e2) _ _ hb, Z.ex (e1.trans e2), z12, fun H3 e3 => ⟨_, rfl, ?_⟩⟩
      rw [hss]
      have hz3 := e3 _ _ hz
      have hc3 := (e1.trans (e2.trans e3)) _ _ hc
      cases hh : hitB ss z.2 with
      | false =>
        refine iteF' rfl ⟨bv, o, _, o4, rfl, e2.trans e3, M.ex e3, fun e S hS' => (seen S hS').elim (hN e S) fun e => by rw [e]; exact hh, fun R e => ?_⟩
        obtain ⟨r1, r2, r3⟩ := hS R e
        exact ⟨r1, r2, fun S hS' hit => (seen S hS').elim (fun h => r3 S h hit) fun e => by rw [e, hh] at hit; cases hit⟩
      | true =>
        refine iteT' rfl ⟨_, rfl, z.1, rfl, ⟨_, SqT.of hz3⟩, fun D2 hD2 => lcM walk_tup (fun p => .int (cst ws p)) (by omega) (fun H' e => SqT.of (e _ _ hz3)) (fun _ => rfl) (fun p hp H4 e4 Q q => ⟨_, rfl, _, rfl, c, _, p, _, rfl, rfl, SqL.of (e4 _ _ hc3), cst_at (ir p hp).1 (ir p hp).2, q H4 (Ex.refl _)⟩) hD2 fun H4 e4 h4 => ?_⟩
        have hz4 := e4 _ _ hz3
        refine ⟨D2, z.2.map (cst ws), rfl, SqL.of (by rw [h4, List.map_map]; rfl), _, rfl, z.1, _, rfl, .inr (SqT.of hz4), _, rfl, by show 3 ≤ sizeLine; omega, fun m hm => ?_⟩
        have lz : (z.2.map V.int).length = z.2.length := List.length_map _
        rw [lz]
        have xm := Ex.new (o := .tup [.int (z.2.map (cst ws)).sum, .int (z.2.length : Nat), .ref z.1]) hm
        have hz5 := xm _ _ hz4
        have M5 := ((M.ex e3).ex e4).ex xm
        have e15 := (e2.trans e3).trans (e4.trans xm)
        generalize hH5 : upd H4 m _ = H5 at *
        have hm5 : H5 m = some (.tup [.int (sw ws z.2), .int (z.2.length : Nat), .ref z.1]) := by rw [← hH5]; exact upd_same
        have new : ∀ (h : ∀ R, o = some R → mlt (sw ws z.2) z.2 (sw ws R) R = true), (∀ S ∈ (tupsL ws.length).take (i + 1), hitB ss S = true → tot (costsL ws) z.2 ≤ tot (costsL ws) S) := fun h S hS' hit => by
          rcases seen S hS' with hS2 | e
          · cases o with
            | none => have := hN rfl S hS2; rw [this] at hit; cases hit
            | some R =>
              obtain ⟨r1, r2, r3⟩ := hS R rfl
              obtain ⟨p1, p2⟩ := tupsL_mem.mp r1
              have := mlt_tot pw ir p1 p2 (h R rfl)
              have := r3 S hS2 hit
              omega
          · rw [e]; exact Int.le_refl _
        cases o with
        | none =>
          have M' : bv = .non := M
          subst M'
          exact ⟨_, rfl, rfl, _, rfl, iteT' (by decide) (iteT' rfl ⟨_, rfl, _, some z.2, _, _, rfl, e15, ⟨m, z.1, rfl, hm5, hz5⟩, (fun e => nomatch e), fun R e => by
            cases e
            exact ⟨tm, hh, new fun R e => nomatch e⟩⟩)⟩
        | some R =>
          obtain ⟨t5, u5, rfl, g1, g2⟩ := M5
          obtain ⟨r1, r2, r3⟩ := hS R rfl
          obtain ⟨p1, p2⟩ := tupsL_mem.mp r1
          refine ⟨_, rfl, rfl, _, rfl, iteF' rfl ⟨_, rfl, _, rfl, mkD (sw ws z.2) z.2, mkD (sw ws R) R, dp_mark hm5 hz5, dp_mark g1 g2, alike_mark _ _ _ _, (fun e => nomatch e), depth_mark _ _, _, rfl, ?_⟩⟩
          rw [dataLt_mark]
          cases hl : mlt (sw ws z.2) z.2 (sw ws R) R with
          | true =>
            exact iteT' rfl ⟨_, rfl, _, some z.2, _, _, rfl, e15, ⟨m, z.1, rfl, hm5, hz5⟩, (fun e => nomatch e), fun R' e => by
              cases e
              exact ⟨tm, hh, new fun R' e => by cases e; exact hl⟩⟩
          | false =>
            refine iteF' rfl ⟨_, some R, _, _, rfl, e15, ⟨t5, u5, rfl, g1, g2⟩, (fun e => nomatch e), fun R' e => ?_⟩
            cases e
            exact ⟨r1, r2, fun S hS' hit => (seen S hS').elim (fun h => r3 S h hit) fun e => by rw [e]; exact mlt_ge pw ir p1 p2 hl⟩
    · rintro σ H2 ⟨bv, o, o3, o4, rfl, e2, M, hN, hS⟩
      have all : (tupsL ws.length).take (ts.map rowV).length = tupsL ws.length := by
        rw [List.length_map, ← List.length_map (f := Prod.snd) (as := ts), ets, List.take_length]
      rw [all] at hN hS
      cases o with
      | none =>
        have M' : bv = .non := M
        subst M'
        exact ⟨_, rfl, rfl, _, rfl, iteT' (by decide) (fin .non none H2 (e1.trans e2) rfl (sol_none fun S hm h => by have := hN rfl S hm; rw [hitB_iff.mpr h] at this; cases this))⟩
      | some R =>
        obtain ⟨t, u, rfl, h1, h2⟩ := M
        obtain ⟨r1, r2, r3⟩ := hS R rfl
        exact ⟨_, rfl, rfl, _, rfl, iteF' rfl ⟨_, rfl, t, _, 2, .ref u, rfl, rfl, SqT.of h1, rfl, fin (.ref u) (some R) H2 (e1.trans e2) ⟨u, rfl, h2⟩ (sol_some (tupsL_mem.mp r1).1 (tupsL_mem.mp r1).2 (hitB_iff.mp r2) fun S hm h => r3 S hm (hitB_iff.mpr h))⟩⟩
end
end C8
set_option maxRecDepth 100000
set_option maxHeartbeats 8000000
namespace C8
open PySem L2 Evl GP HR
/-- lists of lists that are not the box -/
structure Lb (b : Addr) (H : Hp) (zs : List (Addr × List Int)) : Prop where
  at_ : Ls H zs
  ne : ∀ z ∈ zs, z.1 ≠ b
theorem Lb.kp {b : Addr} {H H' : Hp} {zs : List (Addr × List Int)} (x : Lb b H zs) (k : Kp b H H') : Lb b H' zs := ⟨fun z hz => k.k _ _ (x.ne z hz) (x.at_ z hz), x.ne⟩
def spKind : Sp := fun vs H Q _ => ∃ (b r : Addr) (xs : List V), vs = [.ref b, .ref r] ∧ Bx b H ∧ r ≠ b ∧ H r = some (.lst xs) ∧ ∀ p H', H p = none → Kp b H H' → Bx b H' → p ≠ b → H' p = some (.lst xs) ∨ H' p = some (.tup xs) → Q (.ref p) H'
def spPrices : Sp := fun vs H Q _ => ∃ b : Addr, vs = [.ref b] ∧ Bx b H ∧ ∀ (p : Addr) (ws : List Int) H', Kp b H H' → Bx b H' → p ≠ b → H' p = some (.lst (ws.map V.int)) → ws.length ≤ 12 → (∀ w ∈ ws, 1 ≤ w ∧ w.natAbs < 2 ^ 110) → Q (.ref p) H'
structure Ok (n : Nat) (zs : List (Addr × List Int)) : Prop where
  ok : ∀ z ∈ zs, z.2.length ≤ 12 ∧ InRange n z.2
def spSets : Sp := fun vs H Q _ => ∃ (b : Addr) (n : Nat), vs = [.ref b, .int (n : Nat)] ∧ n ≤ 12 ∧ Bx b H ∧ ∀ (p : Addr) (zs : List (Addr × List Int)) H', Kp b H H' → Bx b H' → p ≠ b → H' p = some (.lst (zs.map rowV)) → Lb b H' zs → zs.length ≤ 7 → Ok n zs → Q (.ref p) H'
section
variable {P : Program} {w : World} {K : PySem.W.Frag} {mg : Str → Option Value} {base : Heap} {a : Ad} {d : Fd}
theorem ok_law_kind (T : TX K mg a) (D : FDS K a d) : FnOk P w K mg base CX0 2 a.a_law_kind d.a_law_kind ["bag", "row"] spKind := by
  have G__law_take : FnOk P w K mg base CX0 1 a.a_law_take d.a_law_take ["bag", "size"] spTake := ok_law_take T D
  refine D.F__law_kind.ok sc_law_kind (fun vs H Q E h => ?_) (fun cdv A outer s H vs Q E hr h => ?_)
  · obtain ⟨b, r, xs, rfl, _⟩ := h
    rfl
  · obtain ⟨b, r, xs, rfl, X, nb, hrow, fin⟩ := h
    refine ⟨_, (pss_cons (ps_if (pt_cmpR op_eq (pe_call G__law_take (hr.mono (by decide)) rfl T.f__law_take T.k__law_take D.B__law_take .nil pass0 (pa_cons (pv 0) (pa_cons pe_int pa_nil))) pe_int (nomark _)) (pss_one (ps_ret (pe_callTy call_tuple_of (by rfl) T.b_tuple (by decide +kernel) (pa_cons (pv 1) pa_nil)))) pss_nil)
        (pss_one (ps_ret (pe_callTy call_list_of (by rfl) T.b_list (by decide +kernel) (pa_cons (pv 1) pa_nil))))), ?_⟩
    refine ⟨_, rfl, b, 2, rfl, X, by decide, by decide, fun d1 H1 k1 X1 _ _ => ⟨rfl, _, rfl, ite2 (fun g => ?_) (fun g => ?_)⟩⟩
    · exact ⟨_, rfl, r, xs, rfl, .inl ⟨SqL.of (k1.k _ _ nb hrow), fun l hl => fin l _ (k1.back X1 hl) (k1.trans (Kp.ex (Ex.new hl))) (X1.ex (Ex.new hl)) (X1.ne hl) (.inr upd_same)⟩⟩
    · exact ⟨_, rfl, r, xs, rfl, .inl (SqL.of (k1.k _ _ nb hrow)), fun l hl => fin l _ (k1.back X1 hl) (k1.trans (Kp.ex (Ex.new hl))) (X1.ex (Ex.new hl)) (X1.ne hl) (.inl upd_same)⟩
theorem six (d : Int) (h0 : 0 ≤ d) (h1 : d < 6) : ∃ v : Int, atI [V.int 1, V.int 2, V.int 1, V.int 3, V.int 2, V.int 4] d = some (.int v) ∧ 1 ≤ v ∧ v ≤ 4 := by
  have : d = 0 ∨ d = 1 ∨ d = 2 ∨ d = 3 ∨ d = 4 ∨ d = 5 := by omega
  rcases this with rfl | rfl | rfl | rfl | rfl | rfl <;> exact ⟨_, rfl, by decide, by decide⟩
theorem ok_law_prices (T : TX K mg a) (D : FDS K a d) : FnOk P w K mg base CX0 2 a.a_law_prices d.a_law_prices ["bag"] spPrices := by
  have G__law_take : FnOk P w K mg base CX0 1 a.a_law_take d.a_law_take ["bag", "size"] spTake := ok_law_take T D
  refine D.F__law_prices.ok sc_law_prices (fun vs H Q E h => ?_) (fun cdv A outer s H vs Q E hr h => ?_)
  · obtain ⟨b, rfl, _⟩ := h
    rfl
  · obtain ⟨b, rfl, X, fin⟩ := h
    refine ⟨_, (pss_cons (ps_set (i := 1) sc_law_prices.nd rfl (Or.inl rfl) (pe_op op_add pe_int (pe_call G__law_take (hr.mono (by decide)) rfl T.f__law_take T.k__law_take D.B__law_take .nil pass0 (pa_cons (pv 0) (pa_cons pe_int pa_nil)))))
        (Evl.pss_cut (ps_if (pt_cmpR op_eq (pe_call G__law_take (hr.mono (by decide)) rfl T.f__law_take T.k__law_take D.B__law_take .nil pass0 (pa_cons (pv 0) (pa_cons pe_int pa_nil))) pe_int (nomark _)) (pss_one (ps_set (i := 1) sc_law_prices.nd rfl (Or.inl rfl) pe_int)) pss_nil)
        (Evl.pss_cut (ps_if (pt_cmpR op_eq (pe_call G__law_take (hr.mono (by decide)) rfl T.f__law_take T.k__law_take D.B__law_take .nil pass0 (pa_cons (pv 0) (pa_cons pe_int pa_nil))) pe_int (nomark _)) (pss_one (ps_set (i := 1) sc_law_prices.nd rfl (Or.inl rfl) pe_int)) pss_nil)
        (pss_cons (ps_set (i := 2) sc_law_prices.nd rfl (Or.inr rfl) pe_int)
        (Evl.pss_cut (ps_if (pt_cmpR op_eq (pe_call G__law_take (hr.mono (by decide)) rfl T.f__law_take T.k__law_take D.B__law_take .nil pass0 (pa_cons (pv 0) (pa_cons pe_int pa_nil))) pe_int (nomark _)) (pss_one (ps_set (i := 2) sc_law_prices.nd rfl (Or.inr rfl) (pe_op op_pow pe_int pe_int))) pss_nil)
        (pss_one (ps_ret (pe_lc (own := [("turn", 3)]) (g := gName 3) (tt := tYes) rfl sc_law_prices.nd (pi_range1 rfl T.b_range (pa_cons (pv 1) pa_nil)) (blkOk_by (N := ["bag", "count", "far", "turn"]) (sc := defScope s_law_prices) (by decide +kernel)) (fun _ _ _ _ _ => (pg_name (i := 3) sc_law_prices.nd rfl (Or.inl rfl))) (fun _ _ _ _ _ => pts_nil) (fun _ _ _ _ _ => (pe_op op_add (pv 2) (pe_ix (ix_listK (K := K)) (pe_lst (pa_cons pe_int (pa_cons pe_int (pa_cons pe_int (pa_cons pe_int (pa_cons pe_int (pa_cons pe_int pa_nil))))))) (pe_call G__law_take (hr.mono (by decide)) rfl T.f__law_take T.k__law_take D.B__law_take .nil pass0 (pa_cons (pv 0) (pa_cons pe_int pa_nil))) (fun _ _ => rfl)))))))))))), ?_⟩
    have big : 1000 ≤ sizeLine := by decide
    refine ⟨_, rfl, b, 8, rfl, X, by decide, by decide, fun d1 H1 k1 X1 p0 p1 => ⟨_, _, rfl, rfl, ?_⟩⟩
    refine ⟨fun σ' H' => ∃ c : Nat, σ' = [some (.ref b), some (.int (c : Nat)), none, none] ∧ c ≤ 12 ∧ Kp b H H' ∧ Bx b H', ?_, ?_⟩
    · refine ⟨_, rfl, b, 16, rfl, X1, by decide, by decide, fun d2 H2 k2 X2 q0 q1 => ⟨rfl, _, rfl, ite2 (fun g => ⟨12, rfl, by decide, k1.trans k2, X2⟩) (fun g => ⟨(1 + d1).toNat, ?_, by omega, k1.trans k2, X2⟩)⟩⟩
      have : ((1 + d1).toNat : Int) = 1 + d1 := by omega
      rw [this]
      rfl
    · rintro σ' H3 ⟨c, rfl, c12, k3, X3⟩
      refine ⟨fun σ' H' => ∃ c : Nat, σ' = [some (.ref b), some (.int (c : Nat)), none, none] ∧ c ≤ 12 ∧ Kp b H H' ∧ Bx b H', ?_, ?_⟩
      · exact ⟨_, rfl, b, 20, rfl, X3, by decide, by decide, fun d2 H2 k2 X2 q0 q1 => ⟨rfl, _, rfl, ite2 (fun g => ⟨0, rfl, by decide, k3.trans k2, X2⟩) (fun g => ⟨c, rfl, c12, k3.trans k2, X2⟩)⟩⟩
      · rintro σ' H4 ⟨c, rfl, c12, k4, X4⟩
        refine ⟨fun σ' H' => ∃ far : Int, σ' = [some (.ref b), some (.int (c : Nat)), some (.int far), none] ∧ 0 ≤ far ∧ far ≤ 10 ^ 30 ∧ Kp b H H' ∧ Bx b H', ?_, ?_⟩
        · exact ⟨_, rfl, b, 12, rfl, X4, by decide, by decide, fun d2 H2 k2 X2 q0 q1 => ⟨rfl, _, rfl, ite2 (fun g => ⟨_, _, rfl, rfl, ⟨by decide, by decide, by decide⟩, _, rfl, by decide, by decide, k4.trans k2, X2⟩) (fun g => ⟨0, rfl, by decide, by decide, k4.trans k2, X2⟩)⟩⟩
        · rintro σ' H5 ⟨far, rfl, f0, f9, k5, X5⟩
          refine ⟨_, rfl, c, rfl, by omega, by omega, fun D1 hD1 => lc_it (H1 := H5) (walk_range (lo := 0) (n := c)) (fun i H' => Kp b H5 H' ∧ Bx b H' ∧ ∃ ws : List Int, H' D1 = some (.lst (ws.map V.int)) ∧ ws.length ≤ i ∧ ∀ w ∈ ws, 1 ≤ w ∧ w.natAbs < 2 ^ 110)
            ⟨Kp.ex (Ex.new hD1), X5.ex (Ex.new hD1), [], upd_same, Nat.le_refl _, fun _ h => absurd h (by simp)⟩ (fun _ _ _ _ => trivial) ?_ ?_⟩
          · rintro i v H6 H6' hi ⟨k6, X6, ws, hw, wl, wok⟩ ⟨rfl, hv⟩
            have nD := X5.ne hD1
            unfold gName tYes
            dsimp only
            refine ⟨rfl, iteT' rfl ⟨_, rfl, by show 6 ≤ sizeLine; omega, fun l hl => ⟨_, rfl, b, 6, rfl, X6.ex (Ex.new hl), by decide, by decide, fun d2 H7 k7 X7 q0 q1 => ?_⟩⟩⟩
            obtain ⟨v2, a2, v0, v9⟩ := six d2 q0 q1
            have nl := X6.ne hl
            have k67 := (Kp.ex (b := b) (Ex.new hl)).trans k7
            refine ⟨l, _, d2, .int v2, rfl, rfl, SqL.of (k7.k _ _ nl upd_same), a2, _, _, rfl, rfl, ws.map V.int, k67.k _ _ nD hw, by rw [List.length_map]; omega, (k6.trans k67).mut hD1, X7.upd nD, ws ++ [far + v2], by rw [upd_same, List.map_append]; rfl, by rw [List.length_append, List.length_singleton]; omega, fun x hx => ?_⟩
            rcases List.mem_append.mp hx with hx | hx
            · exact wok x hx
            · rw [List.mem_singleton.mp hx]
              have : (10 : Int) ^ 30 + 4 < 2 ^ 110 := by decide
              constructor
              · omega
              · omega
          · rintro H6 ⟨k6, X6, ws, hw, wl, wok⟩
            exact fin D1 ws H6 (k5.trans k6) X6 (X5.ne hD1) hw (by omega) wok
theorem ok_law_sets (T : TX K mg a) (D : FDS K a d) : FnOk P w K mg base CX0 2 a.a_law_sets d.a_law_sets ["bag", "count"] spSets := by
  have G__law_take : FnOk P w K mg base CX0 1 a.a_law_take d.a_law_take ["bag", "size"] spTake := ok_law_take T D
  refine D.F__law_sets.ok sc_law_sets (fun vs H Q E h => ?_) (fun cdv A outer s H vs Q E hr h => ?_)
  · obtain ⟨b, n, rfl, _⟩ := h
    rfl
  · obtain ⟨b, n, rfl, n12, X, fin⟩ := h
    refine ⟨_, (pss_cons (ps_set (i := 2) sc_law_sets.nd rfl (Or.inl rfl) (pe_lst pa_nil))
        (pss_cons (ps_for PassesOwn.never rfl (pi_range1 rfl T.b_range (pa_cons (pe_call G__law_take (hr.mono (by decide)) rfl T.f__law_take T.k__law_take D.B__law_take .nil pass0 (pa_cons (pv 0) (pa_cons pe_int pa_nil))) pa_nil)) (pg_name (i := 3) sc_law_sets.nd rfl (Or.inl rfl)) (pss_cons (ps_set (i := 4) sc_law_sets.nd rfl (Or.inl rfl) (pe_op op_add pe_int (pe_call G__law_take (hr.mono (by decide)) rfl T.f__law_take T.k__law_take D.B__law_take .nil pass0 (pa_cons (pv 0) (pa_cons pe_int pa_nil)))))
        (pss_one (ps_if (pt_cmpR op_gt (pv 1) pe_int (nomark _)) (pss_one (ps_expr (pe_bm PySem.F.plainAttrs_list PySem.F.slot_list_append PySem.F.type_list_append mt_append (pv 2) (pa_cons (pe_lc (own := [("place", 5)]) (g := gName 5) (tt := tYes) rfl sc_law_sets.nd (pi_range1 rfl T.b_range (pa_cons (pv 4) pa_nil)) (blkOk_by (N := ["bag", "count", "sets", "turn", "size", "place"]) (sc := defScope s_law_sets) (by decide +kernel)) (fun _ _ _ _ _ => (pg_name (i := 5) sc_law_sets.nd rfl (Or.inl rfl))) (fun _ _ _ _ _ => pts_nil) (fun _ _ _ _ _ => (pe_call G__law_take (hr.mono (by decide)) rfl T.f__law_take T.k__law_take D.B__law_take .nil pass0 (pa_cons (pv 0) (pa_cons (pv 1) pa_nil))))) pa_nil)))) pss_nil))))
        (Evl.pss_cut (ps_if (pt_cmpR op_eq (pe_call G__law_take (hr.mono (by decide)) rfl T.f__law_take T.k__law_take D.B__law_take .nil pass0 (pa_cons (pv 0) (pa_cons pe_int pa_nil))) pe_int (nomark _)) (pss_one (ps_expr (pe_bm PySem.F.plainAttrs_list PySem.F.slot_list_insert PySem.F.type_list_insert mt_insert (pv 2) (pa_cons (pe_call G__law_take (hr.mono (by decide)) rfl T.f__law_take T.k__law_take D.B__law_take .nil pass0 (pa_cons (pv 0) (pa_cons (pe_op op_add (pe_callB call_len_seq (by rfl) T.b_len (by decide +kernel) (pa_cons (pv 2) pa_nil)) pe_int) pa_nil))) (pa_cons (pe_lst pa_nil) pa_nil))))) pss_nil)
        (pss_one (ps_ret (pv 2)))))), ?_⟩
    have big : 1000 ≤ sizeLine := by decide
    refine ⟨by show 0 ≤ sizeLine; omega, fun p hp => ?_⟩
    have np := X.ne hp
    have xp := Ex.new (o := .lst []) hp
    refine ⟨_, rfl, b, 7, rfl, X.ex xp, by decide, by decide, fun d1 H1 k1 X1 p0 p1 => ⟨d1, rfl, by omega, by omega, ?_⟩⟩
    have hp1 := k1.k _ _ np upd_same
    have k01 := (Kp.ex (b := b) xp).trans k1
    refine for_it (walk_range (lo := 0) (n := d1.toNat)) (fun i σ H' => ∃ (zs : List (Addr × List Int)) (o3 o4 : Option V), σ = [some (.ref b), some (.int (n : Nat)), some (.ref p), o3, o4, none] ∧ Kp b H H' ∧ Bx b H' ∧ H' p = some (.lst (zs.map rowV)) ∧ Lb b H' zs ∧ (∀ z ∈ zs, z.1 ≠ p) ∧ zs.length ≤ i ∧ Ok n zs)
      ⟨[], none, none, rfl, k01, X1, hp1, ⟨fun _ h => absurd h (by simp), fun _ h => absurd h (by simp)⟩, fun _ h => absurd h (by simp), Nat.le_refl _, ⟨fun _ h => absurd h (by simp)⟩⟩ (fun _ _ _ _ _ => trivial) ?_ ?_
    · rintro i v σ H2 H2' hi ⟨zs, o3, o4, rfl, k2, X2, hz, L, nep, zl, ok⟩ ⟨rfl, hv⟩
      refine ⟨_, rfl, b, 4, rfl, X2, by decide, by decide, fun d2 H3 k3 X3 q0 q1 => ⟨_, _, rfl, rfl, _, rfl, _, _, rfl, rfl, _, rfl, ite2 (fun g => ?_) (fun g => ?_)⟩⟩
      · have n0 := of_decide_eq_true g
        have hz3 := k3.k _ _ np hz
        refine ⟨_, rfl, .inl ⟨rfl, _, SqL.of hz3⟩, _, rfl, 1 + d2, rfl, by omega, by omega, fun D1 hD1 => lc_it (H1 := H3) (walk_range (lo := 0) (n := (1 + d2).toNat)) (fun i H' => Kp b H3 H' ∧ Bx b H' ∧ ∃ r : List Int, H' D1 = some (.lst (r.map V.int)) ∧ r.length ≤ i ∧ InRange n r)
          ⟨Kp.ex (Ex.new hD1), X3.ex (Ex.new hD1), [], upd_same, Nat.le_refl _, fun _ h => absurd h (by simp)⟩ (fun _ _ _ _ => trivial) ?_ ?_⟩
        · rintro k v3 H6 H6' hk ⟨k6, X6, r, hw, wl, wok⟩ ⟨rfl, hv⟩
          have nD := X3.ne hD1
          unfold gName tYes
          dsimp only
          refine ⟨rfl, iteT' rfl ⟨_, rfl, _, rfl, b, n, rfl, X6, by omega, by omega, fun d4 H7 k7 X7 q0 q1 => ?_⟩⟩
          refine ⟨r.map V.int, k7.k _ _ nD hw, by rw [List.length_map]; omega, (k6.trans k7).mut hD1, X7.upd nD, r ++ [d4], by rw [upd_same, List.map_append]; rfl, by rw [List.length_append, List.length_singleton]; omega, fun x hx => ?_⟩
          rcases List.mem_append.mp hx with hx | hx
          · exact wok x hx
          · rw [List.mem_singleton.mp hx]
            exact ⟨q0, q1⟩
        · rintro H6 ⟨k6, X6, r, hw, wl, wok⟩
          have nD := X3.ne hD1
          have nDp : D1 ≠ p := fun e => by rw [e, hz3] at hD1; cases hD1
          have hz6 := k6.k _ _ np hz3
          have k26 := (k2.trans k3).trans k6
          have L6 := (L.kp k3).kp k6
          refine ⟨p, zs.map rowV, .ref D1, rfl, rfl, hz6, by rw [List.length_map]; omega, zs ++ [(D1, r)], _, _, rfl, k26.mut hp, X6.upd np, by rw [upd_same, List.map_append]; rfl, ⟨fun z hz => ?_, fun z hz => ?_⟩, fun z hz => ?_, by rw [List.length_append, List.length_singleton]; omega, ⟨fun z hz => ?_⟩⟩
          · rcases List.mem_append.mp hz with hz | hz
            · rw [upd_ne (nep z hz)]; exact L6.at_ z hz
            · rw [List.mem_singleton.mp hz, upd_ne nDp]; exact hw
          · rcases List.mem_append.mp hz with hz | hz
            · exact L6.ne z hz
            · rw [List.mem_singleton.mp hz]; exact nD
          · rcases List.mem_append.mp hz with hz | hz
            · exact nep z hz
            · rw [List.mem_singleton.mp hz]; exact nDp
          · rcases List.mem_append.mp hz with hz | hz
            · exact ok.ok z hz
            · rw [List.mem_singleton.mp hz]; exact ⟨by show r.length ≤ 12; omega, wok⟩
      · exact ⟨zs, _, _, rfl, k2.trans k3, X3, k3.k _ _ np hz, L.kp k3, nep, by omega, ok⟩
    · rintro σ H2 ⟨zs, o3, o4, rfl, k2, X2, hz, L, nep, zl, ok⟩
      have zl6 : zs.length ≤ 6 := by omega
      refine ⟨fun σ' H' => ∃ zs : List (Addr × List Int), σ' = [some (.ref b), some (.int (n : Nat)), some (.ref p), o3, o4, none] ∧ Kp b H H' ∧ Bx b H' ∧ H' p = some (.lst (zs.map rowV)) ∧ Lb b H' zs ∧ zs.length ≤ 7 ∧ Ok n zs, ?_, ?_⟩
      · refine ⟨_, rfl, b, 8, rfl, X2, by decide, by decide, fun d2 H3 k3 X3 q0 q1 => ⟨rfl, _, rfl, ite2 (fun g => ?_) (fun g => ?_)⟩⟩
        · have hz3 := k3.k _ _ np hz
          have lz : (zs.map rowV).length = zs.length := List.length_map _
          refine ⟨_, rfl, .inl ⟨rfl, _, SqL.of hz3⟩, _, rfl, _, rfl, p, _, rfl, .inl (SqL.of hz3), _, _, rfl, rfl, b, _, rfl, X3, by rw [lz]; omega, by rw [lz]; omega, fun d4 H4 k4 X4 r0 r1 => ⟨by show 0 ≤ sizeLine; omega, fun q hq => ?_⟩⟩
          rw [lz] at r1
          have hz4 := k4.k _ _ np hz3
          have xq := Ex.new (o := .lst []) hq
          have nq := X4.ne hq
          have nqp : q ≠ p := fun e => by rw [e, hz4] at hq; cases hq
          have k24 := (k2.trans k3).trans (k4.trans (Kp.ex xq))
          have L4 := ((L.kp k3).kp k4).kp (Kp.ex xq)
          have mem : ∀ z ∈ zs.take d4.toNat ++ [(q, [])] ++ zs.drop d4.toNat, z ∈ zs ∨ z = (q, []) := fun z hz => by
            rcases List.mem_append.mp hz with hz | hz
            · rcases List.mem_append.mp hz with hz | hz
              · exact .inl (List.mem_of_mem_take hz)
              · exact .inr (List.mem_singleton.mp hz)
            · exact .inl (List.mem_of_mem_drop hz)
          refine ⟨p, zs.map rowV, d4, .ref q, rfl, rfl, xq _ _ hz4, by rw [lz]; omega, r0, by omega, zs.take d4.toNat ++ [(q, [])] ++ zs.drop d4.toNat, rfl, k24.mut hp, (X4.ex xq).upd np, by rw [upd_same, List.map_append, List.map_append, List.map_take, List.map_drop]; rfl, ⟨fun z hz => ?_, fun z hz => ?_⟩, by rw [List.length_append, List.length_append, List.length_take, List.length_drop, List.length_singleton]; omega, ⟨fun z hz => ?_⟩⟩
          · rcases mem z hz with h | rfl
            · rw [upd_ne (nep z h)]; exact L4.at_ z h
            · rw [upd_ne nqp]; exact upd_same
          · rcases mem z hz with h | rfl
            · exact L4.ne z h
            · exact nq
          · rcases mem z hz with h | rfl
            · exact ok.ok z h
            · exact ⟨Nat.zero_le _, fun _ h => absurd h (by simp)⟩
        · exact ⟨zs, rfl, k2.trans k3, X3, k3.k _ _ np hz, L.kp k3, by omega, ok⟩
      · rintro σ' H3 ⟨zs, rfl, k3, X3, hz3, L3, zl3, ok3⟩
        exact ⟨_, rfl, fin p zs H3 k3 X3 np hz3 L3 zl3 ok3⟩
end
end C8
set_option maxRecDepth 100000
set_option maxHeartbeats 8000000
namespace C8
open PySem L2 Evl GP HR
def Sh (n : Nat) (d : PyData) : Prop := d.canLay0 = true ∧ d.depth ≤ n
theorem Sh.all {n : Nat} : ∀ {ds : List PyData}, (∀ d ∈ ds, Sh n d) → PyData.canLayAll0 ds = true ∧ PyData.depthAll ds ≤ n
  | [], _ => ⟨by simp [PyData.canLayAll0], by simp [PyData.depthAll]⟩
  | d :: ds, h => by
    have a := h d List.mem_cons_self
    have b := Sh.all (ds := ds) fun x hx => h x (List.mem_cons_of_mem _ hx)
    refine ⟨?_, ?_⟩
    · rw [PyData.canLayAll0, a.1, b.1]
      rfl
    · rw [PyData.depthAll]
      exact Nat.max_le.mpr ⟨a.2, b.2⟩
theorem Sh.list {n : Nat} {ds : List PyData} (h : ∀ d ∈ ds, Sh n d) : Sh (n + 1) (.list ds) := ⟨by rw [PyData.canLay0]; exact (Sh.all h).1, by rw [PyData.depth]; exact Nat.succ_le_succ (Sh.all h).2⟩
theorem Sh.tuple {n : Nat} {ds : List PyData} (h : ∀ d ∈ ds, Sh n d) : Sh (n + 1) (.tuple ds) := ⟨by rw [PyData.canLay0]; exact (Sh.all h).1, by rw [PyData.depth]; exact Nat.succ_le_succ (Sh.all h).2⟩
theorem Sh.mono {n m : Nat} {d : PyData} (h : Sh n d) (l : n ≤ m) : Sh m d := ⟨h.1, Nat.le_trans h.2 l⟩
theorem Sh.sh {n : Nat} {d : PyData} (h : Sh n d) (l : n ≤ 64) : PySem.SeqAt.shaped d = true := Bool.and_eq_true_iff.mpr ⟨h.1, decide_eq_true (Nat.le_trans h.2 l)⟩
theorem sh_int {n : Nat} {i : Int} : Sh n (.int i) := by simp [Sh, PyData.canLay0, PyData.depth]
theorem sh_none {n : Nat} : Sh n .none := by simp [Sh, PyData.canLay0, PyData.depth]
theorem eq_same {K : PySem.W.Frag} {H : Hp} {x y : V} {d : PyData} {n : Nat} (hx : Dp K H x d) (hy : Dp K H y d) (s : Sh n d) (l : n ≤ 64) {Q : VK} (q : Q (.bl true) H) : rEqD K x y H Q :=
  ⟨d, d, hx, hy, s.sh l, s.sh l, by rw [PySem.SeqAt.eqv_refl d s.1]; exact q⟩

def ansD : Option (List Int) → PyData
  | none => .none
  | some R => .tuple (R.map .int)
def AnsOk (o : Option (List Int)) : Prop := ∀ R, o = some R → R.length ≤ 12 ∧ ∀ p ∈ R, 0 ≤ p ∧ p < 12
theorem ans_dp {K : PySem.W.Frag} {H : Hp} {v : V} {o : Option (List Int)} (h : AnsAt H v o) : Dp K H v (ansD o) := by
  cases o with
  | none =>
    have : v = .non := h
    subst this
    exact .non
  | some R =>
    obtain ⟨t, rfl, h⟩ := h
    exact .tup (SqT.of h) (dp_ints R)
theorem sh_ints (R : List Int) : ∀ d ∈ R.map PyData.int, Sh 0 d := fun d hd => by
  obtain ⟨i, _, rfl⟩ := List.mem_map.mp hd
  exact sh_int
theorem ans_sh {o : Option (List Int)} : Sh 1 (ansD o) := by
  cases o with
  | none => exact sh_none
  | some R => exact Sh.tuple (sh_ints R)
theorem ans_rp {R : List Int} (h : R.length ≤ 12 ∧ ∀ p ∈ R, 0 ≤ p ∧ p < 12) : Rp 1 23100 (.tuple (R.map .int)) := by
  refine (Rp.tuple (n := 0) (c := 1921) fun d hd => ?_).mono (Nat.le_refl _) ?_
  · obtain ⟨i, hi, rfl⟩ := List.mem_map.mp hd
    refine Rp.int ?_
    have := h.2 i hi
    have : i.natAbs < 2 ^ 4 := by omega
    have := log_le this
    omega
  · rw [List.length_map]
    have := Nat.mul_le_mul_right (1921 + 2) h.1
    omega
theorem AnsAt.ex {H H' : Hp} {v : V} {o : Option (List Int)} (x : AnsAt H v o) (e : Ex H H') : AnsAt H' v o := by
  cases o with
  | none => exact x
  | some R => obtain ⟨t, h1, h2⟩ := x; exact ⟨t, h1, e _ _ h2⟩
theorem AnsAt.kp {b : Addr} {H H' : Hp} {v : V} {o : Option (List Int)} (x : AnsAt H v o) (k : Kp b H H') (X : Bx b H) : AnsAt H' v o := by
  cases o with
  | none => exact x
  | some R => obtain ⟨t, h1, h2⟩ := x; exact ⟨t, h1, k.tup X h2⟩
theorem Sol.ok {ws : List Int} {ss : List (List Int)} {o : Option (List Int)} (h : Sol ws.length (costsL ws) ss o) (w12 : ws.length ≤ 12) : AnsOk o := by
  intro R e
  subst e
  obtain ⟨h1, h2, _⟩ := h
  exact ⟨Nat.le_trans (sorted_len h1 h2) w12, fun p hp => by have := h2 p hp; omega⟩
def spSame : Sp := fun vs H Q _ => ∃ v u o, vs = [v, u] ∧ AnsAt H v o ∧ AnsAt H u o ∧ AnsOk o ∧ ∀ H', Ex H H' → Q (.bl true) H'
structure RB (b : Addr) (H : Hp) (zs : List (Addr × List Int)) : Prop where
  at_ : ∀ z ∈ zs, H z.1 = some (.lst (z.2.map V.int)) ∨ H z.1 = some (.tup (z.2.map V.int))
  ne : ∀ z ∈ zs, z.1 ≠ b
theorem RB.kp {b : Addr} {H H' : Hp} {zs : List (Addr × List Int)} (x : RB b H zs) (k : Kp b H H') : RB b H' zs := ⟨fun z hz => (x.at_ z hz).imp (k.k _ _ (x.ne z hz)) (k.k _ _ (x.ne z hz)), x.ne⟩
theorem Rw.dp {K : PySem.W.Frag} {H : Hp} : ∀ {zs : List (Addr × List Int)}, Rw H zs → DpAll K H (zs.map rowV) ((zs.map Prod.snd).map fun r => PyData.tuple (r.map .int))
  | [], _ => .nil
  | z :: zs, h => .cons (.tup (SqT.of (h z List.mem_cons_self)) (dp_ints _)) (Rw.dp fun x hx => h x (List.mem_cons_of_mem _ hx))
theorem sh_rows (rs : List (List Int)) : ∀ d ∈ rs.map (fun r => PyData.tuple (r.map .int)), Sh 1 d := fun d hd => by
  obtain ⟨r, _, rfl⟩ := List.mem_map.mp hd
  exact Sh.tuple (sh_ints r)
def spAsked : Sp := fun vs H Q _ => ∃ (b st pr : Addr) (zs : List (Addr × List Int)) (ws : List Int) (u : V) (o : Option (List Int)), vs = [.ref b, .ref st, .ref pr, u] ∧ Bx b H ∧ st ≠ b ∧ H st = some (.lst (zs.map rowV)) ∧ Lb b H zs ∧ zs.length ≤ 9 ∧ Ok ws.length zs ∧
  pr ≠ b ∧ H pr = some (.lst (ws.map V.int)) ∧ ws.length ≤ 12 ∧ (∀ w ∈ ws, 1 ≤ w ∧ w.natAbs < 2 ^ 110) ∧ AnsAt H u o ∧ Sol ws.length (costsL ws) (zs.map Prod.snd) o ∧ ∀ H', Kp b H H' → Bx b H' → Q (.bl true) H'
section
variable {P : Program} {w : World} {K : PySem.W.Frag} {mg : Str → Option Value} {base : Heap} {a : Ad} {d : Fd}
theorem ok_law_same (T : TX K mg a) (D : FDS K a d) : FnG P w K mg base 1 a.a_law_same d.a_law_same ["actual", "due"] spSame := by
  refine okG D.F__law_same sc_law_same (fun vs H Q E h => ?_) (fun cdv A outer s H vs Q E hr gd h => ?_)
  · obtain ⟨v, u, o, rfl, _⟩ := h
    rfl
  · obtain ⟨v, u, o, rfl, h1, h2, ok, q⟩ := h
    refine ⟨_, (pss_one (ps_ret (pe_and (pe_cmpR op_eq (pe_callB (cr_or (call_reprR gd (hu70 hr)) (call_reprN gd (hu70 hr))) (by rfl) T.b_repr (by decide +kernel) (pa_cons (pv 0) pa_nil)) (pe_callB (cr_or (call_reprR gd (hu70 hr)) (call_reprN gd (hu70 hr))) (by rfl) T.b_repr (by decide +kernel) (pa_cons (pv 1) pa_nil)) (nomark _)) (pe_one (pe_cmpR (op_eqD hr.units) (pv 0) (pv 1) (nomark _)))))), ?_⟩
    have d1 := ans_dp (K := K) h1
    have d2 := ans_dp (K := K) h2
    have last : rEqD K v u H fun x H' => x = .bl true ∧ Ex H H' := eq_same d1 d2 ans_sh (by decide) ⟨rfl, Ex.refl _⟩
    cases o with
    | none =>
      have e1 : v = .non := h1
      have e2 : u = .non := h2
      subst e1 e2
      exact ⟨_, rfl, .inr ⟨rfl, _, rfl, .inr ⟨rfl, rfl, _, rfl, iteT' (by decide) ⟨_, rfl, _, rfl, eq_same d1 d2 ans_sh (by decide) (q H (Ex.refl _))⟩⟩⟩⟩
    | some R =>
      obtain ⟨t, rfl, g1⟩ := h1
      obtain ⟨t2, rfl, g2⟩ := h2
      have rp := ans_rp (ok R rfl)
      exact ⟨_, rfl, .inl ⟨t, _, _, _, rfl, d1, rp, by decide, by decide, _, rfl, .inl ⟨t2, _, _, _, rfl, d2, rp, by decide, by decide, rfl, _, rfl, iteT' (decide_eq_true rfl) ⟨_, rfl, _, rfl, eq_same d1 d2 ans_sh (by decide) (q H (Ex.refl _))⟩⟩⟩⟩
end
end C8
set_option maxRecDepth 100000
set_option maxHeartbeats 8000000
namespace C8
open PySem L2 Evl GP HR
/-- [tuple(row) for row in ..] -/
theorem lcTup {K : PySem.W.Frag} {σ : L2.St} {H1 : Hp} {J : It} {G : Hp → Prop} {ys : List (Addr × List Int)} (wk : L2.Walk J (ys.map rowV).length G (YAt (ys.map rowV))) {j : Nat} {vs : List Nat} (hz : ys.length < sizeLine) (hG : ∀ H', Ex H1 H' → G H') (hw : ∀ v, wipe ((wipe σ vs).set j (some v)) vs = wipe σ vs) (hj : ∀ v, ((wipe σ vs).set j (some v))[j]? = some (some v))
    (R : ∀ z ∈ ys, H1 z.1 = some (.lst (z.2.map V.int)) ∨ H1 z.1 = some (.tup (z.2.map V.int))) {Qd : Hp → Prop} {D : Addr} (hD : H1 D = none) (k : ∀ H' ks, Ex H1 H' → H' D = some (.lst (ks.map rowV)) → Rw H' ks → ks.map Prod.snd = ys.map Prod.snd → Qd H') :
    ∃ W : Nat → Nat → Hp → Prop, (∃ m, W 0 m (upd H1 D (.lst []))) ∧ ∀ i m H, W i m H →
      (J.stop i H ∧ Qd H) ∨ (J.go i H ∧ ∃ Nx : Hp → Prop, (∀ H', Nx H' → ∃ m', m' < m ∧ W (i + 1) m' H') ∧ ∀ x H', J.yld i H x H' → gName j x (wipe σ vs) H' fun σ2 H2 => wipe σ2 vs = wipe σ vs ∧ tYes σ2 H2 fun b H3 =>
        if b = true then tCB (fun xs H Q => ∃ p ys, xs = [V.ref p] ∧ ((SqL K H p ys ∧ ∀ l : Addr, H l = none → Q (V.ref l) (upd H l (.tup ys))) ∨ SqT K H p ys ∧ Q (V.ref p) H)) (tCons (tVar j) tNil) σ2 H3 fun y H4 => ∃ acc, H4 D = some (.lst acc) ∧ acc.length < sizeLine ∧ Nx (upd H4 D (.lst (acc ++ [y]))) else Nx H3) := by
  have ly : (ys.map rowV).length = ys.length := List.length_map _
  refine lc_it wk (fun i H' => Ex H1 H' ∧ ∃ ks : List (Addr × List Int), H' D = some (.lst (ks.map rowV)) ∧ Rw H' ks ∧ ks.map Prod.snd = (ys.map Prod.snd).take i) ⟨Ex.new hD, [], upd_same, fun _ h => absurd h (by simp), rfl⟩ (fun i H' _ h => hG H' h.1) ?_ ?_
  · rintro i v H2 H2' hi ⟨e2, ks, hk, Ks, ek⟩ ⟨rfl, hv⟩
    rw [ly] at hi
    rw [List.getElem?_map, List.getElem?_eq_getElem hi] at hv
    cases hv
    have tk : (ys.map Prod.snd).take (i + 1) = (ys.map Prod.snd).take i ++ [ys[i].2] := by rw [List.take_add_one, List.getElem?_map, List.getElem?_eq_getElem hi]; rfl
    have hm : ys[i] ∈ ys := List.getElem_mem hi
    have hz2 := (R _ hm).imp (e2 _ _) (e2 _ _)
    have kl : ks.length ≤ ys.length := by
      rw [← List.length_map (f := Prod.snd) (as := ks), ek, List.length_take, List.length_map]; omega
    rw [tk, ← ek]
    generalize ys[i] = z at *
    unfold gName tYes
    dsimp only
    refine ⟨hw _, iteT' rfl ?_⟩
    rcases hz2 with hz2 | hz2
    · refine ⟨_, hj _, z.1, _, rfl, .inl ⟨SqL.of hz2, fun l hl => ?_⟩⟩
      have xl := Ex.new (o := .tup (z.2.map V.int)) hl
      have nl : l ≠ D := fun e => by rw [e, hk] at hl; cases hl
      refine ⟨ks.map rowV, xl _ _ hk, by rw [List.length_map]; omega, Ex.mut (e2.trans xl) hD, ks ++ [(l, z.2)], by rw [upd_same, List.map_append]; rfl, Rw.mut (Rw.app (Ks.ex xl) fun x hx => ?_) (xl _ _ hk), by rw [List.map_append]; rfl⟩
      rw [List.mem_singleton.mp hx]
      exact upd_same
    · refine ⟨_, hj _, z.1, _, rfl, .inr ⟨SqT.of hz2, ?_⟩⟩
      refine ⟨ks.map rowV, hk, by rw [List.length_map]; omega, Ex.mut e2 hD, ks ++ [(z.1, z.2)], by rw [upd_same, List.map_append]; rfl, Rw.mut (Rw.app Ks fun x hx => ?_) hk, by rw [List.map_append]; rfl⟩
      rw [List.mem_singleton.mp hx]
      exact hz2
  · rintro H2 ⟨e2, ks, hk, Ks, ek⟩
    rw [ly, ← List.length_map (f := Prod.snd) (as := ys), List.take_length] at ek
    exact k H2 ks e2 hk Ks ek
section
variable {P : Program} {w : World} {K : PySem.W.Frag} {mg : Str → Option Value} {base : Heap} {a : Ad} {d : Fd}
theorem ok_law_asked (T : TX K mg a) (D : FDS K a d) : FnG P w K mg base 14 a.a_law_asked d.a_law_asked ["bag", "sets", "prices", "due"] spAsked := by
  have G__law_kind : FnOk P w K mg base CX0 2 a.a_law_kind d.a_law_kind ["bag", "row"] spKind := ok_law_kind T D
  have G_least_hitting : FnOk P w K mg base CX0 13 a.a_least_hitting d.a_least_hitting ["sets", "weights"] (spLeast K) := ok_least_hitting T D
  have G__law_same : FnG P w K mg base 1 a.a_law_same d.a_law_same ["actual", "due"] spSame := ok_law_same T D
  refine okG D.F__law_asked sc_law_asked (fun vs H Q E h => ?_) (fun cdv A outer s H vs Q E hr gd h => ?_)
  · obtain ⟨b, st, pr, zs, ws, u, o, rfl, _⟩ := h
    rfl
  · obtain ⟨b, st, pr, zs, ws, u, o, rfl, X, nst, hst, L, z9, ok, npr, hpr, w12, wok, hu, so, fin⟩ := h
    refine ⟨_, (pss_cons (ps_setLc (i := 4) (own := [("row", 8)]) (g := gName 8) (tt := tYes) rfl sc_law_asked.nd rfl rfl (sw_true rfl rfl rfl (by decide +kernel)) (pi_list (pv 1)) (blkOk_by (N := ["bag", "sets", "prices", "due", "rows", "kept_rows", "handed", "weights", "row"]) (sc := defScope s_law_asked) (by decide +kernel)) (fun _ _ _ _ _ => (pg_name (i := 8) sc_law_asked.nd rfl (Or.inl rfl))) (fun _ _ _ _ _ => pts_nil) (fun _ _ _ _ _ => (pe_call G__law_kind (hr.mono (by decide)) rfl T.f__law_kind T.k__law_kind D.B__law_kind .nil pass0 (pa_cons (pv 0) (pa_cons (pv 8) pa_nil)))))
        (pss_cons (ps_setLc (i := 5) (own := [("row", 8)]) (g := gName 8) (tt := tYes) rfl sc_law_asked.nd rfl rfl (sw_true rfl rfl rfl (by decide +kernel)) (pi_list (pv 4)) (blkOk_by (N := ["bag", "sets", "prices", "due", "rows", "kept_rows", "handed", "weights", "row"]) (sc := defScope s_law_asked) (by decide +kernel)) (fun _ _ _ _ _ => (pg_name (i := 8) sc_law_asked.nd rfl (Or.inl rfl))) (fun _ _ _ _ _ => pts_nil) (fun _ _ _ _ _ => (pe_callTy (call_tuple_ofK (K := K)) (by rfl) T.b_tuple (by decide +kernel) (pa_cons (pv 8) pa_nil))))
        (pss_cons (ps_set (i := 6) sc_law_asked.nd rfl (Or.inl rfl) (pe_call G__law_kind (hr.mono (by decide)) rfl T.f__law_kind T.k__law_kind D.B__law_kind .nil pass0 (pa_cons (pv 0) (pa_cons (pv 4) pa_nil))))
        (pss_cons (ps_set (i := 7) sc_law_asked.nd rfl (Or.inl rfl) (pe_call G__law_kind (hr.mono (by decide)) rfl T.f__law_kind T.k__law_kind D.B__law_kind .nil pass0 (pa_cons (pv 0) (pa_cons (pv 2) pa_nil))))
        (pss_cons (ps_if (pt_not (pt_val (pe_callG G__law_same (hr.mono (by decide)) gd rfl T.f__law_same T.k__law_same D.B__law_same pass0 (pa_cons (pe_call G_least_hitting (hr.mono (by decide)) rfl T.f_least_hitting T.k_least_hitting D.B_least_hitting .nil pass0 (pa_cons (pv 6) (pa_cons (pv 7) pa_nil))) (pa_cons (pv 3) pa_nil))))) (pss_one (ps_ret pe_bl)) pss_nil)
        (pss_one (ps_ret (pe_and (pe_cmpR (op_eqD hr.units) (pe_lc (own := [("row", 8)]) (g := gName 8) (tt := tYes) rfl sc_law_asked.nd (pi_or (pi_list (pv 6)) (pi_tup (pv 6))) (blkOk_by (N := ["bag", "sets", "prices", "due", "rows", "kept_rows", "handed", "weights", "row"]) (sc := defScope s_law_asked) (by decide +kernel)) (fun _ _ _ _ _ => (pg_name (i := 8) sc_law_asked.nd rfl (Or.inl rfl))) (fun _ _ _ _ _ => pts_nil) (fun _ _ _ _ _ => (pe_callTy (call_tuple_ofK (K := K)) (by rfl) T.b_tuple (by decide +kernel) (pa_cons (pv 8) pa_nil)))) (pv 5) (nomark _)) (pe_one (pe_cmpR (op_eqD hr.units) (pe_callTy call_list_of (by rfl) T.b_list (by decide +kernel) (pa_cons (pv 7) pa_nil)) (pv 2) (nomark _))))))))))), ?_⟩
    have big : 1000 ≤ sizeLine := by decide
    have lz : (zs.map rowV).length = zs.length := List.length_map _
    refine ⟨_, rfl, st, rfl, ⟨_, SqL.of hst⟩, fun D1 hD1 => lc_it (H1 := H) (walk_list (xs := zs.map rowV)) (fun i H' => Kp b H H' ∧ Bx b H' ∧ ∃ ys : List (Addr × List Int), H' D1 = some (.lst (ys.map rowV)) ∧ RB b H' ys ∧ (∀ z ∈ ys, z.1 ≠ D1) ∧ ys.map Prod.snd = (zs.map Prod.snd).take i)
      ⟨Kp.ex (Ex.new hD1), X.ex (Ex.new hD1), [], upd_same, ⟨fun _ h => absurd h (by simp), fun _ h => absurd h (by simp)⟩, fun _ h => absurd h (by simp), rfl⟩ (fun i H' _ h => SqL.of (h.1.k _ _ nst hst)) ?_ ?_⟩
    · rintro i v H2 H2' hi ⟨k2, X2, ys, hy, R, nD, ey⟩ ⟨rfl, hv⟩
      rw [lz] at hi
      rw [List.getElem?_map, List.getElem?_eq_getElem hi] at hv
      cases hv
      have tk : (zs.map Prod.snd).take (i + 1) = (zs.map Prod.snd).take i ++ [zs[i].2] := by rw [List.take_add_one, List.getElem?_map, List.getElem?_eq_getElem hi]; rfl
      have hm : zs[i] ∈ zs := List.getElem_mem hi
      have yl : ys.length ≤ zs.length := by
        rw [← List.length_map (f := Prod.snd) (as := ys), ey, List.length_take, List.length_map]; omega
      have nb := L.ne _ hm
      have hz := (L.kp k2).at_ _ hm
      have nDb := X.ne hD1
      rw [tk, ← ey]
      generalize zs[i] = z at *
      unfold gName tYes
      dsimp only
      refine ⟨rfl, iteT' rfl ⟨_, rfl, _, rfl, b, z.1, z.2.map V.int, rfl, X2, nb, hz, fun p H3 fr k3 X3 np h3 => ?_⟩⟩
      have npD : p ≠ D1 := fun e => by rw [e, hy] at fr; cases fr
      refine ⟨ys.map rowV, k3.k _ _ nDb hy, by rw [List.length_map]; omega, (k2.trans k3).mut hD1, X3.upd nDb, ys ++ [(p, z.2)], by rw [upd_same, List.map_append]; rfl, ⟨fun x hx => ?_, fun x hx => ?_⟩, fun x hx => ?_, by rw [List.map_append]; rfl⟩
      · rcases List.mem_append.mp hx with hx | hx
        · rw [upd_ne (nD x hx)]; exact (R.kp k3).at_ x hx
        · rw [List.mem_singleton.mp hx, upd_ne npD]; exact h3
      · rcases List.mem_append.mp hx with hx | hx
        · exact R.ne x hx
        · rw [List.mem_singleton.mp hx]; exact np
      · rcases List.mem_append.mp hx with hx | hx
        · exact nD x hx
        · rw [List.mem_singleton.mp hx]; exact npD
    · rintro H2 ⟨k2, X2, ys, hy, R, nD, ey⟩
      have nDb := X.ne hD1
      rw [lz, ← List.length_map (f := Prod.snd) (as := zs), List.take_length] at ey
      have ly : ys.length = zs.length := by have := congrArg List.length ey; rwa [List.length_map, List.length_map] at this
      have yok : ∀ y ∈ ys, y.2.length ≤ 12 ∧ InRange ws.length y.2 := fun y hy2 => by
        have : y.2 ∈ zs.map Prod.snd := by rw [← ey]; exact List.mem_map.mpr ⟨y, hy2, rfl⟩
        obtain ⟨z, hz, e⟩ := List.mem_map.mp this
        rw [← e]
        exact ok.ok z hz
      generalize hrs : zs.map Prod.snd = rs at *
      have lyV : (ys.map rowV).length = ys.length := List.length_map _
      refine ⟨_, rfl, D1, rfl, ⟨_, SqL.of hy⟩, fun D2 hD2 => lcTup walk_list (by omega) (fun H' e => SqL.of (e _ _ hy)) (fun _ => rfl) (fun _ => rfl) R.at_ hD2 fun H3 ks e3 hk Ks ek => ?_⟩
      have X3 := X2.ex e3
      refine ⟨_, rfl, _, rfl, b, D1, ys.map rowV, rfl, X3, nDb, e3 _ _ hy, fun h H4 frh k4 X4 nh hh => ⟨_, rfl, _, rfl, b, pr, ws.map V.int, rfl, X4, npr, (k2.trans ((Kp.ex e3).trans k4)).k _ _ npr hpr, fun q H5 frq k5 X5 nq hq => ?_⟩⟩
      have nD2 := X2.ne hD2
      have k25 := ((Kp.ex (b := b) e3).trans k4).trans k5
      have k05 := k2.trans k25
      have R5 := R.kp k25
      have K5 : Rw H5 ks := fun z hz => (k4.trans k5).tup X3 (Ks z hz)
      have hk5 := (k4.trans k5).k _ _ nD2 hk
      have hpr5 := k05.k _ _ npr hpr
      have hu5 := hu.kp k05 X
      have hh5 : H5 h = some (.lst (ys.map rowV)) ∨ H5 h = some (.tup (ys.map rowV)) := hh.imp (k5.k _ _ nh) (k5.k _ _ nh)
      have seq : ∀ {H' : Hp}, Ex H5 H' → SqL K H' h (ys.map rowV) ∨ SqT K H' h (ys.map rowV) := fun e => hh5.imp (fun h => SqL.of (e _ _ h)) fun h => SqT.of (e _ _ h)
      refine ⟨_, rfl, _, rfl, h, q, ys, ws, rfl, seq (Ex.refl _), ⟨fun z hz => (R5.at_ z hz).imp (fun h => SqL.of h) fun h => SqT.of h, yok⟩, hq.imp (fun h => SqL.of h) fun h => SqT.of h, w12, by omega, wok, fun v o' H6 e6 B6 S6 => ?_⟩
      rw [ey] at S6
      have eo := sol_unique S6 so
      subst eo
      refine ⟨_, rfl, v, u, o', rfl, B6, hu5.ex e6, so.ok w12, fun H7 e7 => ⟨_, rfl, iteF' rfl ?_⟩⟩
      have e57 := e6.trans e7
      refine lt_go (fun Q q => ⟨_, rfl, q⟩) (seq e57) fun J G wk hG D3 hD3 => lcTup wk (by omega) hG (fun _ => rfl) (fun _ => rfl) (fun z hz => (R5.at_ z hz).imp (e57 _ _) (e57 _ _)) hD3 fun H8 ks2 e8 hk2 Ks2 ek2 => ?_
      have e58 := e57.trans e8
      have dA : Dp K H8 (.ref D3) (.list (rs.map fun r => .tuple (r.map .int))) := .lst (SqL.of hk2) (by have := Ks2.dp (K := K); rwa [ek2, ey] at this)
      have dB : Dp K H8 (.ref D2) (.list (rs.map fun r => .tuple (r.map .int))) := .lst (SqL.of (e58 _ _ hk5)) (by have := (K5.ex e58).dp (K := K); rwa [ek, ey] at this)
      refine ⟨_, rfl, eq_same dA dB (Sh.list (sh_rows rs)) (by decide) ⟨_, rfl, iteT' rfl ?_⟩⟩
      refine ⟨_, rfl, q, ws.map V.int, rfl, hq.imp (fun h => SqL.of (e58 _ _ h)) (fun h => SqT.of (e58 _ _ h)), fun l hl => ⟨_, rfl, ?_⟩⟩
      have xl := Ex.new (o := .lst (ws.map V.int)) hl
      have dC : Dp K (upd H8 l (.lst (ws.map V.int))) (.ref l) (.list (ws.map .int)) := .lst (SqL.of upd_same) (dp_ints ws)
      have dE : Dp K (upd H8 l (.lst (ws.map V.int))) (.ref pr) (.list (ws.map .int)) := .lst (SqL.of (xl _ _ (e58 _ _ hpr5))) (dp_ints ws)
      exact eq_same dC dE (Sh.list (sh_ints ws)) (by decide) (fin _ (k05.trans (Kp.ex (e58.trans xl))) (X5.ex (e58.trans xl)))
end
end C8
set_option maxRecDepth 100000
set_option maxHeartbeats 8000000
namespace C8
open PySem L2 Evl GP HR
def spLaw (K : PySem.W.Frag) : Sp := fun vs H Q _ => ∃ (a : Addr) (ns : List Int), vs = [.ref a] ∧ SqL K H a (ns.map V.int) ∧ ∀ H', Q (.bl true) H'
theorem cut_lo {α : Type} (f : α → V) (xs : List α) {i : Int} (h0 : 0 ≤ i) (h1 : i ≤ xs.length) : cutV (xs.map f) none (some i) = (xs.take i.toNat).map f := by
  have e : HT.sIx (xs.map f).length (xs.map f).length (some i) = i.toNat := by
    show (if i < 0 then (i + ((xs.map f).length : Nat)).toNat else min i.toNat (xs.map f).length) = _
    rw [if_neg (by omega), List.length_map]
    omega
  unfold cutV
  rw [e, List.map_take]
  show List.take (i.toNat - 0) (List.drop 0 (xs.map f)) = _
  rw [Nat.sub_zero, List.drop_zero]
theorem cut_hi {α : Type} (f : α → V) (xs : List α) {i : Int} (h0 : 0 ≤ i) (h1 : i ≤ xs.length) : cutV (xs.map f) (some i) none = (xs.drop i.toNat).map f := by
  have e : HT.sIx (xs.map f).length 0 (some i) = i.toNat := by
    show (if i < 0 then (i + ((xs.map f).length : Nat)).toNat else min i.toNat (xs.map f).length) = _
    rw [if_neg (by omega), List.length_map]
    omega
  unfold cutV
  rw [e, List.map_drop]
  show List.take ((xs.map f).length - i.toNat) _ = _
  exact List.take_of_length_le (by rw [List.length_drop]; exact Nat.le_refl _)
theorem sq_kp {K : PySem.W.Frag} {b a : Addr} {H H' : Hp} {xs : List V} (k : Kp b H H') (n : ∀ o, H a = some o → a ≠ b) (h : SqL K H a xs) : SqL K H' a xs := by
  rcases h with (h | ⟨o, h⟩) | h
  · exact .inl (.inl (k.k _ _ (n _ h) h))
  · exact .inl (.inr ⟨o, k.k _ _ (n _ h) h⟩)
  · exact .inr h
theorem Sol.move {n : Nat} {cs : List Int} {ss ss' : List (List Int)} {o : Option (List Int)} (h : Sol n cs ss o) (e : ∀ S, Hit ss' S ↔ Hit ss S) : Sol n cs ss' o := by
  cases o with
  | none => exact fun S nd ir hit => h S nd ir ((e S).mp hit)
  | some R => exact ⟨h.1, h.2.1, (e R).mpr h.2.2.1, fun S nd ir hit => h.2.2.2 S nd ir ((e S).mp hit)⟩
theorem hit_more {zs : List (Addr × List Int)} {k : Nat} {m : Addr} {r : List Int} {S : List Int} : Hit ((zs.take k ++ [(m, r)] ++ zs.drop k).map Prod.snd) S ↔ Hit (zs.map Prod.snd) S ∧ ∃ p ∈ r, p ∈ S := by
  constructor
  · intro h
    refine ⟨fun q hq => ?_, h r (List.mem_map.mpr ⟨(m, r), by simp, rfl⟩)⟩
    obtain ⟨z, hz, rfl⟩ := List.mem_map.mp hq
    rw [← List.take_append_drop k zs] at hz
    refine h z.2 (List.mem_map.mpr ⟨z, ?_, rfl⟩)
    rcases List.mem_append.mp hz with hz | hz
    · simp [hz]
    · simp [hz]
  · rintro ⟨h1, h2⟩ q hq
    obtain ⟨z, hz, rfl⟩ := List.mem_map.mp hq
    rcases List.mem_append.mp hz with hz | hz
    · rcases List.mem_append.mp hz with hz | hz
      · exact h1 _ (List.mem_map.mpr ⟨z, List.mem_of_mem_take hz, rfl⟩)
      · rw [List.mem_singleton.mp hz]; exact h2
    · exact h1 _ (List.mem_map.mpr ⟨z, List.mem_of_mem_drop hz, rfl⟩)
/-- what holds of the sets, the prices and the result while the law asks -/
structure Held (b st pr : Addr) (zs : List (Addr × List Int)) (ws : List Int) (H : Hp) : Prop where
  X : Bx b H
  nst : st ≠ b
  hst : H st = some (.lst (zs.map rowV))
  L : Lb b H zs
  npr : pr ≠ b
  hpr : H pr = some (.lst (ws.map V.int))
theorem Held.kp {b st pr : Addr} {zs : List (Addr × List Int)} {ws : List Int} {H H' : Hp} (x : Held b st pr zs ws H) (k : Kp b H H') (X : Bx b H') : Held b st pr zs ws H' := ⟨X, x.nst, k.k _ _ x.nst x.hst, x.L.kp k, x.npr, k.k _ _ x.npr x.hpr⟩
theorem Held.ex {b st pr : Addr} {zs : List (Addr × List Int)} {ws : List Int} {H H' : Hp} (x : Held b st pr zs ws H) (e : Ex H H') : Held b st pr zs ws H' := x.kp (Kp.ex e) (x.X.ex e)
/-- sets[:at] + [one more] + sets[at:] -/
theorem more_go {K : PySem.W.Frag} {σ : St} {H : Hp} {Q : VK} {b st pr : Addr} {zs : List (Addr × List Int)} {ws : List Int} {at_ : Int} {tm : TE} {Good : List Int → Prop} (h3 : σ[3]? = some (some (.ref st))) (h6 : σ[6]? = some (some (.int at_))) (A : Held b st pr zs ws H) (a0 : 0 ≤ at_) (a1 : at_ ≤ zs.length) (z7 : zs.length ≤ 7)
    (htm : ∀ H1, Ex H H1 → ∀ Qm : VK, (∀ m r H2, Kp b H1 H2 → Bx b H2 → m ≠ b → H2 m = some (.lst (r.map V.int)) → Good r → Qm (.ref m) H2) → tm σ H1 Qm)
    (fin : ∀ p m r H', Kp b H H' → Bx b H' → p ≠ b → H' p = some (.lst ((zs.take at_.toNat ++ [(m, r)] ++ zs.drop at_.toNat).map rowV)) → Lb b H' (zs.take at_.toNat ++ [(m, r)] ++ zs.drop at_.toNat) → Good r → Q (.ref p) H') :
    tOp rCat (tOp rCat (tSl (rSlL K) (tVar 3) tNoPart (tPart (tVar 6))) (tLst (tCons tm tNil))) (tSl (rSlL K) (tVar 3) (tPart (tVar 6)) tNoPart) σ H Q := by
  have big : 1000 ≤ sizeLine := by decide
  refine ⟨_, h3, _, h6, at_, rfl, st, _, rfl, SqL.of A.hst, fun p1 hp1 => ?_⟩
  rw [cut_lo rowV zs a0 a1]
  have x1 := Ex.new (o := .lst ((zs.take at_.toNat).map rowV)) hp1
  refine htm _ x1 _ fun m r H2 k2 X2 nm hm good => ⟨by show 1 ≤ sizeLine; omega, fun q hq => ?_⟩
  have xq := Ex.new (o := .lst [.ref m]) hq
  have n1 := A.X.ne hp1
  have h1 := xq _ _ (k2.k _ _ n1 upd_same)
  have lt : (zs.take at_.toNat).length ≤ zs.length := List.length_take_le' ..
  have ld : (zs.drop at_.toNat).length ≤ zs.length := by rw [List.length_drop]; omega
  refine ⟨p1, q, _, _, rfl, rfl, h1, upd_same, by rw [List.length_map]; show _ + 1 ≤ _; omega, fun p2 hp2 => ?_⟩
  have x2 := Ex.new (o := .lst ((zs.take at_.toNat).map rowV ++ [.ref m])) hp2
  have k3 : Kp b H _ := ((Kp.ex x1).trans k2).trans (Kp.ex (xq.trans x2))
  have X3 := X2.ex (xq.trans x2)
  have A3 := A.kp k3 X3
  have hm3 := (xq.trans x2) _ _ hm
  generalize hH3 : upd (upd H2 q _) p2 _ = H3 at *
  have h2 : H3 p2 = some (HO.lst ((zs.take at_.toNat).map rowV ++ [.ref m])) := by rw [← hH3]; exact upd_same
  refine ⟨_, h3, _, h6, at_, rfl, st, _, rfl, SqL.of A3.hst, fun p3 hp3 => ?_⟩
  rw [cut_hi rowV zs a0 a1]
  have x3 := Ex.new (o := .lst ((zs.drop at_.toNat).map rowV)) hp3
  refine ⟨p2, p3, _, _, rfl, rfl, x3 _ _ h2, upd_same, by rw [List.length_append, List.length_map, List.length_map]; show _ + 1 + _ ≤ _; omega, fun p4 hp4 => ?_⟩
  have x4 := Ex.new (o := .lst ((zs.take at_.toNat).map rowV ++ [.ref m] ++ (zs.drop at_.toNat).map rowV)) hp4
  have k4 : Kp b H _ := k3.trans (Kp.ex (x3.trans x4))
  have X4 := X3.ex (x3.trans x4)
  have L4 := A.L.kp k4
  refine fin p4 m r _ k4 X4 ((X3.ex x3).ne hp4) (by rw [List.map_append, List.map_append]; exact upd_same) ⟨fun z hz => ?_, fun z hz => ?_⟩ good
  · rcases List.mem_append.mp hz with hz | hz
    · rcases List.mem_append.mp hz with hz | hz
      · exact L4.at_ z (List.mem_of_mem_take hz)
      · rw [List.mem_singleton.mp hz]; exact (x3.trans x4) _ _ hm3
    · exact L4.at_ z (List.mem_of_mem_drop hz)
  · rcases List.mem_append.mp hz with hz | hz
    · rcases List.mem_append.mp hz with hz | hz
      · exact L4.ne z (List.mem_of_mem_take hz)
      · rw [List.mem_singleton.mp hz]; exact nm
    · exact L4.ne z (List.mem_of_mem_drop hz)
theorem more_ok {n k : Nat} {zs : List (Addr × List Int)} {m : Addr} {r : List Int} (ok : Ok n zs) (h : r.length ≤ 12 ∧ InRange n r) : Ok n (zs.take k ++ [(m, r)] ++ zs.drop k) := ⟨fun z hz => by
  rcases List.mem_append.mp hz with hz | hz
  · rcases List.mem_append.mp hz with hz | hz
    · exact ok.ok z (List.mem_of_mem_take hz)
    · rw [List.mem_singleton.mp hz]; exact h
  · exact ok.ok z (List.mem_of_mem_drop hz)⟩
theorem more_len {zs : List (Addr × List Int)} {k : Nat} {m : Addr} {r : List Int} (h : zs.length ≤ 7) : (zs.take k ++ [(m, r)] ++ zs.drop k).length ≤ 9 := by
  rw [List.length_append, List.length_append, List.length_take, List.length_drop, List.length_singleton]
  omega
end C8
set_option maxRecDepth 100000
set_option maxHeartbeats 8000000
namespace C8
open PySem L2 Evl GP HR
section
variable {P : Program} {w : World} {K : PySem.W.Frag} {mg : Str → Option Value} {base : Heap} {a : Ad} {d : Fd}
theorem ok_law (T : TX K mg a) (D : FDS K a d) : FnG P w K mg base 15 a.a_law d.a_law ["script"] (spLaw K) := by
  have G__law_bag : FnOk P w K mg base CX0 1 a.a_law_bag d.a_law_bag ["script", "place"] (spBag K) := ok_law_bag T D
  have G__law_take : FnOk P w K mg base CX0 1 a.a_law_take d.a_law_take ["bag", "size"] spTake := ok_law_take T D
  have G__law_prices : FnOk P w K mg base CX0 2 a.a_law_prices d.a_law_prices ["bag"] spPrices := ok_law_prices T D
  have G__law_sets : FnOk P w K mg base CX0 2 a.a_law_sets d.a_law_sets ["bag", "count"] spSets := ok_law_sets T D
  have G__law_best : FnOk P w K mg base CX0 2 a.a_law_best d.a_law_best ["sets", "prices"] spBest := ok_law_best T D
  have G__law_asked : FnG P w K mg base 14 a.a_law_asked d.a_law_asked ["bag", "sets", "prices", "due"] spAsked := ok_law_asked T D
  refine okG D.F_law sc_law (fun vs H Q E h => ?_) (fun cdv A outer s H vs Q E hr gd h => ?_)
  · obtain ⟨a, ns, rfl, _⟩ := h
    rfl
  · obtain ⟨a, ns, rfl, ha, fin⟩ := h
    refine ⟨_, (pss_cons (ps_set (i := 1) sc_law.nd rfl (Or.inl rfl) (pe_call G__law_bag (hr.mono (by decide)) rfl T.f__law_bag T.k__law_bag D.B__law_bag .nil pass0 (pa_cons (pv 0) (pa_cons pe_int pa_nil))))
        (pss_cons (ps_set (i := 2) sc_law.nd rfl (Or.inl rfl) (pe_call G__law_prices (hr.mono (by decide)) rfl T.f__law_prices T.k__law_prices D.B__law_prices .nil pass0 (pa_cons (pv 1) pa_nil)))
        (pss_cons (ps_set (i := 3) sc_law.nd rfl (Or.inl rfl) (pe_call G__law_sets (hr.mono (by decide)) rfl T.f__law_sets T.k__law_sets D.B__law_sets .nil pass0 (pa_cons (pe_call G__law_bag (hr.mono (by decide)) rfl T.f__law_bag T.k__law_bag D.B__law_bag .nil pass0 (pa_cons (pv 0) (pa_cons pe_int pa_nil))) (pa_cons (pe_callB call_len_seq (by rfl) T.b_len (by decide +kernel) (pa_cons (pv 2) pa_nil)) pa_nil))))
        (pss_cons (ps_set (i := 4) sc_law.nd rfl (Or.inr rfl) (pe_call G__law_best (hr.mono (by decide)) rfl T.f__law_best T.k__law_best D.B__law_best .nil pass0 (pa_cons (pv 3) (pa_cons (pv 2) pa_nil))))
        (pss_cons (ps_set (i := 5) sc_law.nd rfl (Or.inl rfl) (pe_call G__law_bag (hr.mono (by decide)) rfl T.f__law_bag T.k__law_bag D.B__law_bag .nil pass0 (pa_cons (pv 0) (pa_cons pe_int pa_nil))))
        (pss_cons (ps_if (pt_not (pt_val (pe_callG G__law_asked (hr.mono (by decide)) gd rfl T.f__law_asked T.k__law_asked D.B__law_asked pass0 (pa_cons (pv 5) (pa_cons (pv 3) (pa_cons (pv 2) (pa_cons (pv 4) pa_nil))))))) (pss_one (ps_ret pe_bl)) pss_nil)
        (pss_cons (ps_if (pt_not (pt_val (pe_callG G__law_asked (hr.mono (by decide)) gd rfl T.f__law_asked T.k__law_asked D.B__law_asked pass0 (pa_cons (pv 5) (pa_cons (pe_lc (own := [("row", 10)]) (g := gName 10) (tt := tYes) rfl sc_law.nd (pi_list (pe_back (pv 3) (pe_un un_neg pe_int))) (blkOk_by (N := ["script", "bag", "prices", "sets", "due", "kinds", "at", "more", "rest", "place", "row"]) (sc := defScope s_law) (by decide +kernel)) (fun _ _ _ _ _ => (pg_name (i := 10) sc_law.nd rfl (Or.inl rfl))) (fun _ _ _ _ _ => pts_nil) (fun _ _ _ _ _ => (pe_backK (K := K) (pv 10) (pe_un un_neg pe_int)))) (pa_cons (pv 2) (pa_cons (pv 4) pa_nil))))))) (pss_one (ps_ret pe_bl)) pss_nil)
        (pss_cons (ps_set (i := 6) sc_law.nd rfl (Or.inl rfl) (pe_call G__law_take (hr.mono (by decide)) rfl T.f__law_take T.k__law_take D.B__law_take .nil pass0 (pa_cons (pv 5) (pa_cons (pe_op op_add (pe_callB call_len_seq (by rfl) T.b_len (by decide +kernel) (pa_cons (pv 3) pa_nil)) pe_int) pa_nil))))
        (pss_cons (ps_if (pt_not (pt_val (pe_callG G__law_asked (hr.mono (by decide)) gd rfl T.f__law_asked T.k__law_asked D.B__law_asked pass0 (pa_cons (pv 5) (pa_cons (pe_op op_cat (pe_op op_cat (pe_slice sl_list (pv 3) po_none (po_some (pv 6))) (pe_lst (pa_cons (pe_lst pa_nil) pa_nil))) (pe_slice sl_list (pv 3) (po_some (pv 6)) po_none)) (pa_cons (pv 2) (pa_cons pe_non pa_nil))))))) (pss_one (ps_ret pe_bl)) pss_nil)
        (pss_cons (ps_if (pt_not (pt_val (pe_callG G__law_asked (hr.mono (by decide)) gd rfl T.f__law_asked T.k__law_asked D.B__law_asked pass0 (pa_cons (pv 5) (pa_cons (pe_lst pa_nil) (pa_cons (pv 2) (pa_cons (pe_tup pa_nil) pa_nil))))))) (pss_one (ps_ret pe_bl)) pss_nil)
        (pss_cons (ps_if (pt_cmpR op_isN (pv 4) pe_non (nomark _)) (pss_one (ps_ret pe_bl)) pss_nil)
        (Evl.pss_cut (ps_if (pt_cmpR (op_neD hr.units) (pv 4) (pe_tup pa_nil) (nomark _)) (pss_cons (ps_set (i := 7) sc_law.nd rfl (Or.inl rfl) (pe_op op_cat (pe_op op_cat (pe_slice sl_list (pv 3) po_none (po_some (pv 6))) (pe_lst (pa_cons (pe_lst (pa_cons (pe_ix ix_tup (pv 4) (pe_call G__law_take (hr.mono (by decide)) rfl T.f__law_take T.k__law_take D.B__law_take .nil pass0 (pa_cons (pv 5) (pa_cons (pe_callB call_len_seq (by rfl) T.b_len (by decide +kernel) (pa_cons (pv 4) pa_nil)) pa_nil))) (fun _ _ => rfl)) pa_nil)) pa_nil))) (pe_slice sl_list (pv 3) (po_some (pv 6)) po_none)))
        (pss_one (ps_if (pt_not (pt_val (pe_callG G__law_asked (hr.mono (by decide)) gd rfl T.f__law_asked T.k__law_asked D.B__law_asked pass0 (pa_cons (pv 5) (pa_cons (pv 7) (pa_cons (pv 2) (pa_cons (pv 4) pa_nil))))))) (pss_one (ps_ret pe_bl)) pss_nil))) pss_nil)
        (pss_cons (ps_setLc (i := 8) (own := [("place", 9)]) (g := gName 9) rfl sc_law.nd rfl rfl (sw_true rfl rfl rfl (by decide +kernel)) (pi_range1 rfl T.b_range (pa_cons (pe_callB call_len_seq (by rfl) T.b_len (by decide +kernel) (pa_cons (pv 2) pa_nil)) pa_nil)) (blkOk_by (N := ["script", "bag", "prices", "sets", "due", "kinds", "at", "more", "rest", "place", "row"]) (sc := defScope s_law) (by decide +kernel)) (fun _ _ _ _ _ => (pg_name (i := 9) sc_law.nd rfl (Or.inl rfl))) (fun _ _ _ _ _ => (pts_one (pt_cmpR (op_notIn_seqK (K := K)) (pv 9) (pv 4) rfl))) (fun _ _ _ _ _ => (pv 9)))
        (pss_cons (ps_if (pt_not (pt_truth (pv 8) (by intro _; rfl))) (pss_one (ps_ret pe_bl)) pss_nil)
        (pss_cons (ps_set (i := 7) sc_law.nd rfl (Or.inl rfl) (pe_op op_cat (pe_op op_cat (pe_slice sl_list (pv 3) po_none (po_some (pv 6))) (pe_lst (pa_cons (pe_slice sl_list (pv 8) (po_some (pe_call G__law_take (hr.mono (by decide)) rfl T.f__law_take T.k__law_take D.B__law_take .nil pass0 (pa_cons (pv 5) (pa_cons (pe_callB call_len_seq (by rfl) T.b_len (by decide +kernel) (pa_cons (pv 8) pa_nil)) pa_nil)))) po_none) pa_nil))) (pe_slice sl_list (pv 3) (po_some (pv 6)) po_none)))
        (pss_one (ps_ret (pe_callG G__law_asked (hr.mono (by decide)) gd rfl T.f__law_asked T.k__law_asked D.B__law_asked pass0 (pa_cons (pv 5) (pa_cons (pv 7) (pa_cons (pv 2) (pa_cons (pe_call G__law_best (hr.mono (by decide)) rfl T.f__law_best T.k__law_best D.B__law_best .nil pass0 (pa_cons (pv 7) (pa_cons (pv 2) pa_nil))) pa_nil)))))))))))))))))))))), ?_⟩
    have big : 1000 ≤ sizeLine := by decide
    refine ⟨_, rfl, a, ns, 0, rfl, ha, fun b1 H1 e1 n1 X1 => ⟨_, rfl, b1, rfl, X1, fun pr ws H2 k2 X2 np2 hpr w12 wok => ?_⟩⟩
    have ha2 : SqL K H2 a (ns.map V.int) := by
      rcases ha with (h | ⟨o, h⟩) | h
      · exact .inl (.inl (k2.k _ _ (fun e => by rw [e, n1] at h; cases h) (e1 _ _ h)))
      · exact .inl (.inr ⟨o, k2.k _ _ (fun e => by rw [e, n1] at h; cases h) (e1 _ _ h)⟩)
      · exact .inr h
    have lw : (ws.map V.int).length = ws.length := List.length_map _
    refine ⟨_, rfl, a, ns, 1, rfl, ha2, fun b2 H3 e3 n3 X3 => ⟨_, rfl, pr, _, rfl, .inl (SqL.of (e3 _ _ hpr)), b2, ws.length, by rw [lw]; rfl, w12, X3, fun st zs H4 k4 X4 ns4 hst L4 z7 ok => ?_⟩⟩
    have npr3 : pr ≠ b2 := fun e => by rw [e, n3] at hpr; cases hpr
    have hpr4 := k4.k _ _ npr3 (e3 _ _ hpr)
    have ha4 : SqL K H4 a (ns.map V.int) := by
      rcases ha2 with (h | ⟨o, h⟩) | h
      · exact .inl (.inl (k4.k _ _ (fun e => by rw [e, n3] at h; cases h) (e3 _ _ h)))
      · exact .inl (.inr ⟨o, k4.k _ _ (fun e => by rw [e, n3] at h; cases h) (e3 _ _ h)⟩)
      · exact .inr h
    refine ⟨_, rfl, _, rfl, st, pr, zs, ws, rfl, hst, L4.at_, fun z hz => (ok.ok z hz).1, hpr4, w12, fun u o H5 e5 B5 so => ⟨_, rfl, a, ns, 2, rfl, ex_l e5 ha4, fun b H6 e6 n6 X6 => ?_⟩⟩
    have A6 : Held b st pr zs ws H6 := ⟨X6, (fun e => by have := e5 _ _ hst; rw [e, n6] at this; cases this), e6 _ _ (e5 _ _ hst), ⟨(L4.at_.ex e5).ex e6, fun z hz e => by have := e5 _ _ (L4.at_ z hz); rw [e, n6] at this; cases this⟩, (fun e => by have := e5 _ _ hpr4; rw [e, n6] at this; cases this), e6 _ _ (e5 _ _ hpr4)⟩
    have B6 := B5.ex e6
    -- the sets themselves
    refine ⟨_, rfl, _, rfl, _, rfl, _, rfl, b, st, pr, zs, ws, u, o, rfl, A6.X, A6.nst, A6.hst, A6.L, by omega, ok, A6.npr, A6.hpr, w12, wok, B6, so, fun H7 k7 X7 => ⟨_, rfl, iteF' rfl ?_⟩⟩
    have A7 := A6.kp k7 X7
    have B7 := B6.kp k7 A6.X
    -- the sets and their rows in the reverse order
    have zrev : (zs.map rowV).reverse = zs.reverse.map rowV := (List.map_reverse ..).symm
    refine ⟨_, rfl, _, rfl, 1, rfl, rfl, st, _, rfl, SqL.of A7.hst, fun p1 hp1 => ?_⟩
    rw [zrev]
    have x1 := Ex.new (o := .lst (zs.reverse.map rowV)) hp1
    have A8 := A7.ex x1
    have B8 := B7.ex x1
    have k68 := k7.trans (Kp.ex x1)
    have h1 : (upd H7 p1 (.lst (zs.reverse.map rowV))) p1 = some (.lst (zs.reverse.map rowV)) := upd_same
    generalize upd H7 p1 (.lst (zs.reverse.map rowV)) = H8 at *
    have lr : (zs.reverse.map rowV).length = zs.length := by rw [List.length_map, List.length_reverse]
    refine ⟨p1, rfl, ⟨_, SqL.of h1⟩, fun D1 hD1 => lc_it (H1 := H8) (walk_list (xs := zs.reverse.map rowV)) (fun i H' => Ex H8 H' ∧ ∃ ys : List (Addr × List Int), H' D1 = some (.lst (ys.map rowV)) ∧ Ls H' ys ∧ (∀ z ∈ ys, z.1 ≠ D1 ∧ z.1 ≠ b) ∧ ys.map Prod.snd = ((zs.reverse.map Prod.snd).take i).map List.reverse)
      ⟨Ex.new hD1, [], upd_same, fun _ h => absurd h (by simp), fun _ h => absurd h (by simp), rfl⟩ (fun i H' _ h => SqL.of (h.1 _ _ h1)) ?_ ?_⟩
    · rintro i v H9 H9' hi ⟨e9, ys, hy, Y, ny, ey⟩ ⟨rfl, hv⟩
      rw [lr] at hi
      have hi2 : i < zs.reverse.length := by rw [List.length_reverse]; exact hi
      rw [List.getElem?_map, List.getElem?_eq_getElem hi2] at hv
      cases hv
      have tk : (zs.reverse.map Prod.snd).take (i + 1) = (zs.reverse.map Prod.snd).take i ++ [zs.reverse[i].2] := by rw [List.take_add_one, List.getElem?_map, List.getElem?_eq_getElem hi2]; rfl
      have hm : zs.reverse[i] ∈ zs := List.mem_reverse.mp (List.getElem_mem hi2)
      have hz := e9 _ _ (A8.L.at_ _ hm)
      have yl : ys.length ≤ 7 := by
        rw [← List.length_map (f := Prod.snd) (as := ys), ey, List.length_map, List.length_take, List.length_map, List.length_reverse]; omega
      rw [tk, List.map_append, ← ey]
      generalize zs.reverse[i] = z at *
      unfold gName tYes
      dsimp only
      refine ⟨rfl, iteT' rfl ⟨_, rfl, 1, rfl, rfl, z.1, _, rfl, SqL.of hz, fun l hl => ?_⟩⟩
      rw [← List.map_reverse]
      have xl := Ex.new (o := .lst (z.2.reverse.map V.int)) hl
      have nl : l ≠ D1 := fun e => by rw [e, hy] at hl; cases hl
      have nlb : l ≠ b := (A8.X.ex e9).ne hl
      refine ⟨ys.map rowV, xl _ _ hy, by rw [List.length_map]; omega, Ex.mut (e9.trans xl) hD1, ys ++ [(l, z.2.reverse)], by rw [upd_same, List.map_append]; rfl, fun x hx => ?_, fun x hx => ?_, by rw [List.map_append]; rfl⟩
      · rcases List.mem_append.mp hx with hx | hx
        · rw [upd_ne (ny x hx).1]; exact xl _ _ (Y x hx)
        · rw [List.mem_singleton.mp hx, upd_ne nl]; exact upd_same
      · rcases List.mem_append.mp hx with hx | hx
        · exact ny x hx
        · rw [List.mem_singleton.mp hx]; exact ⟨nl, nlb⟩
    · rintro H9 ⟨e9, ys, hy, Y, ny, ey⟩
      rw [lr, ← List.length_reverse (as := zs), ← List.length_map (f := Prod.snd) (as := zs.reverse), List.take_length] at ey
      have A9 := A8.ex e9
      have B9 := B8.ex e9
      have nD := A8.X.ne hD1
      have yl : ys.length = zs.length := by have := congrArg List.length ey; simpa using this
      have ymem : ∀ q, q ∈ ys.map Prod.snd ↔ ∃ r ∈ zs.map Prod.snd, q = r.reverse := fun q => by
        rw [ey, List.mem_map]
        constructor
        · rintro ⟨r, hr, rfl⟩
          rw [List.map_reverse, List.mem_reverse] at hr
          exact ⟨r, hr, rfl⟩
        · rintro ⟨r, hr, rfl⟩
          exact ⟨r, by rw [List.map_reverse, List.mem_reverse]; exact hr, rfl⟩
      have hitr : ∀ S, Hit (ys.map Prod.snd) S ↔ Hit (zs.map Prod.snd) S := fun S => by
        constructor
        · intro h r hr
          obtain ⟨p, hp, hS⟩ := h r.reverse ((ymem _).mpr ⟨r, hr, rfl⟩)
          exact ⟨p, List.mem_reverse.mp hp, hS⟩
        · intro h q hq
          obtain ⟨r, hr, rfl⟩ := (ymem q).mp hq
          obtain ⟨p, hp, hS⟩ := h r hr
          exact ⟨p, List.mem_reverse.mpr hp, hS⟩
      have oky : Ok ws.length ys := ⟨fun y hy2 => by
        obtain ⟨r, hr, e⟩ := (ymem y.2).mp (List.mem_map.mpr ⟨y, hy2, rfl⟩)
        obtain ⟨z, hz, rfl⟩ := List.mem_map.mp hr
        obtain ⟨h1, h2⟩ := ok.ok z hz
        rw [e]
        exact ⟨by rw [List.length_reverse]; exact h1, fun p hp => h2 p (List.mem_reverse.mp hp)⟩⟩
      refine ⟨_, rfl, _, rfl, b, D1, pr, ys, ws, u, o, rfl, A9.X, nD, hy, ⟨Y, fun z hz => (ny z hz).2⟩, by omega, oky, A9.npr, A9.hpr, w12, wok, B9, so.move hitr, fun H10 k10 X10 => ⟨_, rfl, iteF' rfl ?_⟩⟩
      have A10 := A9.kp k10 X10
      have B10 := B9.kp k10 A9.X
      have lz : (zs.map rowV).length = zs.length := List.length_map _
      refine ⟨_, rfl, _, rfl, st, _, rfl, .inl (SqL.of A10.hst), _, _, rfl, rfl, b, _, rfl, A10.X, by rw [lz]; omega, by rw [lz]; omega, fun at_ H11 k11 X11 a0 a1 => ?_⟩
      rw [lz] at a1
      have A11 := A10.kp k11 X11
      have B11 := B10.kp k11 A10.X
      clear hD1 h1 hy Y ny ey ymem hitr oky hp1 zrev
      refine ⟨_, rfl, ?_⟩
      refine more_go (K := K) (b := b) (ws := ws) (Good := fun r => r = []) rfl rfl A11 a0 (by omega) z7 (fun Hx ex Qm q => ⟨by show 0 ≤ sizeLine; omega, fun m hm => q m [] _ (Kp.ex (Ex.new hm)) ((A11.X.ex ex).ex (Ex.new hm)) ((A11.X.ex ex).ne hm) upd_same rfl⟩) fun p m r H12 k12 X12 np hp L12 er => ?_
      subst er
      have A12 := A11.kp k12 X12
      have B12 := B11.kp k12 A11.X
      refine ⟨_, rfl, b, p, pr, _, ws, .non, none, rfl, A12.X, np, hp, L12, more_len z7, more_ok ok ⟨Nat.zero_le _, fun _ h => absurd h (by simp)⟩, A12.npr, A12.hpr, w12, wok, rfl, fun S nd ir hit => ?_, fun H13 k13 X13 => ⟨_, rfl, iteF' rfl ?_⟩⟩
      · obtain ⟨_, q, hq, _⟩ := hit_more.mp hit
        cases hq
      have A13 := A12.kp k13 X13
      have B13 := B12.kp k13 A12.X
      -- no sets
      refine ⟨_, rfl, by show 0 ≤ sizeLine; omega, fun p0 hp0 => ⟨_, rfl, by show 0 ≤ sizeLine; omega, fun t0 ht0 => ?_⟩⟩
      have xx := (Ex.new (o := .lst []) hp0).trans (Ex.new (o := .tup []) ht0)
      have A14 := A13.ex xx
      have B14 := B13.ex xx
      have hp14 := (Ex.new (o := .tup []) ht0) _ _ (upd_same (H := H13) (a := p0) (o := .lst []))
      have n0 := A13.X.ne hp0
      refine ⟨b, p0, pr, [], ws, .ref t0, some [], rfl, A14.X, n0, hp14, ⟨fun _ h => absurd h (by simp), fun _ h => absurd h (by simp)⟩, Nat.zero_le _, ⟨fun _ h => absurd h (by simp)⟩, A14.npr, A14.hpr, w12, wok, ⟨t0, rfl, upd_same⟩, ⟨List.Pairwise.nil, fun _ h => absurd h (by simp), fun _ h => absurd h (by simp), fun S nd ir _ => ?_⟩, fun H15 k15 X15 => ⟨_, rfl, iteF' rfl ?_⟩⟩
      · exact tot_nonneg fun p hp => Int.le_of_lt (cst_pos (fun w hw => (wok w hw).1) (ir p hp).1 (ir p hp).2)
      have A15 := A14.kp k15 X15
      have B15 := B14.kp k15 A14.X
      cases o with
      | none =>
        have eu : u = .non := B15
        subst eu
        exact ⟨_, rfl, rfl, _, rfl, iteT' (by decide) (fin _)⟩
      | some R =>
        obtain ⟨t, rfl, ht⟩ := id B15
        refine ⟨_, rfl, rfl, _, rfl, iteF' rfl ?_⟩
        obtain ⟨r1, r2, r3, r4⟩ := id so
        have rl : R.length ≤ 12 := Nat.le_trans (sorted_len r1 r2) w12
        refine ⟨fun σ' H' => ∃ o7, σ' = [some (.ref a), some (.ref b1), some (.ref pr), some (.ref st), some (.ref t), some (.ref b), some (.int at_), o7, none, none, none] ∧ Kp b H15 H' ∧ Bx b H', ?_, ?_⟩
        · refine ⟨_, rfl, by show 0 ≤ sizeLine; omega, fun t1 ht1 => ⟨.tuple (R.map .int), .tuple [], .tup (SqT.of ((Ex.new ht1) _ _ ht)) (dp_ints R), .tup (SqT.of upd_same) .nil, (ans_sh (o := some R)).sh (by decide), (ans_sh (o := some [])).sh (by decide), _, rfl, ?_⟩⟩
          have x1 := Ex.new (o := .tup []) ht1
          have A16 := A15.ex x1
          have ht16 := x1 _ _ ht
          have skip : ∃ o7 : Option V, [some (.ref a), some (.ref b1), some (.ref pr), some (.ref st), some (.ref t), some (.ref b), some (.int at_), none, none, none, none] = [some (.ref a), some (.ref b1), some (.ref pr), some (.ref st), some (.ref t), some (.ref b), some (.int at_), o7, none, none, none] ∧ Kp b H15 (upd H15 t1 (.tup [])) ∧ Bx b (upd H15 t1 (.tup [])) := ⟨none, rfl, Kp.ex x1, A16.X⟩
          by_cases ne : R = []
          · subst ne
            exact iteF' (by rw [List.map_nil, PySem.SeqAt.eqv_refl (.tuple []) (ans_sh (o := some [])).1]; rfl) skip
          · cases hc : (!(PyData.tuple (R.map .int)).eqv (.tuple [])) with
            | false => exact iteF' rfl skip
            | true =>
              refine iteT' rfl ?_
              have k1 := Kp.ex (b := b) x1
              generalize upd H15 t1 (.tup []) = H16 at *
              have lR : (R.map V.int).length = R.length := List.length_map _
              have R0 : 0 < R.length := List.length_pos_iff.mpr ne
              refine more_go (K := K) (b := b) (ws := ws) (Good := fun r => ∃ q ∈ R, r = [q]) rfl rfl A16 a0 (by omega) z7 (fun Hx ex Qm q => ?_) fun p m r H17 k17 X17 np hp L17 gd2 => ?_
              · refine ⟨_, rfl, _, rfl, _, rfl, t, _, rfl, .inr (SqT.of (ex _ _ ht16)), b, _, rfl, A16.X.ex ex, by rw [lR]; omega, by rw [lR]; omega, fun d2 H18 k18 X18 d0 d1 => ?_⟩
                rw [lR] at d1
                have hd : d2.toNat < R.length := by omega
                refine ⟨t, _, d2, .int R[d2.toNat], rfl, rfl, SqT.of (k18.tup (A16.X.ex ex) (ex _ _ ht16)), at_lit (n := d2.toNat) (by omega) (by rw [List.getElem?_map, List.getElem?_eq_getElem hd]; rfl), by show 1 ≤ sizeLine; omega, fun m hm => ?_⟩
                exact q m [R[d2.toNat]] _ (k18.trans (Kp.ex (Ex.new hm))) (X18.ex (Ex.new hm)) (X18.ne hm) upd_same ⟨_, List.getElem_mem hd, rfl⟩
              · obtain ⟨q, hq, rfl⟩ := gd2
                have A17 := A16.kp k17 X17
                have ht17 := k17.tup A16.X ht16
                refine ⟨_, rfl, _, rfl, _, rfl, _, rfl, b, p, pr, _, ws, .ref t, some R, rfl, A17.X, np, hp, L17, more_len z7, more_ok ok ⟨by show 1 ≤ 12; omega, fun y hy => by rw [List.mem_singleton.mp hy]; exact r2 q hq⟩, A17.npr, A17.hpr, w12, wok, ⟨t, rfl, ht17⟩, ⟨r1, r2, hit_more.mpr ⟨r3, q, List.mem_singleton.mpr rfl, hq⟩, fun S nd ir h => r4 S nd ir (hit_more.mp h).1⟩, fun H18 k18 X18 => ⟨_, rfl, iteF' rfl ?_⟩⟩
                exact ⟨_, rfl, (k1.trans k17).trans k18, X18⟩
        · rintro σ' H16 ⟨o7, rfl, k16, X16⟩
          have A16 := A15.kp k16 X16
          have ht16 := k16.tup A15.X ht
          refine ⟨_, rfl, pr, _, rfl, .inl (SqL.of A16.hpr), _, rfl, by rw [lw]; omega, by rw [lw]; omega, fun D1 hD1 => lc_it (H1 := H16) (walk_range (lo := 0) (n := (((ws.map V.int).length : Nat) : Int).toNat)) (fun i H' => Ex H16 H' ∧ ∃ r : List Int, H' D1 = some (.lst (r.map V.int)) ∧ r.length ≤ i ∧ InRange ws.length r)
            ⟨Ex.new hD1, [], upd_same, Nat.le_refl _, fun _ h => absurd h (by simp)⟩ (fun _ _ _ _ => trivial) ?_ ?_⟩
          · rintro i v H17 H17' hi ⟨e17, r, hr, rl2, rin⟩ ⟨rfl, hv⟩
            rw [lw] at hi
            have e0 : v = .int (i : Nat) := by rw [hv]; show V.int (0 + (i : Nat)) = _; rw [Int.zero_add]
            subst e0
            unfold gName
            dsimp only
            refine ⟨rfl, _, rfl, _, rfl, t, _, rfl, .inr (SqT.of (e17 _ _ ht16)), rfl, flat_ints, _, rfl, ?_⟩
            rw [if_pos rfl, inV_ints]
            cases hc : (!decide ((i : Int) ∈ R)) with
            | false => exact iteF' rfl ⟨e17, r, hr, by omega, rin⟩
            | true =>
              refine iteT' rfl ⟨_, rfl, r.map V.int, hr, by rw [List.length_map]; omega, Ex.mut e17 hD1, r ++ [(i : Int)], by rw [upd_same, List.map_append]; rfl, by rw [List.length_append, List.length_singleton]; omega, fun y hy => ?_⟩
              rcases List.mem_append.mp hy with hy | hy
              · exact rin y hy
              · rw [List.mem_singleton.mp hy]; omega
          · rintro H17 ⟨e17, r, hr, rl2, rin⟩
            rw [lw] at rl2
            have A17 := A16.ex e17
            have nD := A16.X.ne hD1
            refine ⟨_, rfl, _, .inl ⟨_, SqL.of hr, rfl⟩, ?_⟩
            cases r with
            | nil => exact iteT' rfl (fin _)
            | cons r0 rs =>
              refine iteF' rfl ?_
              generalize hrr : r0 :: rs = r at *
              have lrr : (r.map V.int).length = r.length := List.length_map _
              have r0p : 0 < r.length := by rw [← hrr]; exact Nat.succ_pos _
              refine more_go (K := K) (b := b) (ws := ws) (Good := fun r => r.length ≤ 12 ∧ InRange ws.length r) rfl rfl A17 a0 (by omega) z7 (fun Hx ex Qm q => ?_) fun p m r2 H18 k18 X18 np hp L18 gd2 => ?_
              · refine ⟨_, rfl, _, rfl, _, rfl, D1, _, rfl, .inl (SqL.of (ex _ _ hr)), b, _, rfl, A17.X.ex ex, by rw [lrr]; omega, by rw [lrr]; omega, fun d2 H19 k19 X19 d0 d1 => ?_⟩
                obtain ⟨cs, hcs, csub, _⟩ := cut_map V.int r (some d2) none
                refine ⟨d2, rfl, D1, _, rfl, SqL.of (k19.k _ _ nD (ex _ _ hr)), fun m hm => ?_⟩
                rw [hcs]
                have cl := csub.length_le
                exact q m cs _ (k19.trans (Kp.ex (Ex.new hm))) (X19.ex (Ex.new hm)) (X19.ne hm) upd_same ⟨by omega, fun y hy => rin y (csub.subset hy)⟩
              · have A18 := A17.kp k18 X18
                have ok2 := more_ok (k := at_.toNat) (m := m) ok gd2
                refine ⟨_, rfl, _, rfl, _, rfl, _, rfl, _, rfl, p, pr, _, ws, rfl, hp, L18.at_, fun z hz => (ok2.ok z hz).1, A18.hpr, w12, fun u2 o2 H20 e20 B20 S20 => ?_⟩
                have A20 := A18.ex e20
                exact ⟨b, p, pr, _, ws, u2, o2, rfl, A20.X, np, e20 _ _ hp, L18.kp (Kp.ex e20), more_len z7, ok2, A20.npr, A20.hpr, w12, wok, B20, S20, fun H21 k21 X21 => fin _⟩
end
end C8
set_option maxRecDepth 100000
set_option maxHeartbeats 4000000
namespace C8
open PySem L2 Evl GP HR
theorem all_mk {l : PySem.W.OpenLaw} {w : World} {K : PySem.W.Frag} {h : Heap} {mg : Str → Option Value} {fa f1 f2 f3 f4 f5 f6 f7 f8 f9 f10 f11 f12 f13 f14 f15 : Addr} (X : K.In h) (G : h.Ns mainGlobals mg) (hfa : mg "law" = some (.ref fa))
    {od1 an1 od2 an2 od3 an3 od4 an4 od5 an5 od6 an6 od7 an7 od8 an8 od9 an9 od10 an10 od11 an11 od12 an12 od13 an13 od14 an14 od15 an15 : Option Addr} {sl1 sl2 sl3 sl4 sl5 sl6 sl7 sl8 sl9 sl10 sl11 sl12 sl13 sl14 sl15 : Array (Option Value)} {oc1 kV1 dc1 pm1 cd1 ct1 oc2 kV2 dc2 pm2 cd2 ct2 oc3 kV3 dc3 pm3 cd3 ct3 oc4 kV4 dc4 pm4 cd4 ct4 oc5 kV5 dc5 pm5 cd5 ct5 oc6 kV6 dc6 pm6 cd6 ct6 oc7 kV7 dc7 pm7 cd7 ct7 oc8 kV8 dc8 pm8 cd8 ct8 oc9 kV9 dc9 pm9 cd9 ct9 oc10 kV10 dc10 pm10 cd10 ct10 oc11 kV11 dc11 pm11 cd11 ct11 oc12 kV12 dc12 pm12 cd12 ct12 oc13 kV13 dc13 pm13 cd13 ct13 oc14 kV14 dc14 pm14 cd14 ct14 oc15 kV15 dc15 pm15 cd15 ct15 : Value}
    (a1 : PySem.W.nsIn K mainGlobals "least_hitting" = some (some (.ref f1)))
    (l1 : K.lookup f1 = some ⟨oc1, od1, .func (PySem.W.fnOf "least_hitting" "least_hitting" (defArgs s_least_hitting) (defBody s_least_hitting) (defScope s_least_hitting) .none kV1 dc1 pm1 an1 cd1 ct1), sl1⟩)
    (c1 : PySem.W.codeIn K cd1 "least_hitting" = true)
    (k1 : PySem.W.keepIn K (.ref f1) = true)
    (a2 : PySem.W.nsIn K mainGlobals "costs_of" = some (some (.ref f2)))
    (l2 : K.lookup f2 = some ⟨oc2, od2, .func (PySem.W.fnOf "costs_of" "costs_of" (defArgs s_costs_of) (defBody s_costs_of) (defScope s_costs_of) .none kV2 dc2 pm2 an2 cd2 ct2), sl2⟩)
    (c2 : PySem.W.codeIn K cd2 "costs_of" = true)
    (k2 : PySem.W.keepIn K (.ref f2) = true)
    (a3 : PySem.W.nsIn K mainGlobals "better_hitting" = some (some (.ref f3)))
    (l3 : K.lookup f3 = some ⟨oc3, od3, .func (PySem.W.fnOf "better_hitting" "better_hitting" (defArgs s_better_hitting) (defBody s_better_hitting) (defScope s_better_hitting) .none kV3 dc3 pm3 an3 cd3 ct3), sl3⟩)
    (c3 : PySem.W.codeIn K cd3 "better_hitting" = true)
    (k3 : PySem.W.keepIn K (.ref f3) = true)
    (a4 : PySem.W.nsIn K mainGlobals "unavoidable_cost" = some (some (.ref f4)))
    (l4 : K.lookup f4 = some ⟨oc4, od4, .func (PySem.W.fnOf "unavoidable_cost" "unavoidable_cost" (defArgs s_unavoidable_cost) (defBody s_unavoidable_cost) (defScope s_unavoidable_cost) .none kV4 dc4 pm4 an4 cd4 ct4), sl4⟩)
    (c4 : PySem.W.codeIn K cd4 "unavoidable_cost" = true)
    (k4 : PySem.W.keepIn K (.ref f4) = true)
    (a5 : PySem.W.nsIn K mainGlobals "_law_bag" = some (some (.ref f5)))
    (l5 : K.lookup f5 = some ⟨oc5, od5, .func (PySem.W.fnOf "_law_bag" "_law_bag" (defArgs s_law_bag) (defBody s_law_bag) (defScope s_law_bag) .none kV5 dc5 pm5 an5 cd5 ct5), sl5⟩)
    (c5 : PySem.W.codeIn K cd5 "_law_bag" = true)
    (k5 : PySem.W.keepIn K (.ref f5) = true)
    (a6 : PySem.W.nsIn K mainGlobals "_law_take" = some (some (.ref f6)))
    (l6 : K.lookup f6 = some ⟨oc6, od6, .func (PySem.W.fnOf "_law_take" "_law_take" (defArgs s_law_take) (defBody s_law_take) (defScope s_law_take) .none kV6 dc6 pm6 an6 cd6 ct6), sl6⟩)
    (c6 : PySem.W.codeIn K cd6 "_law_take" = true)
    (k6 : PySem.W.keepIn K (.ref f6) = true)
    (a7 : PySem.W.nsIn K mainGlobals "_law_tuples" = some (some (.ref f7)))
    (l7 : K.lookup f7 = some ⟨oc7, od7, .func (PySem.W.fnOf "_law_tuples" "_law_tuples" (defArgs s_law_tuples) (defBody s_law_tuples) (defScope s_law_tuples) .none kV7 dc7 pm7 an7 cd7 ct7), sl7⟩)
    (c7 : PySem.W.codeIn K cd7 "_law_tuples" = true)
    (k7 : PySem.W.keepIn K (.ref f7) = true)
    (a8 : PySem.W.nsIn K mainGlobals "_law_hits" = some (some (.ref f8)))
    (l8 : K.lookup f8 = some ⟨oc8, od8, .func (PySem.W.fnOf "_law_hits" "_law_hits" (defArgs s_law_hits) (defBody s_law_hits) (defScope s_law_hits) .none kV8 dc8 pm8 an8 cd8 ct8), sl8⟩)
    (c8 : PySem.W.codeIn K cd8 "_law_hits" = true)
    (k8 : PySem.W.keepIn K (.ref f8) = true)
    (a9 : PySem.W.nsIn K mainGlobals "_law_best" = some (some (.ref f9)))
    (l9 : K.lookup f9 = some ⟨oc9, od9, .func (PySem.W.fnOf "_law_best" "_law_best" (defArgs s_law_best) (defBody s_law_best) (defScope s_law_best) .none kV9 dc9 pm9 an9 cd9 ct9), sl9⟩)
    (c9 : PySem.W.codeIn K cd9 "_law_best" = true)
    (k9 : PySem.W.keepIn K (.ref f9) = true)
    (a10 : PySem.W.nsIn K mainGlobals "_law_same" = some (some (.ref f10)))
    (l10 : K.lookup f10 = some ⟨oc10, od10, .func (PySem.W.fnOf "_law_same" "_law_same" (defArgs s_law_same) (defBody s_law_same) (defScope s_law_same) .none kV10 dc10 pm10 an10 cd10 ct10), sl10⟩)
    (c10 : PySem.W.codeIn K cd10 "_law_same" = true)
    (k10 : PySem.W.keepIn K (.ref f10) = true)
    (a11 : PySem.W.nsIn K mainGlobals "_law_kind" = some (some (.ref f11)))
    (l11 : K.lookup f11 = some ⟨oc11, od11, .func (PySem.W.fnOf "_law_kind" "_law_kind" (defArgs s_law_kind) (defBody s_law_kind) (defScope s_law_kind) .none kV11 dc11 pm11 an11 cd11 ct11), sl11⟩)
    (c11 : PySem.W.codeIn K cd11 "_law_kind" = true)
    (k11 : PySem.W.keepIn K (.ref f11) = true)
    (a12 : PySem.W.nsIn K mainGlobals "_law_prices" = some (some (.ref f12)))
    (l12 : K.lookup f12 = some ⟨oc12, od12, .func (PySem.W.fnOf "_law_prices" "_law_prices" (defArgs s_law_prices) (defBody s_law_prices) (defScope s_law_prices) .none kV12 dc12 pm12 an12 cd12 ct12), sl12⟩)
    (c12 : PySem.W.codeIn K cd12 "_law_prices" = true)
    (k12 : PySem.W.keepIn K (.ref f12) = true)
    (a13 : PySem.W.nsIn K mainGlobals "_law_sets" = some (some (.ref f13)))
    (l13 : K.lookup f13 = some ⟨oc13, od13, .func (PySem.W.fnOf "_law_sets" "_law_sets" (defArgs s_law_sets) (defBody s_law_sets) (defScope s_law_sets) .none kV13 dc13 pm13 an13 cd13 ct13), sl13⟩)
    (c13 : PySem.W.codeIn K cd13 "_law_sets" = true)
    (k13 : PySem.W.keepIn K (.ref f13) = true)
    (a14 : PySem.W.nsIn K mainGlobals "_law_asked" = some (some (.ref f14)))
    (l14 : K.lookup f14 = some ⟨oc14, od14, .func (PySem.W.fnOf "_law_asked" "_law_asked" (defArgs s_law_asked) (defBody s_law_asked) (defScope s_law_asked) .none kV14 dc14 pm14 an14 cd14 ct14), sl14⟩)
    (c14 : PySem.W.codeIn K cd14 "_law_asked" = true)
    (k14 : PySem.W.keepIn K (.ref f14) = true)
    (a15 : PySem.W.nsIn K mainGlobals "law" = some (some (.ref f15)))
    (l15 : K.lookup f15 = some ⟨oc15, od15, .func (PySem.W.fnOf "law" "law" (defArgs s_law) (defBody s_law) (defScope s_law) .none kV15 dc15 pm15 an15 cd15 ct15), sl15⟩)
    (c15 : PySem.W.codeIn K cd15 "law" = true)
    (k15 : PySem.W.keepIn K (.ref f15) = true)
    (z_int : PySem.W.nsIn K mainGlobals "int" = some none)
    (z_tuple : PySem.W.nsIn K mainGlobals "tuple" = some none)
    (z_list : PySem.W.nsIn K mainGlobals "list" = some none)
    (z_set : PySem.W.nsIn K mainGlobals "set" = some none)
    (z_len : PySem.W.nsIn K mainGlobals "len" = some none)
    (z_range : PySem.W.nsIn K mainGlobals "range" = some none)
    (z_sorted : PySem.W.nsIn K mainGlobals "sorted" = some none)
    (z_min : PySem.W.nsIn K mainGlobals "min" = some none)
    (z_sum : PySem.W.nsIn K mainGlobals "sum" = some none)
    (z_any : PySem.W.nsIn K mainGlobals "any" = some none)
    (z_enumerate : PySem.W.nsIn K mainGlobals "enumerate" = some none)
    (z_repr : PySem.W.nsIn K mainGlobals "repr" = some none) :
    ∃ fd : FuncData, (∀ (s : Shared) (v : Value), BindsTo s fd ⟨[v], []⟩ [("script", v)]) ∧ ∀ base : Heap, K.In base → base.Ns mainGlobals mg → FnG l.prog w K mg base 15 fa fd ["script"] (spLaw K) := by
  have e := hfa.symm.trans (PySem.W.mg_of X G a15)
  cases e
  have g1 := PySem.W.mg_of X G a1
  have F1 := fun_mk (st := s_least_hitting) l1 c1 k1
  have b1 := F1.binds (ps := ["sets", "weights"]) fun _ _ _ _ _ _ us hl => match us, hl with | [_, _], _ => rfl
  have g2 := PySem.W.mg_of X G a2
  have F2 := fun_mk (st := s_costs_of) l2 c2 k2
  have b2 := F2.binds (ps := ["weights"]) fun _ _ _ _ _ _ us hl => match us, hl with | [_], _ => rfl
  have g3 := PySem.W.mg_of X G a3
  have F3 := fun_mk (st := s_better_hitting) l3 c3 k3
  have b3 := F3.binds (ps := ["rows", "costs", "chosen", "spent", "best"]) fun _ _ _ _ _ _ us hl => match us, hl with | [_, _, _, _, _], _ => rfl
  have g4 := PySem.W.mg_of X G a4
  have F4 := fun_mk (st := s_unavoidable_cost) l4 c4 k4
  have b4 := F4.binds (ps := ["rows", "costs"]) fun _ _ _ _ _ _ us hl => match us, hl with | [_, _], _ => rfl
  have g5 := PySem.W.mg_of X G a5
  have F5 := fun_mk (st := s_law_bag) l5 c5 k5
  have b5 := F5.binds (ps := ["script", "place"]) fun _ _ _ _ _ _ us hl => match us, hl with | [_, _], _ => rfl
  have g6 := PySem.W.mg_of X G a6
  have F6 := fun_mk (st := s_law_take) l6 c6 k6
  have b6 := F6.binds (ps := ["bag", "size"]) fun _ _ _ _ _ _ us hl => match us, hl with | [_, _], _ => rfl
  have g7 := PySem.W.mg_of X G a7
  have F7 := fun_mk (st := s_law_tuples) l7 c7 k7
  have b7 := F7.binds (ps := ["count"]) fun _ _ _ _ _ _ us hl => match us, hl with | [_], _ => rfl
  have g8 := PySem.W.mg_of X G a8
  have F8 := fun_mk (st := s_law_hits) l8 c8 k8
  have b8 := F8.binds (ps := ["one", "sets"]) fun _ _ _ _ _ _ us hl => match us, hl with | [_, _], _ => rfl
  have g9 := PySem.W.mg_of X G a9
  have F9 := fun_mk (st := s_law_best) l9 c9 k9
  have b9 := F9.binds (ps := ["sets", "prices"]) fun _ _ _ _ _ _ us hl => match us, hl with | [_, _], _ => rfl
  have g10 := PySem.W.mg_of X G a10
  have F10 := fun_mk (st := s_law_same) l10 c10 k10
  have b10 := F10.binds (ps := ["actual", "due"]) fun _ _ _ _ _ _ us hl => match us, hl with | [_, _], _ => rfl
  have g11 := PySem.W.mg_of X G a11
  have F11 := fun_mk (st := s_law_kind) l11 c11 k11
  have b11 := F11.binds (ps := ["bag", "row"]) fun _ _ _ _ _ _ us hl => match us, hl with | [_, _], _ => rfl
  have g12 := PySem.W.mg_of X G a12
  have F12 := fun_mk (st := s_law_prices) l12 c12 k12
  have b12 := F12.binds (ps := ["bag"]) fun _ _ _ _ _ _ us hl => match us, hl with | [_], _ => rfl
  have g13 := PySem.W.mg_of X G a13
  have F13 := fun_mk (st := s_law_sets) l13 c13 k13
  have b13 := F13.binds (ps := ["bag", "count"]) fun _ _ _ _ _ _ us hl => match us, hl with | [_, _], _ => rfl
  have g14 := PySem.W.mg_of X G a14
  have F14 := fun_mk (st := s_law_asked) l14 c14 k14
  have b14 := F14.binds (ps := ["bag", "sets", "prices", "due"]) fun _ _ _ _ _ _ us hl => match us, hl with | [_, _, _, _], _ => rfl
  have g15 := PySem.W.mg_of X G a15
  have F15 := fun_mk (st := s_law) l15 c15 k15
  have b15 := F15.binds (ps := ["script"]) fun _ _ _ _ _ _ us hl => match us, hl with | [_], _ => rfl
  have n_int := PySem.W.mg_none_of X G z_int
  have n_tuple := PySem.W.mg_none_of X G z_tuple
  have n_list := PySem.W.mg_none_of X G z_list
  have n_set := PySem.W.mg_none_of X G z_set
  have n_len := PySem.W.mg_none_of X G z_len
  have n_range := PySem.W.mg_none_of X G z_range
  have n_sorted := PySem.W.mg_none_of X G z_sorted
  have n_min := PySem.W.mg_none_of X G z_min
  have n_sum := PySem.W.mg_none_of X G z_sum
  have n_any := PySem.W.mg_none_of X G z_any
  have n_enumerate := PySem.W.mg_none_of X G z_enumerate
  have n_repr := PySem.W.mg_none_of X G z_repr
  let a : Ad := { a_least_hitting := f1, a_costs_of := f2, a_better_hitting := f3, a_unavoidable_cost := f4, a_law_bag := f5, a_law_take := f6, a_law_tuples := f7, a_law_hits := f8, a_law_best := f9, a_law_same := f10, a_law_kind := f11, a_law_prices := f12, a_law_sets := f13, a_law_asked := f14, a_law := fa }
  let d : Fd := { a_least_hitting := PySem.W.fnOf "least_hitting" "least_hitting" (defArgs s_least_hitting) (defBody s_least_hitting) (defScope s_least_hitting) .none kV1 dc1 pm1 an1 cd1 ct1, a_costs_of := PySem.W.fnOf "costs_of" "costs_of" (defArgs s_costs_of) (defBody s_costs_of) (defScope s_costs_of) .none kV2 dc2 pm2 an2 cd2 ct2, a_better_hitting := PySem.W.fnOf "better_hitting" "better_hitting" (defArgs s_better_hitting) (defBody s_better_hitting) (defScope s_better_hitting) .none kV3 dc3 pm3 an3 cd3 ct3, a_unavoidable_cost := PySem.W.fnOf "unavoidable_cost" "unavoidable_cost" (defArgs s_unavoidable_cost) (defBody s_unavoidable_cost) (defScope s_unavoidable_cost) .none kV4 dc4 pm4 an4 cd4 ct4, a_law_bag := PySem.W.fnOf "_law_bag" "_law_bag" (defArgs s_law_bag) (defBody s_law_bag) (defScope s_law_bag) .none kV5 dc5 pm5 an5 cd5 ct5, a_law_take := PySem.W.fnOf "_law_take" "_law_take" (defArgs s_law_take) (defBody s_law_take) (defScope s_law_take) .none kV6 dc6 pm6 an6 cd6 ct6, a_law_tuples := PySem.W.fnOf "_law_tuples" "_law_tuples" (defArgs s_law_tuples) (defBody s_law_tuples) (defScope s_law_tuples) .none kV7 dc7 pm7 an7 cd7 ct7, a_law_hits := PySem.W.fnOf "_law_hits" "_law_hits" (defArgs s_law_hits) (defBody s_law_hits) (defScope s_law_hits) .none kV8 dc8 pm8 an8 cd8 ct8, a_law_best := PySem.W.fnOf "_law_best" "_law_best" (defArgs s_law_best) (defBody s_law_best) (defScope s_law_best) .none kV9 dc9 pm9 an9 cd9 ct9, a_law_same := PySem.W.fnOf "_law_same" "_law_same" (defArgs s_law_same) (defBody s_law_same) (defScope s_law_same) .none kV10 dc10 pm10 an10 cd10 ct10, a_law_kind := PySem.W.fnOf "_law_kind" "_law_kind" (defArgs s_law_kind) (defBody s_law_kind) (defScope s_law_kind) .none kV11 dc11 pm11 an11 cd11 ct11, a_law_prices := PySem.W.fnOf "_law_prices" "_law_prices" (defArgs s_law_prices) (defBody s_law_prices) (defScope s_law_prices) .none kV12 dc12 pm12 an12 cd12 ct12, a_law_sets := PySem.W.fnOf "_law_sets" "_law_sets" (defArgs s_law_sets) (defBody s_law_sets) (defScope s_law_sets) .none kV13 dc13 pm13 an13 cd13 ct13, a_law_asked := PySem.W.fnOf "_law_asked" "_law_asked" (defArgs s_law_asked) (defBody s_law_asked) (defScope s_law_asked) .none kV14 dc14 pm14 an14 cd14 ct14, a_law := PySem.W.fnOf "law" "law" (defArgs s_law) (defBody s_law) (defScope s_law) .none kV15 dc15 pm15 an15 cd15 ct15 }
  have T : TX K mg a := { b_int := n_int, b_tuple := n_tuple, b_list := n_list, b_set := n_set, b_len := n_len, b_range := n_range, b_sorted := n_sorted, b_min := n_min, b_sum := n_sum, b_any := n_any, b_enumerate := n_enumerate, b_repr := n_repr, f_least_hitting := g1, k_least_hitting := k1, f_costs_of := g2, k_costs_of := k2, f_better_hitting := g3, k_better_hitting := k3, f_unavoidable_cost := g4, k_unavoidable_cost := k4, f__law_bag := g5, k__law_bag := k5, f__law_take := g6, k__law_take := k6, f__law_tuples := g7, k__law_tuples := k7, f__law_hits := g8, k__law_hits := k8, f__law_best := g9, k__law_best := k9, f__law_same := g10, k__law_same := k10, f__law_kind := g11, k__law_kind := k11, f__law_prices := g12, k__law_prices := k12, f__law_sets := g13, k__law_sets := k13, f__law_asked := g14, k__law_asked := k14, f_law := g15, k_law := k15 }
  have D : FDS K a d := { F_least_hitting := F1, B_least_hitting := b1, F_costs_of := F2, B_costs_of := b2, F_better_hitting := F3, B_better_hitting := b3, F_unavoidable_cost := F4, B_unavoidable_cost := b4, F__law_bag := F5, B__law_bag := b5, F__law_take := F6, B__law_take := b6, F__law_tuples := F7, B__law_tuples := b7, F__law_hits := F8, B__law_hits := b8, F__law_best := F9, B__law_best := b9, F__law_same := F10, B__law_same := b10, F__law_kind := F11, B__law_kind := b11, F__law_prices := F12, B__law_prices := b12, F__law_sets := F13, B__law_sets := b13, F__law_asked := F14, B__law_asked := b14, F_law := F15, B_law := b15 }
  exact ⟨d.a_law, fun s v => .of_eq rfl, fun base _ _ => ok_law (P := l.prog) (w := w) (base := base) T D⟩
theorem walk {l : PySem.W.OpenLaw} {q : Program} {loose : List Str} {XP : (Str → Option Value) → Heap → Prop} {YP : World → Heap → Prop} {d : DefRec} {K : Params → PySem.W.Frag} (hn : l.most = some 63) (hdf : d.params.defaults = [])
    (hY : ∀ (w : World) (h : Heap), YP w h → (K w.params).In h)
    (H : ∀ (w : World) (mg : Str → Option Value) (fa : Addr) (h : Heap), (K w.params).In h → h.Ns mainGlobals mg → mg d.name = some (.ref fa) →
      ∃ fd : FuncData, (∀ (s : Shared) (u : Value), BindsTo s fd ⟨[u], []⟩ [("script", u)]) ∧ ∀ base : Heap, (K w.params).In base → base.Ns mainGlobals mg → FnG l.prog w (K w.params) mg base 15 fa fd ["script"] (spLaw (K w.params))) :
    PySem.W.WalkO q loose XP YP l.row.toRowW d [] (fun f vs => PySem.call f vs) :=
  walk_ofG (n := 63) (k := 15) (x := "script") (sp := fun w => spLaw (K w.params)) hn (by decide) hdf ⟨rfl, by decide, by decide⟩ hY H (fun _ _ a ns hl _ hS => ⟨a, ns, rfl, hS, fun _ => rfl⟩)
end C8
set_option maxRecDepth 100000
open PySem PySem.W PyProof.Rows in
set_option maxRecDepth 100000 in
set_option maxHeartbeats 0 in
theorem PySem.Challenge.cw_ringclause_k38_least_hitting_holds : PySem.Challenge.rw_ringclause_k38_least_hitting.Holds := by
  w_on; o_law; k_head; (case hw => w_witness2)
  k_fill
  refine C8.walk (l := PySem.Challenge.rw_ringclause_k38_least_hitting) rfl rfl (fun w h Y => PySem.W.kIn_of Y) ?F
  case F =>
    intro w mg fa h KX G hmg
    refine' C8.all_mk KX G hmg ?a1 ?l1 ?c1 ?k1 ?a2 ?l2 ?c2 ?k2 ?a3 ?l3 ?c3 ?k3 ?a4 ?l4 ?c4 ?k4 ?a5 ?l5 ?c5 ?k5 ?a6 ?l6 ?c6 ?k6 ?a7 ?l7 ?c7 ?k7 ?a8 ?l8 ?c8 ?k8 ?a9 ?l9 ?c9 ?k9 ?a10 ?l10 ?c10 ?k10 ?a11 ?l11 ?c11 ?k11 ?a12 ?l12 ?c12 ?k12 ?a13 ?l13 ?c13 ?k13 ?a14 ?l14 ?c14 ?k14 ?a15 ?l15 ?c15 ?k15 ?z_int ?z_tuple ?z_list ?z_set ?z_len ?z_range ?z_sorted ?z_min ?z_sum ?z_any ?z_enumerate ?z_repr
    (case a1 => k_is)
    (case l1 => k_is)
    (case c1 => k_is)
    (case k1 => k_is)
    (case a2 => k_is)
    (case l2 => k_is)
    (case c2 => k_is)
    (case k2 => k_is)
    (case a3 => k_is)
    (case l3 => k_is)
    (case c3 => k_is)
    (case k3 => k_is)
    (case a4 => k_is)
    (case l4 => k_is)
    (case c4 => k_is)
    (case k4 => k_is)
    (case a5 => k_is)
    (case l5 => k_is)
    (case c5 => k_is)
    (case k5 => k_is)
    (case a6 => k_is)
    (case l6 => k_is)
    (case c6 => k_is)
    (case k6 => k_is)
    (case a7 => k_is)
    (case l7 => k_is)
    (case c7 => k_is)
    (case k7 => k_is)
    (case a8 => k_is)
    (case l8 => k_is)
    (case c8 => k_is)
    (case k8 => k_is)
    (case a9 => k_is)
    (case l9 => k_is)
    (case c9 => k_is)
    (case k9 => k_is)
    (case a10 => k_is)
    (case l10 => k_is)
    (case c10 => k_is)
    (case k10 => k_is)
    (case a11 => k_is)
    (case l11 => k_is)
    (case c11 => k_is)
    (case k11 => k_is)
    (case a12 => k_is)
    (case l12 => k_is)
    (case c12 => k_is)
    (case k12 => k_is)
    (case a13 => k_is)
    (case l13 => k_is)
    (case c13 => k_is)
    (case k13 => k_is)
    (case a14 => k_is)
    (case l14 => k_is)
    (case c14 => k_is)
    (case k14 => k_is)
    (case a15 => k_is)
    (case l15 => k_is)
    (case c15 => k_is)
    (case k15 => k_is)
    (case z_int => k_is)
    (case z_tuple => k_is)
    (case z_list => k_is)
    (case z_set => k_is)
    (case z_len => k_is)
    (case z_range => k_is)
    (case z_sorted => k_is)
    (case z_min => k_is)
    (case z_sum => k_is)
    (case z_any => k_is)
    (case z_enumerate => k_is)
    (case z_repr => k_is)
