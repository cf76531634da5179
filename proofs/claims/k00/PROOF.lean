import PyProof.Rows.All
import Wide.All
import OpenK.AllK
import Wide.FinOn
import HandS.ForExc
import HandS.FStrTup
import HandS.ExcInit
import HandS.Defaults
import HandS.HotCalls
import HandS.IsInst
import HandS.ExcIs
import HandS.ExcField
import HandS.Steps
import KE.KStateDown
import HandS.Head0
import HandS.Head1
import HandS.Head2
import HandS.HeadEnd
import HandS.HeadHook1
import HandS.HeadHook2
import HandS.HeadHook3
import HandS.HeadHook4
import KE.KExcIs
import HandS.Wide
import HandS.Comp
import PySem.Challenge.RW_latepresses_k00_error_classes
set_option Elab.async false
set_option linter.all false
set_option maxRecDepth 100000
set_option maxHeartbeats 4000000
/-! repr of values that may lie in tuples: some text of a bounded length, whatever else is being shown. -/
namespace KR
open PySem PySem.Spec PyProof.Rows L2
section
variable {prog : Program} {w : World}

def Says (prog : Program) (w : World) (hp : Heap) (d n : Nat) (x : Value) : Prop :=
  ∀ (b : Nat) (A : Around) (E : Value → Shared → Prop) (s : Shared) (Q : Str → Shared → Prop), b + n ≤ sizeLine → A.units + d < cLine → s.heap = hp →
    (∀ t tk, t.length ≤ n → Q t { s with toks := tk }) → wpAny (model prog w) A (pyReprUnder b x) Q E s

theorem Says.of_is {hp : Heap} {d n : Nat} {x : Value} {t : Str} (h : ReprIs prog w x t) (hn : t.length ≤ n) : Says prog w hp d n x :=
  fun b A E s Q hb _ _ hq => h b (by omega) A E s Q fun tk => hq t tk hn

theorem fold_says {hp : Heap} {d n : Nat} {A : Around} {E : Value → Shared → Prop} (hu : A.units + d < cLine) :
    ∀ (l : List Value) (acc : Array Str) (m : Nat) (s : Shared) (Q : (Array Str × Nat) → Shared → Prop),
      (∀ x ∈ l, Says prog w hp d n x) → m + l.length * (n + 2) ≤ sizeLine → s.heap = hp →
      (∀ (ts : List Str) (k tk : Nat), ts.length = l.length → (∀ t ∈ ts, t.length ≤ n) → Q ⟨acc ++ ts.toArray, k⟩ { s with toks := tk }) →
      wpAny (model prog w) A (forIn l (⟨acc, m⟩ : (Array Str × Nat)) tupBody) Q E s
  | [], acc, m, s, Q, _, _, _, h => by
    have h0 := h [] m s.toks rfl (fun _ z => nomatch z)
    rw [List.forIn_nil]
    refine wpAny_pure ?_
    simpa using h0
  | x :: l, acc, m, s, Q, hx, hm, hs, h => by
    have hl : (x :: l).length * (n + 2) = l.length * (n + 2) + (n + 2) := by
      rw [List.length_cons, Nat.succ_mul]
    rw [hl] at hm
    rw [List.forIn_cons]
    refine wpAny_bind (wpAny_bind (hx x (List.mem_cons_self ..) (m + 1) A E s _ (by omega) hu hs fun t tk ht => wpAny_pure ?_))
    refine fold_says hu l (acc.push t) (m + (t.length + 2)) { s with toks := tk } Q (fun y hy => hx y (List.mem_cons_of_mem _ hy)) (by omega) hs fun ts k tk' h1 h2 => ?_
    have h3 := h (t :: ts) k tk' (by rw [List.length_cons, List.length_cons, h1]) (fun y hy => by
      rcases List.mem_cons.mp hy with e | e
      · rw [e]
        exact ht
      · exact h2 y e)
    simpa using h3

theorem piled_le {n : Nat} : ∀ ts : List Str, (∀ t ∈ ts, t.length ≤ n) → piled ts ≤ ts.length * (n + 2)
  | [], _ => Nat.zero_le _
  | t :: ts, h => by
    have h1 := piled_le ts fun y hy => h y (List.mem_cons_of_mem _ hy)
    have h2 := h t (List.mem_cons_self ..)
    rw [piled_cons, List.length_cons, Nat.succ_mul]
    omega

theorem rest_says {hp : Heap} {a : Addr} {o : Obj} {items : Array Value} {k d n b : Nat} {A : Around} {E : Value → Shared → Prop} {s : Shared} {Q : Fin → Shared → Prop}
    (ha : hp.get? a = some o) (hd : o.data = .seq items k) (hx : ∀ x ∈ items.toList, Says prog w hp d n x) (hu : A.units + d < cLine) (hs : s.heap = hp)
    (hb : b + items.size * (n + 2) + 2 ≤ sizeLine) (h : ∀ t u tk, t.length ≤ items.size * (n + 2) + 2 → Q (.done (.ret (.str t u))) { s with toks := tk }) :
    wpAny (model prog w) A (tupleReprRest b (.ref a)) Q E s := by
  have he : items.toList.length = items.size := by simp
  unfold tupleReprRest Builtin.Tuple.tupleItemsOf
  refine wpAny_bind (wpAny_bind (wpAny_seqItems (by rw [hs]; exact ha) hd (wpAny_pure ?_)))
  rw [← Array.forIn_toList]
  refine wpAny_bind (fold_says hu _ _ _ _ _ hx (by rw [he]; omega) hs fun ts m tk h1 h2 => ?_)
  have hp1 := piled_le ts h2
  have hp2 := fmt_text ts
  rw [he] at h1
  rw [h1] at hp1
  have hT : (tupleText ts).length ≤ items.size * (n + 2) + 2 := by omega
  refine wpAny_bind (wpAny_mkStr (wpAny_pure ?_) (by
    have hz : (tupleText ts).length ≤ sizeLine := by omega
    simpa [tupleText, h1] using hz))
  have h3 := h (tupleText ts) tk (tk + 1) hT
  simpa [tupleText, h1] using h3

/-- tuple.__repr__ and its twin: the own text, or "(...)" -/
theorem body_says {hp : Heap} {a : Addr} {o : Obj} {items : Array Value} {k d n b : Nat} {A : Around} {E : Value → Shared → Prop} {s : Shared} {Q : Fin → Shared → Prop}
    (ha : hp.get? a = some o) (hd : o.data = .seq items k) (hx : ∀ x ∈ items.toList, Says prog w hp d n x) (hu : A.units + d < cLine) (hs : s.heap = hp)
    (hb : b + items.size * (n + 2) + 7 ≤ sizeLine) (h : ∀ t u tk, t.length ≤ items.size * (n + 2) + 7 → Q (.done (.ret (.str t u))) { s with toks := tk }) :
    wpAny (model prog w) A (Builtin.tupleReprAt b ⟨[.ref a], []⟩) Q E s := by
  rw [tuple_repr_tree]
  refine wpAny_bind (fmt_underWay fun c => ?_)
  cases c with
  | true =>
    refine PySem.W.KFB.if_so rfl (wpAny_bind (wpAny_rule ?_))
    refine wpAny_bind (wpAny_mkStr (wpAny_pure ?_) (by decide +kernel))
    exact h "(...)" _ _ (Nat.le_trans fmt_way (by omega))
  | false =>
    refine PySem.W.KFB.if_not rfl ?_
    exact rest_says ha hd hx hu hs (by omega) fun t u tk ht => h t u tk (by omega)

theorem Says.tuple {hp : Heap} {a : Addr} {o : Obj} {items : Array Value} {k d n : Nat} (ha : hp.get? a = some o) (hc : o.cls = .type "tuple") (hd : o.data = .seq items k)
    (hx : ∀ x ∈ items.toList, Says prog w hp d n x) : Says prog w hp (d + 1) (items.size * (n + 2) + 7) (.ref a) := by
  intro b A E s Q hb hu hs hq
  have hT : s.TypeIs (.ref a) "tuple" := ⟨o, by rw [hs]; exact ha, hc⟩
  refine wpAny_pyReprUnder_ref (by omega) ?_
  refine wpAny_pyReprObjUnder_twin (twin := "tuple.__repr__.under") hT F.slot_tuple_repr rfl (by omega) ?_
  refine call_twin_own (F.quiet_tuple_repr_under _) F.entry_tuple_repr_under F.check_tuple_repr_under hT F.slot_tuple_repr (F.args_tuple_repr_1 _) (wpOwn_of_wpAny ?_)
  exact body_says ha hd hx (by rw [units_under_tuple_repr_under]; omega) hs (by omega) fun t u tk ht => ⟨⟨t, u, rfl⟩, t, u, rfl, hq t tk ht⟩

/-- repr(x), x a tuple -/
theorem repr_tuple {hp : Heap} {a : Addr} {o : Obj} {items : Array Value} {k d n : Nat} {A : Around} {E : Value → Shared → Prop} {s : Shared} {Q : Value → Shared → Prop} (ha : hp.get? a = some o) (hc : o.cls = .type "tuple") (hd : o.data = .seq items k)
    (hx : ∀ x ∈ items.toList, Says prog w hp d n x) (hu : A.units + d + 2 < cLine) (hs : s.heap = hp) (hb : items.size * (n + 2) + 7 ≤ sizeLine)
    (hq : ∀ t u tk, t.length ≤ items.size * (n + 2) + 7 → Q (.str t u) { s with toks := tk }) : wpAny (model prog w) A (call (.builtin "repr") [.ref a]) Q E s := by
  have hT : s.TypeIs (.ref a) "tuple" := ⟨o, by rw [hs]; exact ha, hc⟩
  refine call_repr_slot (by omega) hT F.slot_tuple_repr ?_
  refine wpAny_call (codeAny_call_builtin_own (Code.quiet_builtin _ (by decide +kernel)) F.entry_tuple_repr (F.slot_tuple_repr.check _ _ _ _ _ _ _ _ hT (F.args_tuple_repr_1 _) (wpOwn_of_wpAny ?_)))
  exact body_says ha hd hx (by rw [units_under_tuple_repr]; show A.units + 1 + 1 + d < cLine; omega) hs (by omega) fun t u tk ht => ⟨t, u, rfl, hq t u tk ht⟩
end
end KR
set_option maxRecDepth 100000
set_option maxHeartbeats 4000000
/-! C(value=v): an own exception class over ValueError, made by one keyword. -/
namespace KB
open PySem PySem.W PySem.Calls PyProof.Rows PySem.HandSPX
section
variable {prog : Program} {w : World} {A : Around} {E : Value → Shared → Prop} {R : Result → Shared → Prop} {h : Heap} {g : Array GenState} {d : Drawn} {t : Nat} {os : OsState}
variable {nm q : Str} {C N : Addr} {bs bm : List Value} {hdct : Bool} {sn : List Str} {sub : List Value} {ab : Bool} {col : Option Bool} {dd : Option Addr} {k0 k1 k2 k3 k5 : Option Value}

abbrev veO (nm q : Str) (C N : Addr) (bs bm : List Value) (hdct : Bool) (sn : List Str) (sub : List Value) (ab : Bool) (col : Option Bool) (dd : Option Addr) (k0 k1 k2 k3 k5 : Option Value) : Obj :=
  excClassObj nm q C N bs bm hdct sn sub ab col dd k0 k1 k2 k3 k5 "ValueError.__new__"

theorem kw_check_new {M : Model} {kw : List (Str × Value)} {Q : Unit → Shared → Prop} (hT : refsVE bm = true)
    (hC : h.get? C = some (veO nm q C N bs bm hdct sn sub ab col dd k0 k1 k2 k3 k5)) (hq : Q () ⟨h, g, d, t, os⟩) :
    wpAny M A (checkBuiltinCall "ValueError.__new__" ⟨[.ref C], kw⟩) Q E ⟨h, g, d, t, os⟩ := by
  have F := PySem.F.excBase_ValueError
  have c1 : (Value.ref C :: bm).contains (.type "ValueError") = true := by
    rw [List.contains_cons, refsVE_contains _ _ hT, F.hasB, Bool.or_true]
  have c2 := F.noStar
  simp only [checkBuiltinCall, F.newKind, F.newSplit, F.newRow]
  repeat (first
    | refine wpAny_loadPart_at hC ?_
    | (refine wpAny_isSubtype_exc hC ?_; rw [c1])
    | refine wpAny_staticBase_exc hC ?_
    | refine wpAny_madeBy_exc hC ?_
    | simp only [bne_self_eq_false, Bool.false_eq_true, if_false]
    | wp_step)
  exact hq

theorem kw_new {kw : List (Str × Value)} (hT : refsVE bm = true) (hC : h.get? C = some (veO nm q C N bs bm hdct sn sub ab col dd k0 k1 k2 k3 k5))
    (hq : R (.ok (.ret (.ref (h.objs.size + 1)))) ⟨(h.push (W.kdv_tup [])).push (excO C h.objs.size), g, d, t, os⟩) :
    codeAny (model prog w) A (.builtin "ValueError.__new__" ⟨[.ref C], kw⟩) R ⟨h, g, d, t, os⟩ := by
  have F := PySem.F.excBase_ValueError
  have hends := F.ends
  have c1 : (Value.ref C :: bm).contains (.type "ValueError") = true := by
    rw [List.contains_cons, refsVE_contains _ _ hT, F.hasB, Bool.or_true]
  have c2 : (Value.ref C :: bm).contains (.type "AttributeError") = false := by
    rw [List.contains_cons, refsVE_contains _ _ hT, F.noAttr]
    rfl
  have c3 : (Value.ref C :: bm).contains (.type "NameError") = false := by
    rw [List.contains_cons, refsVE_contains _ _ hT, F.noName]
    rfl
  refine codeAny_builtinAt F.entry ?_
  unfold Builtin.«BaseException.__new__»
  refine PySem.wpAt_bind ?_
  show PySem.wpAt _ _ _ (stack >>= _) _ _ _
  refine PySem.wpAt_bind (PySem.wpAt_stack fun p below => PySem.wpAt_of_wpAny ?_)
  wp_walk
  refine PySem.wpAt_of_wpAny ?_
  rw [F.owner]
  repeat (first
    | with_reducible refine wpAny_madeHere_exc F.canon hC ?_
    | with_reducible refine wpAny_loadPart_at hC ?_
    | (with_reducible refine wpAny_isSubtype_exc hC ?_; first | rw [c1] | rw [c2] | rw [c3])
    | wp_step)
  show R _ _
  rw [Heap.size_push]
  exact hq

theorem kw_typecall {kw : List (Str × Value)} {fI : Addr} {Q : Fin → Shared → Prop} (hT : refsVE bm = true) (hC : h.get? C = some (veO nm q C N bs bm hdct sn sub ab col dd k0 k1 k2 k3 k5))
    (hi : W.Looks (model prog w) h (typeLookup (.ref C) "__init__") (some (.ref fI))) (hb : ∀ self, W.Looks (model prog w) h (bindSpecial (.ref fI) self) (.ref fI, [self]))
    (hq : codeAny (model prog w) A (.call (.ref fI) ⟨[.ref (h.objs.size + 1)], kw⟩)
      (fun r s' => match r with | .ok (.ret v) => v = .none ∧ Q (.done (.ret (.ref (h.objs.size + 1)))) s' | .ok _ => False | .error e => E e s')
      ⟨(h.push (W.kdv_tup [])).push (excO C h.objs.size), g, d, t, os⟩) :
    wpAny (model prog w) A (Builtin.«type.__call__» ⟨[.ref C], kw⟩) Q E ⟨h, g, d, t, os⟩ := by
  have F := PySem.F.excBase_ValueError
  repeat (first | with_reducible refine wpAny_loadPart_at hC ?_ | with_reducible refine wpAny_madeBy_exc hC ?_ | wp_step)
  refine codeAny_call_builtin_code (Code.quiet_builtin _ F.quiet) (kw_check_new hT hC ?_)
  refine kw_new hT hC ?_
  show wpAny _ _ _ _ _ _
  have k : ∀ b o, h.get? b = some o → ((h.push (W.kdv_tup [])).push (excO C h.objs.size)).get? b = some o :=
    fun b o e => Heap.get?_push_of_some _ (Heap.get?_push_of_some _ e)
  have hC1 := k _ _ hC
  have hx : ((h.push (W.kdv_tup [])).push (excO C h.objs.size)).get? (h.objs.size + 1) = some (excO C h.objs.size) := by heap_get
  have cC : (Value.ref C :: bm).contains (.ref C) = true := by simp
  have i1 := hi.keeps k
  have b1 := (hb (.ref (h.objs.size + 1))).keeps k
  unfold isInstance
  repeat (first | with_reducible refine wpAny_loadPart_at hx ?_ | (with_reducible refine wpAny_isSubtype_exc hC1 ?_; rw [cC]) | wp_step)
  show wpAny _ _ (typeLookup (.ref C) _) _ _ _
  refine i1.at ?_
  refine wpAny_holding (wpAny_bind (b1.at ?_))
  refine wpAny_bind (wpAny_call (codeAny_mono hq fun r s' z => ?_))
  rcases r with e | (v | _ | _ | _) <;> first | exact z | exact z.elim | skip
  obtain ⟨rfl, z⟩ := z
  first
    | exact wpAny_pure (wpAny_pure z)
    | (wp_walk; exact z)

theorem kw_check_typecall {M : Model} {kw : List (Str × Value)} {Q : Unit → Shared → Prop} (hC : h.get? C = some (veO nm q C N bs bm hdct sn sub ab col dd k0 k1 k2 k3 k5))
    (hq : Q () ⟨h, g, d, t, os⟩) : wpAny M A (checkBuiltinCall "type.__call__" ⟨[.ref C], kw⟩) Q E ⟨h, g, d, t, os⟩ := by
  have f3 := tc_sub
  have hT : (⟨h, g, d, t, os⟩ : Shared).TypeIs (.ref C) "type" := ⟨_, hC, rfl⟩
  simp only [checkBuiltinCall, tc_kind, tc_split]
  repeat (any_goals (first | assumption | with_reducible refine wpAny_loadPart_at hC ?_ | with_reducible refine wpAny_onRaise ?_ | with_reducible refine wpAny_map ?_ | wp_step))

theorem kw_call_own {kw : List (Str × Value)} {fI : Addr} (hT : refsVE bm = true) (hC : h.get? C = some (veO nm q C N bs bm hdct sn sub ab col dd k0 k1 k2 k3 k5))
    (hi : W.Looks (model prog w) h (typeLookup (.ref C) "__init__") (some (.ref fI))) (hb : ∀ self, W.Looks (model prog w) h (bindSpecial (.ref fI) self) (.ref fI, [self]))
    (hq : codeAny (model prog w) (A.under (.builtin "type.__call__" ⟨[.ref C], kw⟩)) (.call (.ref fI) ⟨[.ref (h.objs.size + 1)], kw⟩) (W.InitBack (h.objs.size + 1) R)
      ⟨(h.push (W.kdv_tup [])).push (excO C h.objs.size), g, d, t, os⟩) :
    codeAny (model prog w) A (.call (.ref C) ⟨[], kw⟩) R ⟨h, g, d, t, os⟩ := by
  have f1 := tc_lookup
  have f2 := tc_bind (.ref C)
  have hTy : (⟨h, g, d, t, os⟩ : Shared).TypeIs (.ref C) "type" := ⟨_, hC, rfl⟩
  refine codeAny_of_tree ?_
  show wpAny _ _ (callAny (.ref C) _) _ _ _
  repeat (any_goals (first | assumption | with_reducible refine wpAny_loadPart_at hC ?_ | wp_step))
  refine ⟨rfl, ?_⟩
  refine codeAny_call_builtin_at (Code.quiet_builtin _ (by decide +kernel)) entry_typeCall (kw_check_typecall hC (kw_typecall hT hC hi hb ?_))
  refine codeAny_mono hq fun r s' z => ?_
  rcases r with e | (v | _ | _ | _) <;> exact z
end
end KB
set_option maxRecDepth 100000
set_option maxHeartbeats 4000000
/-! Rules over the hand layer: C(value=v) for an own exception; repr of data; a def that is called with the caught exception; x is True. -/
namespace KC
open PySem PySem.Spec PyProof.Rows L2

/-! ### C(value=v) -/
def tMkK (C : Addr) (sp : Sp) (tk : TA) : L2.St → Hp → XK → Prop := fun σ H Q => tk σ H fun vs H1 => ∃ v, vs = [v] ∧ ∀ a, H1 a = none → sp [.ref a, v] (upd H1 a (exo a C none))
  (fun z H2 => z = .non ∧ ∃ (d : Addr) (fs : List (Str × V)), H2 a = some (exo a C (some d)) ∧ H2 d = some (exd d fs) ∧ H1 d = none ∧ Q (.ref C) (some d) (upd (del H2 a) d (.xd fs))) (fun _ _ _ => False)
section
variable {X : Cx} {p pos : Pos} {kws : List Keyword} {tk : TA}
theorem pmk_kw {CX : CXT} {x : Str} {C fI : Addr} {k : Nat} {fd : FuncData} {ps : List Str} {sp : Sp} {kn : Str} (T : OexC X.K C) (iC : PySem.W.findIn X.K (.ref C) "__init__" = some (some (.ref fI))) (tI : PySem.W.typeIn X.K (.ref fI) = some (.type "function"))
    (F1 : FnOk X.prog X.w X.K X.mg X.base CX k fI fd ps sp) (hr : Room (k + 1) X.A) (hb : ∀ (s : Shared) (u z : Value), BindsTo s fd ⟨[u], [(kn, z)]⟩ (ps.zip [u, z])) (hx : Passes CX X (fun _ _ _ => False))
    (hg : Gl X x) (hm : X.mg x = some (.ref C)) (hk : PK X kws tk) (hdb : (x == ("__debug__" : Str)) = false := by decide)
    (hall : (backToKw pos (keywordEach kws X.env)).all (·.1.isSome) = true := by rfl) (hks : (backToKw pos (keywordEach kws X.env)).filterMap (·.1) = [kn] := by rfl)
    (hpl : ((backTo pos (starEach [] X.env)).any (·.1) || (backToKw pos (keywordEach kws X.env)).any (·.1.isNone)) = false := by rfl) :
    PMk X (.Call (.Name x p) [] kws pos) (tMkK C sp tk) := by
  intro pins s σ H Q I hh
  obtain ⟨nm, q, N, bs, bm, sn, sub, ab, col, dd, k0, k1, k2, k3, k5, hC, hbm⟩ := T.cls
  refine wpAny_Call_Name_kw (ld_glob I hg hm ?_ hdb)
  refine PySem.W.callWith_KW0 (h₀ := X.base) I.ok.mod.kin T.kC hall ?_ hpl
  refine thn (hk.run pos pins s σ H _ I hh) fun us s1 ⟨vs, H1, I1, r1, v, hv, q1⟩ => ⟨I1.kIn, ?_⟩
  subst hv
  rw [hks]
  cases r1 with
  | @cons _ u _ ur rv rr =>
    cases rr
    show wpAny _ _ (call (.ref C) [] [(kn, u)]) _ _ _
    obtain ⟨hp, g, dr, tok, os⟩ := s1
    have hsz : hp.objs.size ≤ hp.objs.size + 1 := Nat.le_succ _
    have hn : H1 (hp.objs.size + 1) = none := I1.hok.fresh hsz
    have hq := q1 (hp.objs.size + 1) hn
    have kk : ∀ b o, hp.get? b = some o → ((hp.push (PySem.W.kdv_tup [])).push (PySem.HandSPX.excO C hp.objs.size)).get? b = some o :=
      fun b o e => Heap.get?_push_of_some _ (Heap.get?_push_of_some _ e)
    have hget : ((hp.push (PySem.W.kdv_tup [])).push (PySem.HandSPX.excO C hp.objs.size)).get? (hp.objs.size + 1) = some (PySem.HandSPX.excO C hp.objs.size) := by heap_get
    have I2 : Inv X pins σ (upd H1 (hp.objs.size + 1) (exo (hp.objs.size + 1) C none)) ⟨(hp.push (PySem.W.kdv_tup [])).push (PySem.HandSPX.excO C hp.objs.size), g, dr, tok, os⟩ :=
      I1.laid (t' := tok) (a := hp.objs.size + 1) (o := exo (hp.objs.size + 1) C none) (h' := (hp.push (PySem.W.kdv_tup [])).push (PySem.HandSPX.excO C hp.objs.size)) kk hsz (exo_ok hget)
    have r2 : Vals [V.ref (hp.objs.size + 1), v] [Value.ref (hp.objs.size + 1), u] := .cons rfl (.cons rv .nil)
    refine wpAny_call (KB.kw_call_own hbm (I1.kIn _ _ hC) (PySem.W.looks_findIn I1.kIn iC) (fun self => PySem.W.bind_fn I1.kIn self tI)
      (codeAny_mono (F1.run _ X.stack _ _ ⟨[Value.ref (hp.objs.size + 1)], [(kn, u)]⟩ [Value.ref (hp.objs.size + 1), u] _ _ (fun _ _ _ => False) (hr.make C [] [(kn, u)]) (I2.env0.make C [] [(kn, u)]) (hb _ _ _) r2 hq) fun r s' hq' => ?_))
    cases r with
    | error er => exact hx pins σ _ _ er s' I2 hq'
    | ok fl =>
      cases fl with
      | ret u2 =>
        obtain ⟨z, H2, os2, bare2, un2, hok2, rz, ez, d, fs, ea, ed, hd1, q2⟩ := hq'
        subst ez
        obtain ⟨h2, g2, d2, t2, os'⟩ := s'
        exact ⟨rz, mk_end (raises_own T.exC T.tyC) I1 hsz kk un2 hok2 os2 bare2 ea ed hd1 q2⟩
      | next => exact False.elim hq'
      | brk => exact False.elim hq'
      | cont => exact False.elim hq'
end

/-! ### repr(v) of data -/
/-- what repr may be asked of: depth at most n, ints and texts of a bounded size, at most 64 parts a tuple -/
def Rp : Nat → PyData → Prop
  | _, .none => True
  | _, .bool _ => True
  | _, .int i => i.natAbs.log2 < 100
  | _, .str x => (reprText x).length ≤ 200
  | n + 1, .tuple ds => ds.length ≤ 4 ∧ ∀ d ∈ ds, Rp n d
  | _, _ => False
def rpN : Nat → Nat
  | 0 => 200
  | n + 1 => 4 * (rpN n + 2) + 200
theorem rpN_ge : ∀ n, 200 ≤ rpN n
  | 0 => Nat.le_refl _
  | n + 1 => by unfold rpN; omega
section
variable {X : Cx} {pins : List (Addr × Obj)} {σ : L2.St} {H : Hp} {s : Shared}
theorem int_says {i : Int} (h : i.natAbs.log2 < 100) : (Str.ofString (toString i)).length ≤ 200 := by
  have e := int_text_length_le (k := 100) (by decide) h
  rw [PySem.ofString_length]
  omega
theorem Says.mono {prog : Program} {w : World} {hp : Heap} {d d' n n' : Nat} {x : Value} (h : KR.Says prog w hp d n x) (hd : d ≤ d') (hn : n ≤ n') : KR.Says prog w hp d' n' x :=
  fun b A E s Q hb hu hs hq => h b A E s Q (by omega) (by omega) hs fun t tk ht => hq t tk (by omega)
theorem says_of (I : Inv X pins σ H s) : ∀ (n : Nat) (d : PyData) (v : V) (u : Value), Rp n d → Dp X.K H v d → RelV v u → KR.Says X.prog X.w s.heap n (rpN n) u
  | n, .none, _, _, _, h, r => by
    cases h
    cases r
    exact KR.Says.of_is ReprIs.none (Nat.le_trans (by decide +kernel) (rpN_ge n))
  | n, .bool b, _, _, _, h, r => by
    cases h
    cases r
    refine KR.Says.of_is (ReprIs.bool b) (Nat.le_trans ?_ (rpN_ge n))
    cases b <;> decide +kernel
  | n, .int i, _, _, hi, h, r => by
    cases h
    obtain ⟨t, rfl⟩ := r
    have hi2 : i.natAbs.log2 < 100 := by
      cases n <;> exact hi
    exact KR.Says.of_is (ReprIs.int t (by omega)) (Nat.le_trans (int_says hi2) (rpN_ge n))
  | n, .str x, _, _, hx, h, r => by
    cases h
    obtain ⟨t, rfl⟩ := r
    have hx2 : (reprText x).length ≤ 200 := by
      cases n <;> exact hx
    exact KR.Says.of_is (ReprIs.str x t (Nat.le_trans hx2 (by decide))) (Nat.le_trans hx2 (rpN_ge n))
  | 0, .tuple ds, _, _, hz, _, _ => hz.elim
  | n, .list ds, _, _, hz, _, _ => by cases n <;> exact hz.elim
  | n, .dict ds, _, _, hz, _, _ => by cases n <;> exact hz.elim
  | n + 1, .tuple ds, _, _, hz, h, r => by
    cases h with
    | @tup a xs _ hq ha =>
      cases r
      obtain ⟨its, rv, ⟨o, ho, hcl, m, hd⟩, _⟩ := I.tuple hq
      have hlen : its.length = ds.length := by
        have e1 := rv.length
        have e2 : ∀ {vs : List V} {es : List PyData}, DpAll X.K H vs es → vs.length = es.length := by
          intro vs es z
          induction vs generalizing es with
          | nil => cases z; rfl
          | cons v vs ih =>
            cases z with
            | cons _ z2 => rw [List.length_cons, List.length_cons, ih z2]
        rw [← e1, e2 ha]
      have all : ∀ {vs : List V} {us : List Value} {es : List PyData}, Vals vs us → DpAll X.K H vs es → (∀ d ∈ es, Rp n d) → ∀ u ∈ us, KR.Says X.prog X.w s.heap n (rpN n) u := by
        intro vs us es rr
        induction rr generalizing es with
        | nil => intro _ _ u hu; cases hu
        | cons r1 r2 ih =>
          intro z hrp u hu
          cases z with
          | cons z1 z2 =>
            rcases List.mem_cons.mp hu with e | e
            · rw [e]
              exact says_of I n _ _ _ (hrp _ (List.mem_cons_self ..)) z1 r1
            · exact ih z2 (fun d hd => hrp d (List.mem_cons_of_mem _ hd)) u e
      have hS := KR.Says.tuple (k := m) (n := rpN n) (d := n) ho hcl hd (fun x hx => all rv ha hz.2 x (by simpa using hx))
      refine Says.mono hS (Nat.le_refl _) ?_
      have e3 : its.toArray.size = ds.length := by simpa using hlen
      rw [e3]
      have e4 : ds.length * (rpN n + 2) ≤ 4 * (rpN n + 2) := Nat.mul_le_mul_right _ hz.1
      show _ ≤ 4 * (rpN n + 2) + 200
      omega
theorem call_reprD (n : Nat) (hn : rpN n ≤ 100000) (hu : X.A.units + n + 8 < cLine) :
    CallR X (.builtin "repr") (fun xs H Q => ∃ v d, xs = [v] ∧ Dp X.K H v d ∧ Rp n d ∧ ∀ t : Str, t.length ≤ 100000 → Q (.str t) H) := by
  intro pins s σ H xs us Q I r h
  obtain ⟨v, d, rfl, hd, hr, q⟩ := h
  obtain ⟨u, rfl, ru⟩ := vals1 r
  have hz : ∀ {t : Str} {tk u : Nat}, t.length ≤ 100000 → EP X pins σ Q (.str t u) { s with toks := tk } := fun {t tk u} ht => ⟨.str t, H, I.tok _, ⟨_, rfl⟩, q t ht⟩
  have g0 := rpN_ge n
  cases d with
  | none =>
    cases hd
    cases ru
    exact PySem.P.repr_of_none (hz (by decide +kernel))
  | bool b =>
    cases hd
    cases ru
    refine PySem.P.repr_of_bool (hz ?_)
    cases b <;> decide +kernel
  | int i =>
    cases hd
    obtain ⟨t, rfl⟩ := ru
    have hi2 : i.natAbs.log2 < 100 := by
      cases n <;> exact hr
    exact PySem.P.repr_of_int (by omega) (hz (Nat.le_trans (int_says hi2) (by decide)))
  | str x =>
    cases hd
    obtain ⟨t, rfl⟩ := ru
    have hx2 : (reprText x).length ≤ 200 := by
      cases n <;> exact hr
    exact PySem.P.repr_of_str (hz (Nat.le_trans hx2 (by decide))) (Nat.le_trans hx2 (by decide))
  | tuple ds =>
    cases n with
    | zero => exact hr.elim
    | succ n =>
      cases hd with
      | @tup a xs _ hq ha =>
        cases ru
        obtain ⟨its, rv, ⟨o, ho, hcl, m, hdd⟩, _⟩ := I.tuple hq
        have all : ∀ {vs : List V} {us : List Value} {es : List PyData}, Vals vs us → DpAll X.K H vs es → (∀ d ∈ es, Rp n d) → us.length = es.length ∧ ∀ u ∈ us, KR.Says X.prog X.w s.heap n (rpN n) u := by
          intro vs us es rr
          induction rr generalizing es with
          | nil => intro z _; cases z; exact ⟨rfl, fun u hu => by cases hu⟩
          | cons r1 r2 ih =>
            intro z hrp
            cases z with
            | cons z1 z2 =>
              obtain ⟨e1, e2⟩ := ih z2 (fun d hd => hrp d (List.mem_cons_of_mem _ hd))
              refine ⟨by rw [List.length_cons, List.length_cons, e1], fun u hu => ?_⟩
              rcases List.mem_cons.mp hu with e | e
              · rw [e]
                exact says_of I n _ _ _ (hrp _ (List.mem_cons_self ..)) z1 r1
              · exact e2 u e
        obtain ⟨e1, e2⟩ := all rv ha hr.2
        have e3 : its.toArray.size = ds.length := by simpa using e1
        have e4 : ds.length * (rpN n + 2) ≤ 4 * (rpN n + 2) := Nat.mul_le_mul_right _ hr.1
        have e5 : rpN (n + 1) = 4 * (rpN n + 2) + 200 := rfl
        have e6 : (100000 : Nat) ≤ sizeLine := by decide
        refine KR.repr_tuple (k := m) (n := rpN n) (d := n) ho hcl hdd (fun x hx => e2 x (by simpa using hx)) (by omega) rfl (by rw [e3]; omega) fun t u tk ht => hz ?_
        rw [e3] at ht
        omega
  | list ds => cases n <;> exact hr.elim
  | dict kvs => cases n <;> exact hr.elim
end

/-! ### data stand while tuples stand -/
def TF (H H' : Hp) : Prop := ∀ b xs, Rd H b (.tup xs) → Rd H' b (.tup xs)
theorem TF.sq {K : PySem.W.Frag} {H H' : Hp} (e : TF H H') {a : Addr} {xs : List V} (h : SqT K H a xs) : SqT K H' a xs := by
  rcases h with h | h
  · exact .inl (e _ _ h)
  · exact .inr h
theorem TF.refl (H : Hp) : TF H H := fun _ _ h => h
theorem TF.trans {H H1 H2 : Hp} (a : TF H H1) (b : TF H1 H2) : TF H H2 := fun c xs h => b c xs (a c xs h)
theorem TF.of_new {H : Hp} {p : Addr} {o : HO} (h : H p = none) : TF H (upd H p o) := fun c xs z => by
  rcases z with z | ⟨u, z⟩
  · exact .inl (by rw [upd_ne (ne_of_none z h)]; exact z)
  · exact .inr ⟨u, by rw [upd_ne (ne_of_none z h)]; exact z⟩
/-- but for one list all stands -/
def Frm (d : Addr) (H H' : Hp) : Prop := ∀ b o, b ≠ d → H b = some o → H' b = some o
theorem Frm.refl (d : Addr) (H : Hp) : Frm d H H := fun _ _ _ h => h
theorem Frm.trans {d : Addr} {H H1 H2 : Hp} (a : Frm d H H1) (b : Frm d H1 H2) : Frm d H H2 := fun c o n h => b c o n (a c o n h)
theorem Frm.of_same {d : Addr} {H H' : Hp} (e : Same H H') : Frm d H H' := fun b o _ h => e b o h
theorem Frm.of_new {d : Addr} {H : Hp} {p : Addr} {o : HO} (h : H p = none) : Frm d H (upd H p o) := fun b u _ z => by
  rw [upd_ne (ne_of_none z h)]
  exact z
theorem Frm.of_upd {d : Addr} {H : Hp} {o : HO} : Frm d H (upd H d o) := fun b u n z => by
  rw [upd_ne n]
  exact z
theorem Frm.tf {d : Addr} {H H' : Hp} {xs : List V} (e : Frm d H H') (h : H d = some (.lst xs)) : TF H H' := fun c ys z => by
  rcases z with z | ⟨u, z⟩
  · exact .inl (e c _ (fun q => by rw [q, h] at z; cases z) z)
  · exact .inr ⟨u, e c _ (fun q => by rw [q, h] at z; cases z) z⟩
section
variable {K : PySem.W.Frag} {H H' : Hp}
mutual
theorem dp_tf (e : TF H H') : ∀ (n : Nat) (d : PyData) (v : V), Rp n d → Dp K H v d → Dp K H' v d
  | _, .none, _, _, h => by cases h; exact .non
  | _, .bool _, _, _, h => by cases h; exact .bl _
  | _, .int _, _, _, h => by cases h; exact .int _
  | _, .str _, _, _, h => by cases h; exact .str _
  | n, .list _, _, r, _ => by cases n <;> exact r.elim
  | n, .dict _, _, r, _ => by cases n <;> exact r.elim
  | 0, .tuple _, _, r, _ => r.elim
  | n + 1, .tuple ds, _, r, h => by
    cases h with
    | tup a b => exact .tup (e.sq a) (dpa_tf e n ds _ r.2 b)
theorem dpa_tf (e : TF H H') : ∀ (n : Nat) (ds : List PyData) (vs : List V), (∀ d ∈ ds, Rp n d) → DpAll K H vs ds → DpAll K H' vs ds
  | _, [], _, _, h => by cases h; exact .nil
  | n, d :: ds, _, r, h => by
    cases h with
    | cons a b => exact .cons (dp_tf e n d _ (r d (List.mem_cons_self ..)) a) (dpa_tf e n ds _ (fun x hx => r x (List.mem_cons_of_mem _ hx)) b)
end
end

/-! ### a def that is called with the caught exception, which stands pinned -/
structure FnP (P : Program) (w : World) (K : PySem.W.Frag) (mg : Str → Option Value) (base : Heap) (k : Nat) (f : Addr) (fd : FuncData) (ps : List Str) (p : Addr × Obj) (sp : Sp) : Prop where
  len : ∀ vs H Q E, sp vs H Q E → vs.length = ps.length
  run : ∀ (A : Around) (outer : List Env) (s : Shared) (H : Hp) (args : Args) (us : List Value) (vs : List V) (Q : VK), L2H.RoomH k A → L2H.PinOk outer H s p → Env0 P w K mg base A outer s H → BindsTo s fd args (ps.zip us) → Vals vs us → sp vs H Q E0 →
    codeAny (model P w) A (.call (.ref f) args) (CR CX0 outer P w H s Q E0) s
theorem fnp_of {P : Program} {w : World} {K : PySem.W.Frag} {mg : Str → Option Value} {base : Heap} {x qual : Str} {params : Arguments} {body : List Stmt} {scope : Scope} {dvs : List V} {kws : List (Str × V)} {f : Addr} {fd : FuncData} {N ps : List Str} {k : Nat} {sp : Sp} {p : Addr × Obj} (F : FunD K x qual params body scope dvs kws f fd) (S : FnScope N ps scope)
    (len : ∀ vs H Q E, sp vs H Q E → vs.length = ps.length)
    (hbody : ∀ (cdv : Value) (A : Around) (outer : List Env) (s : Shared) (H : Hp) (vs : List V) (Q : VK), sp vs H Q E0 →
      ∃ t, PSs (L2H.cxH CX0 P w K mg base N qual scope f cdv A outer s H E0 p) body t ∧ t { nx := fun _ H' => Q .non H', rt := Q } (L2.start N vs) H) :
    FnP P w K mg base (k + 1) f fd ps p sp := by
  obtain ⟨oc, od, dV, kV, doc, pm, an, cdv, ct, osl, rfl, lk, hcd, _, _⟩ := F.ex
  refine ⟨len, fun A outer s H args us vs Q hr hpin e0 hb r hsp => ?_⟩
  have hl := len _ _ _ _ hsp
  have KX : K.In s.heap := e0.mod.kin.keeps fun b o e => (e0.bs b o e).1
  have lim : s.heap.NoLimit := e0.mod.nolimit.keeps fun b o e => (e0.bs b o e).1
  have hkind : ∀ y ∈ ps.zip us, scope.names.lookup y.1 = some .local ∨ (scope.names.lookup y.1 = some .cell ∧ ((cellsFrom (s.heap.objs.size + 1) scope.names []).lookup y.1).isSome = true) := by
    rintro ⟨n, v⟩ hy
    rcases S.par n (List.of_mem_zip hy).1 with z | z
    · exact .inl z
    · exact .inr ⟨z, PySem.W.cellsFrom_some _ _ _ (.inl z)⟩
  refine codeAny_call_function hr.depth (KX _ _ lk) rfl S.co S.gen rfl (PySem.W.codeRec_of KX hcd) (hb _ _ _ _ ?_)
  refine wpAny_newFunctionEnv_cells S.kind hkind fun env he s1 y => ?_
  subst he
  refine ⟨lim.keeps y.toInCall.keep, codeAny_func ?_⟩
  obtain ⟨t, ht, hq⟩ := hbody cdv A outer s H vs Q hsp
  have I : Inv (L2H.cxH CX0 P w K mg base N qual scope f cdv A outer s H E0 p) [] (L2.start N vs) H s1 := L2H.inv_startH S hpin e0 hl r y
  refine wpAny_mono (ht.run [] s1 (L2.start N vs) H _ I hq) (fun fl s' hs => ?_) fun e s' hs => hs
  cases fl with
  | ret u =>
    obtain ⟨v, σ', H', J, rv, q⟩ := hs
    exact ⟨v, H', J.os, J.bare, J.base, J.hok, rv, q⟩
  | next =>
    obtain ⟨σ', H', J, q⟩ := hs
    exact ⟨.non, H', J.os, J.bare, J.base, J.hok, rfl, q⟩
  | brk =>
    obtain ⟨_, _, _, q⟩ := hs
    exact q.elim
  | cont =>
    obtain ⟨_, _, _, q⟩ := hs
    exact q.elim
section
variable {X : Cx} {k : Nat} {f : Addr} {fd : FuncData} {ps : List Str} {sp : Sp} {x : Str} {p pos : Pos} {e : Expr} {es : List Expr} {t : TA}
theorem pe_callP {pin : Addr × Obj} (hpn : pin ∈ X.pn) (F : FnP X.prog X.w X.K X.mg X.base k f fd ps pin sp) (hr : L2H.RoomH k X.A) (hg : Gl X x) (hm : X.mg x = some (.ref f)) (hk : PySem.W.keepIn X.K (.ref f) = true) (hb : Binds X.K fd ps [])
    (ha : PA X (e :: es) t) (hdb : (x == ("__debug__" : Str)) = false := by decide) (he : starEach (e :: es) X.env = (false, eval e X.env) :: starEach es X.env := by rfl) (hpl : (backTo pos (starEach es X.env)).any (·.1) = false := by rfl) :
    PE X (.Call (.Name x p) (e :: es) [] pos) (tCall sp [] E0 t) := by
  refine ⟨fun pins s σ H Q I hh => ?_⟩
  refine wpAny_Call_Name_kw (ld_glob I hg hm ?_ hdb)
  refine PySem.W.callWith_K (h₀ := X.base) I.ok.mod.kin hk (thn (ha.run pos pins s σ H _ I hh) fun us s1 ⟨vs, H1, I1, r, q⟩ => ⟨I1.kIn, ?_⟩) he hpl
  show wpAny _ _ (call (.ref f) us) _ _ _
  have q2 : sp (vs ++ []) H1 Q E0 := q
  rw [List.append_nil] at q2
  have P1 := I1.pin pin (List.mem_append_left _ hpn)
  have hpin : L2H.PinOk X.stack H1 s1 pin := ⟨P1.1, P1.2.1, fun hm => (List.mem_cons.mp (I1.stkSub pin.1 hm)).elim P1.2.2.1 P1.2.2.2.1, P1.2.2.2.2⟩
  have hl : us.length = ps.length := by
    rw [← r.length]
    exact F.len _ _ _ _ q2
  have b := hb s1 us I1.kIn (by rw [List.append_nil]; exact hl)
  rw [List.append_nil] at b
  refine wpAny_call (codeAny_mono (F.run X.A X.stack s1 H1 ⟨us, []⟩ us vs Q hr hpin I1.env0 b r q2) fun r s' hq => ?_)
  cases r with
  | error e => exact False.elim hq
  | ok fl =>
    cases fl with
    | ret u => exact I1.after hq
    | next => exact False.elim hq
    | brk => exact False.elim hq
    | cont => exact False.elim hq
end

/-! ### x is True, x is not True, x any value -/
def rIsT (c : Bool) : R2 := fun x y H Q => y = .bl c ∧ Q (.bl (decide (x = .bl c))) H
theorem plain_bl (c : Bool) {x : V} {u : Value} (r : RelV x u) : plainIs u (.bool c) = true := by
  cases x <;> first | (cases r; rfl) | (obtain ⟨t, rfl⟩ := r; rfl)
section
variable {X : Cx}
theorem op_isT (c : Bool) : OpR X (compareOp .Is) (rIsT c) := by
  intro pins s σ H x y v u Q I rx ry h
  obtain ⟨rfl, q⟩ := h
  cases (show u = Value.bool c from ry)
  by_cases e : x = .bl c
  · subst e
    cases (show v = Value.bool c from rx)
    exact wpAny_is_self (plain_bl c rx) ⟨.bl true, H, I, rfl, by simpa using q⟩
  · refine wpAny_is_other (plain_bl c rx) (fun z => e ?_) ⟨.bl false, H, I, rfl, by simpa [e] using q⟩
    subst z
    exact RelV.inj rx rfl
theorem op_notT (c : Bool) : OpR X (compareOp .IsNot) (fun x y H Q => y = .bl c ∧ Q (.bl (!decide (x = .bl c))) H) := by
  intro pins s σ H x y v u Q I rx ry h
  obtain ⟨rfl, q⟩ := h
  cases (show u = Value.bool c from ry)
  by_cases e : x = .bl c
  · subst e
    cases (show v = Value.bool c from rx)
    exact wpAny_isNot_self (plain_bl c rx) ⟨.bl false, H, I, rfl, by simpa using q⟩
  · refine wpAny_isNot_other (plain_bl c rx) (fun z => e ?_) ⟨.bl true, H, I, rfl, by simpa [e] using q⟩
    subst z
    exact RelV.inj rx rfl
end
end KC
set_option maxRecDepth 100000
set_option maxHeartbeats 0
/-! The head: what the top leaves, by names. -/
namespace K0
open PySem PySem.Spec PyProof.Rows L2
def top (i : Nat) : Stmt := PySem.Challenge.pw_latepresses_k00_error_classes.main.body.getD i (.Pass ⟨0, 0, 0, 0⟩)
abbrev sInit : Stmt := inClass (top 1) 0
abbrev sDeck : Stmt := top 33
abbrev sTake : Stmt := top 34
abbrev sAny : Stmt := top 35
abbrev sAlike : Stmt := top 37
abbrev sR1 : Stmt := top 38
abbrev sR2 : Stmt := top 39
abbrev sN1 : Stmt := top 40
abbrev sN2 : Stmt := top 41
abbrev sRaised : Stmt := top 42
abbrev sClasses : Stmt := top 43
abbrev sFields : Stmt := top 44
abbrev sGiven : Stmt := top 45
abbrev sRight : Stmt := top 46
abbrev sLaw : Stmt := top 47
abbrev FnQ (K : PySem.W.Frag) (x q : Str) (st : Stmt) (f : Addr) (fd : FuncData) : Prop := FunD K x q (defArgs st) (defBody st) (defScope st) [] [] f fd
def dd (x : Str) (st : Stmt) : He.DefD := ⟨(x, none), x, x, defArgs st, defBody st, defScope st, [], []⟩
def c1 : List Str := ["InvalidLevel", "InvalidKind", "InvalidGame", "InvalidWorld", "InvalidThing", "InvalidPress", "InvalidRows", "InvalidNumber", "InvalidSlot", "InvalidCell", "InvalidTrace", "InvalidMenu", "InvalidPlan", "InvalidPair", "InvalidScript"]
def c2 : List Str := ["InvalidCode", "InvalidKnown", "InvalidTick", "InvalidHouse", "InvalidLetter", "InvalidPlace", "InvalidPaper", "InvalidName", "UnknownName", "WrongKind", "NothingToUndo", "Unreadable", "Unorderly", "Clash", "Left"]
def cs : List Str := c1 ++ c2
def fns : List Str := ["_law_deck", "_law_take", "_law_any", "_law_small", "_law_alike", "_law_raise_first", "_law_raise_second", "_law_raise_named_first", "_law_raise_named_second", "_law_raised", "_law_classes", "_law_fields", "_law_given", "_law_right"]
def loose : List Str := ("GameError" : Str) :: (cs ++ fns)
def dI : He.DefD := ⟨("GameError", some "__init__"), "__init__", "GameError.__init__", defArgs sInit, defBody sInit, defScope sInit, [], []⟩
def fn : List He.DefD := [dI, dd "_law_deck" sDeck, dd "_law_take" sTake, dd "_law_any" sAny, dd "_law_alike" sAlike, dd "_law_raise_first" sR1, dd "_law_raise_second" sR2, dd "_law_raise_named_first" sN1, dd "_law_raise_named_second" sN2,
  dd "_law_raised" sRaised, dd "_law_classes" sClasses, dd "_law_fields" sFields, dd "_law_given" sGiven, dd "_law_right" sRight, dd "law" sLaw]
def fa : List He.Fa := [.glo "_law_deck", .glo "_law_take", .glo "_law_any", .glo "_law_alike", .glo "_law_raise_first", .glo "_law_raise_second", .glo "_law_raise_named_first", .glo "_law_raise_named_second",
  .glo "_law_raised", .glo "_law_classes", .glo "_law_fields", .glo "_law_given", .glo "_law_right", .glo "law", .glo "GameError",
  .free "len", .free "int", .free "isinstance", .free "range", .free "all", .free "min", .free "max", .free "ValueError", .free "repr", .free "str", .free "bool", .free "tuple"]
/-- the class object over ValueError -/
def okC (K : PySem.W.Frag) (C : Addr) : Bool := match K.lookup C with
  | some ⟨.type "type", _, .cls cd, sl⟩ => (match cd.mro, sl.toList with
    | .ref C' :: bm, [_, _, _, _, some (.builtin n), _] => decide (C' = C) && (decide (n = "ValueError.__new__") && (!cd.hasDel && (cd.hasDict && PySem.HandSPX.refsVE bm)))
    | _, _ => false)
  | _ => false
theorem okC_ok {K : PySem.W.Frag} {C : Addr} (h : okC K C = true) :
    ∃ nm q N bs bm sn sub ab col dd k0 k1 k2 k3 k5, K.lookup C = some (excClassObj nm q C N bs bm true sn sub ab col dd k0 k1 k2 k3 k5 "ValueError.__new__") ∧ PySem.HandSPX.refsVE bm = true := by
  unfold okC at h
  split at h
  · rename_i dv cd sl ho
    split at h
    · rename_i C' bm k0 k1 k2 k3 n k5 hm hs
      simp only [Bool.and_eq_true, decide_eq_true_eq, Bool.not_eq_true'] at h
      obtain ⟨h1, h2, h3, h4, h5⟩ := h
      subst h1 h2
      obtain ⟨nm, bs, mro, ns, qn, hd, sn, sub, ab, col, del⟩ := cd
      dsimp only at hm h3 h4
      subst hm h3 h4
      have hsl : sl = #[k0, k1, k2, k3, some (.builtin "ValueError.__new__"), k5] := by
        obtain ⟨l⟩ := sl
        simp only at hs
        rw [hs]
      subst hsl
      exact ⟨nm, qn, ns, bs, bm, sn, sub, ab, col, dv, k0, k1, k2, k3, k5, ho, h5⟩
    · cases h
  · cases h
def iAd (K : PySem.W.Frag) : Addr := He.fAd K ("GameError", some "__init__")
def eqV (a b : Option (Option Value)) : Bool := decide (a = b)
def eqB (a b : Option Bool) : Bool := decide (a = b)
/-- all that is asked of one class -/
def exC (K : PySem.W.Frag) (C : Addr) : Bool :=
  okC K C && (eqV (PySem.W.findIn K (.ref C) "__setattr__") (some (some (.builtin "object.__setattr__"))) && (eqB (PySem.W.subIn K (.ref C) (.type "BaseException")) (some true) && (decide (PySem.W.typeIn K (.ref C) = some (.type "type")) &&
  (PySem.W.keepIn K (.ref C) && (eqV (PySem.W.findIn K (.ref C) "__init__") (some (some (.ref (iAd K)))) && (eqV (PySem.W.findIn K (.ref C) "value") (some none) &&
  (eqV (PySem.W.findIn K (.ref C) "__getattribute__") (some (some (.builtin "BaseException.__getattribute__"))) && (eqV (PySem.W.findIn K (.ref C) "__getattr__") (some none) && (PySem.W.hasDictIn K C &&
  (eqV (PySem.W.findIn K (.ref C) "__class__") (some (some (.builtin "object.__class__"))) && (eqB (PySem.W.mroIn K C (.type "object")) (some true) && (eqB (PySem.W.exmOne K (.ref C) (.ref (He.ga K "GameError"))) (some true) &&
  eqB (PySem.W.kitOne K (.ref C) (.type "ValueError")) (some true)))))))))))))
def exG (K : PySem.W.Frag) : Bool :=
  eqV (PySem.W.specialIn K (.builtin "object.__class__") "__get__") (some (some (.builtin "getset_descriptor.__get__"))) && (eqB (PySem.W.takesIn K (.builtin "object.__class__")) (some true) &&
  (decide (PySem.W.typeIn K (.ref (iAd K)) = some (.type "function")) && (match PySem.W.findCls K (.type "ValueError") (.type "type") "__init__" with
    | some (.val (.builtin s)) => decide (s = "ValueError.__init__")
    | _ => false)))
def exAll (K : PySem.W.Frag) : Bool := exG K && (cs.all (fun x => eqV (PySem.W.nsIn K mainGlobals x) (some (some (.ref (He.ga K x)))) && exC K (He.ga K x)) &&
  cs.all fun x => cs.all fun y => eqB (PySem.W.kitOne K (.ref (He.ga K x)) (.ref (He.ga K y))) (some (decide (x = y))))
abbrev R : PySem.W.OpenRow := PySem.W.OpenLaw.row PySem.Challenge.rw_latepresses_k00_error_classes
abbrev hk : PySem.W.Hook := He.hookX 5 fa fn [] [] exAll
def ob (s : PySem.W.SharedT) : He.AlX := He.obsX 5 fa fn [] [] exAll (HandSHeadRun.getT s)
theorem ob_eq (s : PySem.W.SharedT) : ob s = hk.obs s.abs := He.obsX_eq (HandSHeadRun.getT_eq s)
theorem run (w : World) : HandSHeadRun.RunEq R (PySem.W.view R.prog [47]) hk ob 20000 loose w := by
  intro os
  kernel_rfl
end K0
set_option maxRecDepth 100000
set_option maxHeartbeats 4000000
/-! The errors: made and raised. -/
namespace K0
open PySem PySem.Spec PyProof.Rows L2 KC
/-- what is known of one of the classes -/
structure CF (K : PySem.W.Frag) (C : Addr) : Prop where
  oex : OexC K C
  ini : PySem.W.findIn K (.ref C) "__init__" = some (some (.ref (iAd K)))
  noV : PySem.W.findIn K (.ref C) "value" = some none
  xf : XfC K C
  exc : ExcC K C
  game : PySem.W.exmOne K (.ref C) (.ref (He.ga K "GameError")) = some true
  ve : PySem.W.kitOne K (.ref C) (.type "ValueError") = some true
theorem and2 {a b : Bool} (h : (a && b) = true) : a = true ∧ b = true := Bool.and_eq_true_iff.mp h
section
variable {K : PySem.W.Frag}
theorem cf_of (h : exAll K = true) {x : Str} (hx : x ∈ cs) : PySem.W.nsIn K mainGlobals x = some (some (.ref (He.ga K x))) ∧ CF K (He.ga K x) := by
  obtain ⟨hg, h⟩ := and2 h
  obtain ⟨hc, _⟩ := and2 h
  obtain ⟨h0, hc⟩ := and2 (List.all_eq_true.mp hc x hx)
  obtain ⟨g1, hg⟩ := and2 hg
  obtain ⟨g2, hg⟩ := and2 hg
  obtain ⟨h1, hc⟩ := and2 hc
  obtain ⟨h2, hc⟩ := and2 hc
  obtain ⟨h3, hc⟩ := and2 hc
  obtain ⟨h4, hc⟩ := and2 hc
  obtain ⟨h5, hc⟩ := and2 hc
  obtain ⟨h6, hc⟩ := and2 hc
  obtain ⟨h7, hc⟩ := and2 hc
  obtain ⟨h8, hc⟩ := and2 hc
  obtain ⟨h9, hc⟩ := and2 hc
  obtain ⟨h10, hc⟩ := and2 hc
  obtain ⟨h11, hc⟩ := and2 hc
  obtain ⟨h12, hc⟩ := and2 hc
  obtain ⟨h13, h14⟩ := and2 hc
  exact ⟨of_decide_eq_true h0, ⟨okC_ok h1, of_decide_eq_true h2, of_decide_eq_true h3, of_decide_eq_true h4, h5⟩, of_decide_eq_true h6, of_decide_eq_true h7,
    ⟨of_decide_eq_true h8, of_decide_eq_true h9, of_decide_eq_true h3, h10⟩, ⟨of_decide_eq_true h8, of_decide_eq_true h9, of_decide_eq_true h3, h10, of_decide_eq_true h11, of_decide_eq_true g1, of_decide_eq_true g2, of_decide_eq_true h12⟩,
    of_decide_eq_true h13, of_decide_eq_true h14⟩
theorem tI_of (h : exAll K = true) : PySem.W.typeIn K (.ref (iAd K)) = some (.type "function") := by
  obtain ⟨hg, _⟩ := and2 h
  obtain ⟨_, hg⟩ := and2 hg
  obtain ⟨_, hg⟩ := and2 hg
  obtain ⟨g3, _⟩ := and2 hg
  exact of_decide_eq_true g3
theorem vV_of (h : exAll K = true) : PySem.W.findCls K (.type "ValueError") (.type "type") "__init__" = some (.val (.builtin "ValueError.__init__")) := by
  obtain ⟨hg, _⟩ := and2 h
  obtain ⟨_, hg⟩ := and2 hg
  obtain ⟨_, hg⟩ := and2 hg
  obtain ⟨_, g4⟩ := and2 hg
  split at g4
  · rename_i s e
    rw [e, of_decide_eq_true g4]
  · cases g4
theorem kit_of2 (h : exAll K = true) {x y : Str} (hx : x ∈ cs) (hy : y ∈ cs) : PySem.W.kitOne K (.ref (He.ga K x)) (.ref (He.ga K y)) = some (decide (x = y)) := by
  obtain ⟨_, h⟩ := and2 h
  obtain ⟨_, hk⟩ := and2 h
  exact of_decide_eq_true (List.all_eq_true.mp (List.all_eq_true.mp hk x hx) y hy)
end
/-- what the module's names are -/
structure Txt (K : PySem.W.Frag) (mg : Str → Option Value) : Prop where
  ex : exAll K = true
  cl : ∀ x ∈ cs, mg x = some (.ref (He.ga K x))
  ge : mg "GameError" = some (.ref (He.ga K "GameError"))
  len : mg "len" = none
  int : mg "int" = none
  isi : mg "isinstance" = none
  rng : mg "range" = none
  all' : mg "all" = none
  min' : mg "min" = none
  max' : mg "max" = none
  ve : mg "ValueError" = none
  rep : mg "repr" = none
  str : mg "str" = none
  bool : mg "bool" = none
  tup : mg "tuple" = none
def spInit (K : PySem.W.Frag) : Sp := fun vs H Q _ => ∃ (a C : Addr) (v : V) (d : PyData), vs = [.ref a, v] ∧ OexC K C ∧ PySem.W.findIn K (.ref C) "value" = some none ∧ H a = some (exo a C none) ∧ Dp K H v d ∧ Rp 3 d ∧
  ∀ dx, H dx = none → dx ≠ a → Q .non (upd (upd H dx (exd dx [(("value" : Str), v)])) a (exo a C (some dx)))
section
variable {P : Program} {w : World} {K : PySem.W.Frag} {mg : Str → Option Value} {base : Heap} {f fI : Addr} {fd fdI : FuncData}
theorem scI : FnScope ["self", "value"] ["self", "value"] (defScope sInit) := ⟨rfl, rfl, rfl, by decide +kernel, rfl, by decide +kernel, by decide +kernel⟩
theorem ok_init (F : FnQ K "__init__" "GameError.__init__" sInit f fd) (T : Txt K mg) : FnOk P w K mg base CX0 1 f fd ["self", "value"] (spInit K) := by
  refine F.ok scI (fun vs H Q E h => ?_) (fun cdv A outer s H vs Q E hr h => ?_)
  · obtain ⟨a, C, v, d, rfl, _⟩ := h
    rfl
  · obtain ⟨a, C, v, d, rfl, hO, hV, ha, hd, hp, k⟩ := h
    refine ⟨_, PSs.nox (pss_cons (ps_expr (pe_veinit (by rfl) T.ve (vV_of T.ex) (pa_cons (pv 0) (pa_cons (pe_callB (call_reprD 3 (by decide) (by have hu := hr.units; show (A.deeper _).units + 3 + 8 < cLine; omega)) (by rfl) T.rep PyProof.Rows.Boot.«repr» (pa_cons (pv 1) pa_nil)) pa_nil))))
      (pss_one (ps_ost (pv 0) (pv 1)))), ?_⟩
    refine ⟨_, rfl, _, rfl, v, d, rfl, hd, hp, fun t ht => ⟨a, C, [.str t], rfl, (show 1 ≤ 1000 by decide), hO, ha, ?_⟩⟩
    exact ⟨_, rfl, _, rfl, a, C, rfl, hO, hV, .inl ⟨ha, fun dx n ne => k dx n ne⟩⟩
theorem made {C : Addr} (c : CF K C) {H : Hp} {v : V} {d : PyData} {E : XK} (hd : Dp K H v d) (hp : Rp 3 d) (k : ∀ dx, H dx = none → E (.ref C) (some dx) (upd H dx (.xd [(("value" : Str), v)]))) (a : Addr) (ha : H a = none) :
    spInit K [.ref a, v] (upd H a (exo a C none)) (fun z H2 => z = .non ∧ ∃ (dx : Addr) (fs : List (Str × V)), H2 a = some (exo a C (some dx)) ∧ H2 dx = some (exd dx fs) ∧ H dx = none ∧ E (.ref C) (some dx) (upd (del H2 a) dx (.xd fs))) (fun _ _ _ => False) := by
  refine ⟨a, C, v, d, rfl, c.oex, c.noV, upd_same, dp_tf (TF.of_new ha) 3 d v hp hd, hp, fun dx n ne => ⟨rfl, dx, _, upd_same, by rw [upd_ne ne, upd_same], ?_, ?_⟩⟩
  · rw [upd_ne ne] at n
    exact n
  · have hn : H dx = none := by
      rw [upd_ne ne] at n
      exact n
    have e : upd (del (upd (upd (upd H a (exo a C none)) dx (exd dx [(("value" : Str), v)])) a (exo a C (some dx))) a) dx (.xd [(("value" : Str), v)]) = upd H dx (.xd [(("value" : Str), v)]) := by
      funext b
      by_cases h1 : b = dx
      · rw [h1, upd_same, upd_same]
      · rw [upd_ne h1, upd_ne h1]
        by_cases h2 : b = a
        · rw [h2, del_same, ha]
        · rw [del_ne h2, upd_ne h2, upd_ne h1, upd_ne h2]
    rw [e]
    exact k dx hn
/-- the error of which, with v as its value -/
def spR (K : PySem.W.Frag) (lo hi : Int) : Sp := fun vs H _ E => ∃ (w : Int) (v : V) (d : PyData), vs = [.int w, v] ∧ lo ≤ w ∧ w ≤ hi ∧ Dp K H v d ∧ Rp 3 d ∧
  ∀ (x : Str), cs[(w - 1).toNat]? = some x → ∀ dx, H dx = none → E (.ref (He.ga K x)) (some dx) (upd H dx (.xd [(("value" : Str), v)]))
theorem ne_int {i j : Int} (h : ¬ (V.int i = V.int j)) : i ≠ j := fun e => h (by rw [e])
theorem kw_binds (F : FnQ K "__init__" "GameError.__init__" sInit f fd) (s : Shared) (u z : Value) : BindsTo s fd ⟨[u], [("value", z)]⟩ ((["self", "value"] : List Str).zip [u, z]) := by
  obtain ⟨oc, od, dV, kV, doc, pm, an, cdv, ct, osl, rfl, lk, hcd, hD, hK⟩ := F.ex
  rcases hD with ⟨_, rfl⟩ | ⟨e, _⟩
  · exact .of_eq rfl
  · exact absurd rfl e
theorem scR1 : FnScope ["which", "given"] ["which", "given"] (defScope sR1) := ⟨rfl, rfl, rfl, by decide +kernel, rfl, by decide +kernel, by decide +kernel⟩
theorem ok_R1 (F : FnQ K "_law_raise_first" "_law_raise_first" sR1 f fd) (T : Txt K mg) (FI : FnQ K "__init__" "GameError.__init__" sInit (iAd K) fdI) : FnOk P w K mg base (L2.CX P w) 3 f fd ["which", "given"] (spR K 1 15) := by
  have GI : FnOk P w K mg base CX0 1 (iAd K) fdI ["self", "value"] (spInit K) := ok_init FI T
  have bI : Binds K fdI ["self", "value"] [] := FI.bindsN fun _ _ _ _ _ _ us hl => match us, hl with | [_, _], _ => rfl
  have tI := tI_of T.ex
  have m0 := T.cl "InvalidLevel" (by decide +kernel)
  have c0 := (cf_of T.ex (x := "InvalidLevel") (by decide +kernel)).2
  have m1 := T.cl "InvalidKind" (by decide +kernel)
  have c1 := (cf_of T.ex (x := "InvalidKind") (by decide +kernel)).2
  have m2 := T.cl "InvalidGame" (by decide +kernel)
  have c2 := (cf_of T.ex (x := "InvalidGame") (by decide +kernel)).2
  have m3 := T.cl "InvalidWorld" (by decide +kernel)
  have c3 := (cf_of T.ex (x := "InvalidWorld") (by decide +kernel)).2
  have m4 := T.cl "InvalidThing" (by decide +kernel)
  have c4 := (cf_of T.ex (x := "InvalidThing") (by decide +kernel)).2
  have m5 := T.cl "InvalidPress" (by decide +kernel)
  have c5 := (cf_of T.ex (x := "InvalidPress") (by decide +kernel)).2
  have m6 := T.cl "InvalidRows" (by decide +kernel)
  have c6 := (cf_of T.ex (x := "InvalidRows") (by decide +kernel)).2
  have m7 := T.cl "InvalidNumber" (by decide +kernel)
  have c7 := (cf_of T.ex (x := "InvalidNumber") (by decide +kernel)).2
  have m8 := T.cl "InvalidSlot" (by decide +kernel)
  have c8 := (cf_of T.ex (x := "InvalidSlot") (by decide +kernel)).2
  have m9 := T.cl "InvalidCell" (by decide +kernel)
  have c9 := (cf_of T.ex (x := "InvalidCell") (by decide +kernel)).2
  have m10 := T.cl "InvalidTrace" (by decide +kernel)
  have c10 := (cf_of T.ex (x := "InvalidTrace") (by decide +kernel)).2
  have m11 := T.cl "InvalidMenu" (by decide +kernel)
  have c11 := (cf_of T.ex (x := "InvalidMenu") (by decide +kernel)).2
  have m12 := T.cl "InvalidPlan" (by decide +kernel)
  have c12 := (cf_of T.ex (x := "InvalidPlan") (by decide +kernel)).2
  have m13 := T.cl "InvalidPair" (by decide +kernel)
  have c13 := (cf_of T.ex (x := "InvalidPair") (by decide +kernel)).2
  have m14 := T.cl "InvalidScript" (by decide +kernel)
  have c14 := (cf_of T.ex (x := "InvalidScript") (by decide +kernel)).2
  refine F.ok scR1 (fun vs H Q E h => ?_) (fun cdv A outer s H vs Q E hr h => ?_)
  · obtain ⟨a, v, d, rfl, _⟩ := h
    rfl
  · obtain ⟨a, v, d, rfl, h1, h2, hd, hp, k⟩ := h
    have hr1 : Room 2 _ := hr
    refine ⟨_,
      (pss_cons (ps_if (pt_cmpR op_eq (pv 0) pe_int (nomark _)) (pss_one (ps_raise rfl (takes_of rfl rfl rfl rfl) (pmk_oex c0.oex c0.ini tI GI hr1 bI .nil pass0 (by rfl) m0 (pa_cons (pv 1) pa_nil)))) pss_nil)
      (pss_cons (ps_if (pt_cmpR op_eq (pv 0) pe_int (nomark _)) (pss_one (ps_raise rfl (takes_of rfl rfl rfl rfl) (pmk_oex c1.oex c1.ini tI GI hr1 bI .nil pass0 (by rfl) m1 (pa_cons (pv 1) pa_nil)))) pss_nil)
      (pss_cons (ps_if (pt_cmpR op_eq (pv 0) pe_int (nomark _)) (pss_one (ps_raise rfl (takes_of rfl rfl rfl rfl) (pmk_oex c2.oex c2.ini tI GI hr1 bI .nil pass0 (by rfl) m2 (pa_cons (pv 1) pa_nil)))) pss_nil)
      (pss_cons (ps_if (pt_cmpR op_eq (pv 0) pe_int (nomark _)) (pss_one (ps_raise rfl (takes_of rfl rfl rfl rfl) (pmk_oex c3.oex c3.ini tI GI hr1 bI .nil pass0 (by rfl) m3 (pa_cons (pv 1) pa_nil)))) pss_nil)
      (pss_cons (ps_if (pt_cmpR op_eq (pv 0) pe_int (nomark _)) (pss_one (ps_raise rfl (takes_of rfl rfl rfl rfl) (pmk_oex c4.oex c4.ini tI GI hr1 bI .nil pass0 (by rfl) m4 (pa_cons (pv 1) pa_nil)))) pss_nil)
      (pss_cons (ps_if (pt_cmpR op_eq (pv 0) pe_int (nomark _)) (pss_one (ps_raise rfl (takes_of rfl rfl rfl rfl) (pmk_oex c5.oex c5.ini tI GI hr1 bI .nil pass0 (by rfl) m5 (pa_cons (pv 1) pa_nil)))) pss_nil)
      (pss_cons (ps_if (pt_cmpR op_eq (pv 0) pe_int (nomark _)) (pss_one (ps_raise rfl (takes_of rfl rfl rfl rfl) (pmk_oex c6.oex c6.ini tI GI hr1 bI .nil pass0 (by rfl) m6 (pa_cons (pv 1) pa_nil)))) pss_nil)
      (pss_cons (ps_if (pt_cmpR op_eq (pv 0) pe_int (nomark _)) (pss_one (ps_raise rfl (takes_of rfl rfl rfl rfl) (pmk_oex c7.oex c7.ini tI GI hr1 bI .nil pass0 (by rfl) m7 (pa_cons (pv 1) pa_nil)))) pss_nil)
      (pss_cons (ps_if (pt_cmpR op_eq (pv 0) pe_int (nomark _)) (pss_one (ps_raise rfl (takes_of rfl rfl rfl rfl) (pmk_oex c8.oex c8.ini tI GI hr1 bI .nil pass0 (by rfl) m8 (pa_cons (pv 1) pa_nil)))) pss_nil)
      (pss_cons (ps_if (pt_cmpR op_eq (pv 0) pe_int (nomark _)) (pss_one (ps_raise rfl (takes_of rfl rfl rfl rfl) (pmk_oex c9.oex c9.ini tI GI hr1 bI .nil pass0 (by rfl) m9 (pa_cons (pv 1) pa_nil)))) pss_nil)
      (pss_cons (ps_if (pt_cmpR op_eq (pv 0) pe_int (nomark _)) (pss_one (ps_raise rfl (takes_of rfl rfl rfl rfl) (pmk_oex c10.oex c10.ini tI GI hr1 bI .nil pass0 (by rfl) m10 (pa_cons (pv 1) pa_nil)))) pss_nil)
      (pss_cons (ps_if (pt_cmpR op_eq (pv 0) pe_int (nomark _)) (pss_one (ps_raise rfl (takes_of rfl rfl rfl rfl) (pmk_oex c11.oex c11.ini tI GI hr1 bI .nil pass0 (by rfl) m11 (pa_cons (pv 1) pa_nil)))) pss_nil)
      (pss_cons (ps_if (pt_cmpR op_eq (pv 0) pe_int (nomark _)) (pss_one (ps_raise rfl (takes_of rfl rfl rfl rfl) (pmk_oex c12.oex c12.ini tI GI hr1 bI .nil pass0 (by rfl) m12 (pa_cons (pv 1) pa_nil)))) pss_nil)
      (pss_cons (ps_if (pt_cmpR op_eq (pv 0) pe_int (nomark _)) (pss_one (ps_raise rfl (takes_of rfl rfl rfl rfl) (pmk_oex c13.oex c13.ini tI GI hr1 bI .nil pass0 (by rfl) m13 (pa_cons (pv 1) pa_nil)))) pss_nil)
      (pss_one (ps_raise rfl (takes_of rfl rfl rfl rfl) (pmk_oex c14.oex c14.ini tI GI hr1 bI .nil pass0 (by rfl) m14 (pa_cons (pv 1) pa_nil)))))))))))))))))), ?_⟩
    refine ⟨_, rfl, rfl, _, rfl, ite2 (fun z => ?_) (fun z => ?_)⟩
    · have z1 : a = 1 := by injection (of_decide_eq_true z)
      exact ⟨_, rfl, (show 1 ≤ 1000 by decide), made c0 hd hp (k "InvalidLevel" (by rw [show a = 1 by omega]; rfl))⟩
    have z2 := ne_int (fun q => z (decide_eq_true q))
    refine ⟨_, rfl, rfl, _, rfl, ite2 (fun z => ?_) (fun z => ?_)⟩
    · have z1 : a = 2 := by injection (of_decide_eq_true z)
      exact ⟨_, rfl, (show 1 ≤ 1000 by decide), made c1 hd hp (k "InvalidKind" (by rw [show a = 2 by omega]; rfl))⟩
    have z3 := ne_int (fun q => z (decide_eq_true q))
    refine ⟨_, rfl, rfl, _, rfl, ite2 (fun z => ?_) (fun z => ?_)⟩
    · have z1 : a = 3 := by injection (of_decide_eq_true z)
      exact ⟨_, rfl, (show 1 ≤ 1000 by decide), made c2 hd hp (k "InvalidGame" (by rw [show a = 3 by omega]; rfl))⟩
    have z4 := ne_int (fun q => z (decide_eq_true q))
    refine ⟨_, rfl, rfl, _, rfl, ite2 (fun z => ?_) (fun z => ?_)⟩
    · have z1 : a = 4 := by injection (of_decide_eq_true z)
      exact ⟨_, rfl, (show 1 ≤ 1000 by decide), made c3 hd hp (k "InvalidWorld" (by rw [show a = 4 by omega]; rfl))⟩
    have z5 := ne_int (fun q => z (decide_eq_true q))
    refine ⟨_, rfl, rfl, _, rfl, ite2 (fun z => ?_) (fun z => ?_)⟩
    · have z1 : a = 5 := by injection (of_decide_eq_true z)
      exact ⟨_, rfl, (show 1 ≤ 1000 by decide), made c4 hd hp (k "InvalidThing" (by rw [show a = 5 by omega]; rfl))⟩
    have z6 := ne_int (fun q => z (decide_eq_true q))
    refine ⟨_, rfl, rfl, _, rfl, ite2 (fun z => ?_) (fun z => ?_)⟩
    · have z1 : a = 6 := by injection (of_decide_eq_true z)
      exact ⟨_, rfl, (show 1 ≤ 1000 by decide), made c5 hd hp (k "InvalidPress" (by rw [show a = 6 by omega]; rfl))⟩
    have z7 := ne_int (fun q => z (decide_eq_true q))
    refine ⟨_, rfl, rfl, _, rfl, ite2 (fun z => ?_) (fun z => ?_)⟩
    · have z1 : a = 7 := by injection (of_decide_eq_true z)
      exact ⟨_, rfl, (show 1 ≤ 1000 by decide), made c6 hd hp (k "InvalidRows" (by rw [show a = 7 by omega]; rfl))⟩
    have z8 := ne_int (fun q => z (decide_eq_true q))
    refine ⟨_, rfl, rfl, _, rfl, ite2 (fun z => ?_) (fun z => ?_)⟩
    · have z1 : a = 8 := by injection (of_decide_eq_true z)
      exact ⟨_, rfl, (show 1 ≤ 1000 by decide), made c7 hd hp (k "InvalidNumber" (by rw [show a = 8 by omega]; rfl))⟩
    have z9 := ne_int (fun q => z (decide_eq_true q))
    refine ⟨_, rfl, rfl, _, rfl, ite2 (fun z => ?_) (fun z => ?_)⟩
    · have z1 : a = 9 := by injection (of_decide_eq_true z)
      exact ⟨_, rfl, (show 1 ≤ 1000 by decide), made c8 hd hp (k "InvalidSlot" (by rw [show a = 9 by omega]; rfl))⟩
    have z10 := ne_int (fun q => z (decide_eq_true q))
    refine ⟨_, rfl, rfl, _, rfl, ite2 (fun z => ?_) (fun z => ?_)⟩
    · have z1 : a = 10 := by injection (of_decide_eq_true z)
      exact ⟨_, rfl, (show 1 ≤ 1000 by decide), made c9 hd hp (k "InvalidCell" (by rw [show a = 10 by omega]; rfl))⟩
    have z11 := ne_int (fun q => z (decide_eq_true q))
    refine ⟨_, rfl, rfl, _, rfl, ite2 (fun z => ?_) (fun z => ?_)⟩
    · have z1 : a = 11 := by injection (of_decide_eq_true z)
      exact ⟨_, rfl, (show 1 ≤ 1000 by decide), made c10 hd hp (k "InvalidTrace" (by rw [show a = 11 by omega]; rfl))⟩
    have z12 := ne_int (fun q => z (decide_eq_true q))
    refine ⟨_, rfl, rfl, _, rfl, ite2 (fun z => ?_) (fun z => ?_)⟩
    · have z1 : a = 12 := by injection (of_decide_eq_true z)
      exact ⟨_, rfl, (show 1 ≤ 1000 by decide), made c11 hd hp (k "InvalidMenu" (by rw [show a = 12 by omega]; rfl))⟩
    have z13 := ne_int (fun q => z (decide_eq_true q))
    refine ⟨_, rfl, rfl, _, rfl, ite2 (fun z => ?_) (fun z => ?_)⟩
    · have z1 : a = 13 := by injection (of_decide_eq_true z)
      exact ⟨_, rfl, (show 1 ≤ 1000 by decide), made c12 hd hp (k "InvalidPlan" (by rw [show a = 13 by omega]; rfl))⟩
    have z14 := ne_int (fun q => z (decide_eq_true q))
    refine ⟨_, rfl, rfl, _, rfl, ite2 (fun z => ?_) (fun z => ?_)⟩
    · have z1 : a = 14 := by injection (of_decide_eq_true z)
      exact ⟨_, rfl, (show 1 ≤ 1000 by decide), made c13 hd hp (k "InvalidPair" (by rw [show a = 14 by omega]; rfl))⟩
    have z15 := ne_int (fun q => z (decide_eq_true q))
    exact ⟨_, rfl, (show 1 ≤ 1000 by decide), made c14 hd hp (k "InvalidScript" (by rw [show a = 15 by omega]; rfl))⟩
theorem scR2 : FnScope ["which", "given"] ["which", "given"] (defScope sR2) := ⟨rfl, rfl, rfl, by decide +kernel, rfl, by decide +kernel, by decide +kernel⟩
theorem ok_R2 (F : FnQ K "_law_raise_second" "_law_raise_second" sR2 f fd) (T : Txt K mg) (FI : FnQ K "__init__" "GameError.__init__" sInit (iAd K) fdI) : FnOk P w K mg base (L2.CX P w) 3 f fd ["which", "given"] (spR K 16 30) := by
  have GI : FnOk P w K mg base CX0 1 (iAd K) fdI ["self", "value"] (spInit K) := ok_init FI T
  have bI : Binds K fdI ["self", "value"] [] := FI.bindsN fun _ _ _ _ _ _ us hl => match us, hl with | [_, _], _ => rfl
  have tI := tI_of T.ex
  have m0 := T.cl "InvalidCode" (by decide +kernel)
  have c0 := (cf_of T.ex (x := "InvalidCode") (by decide +kernel)).2
  have m1 := T.cl "InvalidKnown" (by decide +kernel)
  have c1 := (cf_of T.ex (x := "InvalidKnown") (by decide +kernel)).2
  have m2 := T.cl "InvalidTick" (by decide +kernel)
  have c2 := (cf_of T.ex (x := "InvalidTick") (by decide +kernel)).2
  have m3 := T.cl "InvalidHouse" (by decide +kernel)
  have c3 := (cf_of T.ex (x := "InvalidHouse") (by decide +kernel)).2
  have m4 := T.cl "InvalidLetter" (by decide +kernel)
  have c4 := (cf_of T.ex (x := "InvalidLetter") (by decide +kernel)).2
  have m5 := T.cl "InvalidPlace" (by decide +kernel)
  have c5 := (cf_of T.ex (x := "InvalidPlace") (by decide +kernel)).2
  have m6 := T.cl "InvalidPaper" (by decide +kernel)
  have c6 := (cf_of T.ex (x := "InvalidPaper") (by decide +kernel)).2
  have m7 := T.cl "InvalidName" (by decide +kernel)
  have c7 := (cf_of T.ex (x := "InvalidName") (by decide +kernel)).2
  have m8 := T.cl "UnknownName" (by decide +kernel)
  have c8 := (cf_of T.ex (x := "UnknownName") (by decide +kernel)).2
  have m9 := T.cl "WrongKind" (by decide +kernel)
  have c9 := (cf_of T.ex (x := "WrongKind") (by decide +kernel)).2
  have m10 := T.cl "NothingToUndo" (by decide +kernel)
  have c10 := (cf_of T.ex (x := "NothingToUndo") (by decide +kernel)).2
  have m11 := T.cl "Unreadable" (by decide +kernel)
  have c11 := (cf_of T.ex (x := "Unreadable") (by decide +kernel)).2
  have m12 := T.cl "Unorderly" (by decide +kernel)
  have c12 := (cf_of T.ex (x := "Unorderly") (by decide +kernel)).2
  have m13 := T.cl "Clash" (by decide +kernel)
  have c13 := (cf_of T.ex (x := "Clash") (by decide +kernel)).2
  have m14 := T.cl "Left" (by decide +kernel)
  have c14 := (cf_of T.ex (x := "Left") (by decide +kernel)).2
  refine F.ok scR2 (fun vs H Q E h => ?_) (fun cdv A outer s H vs Q E hr h => ?_)
  · obtain ⟨a, v, d, rfl, _⟩ := h
    rfl
  · obtain ⟨a, v, d, rfl, h1, h2, hd, hp, k⟩ := h
    have hr1 : Room 2 _ := hr
    refine ⟨_,
      (pss_cons (ps_if (pt_cmpR op_eq (pv 0) pe_int (nomark _)) (pss_one (ps_raise rfl (takes_of rfl rfl rfl rfl) (pmk_oex c0.oex c0.ini tI GI hr1 bI .nil pass0 (by rfl) m0 (pa_cons (pv 1) pa_nil)))) pss_nil)
      (pss_cons (ps_if (pt_cmpR op_eq (pv 0) pe_int (nomark _)) (pss_one (ps_raise rfl (takes_of rfl rfl rfl rfl) (pmk_oex c1.oex c1.ini tI GI hr1 bI .nil pass0 (by rfl) m1 (pa_cons (pv 1) pa_nil)))) pss_nil)
      (pss_cons (ps_if (pt_cmpR op_eq (pv 0) pe_int (nomark _)) (pss_one (ps_raise rfl (takes_of rfl rfl rfl rfl) (pmk_oex c2.oex c2.ini tI GI hr1 bI .nil pass0 (by rfl) m2 (pa_cons (pv 1) pa_nil)))) pss_nil)
      (pss_cons (ps_if (pt_cmpR op_eq (pv 0) pe_int (nomark _)) (pss_one (ps_raise rfl (takes_of rfl rfl rfl rfl) (pmk_oex c3.oex c3.ini tI GI hr1 bI .nil pass0 (by rfl) m3 (pa_cons (pv 1) pa_nil)))) pss_nil)
      (pss_cons (ps_if (pt_cmpR op_eq (pv 0) pe_int (nomark _)) (pss_one (ps_raise rfl (takes_of rfl rfl rfl rfl) (pmk_oex c4.oex c4.ini tI GI hr1 bI .nil pass0 (by rfl) m4 (pa_cons (pv 1) pa_nil)))) pss_nil)
      (pss_cons (ps_if (pt_cmpR op_eq (pv 0) pe_int (nomark _)) (pss_one (ps_raise rfl (takes_of rfl rfl rfl rfl) (pmk_oex c5.oex c5.ini tI GI hr1 bI .nil pass0 (by rfl) m5 (pa_cons (pv 1) pa_nil)))) pss_nil)
      (pss_cons (ps_if (pt_cmpR op_eq (pv 0) pe_int (nomark _)) (pss_one (ps_raise rfl (takes_of rfl rfl rfl rfl) (pmk_oex c6.oex c6.ini tI GI hr1 bI .nil pass0 (by rfl) m6 (pa_cons (pv 1) pa_nil)))) pss_nil)
      (pss_cons (ps_if (pt_cmpR op_eq (pv 0) pe_int (nomark _)) (pss_one (ps_raise rfl (takes_of rfl rfl rfl rfl) (pmk_oex c7.oex c7.ini tI GI hr1 bI .nil pass0 (by rfl) m7 (pa_cons (pv 1) pa_nil)))) pss_nil)
      (pss_cons (ps_if (pt_cmpR op_eq (pv 0) pe_int (nomark _)) (pss_one (ps_raise rfl (takes_of rfl rfl rfl rfl) (pmk_oex c8.oex c8.ini tI GI hr1 bI .nil pass0 (by rfl) m8 (pa_cons (pv 1) pa_nil)))) pss_nil)
      (pss_cons (ps_if (pt_cmpR op_eq (pv 0) pe_int (nomark _)) (pss_one (ps_raise rfl (takes_of rfl rfl rfl rfl) (pmk_oex c9.oex c9.ini tI GI hr1 bI .nil pass0 (by rfl) m9 (pa_cons (pv 1) pa_nil)))) pss_nil)
      (pss_cons (ps_if (pt_cmpR op_eq (pv 0) pe_int (nomark _)) (pss_one (ps_raise rfl (takes_of rfl rfl rfl rfl) (pmk_oex c10.oex c10.ini tI GI hr1 bI .nil pass0 (by rfl) m10 (pa_cons (pv 1) pa_nil)))) pss_nil)
      (pss_cons (ps_if (pt_cmpR op_eq (pv 0) pe_int (nomark _)) (pss_one (ps_raise rfl (takes_of rfl rfl rfl rfl) (pmk_oex c11.oex c11.ini tI GI hr1 bI .nil pass0 (by rfl) m11 (pa_cons (pv 1) pa_nil)))) pss_nil)
      (pss_cons (ps_if (pt_cmpR op_eq (pv 0) pe_int (nomark _)) (pss_one (ps_raise rfl (takes_of rfl rfl rfl rfl) (pmk_oex c12.oex c12.ini tI GI hr1 bI .nil pass0 (by rfl) m12 (pa_cons (pv 1) pa_nil)))) pss_nil)
      (pss_cons (ps_if (pt_cmpR op_eq (pv 0) pe_int (nomark _)) (pss_one (ps_raise rfl (takes_of rfl rfl rfl rfl) (pmk_oex c13.oex c13.ini tI GI hr1 bI .nil pass0 (by rfl) m13 (pa_cons (pv 1) pa_nil)))) pss_nil)
      (pss_one (ps_raise rfl (takes_of rfl rfl rfl rfl) (pmk_oex c14.oex c14.ini tI GI hr1 bI .nil pass0 (by rfl) m14 (pa_cons (pv 1) pa_nil)))))))))))))))))), ?_⟩
    refine ⟨_, rfl, rfl, _, rfl, ite2 (fun z => ?_) (fun z => ?_)⟩
    · have z1 : a = 16 := by injection (of_decide_eq_true z)
      exact ⟨_, rfl, (show 1 ≤ 1000 by decide), made c0 hd hp (k "InvalidCode" (by rw [show a = 16 by omega]; rfl))⟩
    have z2 := ne_int (fun q => z (decide_eq_true q))
    refine ⟨_, rfl, rfl, _, rfl, ite2 (fun z => ?_) (fun z => ?_)⟩
    · have z1 : a = 17 := by injection (of_decide_eq_true z)
      exact ⟨_, rfl, (show 1 ≤ 1000 by decide), made c1 hd hp (k "InvalidKnown" (by rw [show a = 17 by omega]; rfl))⟩
    have z3 := ne_int (fun q => z (decide_eq_true q))
    refine ⟨_, rfl, rfl, _, rfl, ite2 (fun z => ?_) (fun z => ?_)⟩
    · have z1 : a = 18 := by injection (of_decide_eq_true z)
      exact ⟨_, rfl, (show 1 ≤ 1000 by decide), made c2 hd hp (k "InvalidTick" (by rw [show a = 18 by omega]; rfl))⟩
    have z4 := ne_int (fun q => z (decide_eq_true q))
    refine ⟨_, rfl, rfl, _, rfl, ite2 (fun z => ?_) (fun z => ?_)⟩
    · have z1 : a = 19 := by injection (of_decide_eq_true z)
      exact ⟨_, rfl, (show 1 ≤ 1000 by decide), made c3 hd hp (k "InvalidHouse" (by rw [show a = 19 by omega]; rfl))⟩
    have z5 := ne_int (fun q => z (decide_eq_true q))
    refine ⟨_, rfl, rfl, _, rfl, ite2 (fun z => ?_) (fun z => ?_)⟩
    · have z1 : a = 20 := by injection (of_decide_eq_true z)
      exact ⟨_, rfl, (show 1 ≤ 1000 by decide), made c4 hd hp (k "InvalidLetter" (by rw [show a = 20 by omega]; rfl))⟩
    have z6 := ne_int (fun q => z (decide_eq_true q))
    refine ⟨_, rfl, rfl, _, rfl, ite2 (fun z => ?_) (fun z => ?_)⟩
    · have z1 : a = 21 := by injection (of_decide_eq_true z)
      exact ⟨_, rfl, (show 1 ≤ 1000 by decide), made c5 hd hp (k "InvalidPlace" (by rw [show a = 21 by omega]; rfl))⟩
    have z7 := ne_int (fun q => z (decide_eq_true q))
    refine ⟨_, rfl, rfl, _, rfl, ite2 (fun z => ?_) (fun z => ?_)⟩
    · have z1 : a = 22 := by injection (of_decide_eq_true z)
      exact ⟨_, rfl, (show 1 ≤ 1000 by decide), made c6 hd hp (k "InvalidPaper" (by rw [show a = 22 by omega]; rfl))⟩
    have z8 := ne_int (fun q => z (decide_eq_true q))
    refine ⟨_, rfl, rfl, _, rfl, ite2 (fun z => ?_) (fun z => ?_)⟩
    · have z1 : a = 23 := by injection (of_decide_eq_true z)
      exact ⟨_, rfl, (show 1 ≤ 1000 by decide), made c7 hd hp (k "InvalidName" (by rw [show a = 23 by omega]; rfl))⟩
    have z9 := ne_int (fun q => z (decide_eq_true q))
    refine ⟨_, rfl, rfl, _, rfl, ite2 (fun z => ?_) (fun z => ?_)⟩
    · have z1 : a = 24 := by injection (of_decide_eq_true z)
      exact ⟨_, rfl, (show 1 ≤ 1000 by decide), made c8 hd hp (k "UnknownName" (by rw [show a = 24 by omega]; rfl))⟩
    have z10 := ne_int (fun q => z (decide_eq_true q))
    refine ⟨_, rfl, rfl, _, rfl, ite2 (fun z => ?_) (fun z => ?_)⟩
    · have z1 : a = 25 := by injection (of_decide_eq_true z)
      exact ⟨_, rfl, (show 1 ≤ 1000 by decide), made c9 hd hp (k "WrongKind" (by rw [show a = 25 by omega]; rfl))⟩
    have z11 := ne_int (fun q => z (decide_eq_true q))
    refine ⟨_, rfl, rfl, _, rfl, ite2 (fun z => ?_) (fun z => ?_)⟩
    · have z1 : a = 26 := by injection (of_decide_eq_true z)
      exact ⟨_, rfl, (show 1 ≤ 1000 by decide), made c10 hd hp (k "NothingToUndo" (by rw [show a = 26 by omega]; rfl))⟩
    have z12 := ne_int (fun q => z (decide_eq_true q))
    refine ⟨_, rfl, rfl, _, rfl, ite2 (fun z => ?_) (fun z => ?_)⟩
    · have z1 : a = 27 := by injection (of_decide_eq_true z)
      exact ⟨_, rfl, (show 1 ≤ 1000 by decide), made c11 hd hp (k "Unreadable" (by rw [show a = 27 by omega]; rfl))⟩
    have z13 := ne_int (fun q => z (decide_eq_true q))
    refine ⟨_, rfl, rfl, _, rfl, ite2 (fun z => ?_) (fun z => ?_)⟩
    · have z1 : a = 28 := by injection (of_decide_eq_true z)
      exact ⟨_, rfl, (show 1 ≤ 1000 by decide), made c12 hd hp (k "Unorderly" (by rw [show a = 28 by omega]; rfl))⟩
    have z14 := ne_int (fun q => z (decide_eq_true q))
    refine ⟨_, rfl, rfl, _, rfl, ite2 (fun z => ?_) (fun z => ?_)⟩
    · have z1 : a = 29 := by injection (of_decide_eq_true z)
      exact ⟨_, rfl, (show 1 ≤ 1000 by decide), made c13 hd hp (k "Clash" (by rw [show a = 29 by omega]; rfl))⟩
    have z15 := ne_int (fun q => z (decide_eq_true q))
    exact ⟨_, rfl, (show 1 ≤ 1000 by decide), made c14 hd hp (k "Left" (by rw [show a = 30 by omega]; rfl))⟩
theorem scN1 : FnScope ["which", "given"] ["which", "given"] (defScope sN1) := ⟨rfl, rfl, rfl, by decide +kernel, rfl, by decide +kernel, by decide +kernel⟩
theorem ok_N1 (F : FnQ K "_law_raise_named_first" "_law_raise_named_first" sN1 f fd) (T : Txt K mg) (FI : FnQ K "__init__" "GameError.__init__" sInit (iAd K) fdI) : FnOk P w K mg base (L2.CX P w) 3 f fd ["which", "given"] (spR K 1 15) := by
  have GI : FnOk P w K mg base CX0 1 (iAd K) fdI ["self", "value"] (spInit K) := ok_init FI T
  have bI : Binds K fdI ["self", "value"] [] := FI.bindsN fun _ _ _ _ _ _ us hl => match us, hl with | [_, _], _ => rfl
  have tI := tI_of T.ex
  have m0 := T.cl "InvalidLevel" (by decide +kernel)
  have c0 := (cf_of T.ex (x := "InvalidLevel") (by decide +kernel)).2
  have m1 := T.cl "InvalidKind" (by decide +kernel)
  have c1 := (cf_of T.ex (x := "InvalidKind") (by decide +kernel)).2
  have m2 := T.cl "InvalidGame" (by decide +kernel)
  have c2 := (cf_of T.ex (x := "InvalidGame") (by decide +kernel)).2
  have m3 := T.cl "InvalidWorld" (by decide +kernel)
  have c3 := (cf_of T.ex (x := "InvalidWorld") (by decide +kernel)).2
  have m4 := T.cl "InvalidThing" (by decide +kernel)
  have c4 := (cf_of T.ex (x := "InvalidThing") (by decide +kernel)).2
  have m5 := T.cl "InvalidPress" (by decide +kernel)
  have c5 := (cf_of T.ex (x := "InvalidPress") (by decide +kernel)).2
  have m6 := T.cl "InvalidRows" (by decide +kernel)
  have c6 := (cf_of T.ex (x := "InvalidRows") (by decide +kernel)).2
  have m7 := T.cl "InvalidNumber" (by decide +kernel)
  have c7 := (cf_of T.ex (x := "InvalidNumber") (by decide +kernel)).2
  have m8 := T.cl "InvalidSlot" (by decide +kernel)
  have c8 := (cf_of T.ex (x := "InvalidSlot") (by decide +kernel)).2
  have m9 := T.cl "InvalidCell" (by decide +kernel)
  have c9 := (cf_of T.ex (x := "InvalidCell") (by decide +kernel)).2
  have m10 := T.cl "InvalidTrace" (by decide +kernel)
  have c10 := (cf_of T.ex (x := "InvalidTrace") (by decide +kernel)).2
  have m11 := T.cl "InvalidMenu" (by decide +kernel)
  have c11 := (cf_of T.ex (x := "InvalidMenu") (by decide +kernel)).2
  have m12 := T.cl "InvalidPlan" (by decide +kernel)
  have c12 := (cf_of T.ex (x := "InvalidPlan") (by decide +kernel)).2
  have m13 := T.cl "InvalidPair" (by decide +kernel)
  have c13 := (cf_of T.ex (x := "InvalidPair") (by decide +kernel)).2
  have m14 := T.cl "InvalidScript" (by decide +kernel)
  have c14 := (cf_of T.ex (x := "InvalidScript") (by decide +kernel)).2
  refine F.ok scN1 (fun vs H Q E h => ?_) (fun cdv A outer s H vs Q E hr h => ?_)
  · obtain ⟨a, v, d, rfl, _⟩ := h
    rfl
  · obtain ⟨a, v, d, rfl, h1, h2, hd, hp, k⟩ := h
    have hr1 : Room 2 _ := hr
    refine ⟨_,
      (pss_cons (ps_if (pt_cmpR op_eq (pv 0) pe_int (nomark _)) (pss_one (ps_raise rfl (takes_of rfl rfl rfl rfl) (pmk_kw (kn := "value") c0.oex c0.ini tI GI hr1 (kw_binds FI) pass0 (by rfl) m0 (pk_cons (pv 1) pk_nil)))) pss_nil)
      (pss_cons (ps_if (pt_cmpR op_eq (pv 0) pe_int (nomark _)) (pss_one (ps_raise rfl (takes_of rfl rfl rfl rfl) (pmk_kw (kn := "value") c1.oex c1.ini tI GI hr1 (kw_binds FI) pass0 (by rfl) m1 (pk_cons (pv 1) pk_nil)))) pss_nil)
      (pss_cons (ps_if (pt_cmpR op_eq (pv 0) pe_int (nomark _)) (pss_one (ps_raise rfl (takes_of rfl rfl rfl rfl) (pmk_kw (kn := "value") c2.oex c2.ini tI GI hr1 (kw_binds FI) pass0 (by rfl) m2 (pk_cons (pv 1) pk_nil)))) pss_nil)
      (pss_cons (ps_if (pt_cmpR op_eq (pv 0) pe_int (nomark _)) (pss_one (ps_raise rfl (takes_of rfl rfl rfl rfl) (pmk_kw (kn := "value") c3.oex c3.ini tI GI hr1 (kw_binds FI) pass0 (by rfl) m3 (pk_cons (pv 1) pk_nil)))) pss_nil)
      (pss_cons (ps_if (pt_cmpR op_eq (pv 0) pe_int (nomark _)) (pss_one (ps_raise rfl (takes_of rfl rfl rfl rfl) (pmk_kw (kn := "value") c4.oex c4.ini tI GI hr1 (kw_binds FI) pass0 (by rfl) m4 (pk_cons (pv 1) pk_nil)))) pss_nil)
      (pss_cons (ps_if (pt_cmpR op_eq (pv 0) pe_int (nomark _)) (pss_one (ps_raise rfl (takes_of rfl rfl rfl rfl) (pmk_kw (kn := "value") c5.oex c5.ini tI GI hr1 (kw_binds FI) pass0 (by rfl) m5 (pk_cons (pv 1) pk_nil)))) pss_nil)
      (pss_cons (ps_if (pt_cmpR op_eq (pv 0) pe_int (nomark _)) (pss_one (ps_raise rfl (takes_of rfl rfl rfl rfl) (pmk_kw (kn := "value") c6.oex c6.ini tI GI hr1 (kw_binds FI) pass0 (by rfl) m6 (pk_cons (pv 1) pk_nil)))) pss_nil)
      (pss_cons (ps_if (pt_cmpR op_eq (pv 0) pe_int (nomark _)) (pss_one (ps_raise rfl (takes_of rfl rfl rfl rfl) (pmk_kw (kn := "value") c7.oex c7.ini tI GI hr1 (kw_binds FI) pass0 (by rfl) m7 (pk_cons (pv 1) pk_nil)))) pss_nil)
      (pss_cons (ps_if (pt_cmpR op_eq (pv 0) pe_int (nomark _)) (pss_one (ps_raise rfl (takes_of rfl rfl rfl rfl) (pmk_kw (kn := "value") c8.oex c8.ini tI GI hr1 (kw_binds FI) pass0 (by rfl) m8 (pk_cons (pv 1) pk_nil)))) pss_nil)
      (pss_cons (ps_if (pt_cmpR op_eq (pv 0) pe_int (nomark _)) (pss_one (ps_raise rfl (takes_of rfl rfl rfl rfl) (pmk_kw (kn := "value") c9.oex c9.ini tI GI hr1 (kw_binds FI) pass0 (by rfl) m9 (pk_cons (pv 1) pk_nil)))) pss_nil)
      (pss_cons (ps_if (pt_cmpR op_eq (pv 0) pe_int (nomark _)) (pss_one (ps_raise rfl (takes_of rfl rfl rfl rfl) (pmk_kw (kn := "value") c10.oex c10.ini tI GI hr1 (kw_binds FI) pass0 (by rfl) m10 (pk_cons (pv 1) pk_nil)))) pss_nil)
      (pss_cons (ps_if (pt_cmpR op_eq (pv 0) pe_int (nomark _)) (pss_one (ps_raise rfl (takes_of rfl rfl rfl rfl) (pmk_kw (kn := "value") c11.oex c11.ini tI GI hr1 (kw_binds FI) pass0 (by rfl) m11 (pk_cons (pv 1) pk_nil)))) pss_nil)
      (pss_cons (ps_if (pt_cmpR op_eq (pv 0) pe_int (nomark _)) (pss_one (ps_raise rfl (takes_of rfl rfl rfl rfl) (pmk_kw (kn := "value") c12.oex c12.ini tI GI hr1 (kw_binds FI) pass0 (by rfl) m12 (pk_cons (pv 1) pk_nil)))) pss_nil)
      (pss_cons (ps_if (pt_cmpR op_eq (pv 0) pe_int (nomark _)) (pss_one (ps_raise rfl (takes_of rfl rfl rfl rfl) (pmk_kw (kn := "value") c13.oex c13.ini tI GI hr1 (kw_binds FI) pass0 (by rfl) m13 (pk_cons (pv 1) pk_nil)))) pss_nil)
      (pss_one (ps_raise rfl (takes_of rfl rfl rfl rfl) (pmk_kw (kn := "value") c14.oex c14.ini tI GI hr1 (kw_binds FI) pass0 (by rfl) m14 (pk_cons (pv 1) pk_nil)))))))))))))))))), ?_⟩
    refine ⟨_, rfl, rfl, _, rfl, ite2 (fun z => ?_) (fun z => ?_)⟩
    · have z1 : a = 1 := by injection (of_decide_eq_true z)
      exact ⟨_, rfl, v, rfl, made c0 hd hp (k "InvalidLevel" (by rw [show a = 1 by omega]; rfl))⟩
    have z2 := ne_int (fun q => z (decide_eq_true q))
    refine ⟨_, rfl, rfl, _, rfl, ite2 (fun z => ?_) (fun z => ?_)⟩
    · have z1 : a = 2 := by injection (of_decide_eq_true z)
      exact ⟨_, rfl, v, rfl, made c1 hd hp (k "InvalidKind" (by rw [show a = 2 by omega]; rfl))⟩
    have z3 := ne_int (fun q => z (decide_eq_true q))
    refine ⟨_, rfl, rfl, _, rfl, ite2 (fun z => ?_) (fun z => ?_)⟩
    · have z1 : a = 3 := by injection (of_decide_eq_true z)
      exact ⟨_, rfl, v, rfl, made c2 hd hp (k "InvalidGame" (by rw [show a = 3 by omega]; rfl))⟩
    have z4 := ne_int (fun q => z (decide_eq_true q))
    refine ⟨_, rfl, rfl, _, rfl, ite2 (fun z => ?_) (fun z => ?_)⟩
    · have z1 : a = 4 := by injection (of_decide_eq_true z)
      exact ⟨_, rfl, v, rfl, made c3 hd hp (k "InvalidWorld" (by rw [show a = 4 by omega]; rfl))⟩
    have z5 := ne_int (fun q => z (decide_eq_true q))
    refine ⟨_, rfl, rfl, _, rfl, ite2 (fun z => ?_) (fun z => ?_)⟩
    · have z1 : a = 5 := by injection (of_decide_eq_true z)
      exact ⟨_, rfl, v, rfl, made c4 hd hp (k "InvalidThing" (by rw [show a = 5 by omega]; rfl))⟩
    have z6 := ne_int (fun q => z (decide_eq_true q))
    refine ⟨_, rfl, rfl, _, rfl, ite2 (fun z => ?_) (fun z => ?_)⟩
    · have z1 : a = 6 := by injection (of_decide_eq_true z)
      exact ⟨_, rfl, v, rfl, made c5 hd hp (k "InvalidPress" (by rw [show a = 6 by omega]; rfl))⟩
    have z7 := ne_int (fun q => z (decide_eq_true q))
    refine ⟨_, rfl, rfl, _, rfl, ite2 (fun z => ?_) (fun z => ?_)⟩
    · have z1 : a = 7 := by injection (of_decide_eq_true z)
      exact ⟨_, rfl, v, rfl, made c6 hd hp (k "InvalidRows" (by rw [show a = 7 by omega]; rfl))⟩
    have z8 := ne_int (fun q => z (decide_eq_true q))
    refine ⟨_, rfl, rfl, _, rfl, ite2 (fun z => ?_) (fun z => ?_)⟩
    · have z1 : a = 8 := by injection (of_decide_eq_true z)
      exact ⟨_, rfl, v, rfl, made c7 hd hp (k "InvalidNumber" (by rw [show a = 8 by omega]; rfl))⟩
    have z9 := ne_int (fun q => z (decide_eq_true q))
    refine ⟨_, rfl, rfl, _, rfl, ite2 (fun z => ?_) (fun z => ?_)⟩
    · have z1 : a = 9 := by injection (of_decide_eq_true z)
      exact ⟨_, rfl, v, rfl, made c8 hd hp (k "InvalidSlot" (by rw [show a = 9 by omega]; rfl))⟩
    have z10 := ne_int (fun q => z (decide_eq_true q))
    refine ⟨_, rfl, rfl, _, rfl, ite2 (fun z => ?_) (fun z => ?_)⟩
    · have z1 : a = 10 := by injection (of_decide_eq_true z)
      exact ⟨_, rfl, v, rfl, made c9 hd hp (k "InvalidCell" (by rw [show a = 10 by omega]; rfl))⟩
    have z11 := ne_int (fun q => z (decide_eq_true q))
    refine ⟨_, rfl, rfl, _, rfl, ite2 (fun z => ?_) (fun z => ?_)⟩
    · have z1 : a = 11 := by injection (of_decide_eq_true z)
      exact ⟨_, rfl, v, rfl, made c10 hd hp (k "InvalidTrace" (by rw [show a = 11 by omega]; rfl))⟩
    have z12 := ne_int (fun q => z (decide_eq_true q))
    refine ⟨_, rfl, rfl, _, rfl, ite2 (fun z => ?_) (fun z => ?_)⟩
    · have z1 : a = 12 := by injection (of_decide_eq_true z)
      exact ⟨_, rfl, v, rfl, made c11 hd hp (k "InvalidMenu" (by rw [show a = 12 by omega]; rfl))⟩
    have z13 := ne_int (fun q => z (decide_eq_true q))
    refine ⟨_, rfl, rfl, _, rfl, ite2 (fun z => ?_) (fun z => ?_)⟩
    · have z1 : a = 13 := by injection (of_decide_eq_true z)
      exact ⟨_, rfl, v, rfl, made c12 hd hp (k "InvalidPlan" (by rw [show a = 13 by omega]; rfl))⟩
    have z14 := ne_int (fun q => z (decide_eq_true q))
    refine ⟨_, rfl, rfl, _, rfl, ite2 (fun z => ?_) (fun z => ?_)⟩
    · have z1 : a = 14 := by injection (of_decide_eq_true z)
      exact ⟨_, rfl, v, rfl, made c13 hd hp (k "InvalidPair" (by rw [show a = 14 by omega]; rfl))⟩
    have z15 := ne_int (fun q => z (decide_eq_true q))
    exact ⟨_, rfl, v, rfl, made c14 hd hp (k "InvalidScript" (by rw [show a = 15 by omega]; rfl))⟩
theorem scN2 : FnScope ["which", "given"] ["which", "given"] (defScope sN2) := ⟨rfl, rfl, rfl, by decide +kernel, rfl, by decide +kernel, by decide +kernel⟩
theorem ok_N2 (F : FnQ K "_law_raise_named_second" "_law_raise_named_second" sN2 f fd) (T : Txt K mg) (FI : FnQ K "__init__" "GameError.__init__" sInit (iAd K) fdI) : FnOk P w K mg base (L2.CX P w) 3 f fd ["which", "given"] (spR K 16 30) := by
  have GI : FnOk P w K mg base CX0 1 (iAd K) fdI ["self", "value"] (spInit K) := ok_init FI T
  have bI : Binds K fdI ["self", "value"] [] := FI.bindsN fun _ _ _ _ _ _ us hl => match us, hl with | [_, _], _ => rfl
  have tI := tI_of T.ex
  have m0 := T.cl "InvalidCode" (by decide +kernel)
  have c0 := (cf_of T.ex (x := "InvalidCode") (by decide +kernel)).2
  have m1 := T.cl "InvalidKnown" (by decide +kernel)
  have c1 := (cf_of T.ex (x := "InvalidKnown") (by decide +kernel)).2
  have m2 := T.cl "InvalidTick" (by decide +kernel)
  have c2 := (cf_of T.ex (x := "InvalidTick") (by decide +kernel)).2
  have m3 := T.cl "InvalidHouse" (by decide +kernel)
  have c3 := (cf_of T.ex (x := "InvalidHouse") (by decide +kernel)).2
  have m4 := T.cl "InvalidLetter" (by decide +kernel)
  have c4 := (cf_of T.ex (x := "InvalidLetter") (by decide +kernel)).2
  have m5 := T.cl "InvalidPlace" (by decide +kernel)
  have c5 := (cf_of T.ex (x := "InvalidPlace") (by decide +kernel)).2
  have m6 := T.cl "InvalidPaper" (by decide +kernel)
  have c6 := (cf_of T.ex (x := "InvalidPaper") (by decide +kernel)).2
  have m7 := T.cl "InvalidName" (by decide +kernel)
  have c7 := (cf_of T.ex (x := "InvalidName") (by decide +kernel)).2
  have m8 := T.cl "UnknownName" (by decide +kernel)
  have c8 := (cf_of T.ex (x := "UnknownName") (by decide +kernel)).2
  have m9 := T.cl "WrongKind" (by decide +kernel)
  have c9 := (cf_of T.ex (x := "WrongKind") (by decide +kernel)).2
  have m10 := T.cl "NothingToUndo" (by decide +kernel)
  have c10 := (cf_of T.ex (x := "NothingToUndo") (by decide +kernel)).2
  have m11 := T.cl "Unreadable" (by decide +kernel)
  have c11 := (cf_of T.ex (x := "Unreadable") (by decide +kernel)).2
  have m12 := T.cl "Unorderly" (by decide +kernel)
  have c12 := (cf_of T.ex (x := "Unorderly") (by decide +kernel)).2
  have m13 := T.cl "Clash" (by decide +kernel)
  have c13 := (cf_of T.ex (x := "Clash") (by decide +kernel)).2
  have m14 := T.cl "Left" (by decide +kernel)
  have c14 := (cf_of T.ex (x := "Left") (by decide +kernel)).2
  refine F.ok scN2 (fun vs H Q E h => ?_) (fun cdv A outer s H vs Q E hr h => ?_)
  · obtain ⟨a, v, d, rfl, _⟩ := h
    rfl
  · obtain ⟨a, v, d, rfl, h1, h2, hd, hp, k⟩ := h
    have hr1 : Room 2 _ := hr
    refine ⟨_,
      (pss_cons (ps_if (pt_cmpR op_eq (pv 0) pe_int (nomark _)) (pss_one (ps_raise rfl (takes_of rfl rfl rfl rfl) (pmk_kw (kn := "value") c0.oex c0.ini tI GI hr1 (kw_binds FI) pass0 (by rfl) m0 (pk_cons (pv 1) pk_nil)))) pss_nil)
      (pss_cons (ps_if (pt_cmpR op_eq (pv 0) pe_int (nomark _)) (pss_one (ps_raise rfl (takes_of rfl rfl rfl rfl) (pmk_kw (kn := "value") c1.oex c1.ini tI GI hr1 (kw_binds FI) pass0 (by rfl) m1 (pk_cons (pv 1) pk_nil)))) pss_nil)
      (pss_cons (ps_if (pt_cmpR op_eq (pv 0) pe_int (nomark _)) (pss_one (ps_raise rfl (takes_of rfl rfl rfl rfl) (pmk_kw (kn := "value") c2.oex c2.ini tI GI hr1 (kw_binds FI) pass0 (by rfl) m2 (pk_cons (pv 1) pk_nil)))) pss_nil)
      (pss_cons (ps_if (pt_cmpR op_eq (pv 0) pe_int (nomark _)) (pss_one (ps_raise rfl (takes_of rfl rfl rfl rfl) (pmk_kw (kn := "value") c3.oex c3.ini tI GI hr1 (kw_binds FI) pass0 (by rfl) m3 (pk_cons (pv 1) pk_nil)))) pss_nil)
      (pss_cons (ps_if (pt_cmpR op_eq (pv 0) pe_int (nomark _)) (pss_one (ps_raise rfl (takes_of rfl rfl rfl rfl) (pmk_kw (kn := "value") c4.oex c4.ini tI GI hr1 (kw_binds FI) pass0 (by rfl) m4 (pk_cons (pv 1) pk_nil)))) pss_nil)
      (pss_cons (ps_if (pt_cmpR op_eq (pv 0) pe_int (nomark _)) (pss_one (ps_raise rfl (takes_of rfl rfl rfl rfl) (pmk_kw (kn := "value") c5.oex c5.ini tI GI hr1 (kw_binds FI) pass0 (by rfl) m5 (pk_cons (pv 1) pk_nil)))) pss_nil)
      (pss_cons (ps_if (pt_cmpR op_eq (pv 0) pe_int (nomark _)) (pss_one (ps_raise rfl (takes_of rfl rfl rfl rfl) (pmk_kw (kn := "value") c6.oex c6.ini tI GI hr1 (kw_binds FI) pass0 (by rfl) m6 (pk_cons (pv 1) pk_nil)))) pss_nil)
      (pss_cons (ps_if (pt_cmpR op_eq (pv 0) pe_int (nomark _)) (pss_one (ps_raise rfl (takes_of rfl rfl rfl rfl) (pmk_kw (kn := "value") c7.oex c7.ini tI GI hr1 (kw_binds FI) pass0 (by rfl) m7 (pk_cons (pv 1) pk_nil)))) pss_nil)
      (pss_cons (ps_if (pt_cmpR op_eq (pv 0) pe_int (nomark _)) (pss_one (ps_raise rfl (takes_of rfl rfl rfl rfl) (pmk_kw (kn := "value") c8.oex c8.ini tI GI hr1 (kw_binds FI) pass0 (by rfl) m8 (pk_cons (pv 1) pk_nil)))) pss_nil)
      (pss_cons (ps_if (pt_cmpR op_eq (pv 0) pe_int (nomark _)) (pss_one (ps_raise rfl (takes_of rfl rfl rfl rfl) (pmk_kw (kn := "value") c9.oex c9.ini tI GI hr1 (kw_binds FI) pass0 (by rfl) m9 (pk_cons (pv 1) pk_nil)))) pss_nil)
      (pss_cons (ps_if (pt_cmpR op_eq (pv 0) pe_int (nomark _)) (pss_one (ps_raise rfl (takes_of rfl rfl rfl rfl) (pmk_kw (kn := "value") c10.oex c10.ini tI GI hr1 (kw_binds FI) pass0 (by rfl) m10 (pk_cons (pv 1) pk_nil)))) pss_nil)
      (pss_cons (ps_if (pt_cmpR op_eq (pv 0) pe_int (nomark _)) (pss_one (ps_raise rfl (takes_of rfl rfl rfl rfl) (pmk_kw (kn := "value") c11.oex c11.ini tI GI hr1 (kw_binds FI) pass0 (by rfl) m11 (pk_cons (pv 1) pk_nil)))) pss_nil)
      (pss_cons (ps_if (pt_cmpR op_eq (pv 0) pe_int (nomark _)) (pss_one (ps_raise rfl (takes_of rfl rfl rfl rfl) (pmk_kw (kn := "value") c12.oex c12.ini tI GI hr1 (kw_binds FI) pass0 (by rfl) m12 (pk_cons (pv 1) pk_nil)))) pss_nil)
      (pss_cons (ps_if (pt_cmpR op_eq (pv 0) pe_int (nomark _)) (pss_one (ps_raise rfl (takes_of rfl rfl rfl rfl) (pmk_kw (kn := "value") c13.oex c13.ini tI GI hr1 (kw_binds FI) pass0 (by rfl) m13 (pk_cons (pv 1) pk_nil)))) pss_nil)
      (pss_one (ps_raise rfl (takes_of rfl rfl rfl rfl) (pmk_kw (kn := "value") c14.oex c14.ini tI GI hr1 (kw_binds FI) pass0 (by rfl) m14 (pk_cons (pv 1) pk_nil)))))))))))))))))), ?_⟩
    refine ⟨_, rfl, rfl, _, rfl, ite2 (fun z => ?_) (fun z => ?_)⟩
    · have z1 : a = 16 := by injection (of_decide_eq_true z)
      exact ⟨_, rfl, v, rfl, made c0 hd hp (k "InvalidCode" (by rw [show a = 16 by omega]; rfl))⟩
    have z2 := ne_int (fun q => z (decide_eq_true q))
    refine ⟨_, rfl, rfl, _, rfl, ite2 (fun z => ?_) (fun z => ?_)⟩
    · have z1 : a = 17 := by injection (of_decide_eq_true z)
      exact ⟨_, rfl, v, rfl, made c1 hd hp (k "InvalidKnown" (by rw [show a = 17 by omega]; rfl))⟩
    have z3 := ne_int (fun q => z (decide_eq_true q))
    refine ⟨_, rfl, rfl, _, rfl, ite2 (fun z => ?_) (fun z => ?_)⟩
    · have z1 : a = 18 := by injection (of_decide_eq_true z)
      exact ⟨_, rfl, v, rfl, made c2 hd hp (k "InvalidTick" (by rw [show a = 18 by omega]; rfl))⟩
    have z4 := ne_int (fun q => z (decide_eq_true q))
    refine ⟨_, rfl, rfl, _, rfl, ite2 (fun z => ?_) (fun z => ?_)⟩
    · have z1 : a = 19 := by injection (of_decide_eq_true z)
      exact ⟨_, rfl, v, rfl, made c3 hd hp (k "InvalidHouse" (by rw [show a = 19 by omega]; rfl))⟩
    have z5 := ne_int (fun q => z (decide_eq_true q))
    refine ⟨_, rfl, rfl, _, rfl, ite2 (fun z => ?_) (fun z => ?_)⟩
    · have z1 : a = 20 := by injection (of_decide_eq_true z)
      exact ⟨_, rfl, v, rfl, made c4 hd hp (k "InvalidLetter" (by rw [show a = 20 by omega]; rfl))⟩
    have z6 := ne_int (fun q => z (decide_eq_true q))
    refine ⟨_, rfl, rfl, _, rfl, ite2 (fun z => ?_) (fun z => ?_)⟩
    · have z1 : a = 21 := by injection (of_decide_eq_true z)
      exact ⟨_, rfl, v, rfl, made c5 hd hp (k "InvalidPlace" (by rw [show a = 21 by omega]; rfl))⟩
    have z7 := ne_int (fun q => z (decide_eq_true q))
    refine ⟨_, rfl, rfl, _, rfl, ite2 (fun z => ?_) (fun z => ?_)⟩
    · have z1 : a = 22 := by injection (of_decide_eq_true z)
      exact ⟨_, rfl, v, rfl, made c6 hd hp (k "InvalidPaper" (by rw [show a = 22 by omega]; rfl))⟩
    have z8 := ne_int (fun q => z (decide_eq_true q))
    refine ⟨_, rfl, rfl, _, rfl, ite2 (fun z => ?_) (fun z => ?_)⟩
    · have z1 : a = 23 := by injection (of_decide_eq_true z)
      exact ⟨_, rfl, v, rfl, made c7 hd hp (k "InvalidName" (by rw [show a = 23 by omega]; rfl))⟩
    have z9 := ne_int (fun q => z (decide_eq_true q))
    refine ⟨_, rfl, rfl, _, rfl, ite2 (fun z => ?_) (fun z => ?_)⟩
    · have z1 : a = 24 := by injection (of_decide_eq_true z)
      exact ⟨_, rfl, v, rfl, made c8 hd hp (k "UnknownName" (by rw [show a = 24 by omega]; rfl))⟩
    have z10 := ne_int (fun q => z (decide_eq_true q))
    refine ⟨_, rfl, rfl, _, rfl, ite2 (fun z => ?_) (fun z => ?_)⟩
    · have z1 : a = 25 := by injection (of_decide_eq_true z)
      exact ⟨_, rfl, v, rfl, made c9 hd hp (k "WrongKind" (by rw [show a = 25 by omega]; rfl))⟩
    have z11 := ne_int (fun q => z (decide_eq_true q))
    refine ⟨_, rfl, rfl, _, rfl, ite2 (fun z => ?_) (fun z => ?_)⟩
    · have z1 : a = 26 := by injection (of_decide_eq_true z)
      exact ⟨_, rfl, v, rfl, made c10 hd hp (k "NothingToUndo" (by rw [show a = 26 by omega]; rfl))⟩
    have z12 := ne_int (fun q => z (decide_eq_true q))
    refine ⟨_, rfl, rfl, _, rfl, ite2 (fun z => ?_) (fun z => ?_)⟩
    · have z1 : a = 27 := by injection (of_decide_eq_true z)
      exact ⟨_, rfl, v, rfl, made c11 hd hp (k "Unreadable" (by rw [show a = 27 by omega]; rfl))⟩
    have z13 := ne_int (fun q => z (decide_eq_true q))
    refine ⟨_, rfl, rfl, _, rfl, ite2 (fun z => ?_) (fun z => ?_)⟩
    · have z1 : a = 28 := by injection (of_decide_eq_true z)
      exact ⟨_, rfl, v, rfl, made c12 hd hp (k "Unorderly" (by rw [show a = 28 by omega]; rfl))⟩
    have z14 := ne_int (fun q => z (decide_eq_true q))
    refine ⟨_, rfl, rfl, _, rfl, ite2 (fun z => ?_) (fun z => ?_)⟩
    · have z1 : a = 29 := by injection (of_decide_eq_true z)
      exact ⟨_, rfl, v, rfl, made c13 hd hp (k "Clash" (by rw [show a = 29 by omega]; rfl))⟩
    have z15 := ne_int (fun q => z (decide_eq_true q))
    exact ⟨_, rfl, v, rfl, made c14 hd hp (k "Left" (by rw [show a = 30 by omega]; rfl))⟩
end
end K0
set_option maxRecDepth 100000
set_option maxHeartbeats 4000000
/-! The errors caught: their classes, their value. -/
namespace K0
open PySem PySem.Spec PyProof.Rows L2 KC
def rIsP (K : PySem.W.Frag) (D a d : Addr) : List V → Hp → VK → Prop := fun xs H Q => ∃ (c : V) (cv : Value) (b : Bool) (fs : List (Str × V)), xs = [.ref a, c] ∧ (∀ u, RelV c u → u = cv) ∧ H d = some (.xd fs) ∧ PySem.W.kitOne K (.ref D) cv = some b ∧ Q (.bl b) H
theorem call_isP {X : Cx} {a D d : Addr} {oe : Obj} (hp : (a, oe) ∈ X.pn) (C : ExcC X.K D) (hz : Zc (.ref D) (some d) oe) (hf : ∃ vs, oe.data = .fields vs) : CallR X (.builtin "isinstance") (rIsP X.K D a d) := by
  intro pins s σ H xs us Q I r h
  obtain ⟨c, cv, b, fs, rfl, hcv, hd, e, q⟩ := h
  cases r with
  | cons rx rr =>
    cases rr with
    | cons rt rr =>
      cases rr
      cases rx
      have ec := hcv _ rt
      subst ec
      obtain ⟨hget, _⟩ := I.pin (a, oe) (List.mem_append_left _ hp)
      obtain ⟨vs, hv⟩ := hf
      have hx : ObjOk X.prog X.w H s.heap d (.xd fs) := I.hok d _ hd
      obtain ⟨mA, hns, _⟩ := hx
      obtain ⟨od, ho, _⟩ := lookIn_ns hns
      have J : PySem.W.InstAt s.heap a oe D (some od) := ⟨hget, hz.1, by unfold PySem.W.notCls; rw [hv] <;> rfl, by rw [hz.2]; exact ho⟩
      obtain ⟨cd, hcd, _⟩ := PySem.W.any_some C.hd
      exact PySem.W.kia_one (PySem.W.kitx_exc (by rw [hcd]; rfl) C.hg C.hk C.hs C.ha C.hn C.ht C.hm) I.kIn J e (fun z => nomatch z) fun tk => ⟨.bl b, H, I.kept (t' := tk) fun _ _ z => z, rfl, q⟩
section
variable {P : Program} {w : World} {K : PySem.W.Frag} {mg : Str → Option Value} {base : Heap} {f fI fA fB fC fD : Addr} {fd fdI fdA fdB fdC fdD : FuncData}
/-! ### _law_raised -/
def spRaised (K : PySem.W.Frag) : Sp := fun vs H _ E => ∃ (w : Int) (v : V) (d : PyData) (nm : Bool), vs = [.int w, v, .bl nm] ∧ 1 ≤ w ∧ w ≤ 30 ∧ Dp K H v d ∧ Rp 3 d ∧
  ∀ (x : Str), cs[(w - 1).toNat]? = some x → ∀ dx, H dx = none → E (.ref (He.ga K x)) (some dx) (upd H dx (.xd [(("value" : Str), v)]))
theorem scRd : FnScope ["which", "given", "named"] ["which", "given", "named"] (defScope sRaised) := ⟨rfl, rfl, rfl, by decide +kernel, rfl, by decide +kernel, by decide +kernel⟩
theorem ok_raised (F : FnQ K "_law_raised" "_law_raised" sRaised f fd) (T : Txt K mg) (FI : FnQ K "__init__" "GameError.__init__" sInit (iAd K) fdI)
    (FA : FnQ K "_law_raise_first" "_law_raise_first" sR1 fA fdA) (gA : mg "_law_raise_first" = some (.ref fA)) (FB : FnQ K "_law_raise_second" "_law_raise_second" sR2 fB fdB) (gB : mg "_law_raise_second" = some (.ref fB))
    (FC : FnQ K "_law_raise_named_first" "_law_raise_named_first" sN1 fC fdC) (gC : mg "_law_raise_named_first" = some (.ref fC)) (FD : FnQ K "_law_raise_named_second" "_law_raise_named_second" sN2 fD fdD) (gD : mg "_law_raise_named_second" = some (.ref fD)) :
    FnOk P w K mg base (L2.CX P w) 4 f fd ["which", "given", "named"] (spRaised K) := by
  have GA : FnOk P w K mg base (L2.CX P w) 3 fA fdA ["which", "given"] (spR K 1 15) := ok_R1 FA T FI
  have GB : FnOk P w K mg base (L2.CX P w) 3 fB fdB ["which", "given"] (spR K 16 30) := ok_R2 FB T FI
  have GC : FnOk P w K mg base (L2.CX P w) 3 fC fdC ["which", "given"] (spR K 1 15) := ok_N1 FC T FI
  have GD : FnOk P w K mg base (L2.CX P w) 3 fD fdD ["which", "given"] (spR K 16 30) := ok_N2 FD T FI
  have bA : Binds K fdA ["which", "given"] [] := FA.bindsN fun _ _ _ _ _ _ us hl => match us, hl with | [_, _], _ => rfl
  have bB : Binds K fdB ["which", "given"] [] := FB.bindsN fun _ _ _ _ _ _ us hl => match us, hl with | [_, _], _ => rfl
  have bC : Binds K fdC ["which", "given"] [] := FC.bindsN fun _ _ _ _ _ _ us hl => match us, hl with | [_, _], _ => rfl
  have bD : Binds K fdD ["which", "given"] [] := FD.bindsN fun _ _ _ _ _ _ us hl => match us, hl with | [_, _], _ => rfl
  refine F.ok scRd (fun vs H Q E h => ?_) (fun cdv A outer s H vs Q E hr h => ?_)
  · obtain ⟨a, v, d, nm, rfl, _⟩ := h
    rfl
  · obtain ⟨a, v, d, nm, rfl, h1, h2, hd, hp, k⟩ := h
    have hr1 : Room 3 _ := hr
    refine ⟨_, pss_cons (ps_if (PW.pt (pw_and (pt_val (pv 2)) (pw_and1 (pt_cmpR op_lt (pv 0) pe_int (nomark _)))))
        (pss_one (ps_expr (pe_callS GC hr1 (by rfl) gC FC.kp bC (fun σ => passAt (takes_of rfl rfl rfl rfl) σ) (pa_cons (pv 0) (pa_cons (pv 1) pa_nil))))) pss_nil)
      (pss_cons (ps_if (pt_val (pv 2)) (pss_one (ps_expr (pe_callS GD hr1 (by rfl) gD FD.kp bD (fun σ => passAt (takes_of rfl rfl rfl rfl) σ) (pa_cons (pv 0) (pa_cons (pv 1) pa_nil))))) pss_nil)
      (pss_cons (ps_if (pt_cmpR op_lt (pv 0) pe_int (nomark _)) (pss_one (ps_expr (pe_callS GA hr1 (by rfl) gA FA.kp bA (fun σ => passAt (takes_of rfl rfl rfl rfl) σ) (pa_cons (pv 0) (pa_cons (pv 1) pa_nil))))) pss_nil)
      (pss_one (ps_expr (pe_callS GB hr1 (by rfl) gB FB.kp bB (fun σ => passAt (takes_of rfl rfl rfl rfl) σ) (pa_cons (pv 0) (pa_cons (pv 1) pa_nil))))))), ?_⟩
    cases nm with
    | true =>
      refine ⟨_, rfl, true, rfl, iteT ⟨_, rfl, _, _, rfl, rfl, _, rfl, ?_⟩⟩
      refine ite2 (fun z => ?_) (fun z => ?_)
      · have z1 := of_decide_eq_true z
        exact ⟨_, rfl, _, rfl, a, v, d, rfl, h1, by omega, hd, hp, k⟩
      · have z1 : ¬ a < 16 := fun q => z (decide_eq_true q)
        exact ⟨_, rfl, true, rfl, iteT ⟨_, rfl, _, rfl, a, v, d, rfl, by omega, h2, hd, hp, k⟩⟩
    | false =>
      refine ⟨_, rfl, false, rfl, iteF (iteF ⟨_, rfl, false, rfl, iteF ⟨_, rfl, _, _, rfl, rfl, _, rfl, ?_⟩⟩)⟩
      refine ite2 (fun z => ?_) (fun z => ?_)
      · have z1 := of_decide_eq_true z
        exact ⟨_, rfl, _, rfl, a, v, d, rfl, h1, by omega, hd, hp, k⟩
      · have z1 : ¬ a < 16 := fun q => z (decide_eq_true q)
        exact ⟨_, rfl, _, rfl, a, v, d, rfl, by omega, h2, hd, hp, k⟩
/-! ### _law_classes(e), e the caught error -/
theorem new_same {H : Hp} {p : Addr} {o : HO} (h : H p = none) : Same H (upd H p o) := fun b u z => by
  rw [upd_ne (ne_of_none z h)]
  exact z
def spClasses (x : Str) (a d : Addr) : Sp := fun vs H Q _ => vs = [.ref a] ∧ (∃ fs, H d = some (.xd fs)) ∧ ∀ l H', Same H H' → H l = none → H' l = some (.lst (cs.map fun y => V.bl (decide (x = y)))) → Q (.ref l) H'
theorem scC : FnScope ["e", "first"] ["e"] (defScope sClasses) := ⟨rfl, rfl, rfl, by decide +kernel, rfl, by decide +kernel, by decide +kernel⟩
theorem ok_classes (F : FnQ K "_law_classes" "_law_classes" sClasses f fd) (T : Txt K mg) {x : Str} (hx : x ∈ cs) {a d : Addr} {oe : Obj} (hz : Zc (.ref (He.ga K x)) (some d) oe) (hf : ∃ vs, oe.data = .fields vs) :
    FnP P w K mg base 1 f fd ["e"] (a, oe) (spClasses x a d) := by
  have X := (cf_of T.ex hx).2.exc
  have y0 : ("InvalidLevel" : Str) ∈ cs := by decide +kernel
  have y1 : ("InvalidKind" : Str) ∈ cs := by decide +kernel
  have y2 : ("InvalidGame" : Str) ∈ cs := by decide +kernel
  have y3 : ("InvalidWorld" : Str) ∈ cs := by decide +kernel
  have y4 : ("InvalidThing" : Str) ∈ cs := by decide +kernel
  have y5 : ("InvalidPress" : Str) ∈ cs := by decide +kernel
  have y6 : ("InvalidRows" : Str) ∈ cs := by decide +kernel
  have y7 : ("InvalidNumber" : Str) ∈ cs := by decide +kernel
  have y8 : ("InvalidSlot" : Str) ∈ cs := by decide +kernel
  have y9 : ("InvalidCell" : Str) ∈ cs := by decide +kernel
  have y10 : ("InvalidTrace" : Str) ∈ cs := by decide +kernel
  have y11 : ("InvalidMenu" : Str) ∈ cs := by decide +kernel
  have y12 : ("InvalidPlan" : Str) ∈ cs := by decide +kernel
  have y13 : ("InvalidPair" : Str) ∈ cs := by decide +kernel
  have y14 : ("InvalidScript" : Str) ∈ cs := by decide +kernel
  have y15 : ("InvalidCode" : Str) ∈ cs := by decide +kernel
  have y16 : ("InvalidKnown" : Str) ∈ cs := by decide +kernel
  have y17 : ("InvalidTick" : Str) ∈ cs := by decide +kernel
  have y18 : ("InvalidHouse" : Str) ∈ cs := by decide +kernel
  have y19 : ("InvalidLetter" : Str) ∈ cs := by decide +kernel
  have y20 : ("InvalidPlace" : Str) ∈ cs := by decide +kernel
  have y21 : ("InvalidPaper" : Str) ∈ cs := by decide +kernel
  have y22 : ("InvalidName" : Str) ∈ cs := by decide +kernel
  have y23 : ("UnknownName" : Str) ∈ cs := by decide +kernel
  have y24 : ("WrongKind" : Str) ∈ cs := by decide +kernel
  have y25 : ("NothingToUndo" : Str) ∈ cs := by decide +kernel
  have y26 : ("Unreadable" : Str) ∈ cs := by decide +kernel
  have y27 : ("Unorderly" : Str) ∈ cs := by decide +kernel
  have y28 : ("Clash" : Str) ∈ cs := by decide +kernel
  have y29 : ("Left" : Str) ∈ cs := by decide +kernel
  refine fnp_of F scC (fun vs H Q E h => ?_) (fun cdv A outer s H vs Q h => ?_)
  · obtain ⟨rfl, _⟩ := h
    rfl
  · obtain ⟨rfl, ⟨fs, hd⟩, k⟩ := h
    have hpn : (a, oe) ∈ [(a, oe)] := List.mem_cons_self ..
    refine ⟨_, pss_cons (ps_set (i := 1) scC.nd rfl (Or.inl rfl) (pe_lst (pa_cons (pe_callB (call_isP hpn X hz hf) (by rfl) T.isi PyProof.Rows.Boot.«isinstance» (pa_cons (pv 0) (pa_cons (pe_glob (v := .ref _) (by rfl) (T.cl _ y0) rfl) pa_nil))) (pa_cons (pe_callB (call_isP hpn X hz hf) (by rfl) T.isi PyProof.Rows.Boot.«isinstance» (pa_cons (pv 0) (pa_cons (pe_glob (v := .ref _) (by rfl) (T.cl _ y1) rfl) pa_nil))) (pa_cons (pe_callB (call_isP hpn X hz hf) (by rfl) T.isi PyProof.Rows.Boot.«isinstance» (pa_cons (pv 0) (pa_cons (pe_glob (v := .ref _) (by rfl) (T.cl _ y2) rfl) pa_nil))) pa_nil)))))
      (pss_cons (ps_set (i := 1) scC.nd rfl (Or.inl rfl) (pe_op op_cat (pv 1) (pe_lst (pa_cons (pe_callB (call_isP hpn X hz hf) (by rfl) T.isi PyProof.Rows.Boot.«isinstance» (pa_cons (pv 0) (pa_cons (pe_glob (v := .ref _) (by rfl) (T.cl _ y3) rfl) pa_nil))) (pa_cons (pe_callB (call_isP hpn X hz hf) (by rfl) T.isi PyProof.Rows.Boot.«isinstance» (pa_cons (pv 0) (pa_cons (pe_glob (v := .ref _) (by rfl) (T.cl _ y4) rfl) pa_nil))) (pa_cons (pe_callB (call_isP hpn X hz hf) (by rfl) T.isi PyProof.Rows.Boot.«isinstance» (pa_cons (pv 0) (pa_cons (pe_glob (v := .ref _) (by rfl) (T.cl _ y5) rfl) pa_nil))) pa_nil))))))
      (pss_cons (ps_set (i := 1) scC.nd rfl (Or.inl rfl) (pe_op op_cat (pv 1) (pe_lst (pa_cons (pe_callB (call_isP hpn X hz hf) (by rfl) T.isi PyProof.Rows.Boot.«isinstance» (pa_cons (pv 0) (pa_cons (pe_glob (v := .ref _) (by rfl) (T.cl _ y6) rfl) pa_nil))) (pa_cons (pe_callB (call_isP hpn X hz hf) (by rfl) T.isi PyProof.Rows.Boot.«isinstance» (pa_cons (pv 0) (pa_cons (pe_glob (v := .ref _) (by rfl) (T.cl _ y7) rfl) pa_nil))) (pa_cons (pe_callB (call_isP hpn X hz hf) (by rfl) T.isi PyProof.Rows.Boot.«isinstance» (pa_cons (pv 0) (pa_cons (pe_glob (v := .ref _) (by rfl) (T.cl _ y8) rfl) pa_nil))) pa_nil))))))
      (pss_cons (ps_set (i := 1) scC.nd rfl (Or.inl rfl) (pe_op op_cat (pv 1) (pe_lst (pa_cons (pe_callB (call_isP hpn X hz hf) (by rfl) T.isi PyProof.Rows.Boot.«isinstance» (pa_cons (pv 0) (pa_cons (pe_glob (v := .ref _) (by rfl) (T.cl _ y9) rfl) pa_nil))) (pa_cons (pe_callB (call_isP hpn X hz hf) (by rfl) T.isi PyProof.Rows.Boot.«isinstance» (pa_cons (pv 0) (pa_cons (pe_glob (v := .ref _) (by rfl) (T.cl _ y10) rfl) pa_nil))) (pa_cons (pe_callB (call_isP hpn X hz hf) (by rfl) T.isi PyProof.Rows.Boot.«isinstance» (pa_cons (pv 0) (pa_cons (pe_glob (v := .ref _) (by rfl) (T.cl _ y11) rfl) pa_nil))) pa_nil))))))
      (pss_cons (ps_set (i := 1) scC.nd rfl (Or.inl rfl) (pe_op op_cat (pv 1) (pe_lst (pa_cons (pe_callB (call_isP hpn X hz hf) (by rfl) T.isi PyProof.Rows.Boot.«isinstance» (pa_cons (pv 0) (pa_cons (pe_glob (v := .ref _) (by rfl) (T.cl _ y12) rfl) pa_nil))) (pa_cons (pe_callB (call_isP hpn X hz hf) (by rfl) T.isi PyProof.Rows.Boot.«isinstance» (pa_cons (pv 0) (pa_cons (pe_glob (v := .ref _) (by rfl) (T.cl _ y13) rfl) pa_nil))) (pa_cons (pe_callB (call_isP hpn X hz hf) (by rfl) T.isi PyProof.Rows.Boot.«isinstance» (pa_cons (pv 0) (pa_cons (pe_glob (v := .ref _) (by rfl) (T.cl _ y14) rfl) pa_nil))) pa_nil))))))
      (pss_cons (ps_set (i := 1) scC.nd rfl (Or.inl rfl) (pe_op op_cat (pv 1) (pe_lst (pa_cons (pe_callB (call_isP hpn X hz hf) (by rfl) T.isi PyProof.Rows.Boot.«isinstance» (pa_cons (pv 0) (pa_cons (pe_glob (v := .ref _) (by rfl) (T.cl _ y15) rfl) pa_nil))) (pa_cons (pe_callB (call_isP hpn X hz hf) (by rfl) T.isi PyProof.Rows.Boot.«isinstance» (pa_cons (pv 0) (pa_cons (pe_glob (v := .ref _) (by rfl) (T.cl _ y16) rfl) pa_nil))) (pa_cons (pe_callB (call_isP hpn X hz hf) (by rfl) T.isi PyProof.Rows.Boot.«isinstance» (pa_cons (pv 0) (pa_cons (pe_glob (v := .ref _) (by rfl) (T.cl _ y17) rfl) pa_nil))) pa_nil))))))
      (pss_cons (ps_set (i := 1) scC.nd rfl (Or.inl rfl) (pe_op op_cat (pv 1) (pe_lst (pa_cons (pe_callB (call_isP hpn X hz hf) (by rfl) T.isi PyProof.Rows.Boot.«isinstance» (pa_cons (pv 0) (pa_cons (pe_glob (v := .ref _) (by rfl) (T.cl _ y18) rfl) pa_nil))) (pa_cons (pe_callB (call_isP hpn X hz hf) (by rfl) T.isi PyProof.Rows.Boot.«isinstance» (pa_cons (pv 0) (pa_cons (pe_glob (v := .ref _) (by rfl) (T.cl _ y19) rfl) pa_nil))) (pa_cons (pe_callB (call_isP hpn X hz hf) (by rfl) T.isi PyProof.Rows.Boot.«isinstance» (pa_cons (pv 0) (pa_cons (pe_glob (v := .ref _) (by rfl) (T.cl _ y20) rfl) pa_nil))) pa_nil))))))
      (pss_cons (ps_set (i := 1) scC.nd rfl (Or.inl rfl) (pe_op op_cat (pv 1) (pe_lst (pa_cons (pe_callB (call_isP hpn X hz hf) (by rfl) T.isi PyProof.Rows.Boot.«isinstance» (pa_cons (pv 0) (pa_cons (pe_glob (v := .ref _) (by rfl) (T.cl _ y21) rfl) pa_nil))) (pa_cons (pe_callB (call_isP hpn X hz hf) (by rfl) T.isi PyProof.Rows.Boot.«isinstance» (pa_cons (pv 0) (pa_cons (pe_glob (v := .ref _) (by rfl) (T.cl _ y22) rfl) pa_nil))) (pa_cons (pe_callB (call_isP hpn X hz hf) (by rfl) T.isi PyProof.Rows.Boot.«isinstance» (pa_cons (pv 0) (pa_cons (pe_glob (v := .ref _) (by rfl) (T.cl _ y23) rfl) pa_nil))) pa_nil))))))
      (pss_cons (ps_set (i := 1) scC.nd rfl (Or.inl rfl) (pe_op op_cat (pv 1) (pe_lst (pa_cons (pe_callB (call_isP hpn X hz hf) (by rfl) T.isi PyProof.Rows.Boot.«isinstance» (pa_cons (pv 0) (pa_cons (pe_glob (v := .ref _) (by rfl) (T.cl _ y24) rfl) pa_nil))) (pa_cons (pe_callB (call_isP hpn X hz hf) (by rfl) T.isi PyProof.Rows.Boot.«isinstance» (pa_cons (pv 0) (pa_cons (pe_glob (v := .ref _) (by rfl) (T.cl _ y25) rfl) pa_nil))) (pa_cons (pe_callB (call_isP hpn X hz hf) (by rfl) T.isi PyProof.Rows.Boot.«isinstance» (pa_cons (pv 0) (pa_cons (pe_glob (v := .ref _) (by rfl) (T.cl _ y26) rfl) pa_nil))) pa_nil))))))
      (pss_one (ps_ret (pe_op op_cat (pv 1) (pe_lst (pa_cons (pe_callB (call_isP hpn X hz hf) (by rfl) T.isi PyProof.Rows.Boot.«isinstance» (pa_cons (pv 0) (pa_cons (pe_glob (v := .ref _) (by rfl) (T.cl _ y27) rfl) pa_nil))) (pa_cons (pe_callB (call_isP hpn X hz hf) (by rfl) T.isi PyProof.Rows.Boot.«isinstance» (pa_cons (pv 0) (pa_cons (pe_glob (v := .ref _) (by rfl) (T.cl _ y28) rfl) pa_nil))) (pa_cons (pe_callB (call_isP hpn X hz hf) (by rfl) T.isi PyProof.Rows.Boot.«isinstance» (pa_cons (pv 0) (pa_cons (pe_glob (v := .ref _) (by rfl) (T.cl _ y29) rfl) pa_nil))) pa_nil))))))))))))))), ?_⟩
    refine ⟨_, rfl, _, _, _, fs, rfl, (fun _ r => r), hd, kit_of2 T.ex hx y0, _, rfl, _, _, _, fs, rfl, (fun _ r => r), hd, kit_of2 T.ex hx y1, _, rfl, _, _, _, fs, rfl, (fun _ r => r), hd, kit_of2 T.ex hx y2, (show 3 ≤ sizeLine by decide), fun p0 n0 => ?_⟩
    have e0 : ∀ o, Same H (upd H p0 o) := fun o => new_same n0
    have d0 := fun o => e0 o d _ hd
    refine ⟨_, rfl, _, rfl, _, _, _, fs, rfl, (fun _ r => r), (d0 _), kit_of2 T.ex hx y3, _, rfl, _, _, _, fs, rfl, (fun _ r => r), (d0 _), kit_of2 T.ex hx y4, _, rfl, _, _, _, fs, rfl, (fun _ r => r), (d0 _), kit_of2 T.ex hx y5, (show 3 ≤ sizeLine by decide), fun p1 n1 => ?_⟩
    refine ⟨_, _, _, _, rfl, rfl, new_same n1 _ _ upd_same, upd_same, (show 6 ≤ sizeLine by decide), fun q1 m1 => ?_⟩
    have e1 := fun o => ((e0 _).trans (new_same n1)).trans (new_same (o := o) m1)
    have d1 := fun o => e1 o d _ hd
    refine ⟨_, rfl, _, rfl, _, _, _, fs, rfl, (fun _ r => r), (d1 _), kit_of2 T.ex hx y6, _, rfl, _, _, _, fs, rfl, (fun _ r => r), (d1 _), kit_of2 T.ex hx y7, _, rfl, _, _, _, fs, rfl, (fun _ r => r), (d1 _), kit_of2 T.ex hx y8, (show 3 ≤ sizeLine by decide), fun p2 n2 => ?_⟩
    refine ⟨_, _, _, _, rfl, rfl, new_same n2 _ _ upd_same, upd_same, (show 9 ≤ sizeLine by decide), fun q2 m2 => ?_⟩
    have e2 := fun o => ((e1 _).trans (new_same n2)).trans (new_same (o := o) m2)
    have d2 := fun o => e2 o d _ hd
    refine ⟨_, rfl, _, rfl, _, _, _, fs, rfl, (fun _ r => r), (d2 _), kit_of2 T.ex hx y9, _, rfl, _, _, _, fs, rfl, (fun _ r => r), (d2 _), kit_of2 T.ex hx y10, _, rfl, _, _, _, fs, rfl, (fun _ r => r), (d2 _), kit_of2 T.ex hx y11, (show 3 ≤ sizeLine by decide), fun p3 n3 => ?_⟩
    refine ⟨_, _, _, _, rfl, rfl, new_same n3 _ _ upd_same, upd_same, (show 12 ≤ sizeLine by decide), fun q3 m3 => ?_⟩
    have e3 := fun o => ((e2 _).trans (new_same n3)).trans (new_same (o := o) m3)
    have d3 := fun o => e3 o d _ hd
    refine ⟨_, rfl, _, rfl, _, _, _, fs, rfl, (fun _ r => r), (d3 _), kit_of2 T.ex hx y12, _, rfl, _, _, _, fs, rfl, (fun _ r => r), (d3 _), kit_of2 T.ex hx y13, _, rfl, _, _, _, fs, rfl, (fun _ r => r), (d3 _), kit_of2 T.ex hx y14, (show 3 ≤ sizeLine by decide), fun p4 n4 => ?_⟩
    refine ⟨_, _, _, _, rfl, rfl, new_same n4 _ _ upd_same, upd_same, (show 15 ≤ sizeLine by decide), fun q4 m4 => ?_⟩
    have e4 := fun o => ((e3 _).trans (new_same n4)).trans (new_same (o := o) m4)
    have d4 := fun o => e4 o d _ hd
    refine ⟨_, rfl, _, rfl, _, _, _, fs, rfl, (fun _ r => r), (d4 _), kit_of2 T.ex hx y15, _, rfl, _, _, _, fs, rfl, (fun _ r => r), (d4 _), kit_of2 T.ex hx y16, _, rfl, _, _, _, fs, rfl, (fun _ r => r), (d4 _), kit_of2 T.ex hx y17, (show 3 ≤ sizeLine by decide), fun p5 n5 => ?_⟩
    refine ⟨_, _, _, _, rfl, rfl, new_same n5 _ _ upd_same, upd_same, (show 18 ≤ sizeLine by decide), fun q5 m5 => ?_⟩
    have e5 := fun o => ((e4 _).trans (new_same n5)).trans (new_same (o := o) m5)
    have d5 := fun o => e5 o d _ hd
    refine ⟨_, rfl, _, rfl, _, _, _, fs, rfl, (fun _ r => r), (d5 _), kit_of2 T.ex hx y18, _, rfl, _, _, _, fs, rfl, (fun _ r => r), (d5 _), kit_of2 T.ex hx y19, _, rfl, _, _, _, fs, rfl, (fun _ r => r), (d5 _), kit_of2 T.ex hx y20, (show 3 ≤ sizeLine by decide), fun p6 n6 => ?_⟩
    refine ⟨_, _, _, _, rfl, rfl, new_same n6 _ _ upd_same, upd_same, (show 21 ≤ sizeLine by decide), fun q6 m6 => ?_⟩
    have e6 := fun o => ((e5 _).trans (new_same n6)).trans (new_same (o := o) m6)
    have d6 := fun o => e6 o d _ hd
    refine ⟨_, rfl, _, rfl, _, _, _, fs, rfl, (fun _ r => r), (d6 _), kit_of2 T.ex hx y21, _, rfl, _, _, _, fs, rfl, (fun _ r => r), (d6 _), kit_of2 T.ex hx y22, _, rfl, _, _, _, fs, rfl, (fun _ r => r), (d6 _), kit_of2 T.ex hx y23, (show 3 ≤ sizeLine by decide), fun p7 n7 => ?_⟩
    refine ⟨_, _, _, _, rfl, rfl, new_same n7 _ _ upd_same, upd_same, (show 24 ≤ sizeLine by decide), fun q7 m7 => ?_⟩
    have e7 := fun o => ((e6 _).trans (new_same n7)).trans (new_same (o := o) m7)
    have d7 := fun o => e7 o d _ hd
    refine ⟨_, rfl, _, rfl, _, _, _, fs, rfl, (fun _ r => r), (d7 _), kit_of2 T.ex hx y24, _, rfl, _, _, _, fs, rfl, (fun _ r => r), (d7 _), kit_of2 T.ex hx y25, _, rfl, _, _, _, fs, rfl, (fun _ r => r), (d7 _), kit_of2 T.ex hx y26, (show 3 ≤ sizeLine by decide), fun p8 n8 => ?_⟩
    refine ⟨_, _, _, _, rfl, rfl, new_same n8 _ _ upd_same, upd_same, (show 27 ≤ sizeLine by decide), fun q8 m8 => ?_⟩
    have e8 := fun o => ((e7 _).trans (new_same n8)).trans (new_same (o := o) m8)
    have d8 := fun o => e8 o d _ hd
    refine ⟨_, rfl, _, rfl, _, _, _, fs, rfl, (fun _ r => r), (d8 _), kit_of2 T.ex hx y27, _, rfl, _, _, _, fs, rfl, (fun _ r => r), (d8 _), kit_of2 T.ex hx y28, _, rfl, _, _, _, fs, rfl, (fun _ r => r), (d8 _), kit_of2 T.ex hx y29, (show 3 ≤ sizeLine by decide), fun p9 n9 => ?_⟩
    refine ⟨_, _, _, _, rfl, rfl, new_same n9 _ _ upd_same, upd_same, (show 30 ≤ sizeLine by decide), fun q9 m9 => ?_⟩
    have e9 := fun o => ((e8 _).trans (new_same n9)).trans (new_same (o := o) m9)
    exact k q9 _ (e9 _) ((((e8 _).trans (new_same n9))).free m9) upd_same
theorem room_mark {A : Around} {k : Nat} {v : Option Value} (hr : Room k A) : L2H.RoomH k (A.mark v) := ⟨hr.dp, hr.un⟩
theorem pss_ex {X : Cx} {st : List Stmt} {ι : Type} {G : ι → Prop} {t : ι → TS} (h : ∀ i, G i → PSs X st (t i)) : PSs X st (fun D σ H => ∃ i, G i ∧ t i D σ H) :=
  ⟨fun pins s σ H D I ⟨i, hi, ht⟩ => (h i hi).run pins s σ H D I ht⟩
def spFields (K : PySem.W.Frag) : Sp := fun vs H Q _ => ∃ (w : Int) (v : V) (d : PyData) (nm : Bool), vs = [.int w, v, .bl nm] ∧ 1 ≤ w ∧ w ≤ 30 ∧ Dp K H v d ∧ Rp 3 d ∧
  ∀ (x : Str) (t l : Addr) (H' : Hp), cs[(w - 1).toNat]? = some x → Same H H' → H' t = some (.tup [.ref l, .bl true, v]) → H' l = some (.lst (cs.map fun y => V.bl (decide (x = y)))) → Q (.ref t) H'
theorem scF : FnScope ["which", "given", "named", "found", "e"] ["which", "given", "named"] (defScope sFields) := ⟨rfl, rfl, rfl, by decide +kernel, rfl, by decide +kernel, by decide +kernel⟩
def t_suite (K : PySem.W.Frag) (a : Addr) (cls : Value) (d : Option Addr) (i : Str × Addr) : TS :=
  tAsg (tTup (tCons (tCall (spClasses i.1 a i.2) [] E0 (tCons (tVar 4) tNil)) (tCons (tCB (rIsP K (He.ga K i.1) a i.2) (tCons (tVar 4) (tCons (tC (.ty "ValueError")) tNil))) (tCons (tXf a cls d (He.ga K i.1) "value" (tVar 4)) tNil)))) (gName 3)
theorem ok_fields (F : FnQ K "_law_fields" "_law_fields" sFields f fd) (T : Txt K mg) {fR fC : Addr} {fdR fdC : FuncData} (FC : FnQ K "_law_classes" "_law_classes" sClasses fC fdC) (gC : mg "_law_classes" = some (.ref fC))
    (FR : FnQ K "_law_raised" "_law_raised" sRaised fR fdR) (gR : mg "_law_raised" = some (.ref fR)) (GR : FnOk P w K mg base (L2.CX P w) 4 fR fdR ["which", "given", "named"] (spRaised K)) :
    FnOk P w K mg base CX0 5 f fd ["which", "given", "named"] (spFields K) := by
  have bR : Binds K fdR ["which", "given", "named"] [] := FR.bindsN fun _ _ _ _ _ _ us hl => match us, hl with | [_, _, _], _ => rfl
  have bC : Binds K fdC ["e"] [] := FC.bindsN fun _ _ _ _ _ _ us hl => match us, hl with | [_], _ => rfl
  refine F.ok scF (fun vs H Q E h => ?_) (fun cdv A outer s H vs Q E hr h => ?_)
  · obtain ⟨a, v, d, nm, rfl, _⟩ := h
    rfl
  · obtain ⟨a, v, d, nm, rfl, h1, h2, hd, hp, k⟩ := h
    have hr1 : Room 4 _ := hr
    refine ⟨_, PSs.nox (pss_cons (ps_set (i := 3) scF.nd rfl (Or.inl rfl) pe_non)
      (pss_cons (ps_try_as (i := 4) (tb := fun W => tDrop (tCallS (spRaised K) (WE W) (tCons (tVar 0) (tCons (tVar 1) (tCons (tVar 2) tNil)))))
          (ts := fun a cls d D σ H => ∃ i : Str × Addr, (i.1 ∈ cs ∧ cls = .ref (He.ga K i.1) ∧ d = some i.2) ∧ t_suite K a cls d i D σ H) (Wout := fun _ _ _ _ => False) rfl rfl scF.nd rfl rfl ⟨rfl, by decide, Or.inl T.ge⟩ takes0
        (fun W pn xe tk _ => pss_one (ps_expr (by exact (pe_callS GR hr1 (by rfl) gR FR.kp bR (fun σ => passAt tk σ) (by exact (pa_cons (pv 0) (pa_cons (pv 1) (pa_cons (pv 2) pa_nil))))))))
        (fun a oe cls d pn hz hf => pss_ex fun i hi => ?suite))
      (pss_one (ps_ret (pv 3))))), ?rd⟩
    case suite =>
      obtain ⟨x, dx⟩ := i
      obtain ⟨hx, hcls, hdx⟩ := hi
      have C := (cf_of T.ex hx).2
      have hz2 : Zc (.ref (He.ga K x)) (some dx) oe := by
        rw [hcls, hdx] at hz
        exact hz
      have GP : FnP P w K mg base 1 fC fdC ["e"] (a, oe) (spClasses x a dx) := ok_classes FC T hx hz2 hf
      exact pss_one (ps_set (i := 3) scF.nd rfl (Or.inl rfl) (by exact (pe_tup (by exact (pa_cons (pe_callP (pin := (a, oe)) (List.mem_cons_self ..) GP (L2H.RoomH.mono (k := 4) (room_mark hr1) (by decide)) (by rfl) gC FC.kp bC (by exact (pa_cons (pv 4) pa_nil)))
        (pa_cons (pe_callB (call_isP (List.mem_cons_self ..) C.exc hz2 hf) (by rfl) T.isi PyProof.Rows.Boot.«isinstance» (by exact (pa_cons (pv 4) (pa_cons (pe_bltn (v := .ty "ValueError") (by rfl) T.ve PyProof.Rows.Boot.«ValueError» rfl) pa_nil))))
        (pa_cons (pe_xf C.xf C.noV hz hf (pv 4)) pa_nil)))))))
    case rd =>
      refine ⟨_, rfl, _, rfl, _, rfl, a, v, d, nm, rfl, h1, h2, hd, hp, fun x hx dx hdx => ?_⟩
      have hxm : x ∈ cs := List.mem_of_getElem? hx
      have C := (cf_of T.ex hxm).2
      refine ⟨true, C.game, fun _ e he => ⟨(x, dx), ⟨hxm, rfl, rfl⟩, ?_⟩, fun q => Bool.noConfusion q⟩
      refine ⟨_, rfl, rfl, ⟨_, upd_same⟩, fun l H1 s1 n1 hl => ?_⟩
      have hdx1 : H1 dx = some (.xd [(("value" : Str), v)]) := s1 _ _ upd_same
      refine ⟨_, rfl, _, _, _, _, rfl, (fun _ r => r), hdx1, C.ve, _, rfl, rfl, rfl, dx, _, v, rfl, hdx1, (by simp), (show 3 ≤ sizeLine by decide), fun p np => ?_⟩
      exact ⟨_, rfl, k x p l _ hx (((new_same hdx).trans s1).trans (new_same np)) upd_same (new_same np _ _ hl)⟩
end
end K0
set_option maxRecDepth 100000
set_option maxHeartbeats 4000000
/-! The law's draws. -/
namespace K0
open PySem PySem.Spec PyProof.Rows L2 KC
/-- a row of draws at d, good for n more -/
def Deck (H : Hp) (d : Addr) (n : Nat) : Prop := ∃ r m i c : Int, H d = some (.lst [.int r, .int m, .int i, .int c]) ∧ 0 ≤ m ∧ m < 2305843009213693951 ∧ 0 ≤ i ∧ i ≤ 1000 ∧ 0 ≤ c ∧ c + n ≤ 1000000000000
theorem Deck.le {H : Hp} {d : Addr} {n k : Nat} (h : Deck H d n) (hk : k ≤ n) : Deck H d k := by
  obtain ⟨r, m, i, c, h0, h1, h2, h3, h4, h5, h6⟩ := h
  exact ⟨r, m, i, c, h0, h1, h2, h3, h4, h5, by omega⟩
theorem Deck.lst {H : Hp} {d : Addr} {n : Nat} (h : Deck H d n) : ∃ xs, H d = some (.lst xs) := by
  obtain ⟨r, m, i, c, h0, _⟩ := h
  exact ⟨_, h0⟩
theorem Deck.keep {H H' : Hp} {d : Addr} {n : Nat} (h : Deck H d n) (e : H' d = H d) : Deck H' d n := by
  obtain ⟨r, m, i, c, h0, h1⟩ := h
  exact ⟨r, m, i, c, by rw [e]; exact h0, h1⟩
theorem Deck.same {H H' : Hp} {d : Addr} {n : Nat} (h : Deck H d n) (e : Same H H') : Deck H' d n := by
  obtain ⟨r, m, i, c, h0, h1⟩ := h
  exact ⟨r, m, i, c, e _ _ h0, h1⟩
section
variable {P : Program} {w : World} {K : PySem.W.Frag} {mg : Str → Option Value} {base : Heap} {f fT : Addr} {fd fdT : FuncData}
/-! ### _law_deck -/
def spDeck (K : PySem.W.Frag) : Sp := fun vs H Q _ => ∃ (a : Addr) (ns : List Int) (k : Nat), vs = [.ref a, .int (k : Int)] ∧ SqL K H a (ns.map V.int) ∧ k ≤ 100 ∧ ∀ l H', Same H H' → H l = none → Deck H' l 900000000000 → Q (.ref l) H'
theorem scD : FnScope ["script", "k", "cell", "rest"] ["script", "k"] (defScope sDeck) := ⟨rfl, rfl, rfl, by decide +kernel, rfl, by decide +kernel, by decide +kernel⟩
theorem ok_deck (F : FnQ K "_law_deck" "_law_deck" sDeck f fd) (T : Txt K mg) : FnOk P w K mg base CX0 1 f fd ["script", "k"] (spDeck K) := by
  refine F.ok scD (fun vs H Q E h => ?_) (fun cdv A outer s H vs Q E hr h => ?_)
  · obtain ⟨a, ns, k, rfl, _⟩ := h
    rfl
  · obtain ⟨a, ns, k, rfl, hS, hk, kk⟩ := h
    refine ⟨_, PSs.nox (pss_cons (ps_set (i := 2) scD.nd rfl (Or.inl rfl) pe_int)
      (pss_cons (ps_if (pt_cmpR op_lt (pv 1) (pe_callB call_len_seq (by rfl) T.len PyProof.Rows.Boot.«len» (pa_cons (pv 0) pa_nil)) (nomark _)) (pss_one (ps_set (i := 2) scD.nd rfl (Or.inl rfl) (pe_ix ix_list (pv 0) (pv 1) (fun _ _ => rfl)))) pss_nil)
      (pss_cons (ps_set (i := 3) scD.nd rfl (Or.inl rfl) pe_int)
      (pss_cons (ps_if (pt_cmpR op_ge (pv 2) (pe_op op_pow pe_int pe_int) (nomark _)) (pss_one (ps_set (i := 3) scD.nd rfl (Or.inl rfl) (pv 2))) pss_nil)
      (pss_one (ps_ret (pe_lst (pa_cons (pv 3) (pa_cons (pe_op op_mod (pe_callTy call_int1 (by rfl) T.int PyProof.Rows.Boot.«int» (pa_cons (pv 2) pa_nil)) pe_int) (pa_cons (pe_op op_add (pv 1) pe_int) (pa_cons pe_int pa_nil))))))))))), ?_⟩
    have fin : ∀ (r z : Int) (l : Addr), H l = none → Q (.ref l) (upd H l (.lst [.int r, .int (z % 2305843009213693951), .int ((k : Int) + 1), .int 0])) := fun r z l n => by
      have e1 := Int.emod_nonneg z (show (2305843009213693951 : Int) ≠ 0 by decide)
      have e2 := Int.emod_lt_of_pos z (show (0 : Int) < 2305843009213693951 by decide)
      exact kk l _ (fun b o e => by rw [upd_ne (ne_of_none e n)]; exact e) n ⟨r, _, _, _, upd_same, e1, e2, by omega, by omega, by omega, by omega⟩
    refine ⟨_, rfl, _, rfl, a, _, rfl, .inl hS, _, _, rfl, rfl, _, rfl, ite2 (fun z => ?_) (fun z => ?_)⟩
    · have hk2 := of_decide_eq_true z
      have hk3 : k < ns.length := by
        rw [List.length_map] at hk2
        omega
      refine ⟨_, rfl, _, rfl, a, _, _, _, rfl, rfl, hS, atI_nat (v := .int ns[k]) (by rw [List.getElem?_map, List.getElem?_eq_getElem hk3]; rfl), ?_⟩
      refine ⟨_, rfl, _, _, rfl, rfl, ⟨by decide, by decide, by decide⟩, _, _, rfl, rfl, _, rfl, ite2 (fun z2 => ?_) (fun z2 => ?_)⟩
      · exact ⟨_, rfl, _, rfl, _, rfl, .inl ⟨_, rfl, _, _, rfl, rfl, (show (0 : Int) < 2305843009213693951 by decide), _, rfl, _, _, rfl, rfl, (show 4 ≤ sizeLine by decide), fun l n => fin _ _ l n⟩⟩
      · exact ⟨_, rfl, _, rfl, .inl ⟨_, rfl, _, _, rfl, rfl, (show (0 : Int) < 2305843009213693951 by decide), _, rfl, _, _, rfl, rfl, (show 4 ≤ sizeLine by decide), fun l n => fin _ _ l n⟩⟩
    · refine ⟨_, rfl, _, _, rfl, rfl, ⟨by decide, by decide, by decide⟩, _, _, rfl, rfl, _, rfl, ite2 (fun z2 => ?_) (fun z2 => ?_)⟩
      · exact ⟨_, rfl, _, rfl, _, rfl, .inl ⟨_, rfl, _, _, rfl, rfl, (show (0 : Int) < 2305843009213693951 by decide), _, rfl, _, _, rfl, rfl, (show 4 ≤ sizeLine by decide), fun l n => fin _ _ l n⟩⟩
      · exact ⟨_, rfl, _, rfl, .inl ⟨_, rfl, _, _, rfl, rfl, (show (0 : Int) < 2305843009213693951 by decide), _, rfl, _, _, rfl, rfl, (show 4 ≤ sizeLine by decide), fun l n => fin _ _ l n⟩⟩
/-! ### _law_take -/
def spTake : Sp := fun vs H Q _ => ∃ (d : Addr) (m : Int) (n : Nat), vs = [.ref d, .int m] ∧ 0 < m ∧ m < 1000000000000 ∧ Deck H d (n + 1) ∧ ∀ (x : Int) H', 0 ≤ x → x < m → Frm d H H' → Deck H' d n → Q (.int x) H'
theorem scT : FnScope ["deck", "many", "digit", "mixed"] ["deck", "many"] (defScope sTake) := ⟨rfl, rfl, rfl, by decide +kernel, rfl, by decide +kernel, by decide +kernel⟩
theorem small_ab {i : Int} {n : Nat} (h0 : 0 ≤ i) (h1 : i < 2 ^ n) : i.natAbs < 2 ^ n := by
  have e : ((i.natAbs : Nat) : Int) = i := Int.natAbs_of_nonneg h0
  have h2 : ((i.natAbs : Nat) : Int) < ((2 ^ n : Nat) : Int) := by
    rw [e, Int.natCast_pow]
    exact h1
  exact Int.ofNat_lt.mp h2
theorem pow63 : (2 : Int) ^ 63 = 9223372036854775808 := by decide
theorem pow20 : (2 : Int) ^ 20 = 1048576 := by decide
theorem pow40 : (2 : Int) ^ 40 = 1099511627776 := by decide
theorem pow122 : (2 : Nat) ^ 122 = 5316911983139663491615228241121378304 := by decide
theorem pow120 : (2 : Nat) ^ (40 + 40 + 40) = 1329227995784915872903807060280344576 := by decide
theorem ok_take (F : FnQ K "_law_take" "_law_take" sTake f fd) (T : Txt K mg) : FnOk P w K mg base CX0 1 f fd ["deck", "many"] spTake := by
  refine F.ok scT (fun vs H Q E h => ?_) (fun cdv A outer s H vs Q E hr h => ?_)
  · obtain ⟨d, m, n, rfl, _⟩ := h
    rfl
  · obtain ⟨d, m, n, rfl, hm0, hm1, ⟨r, mm, i, c, hd, a1, a2, a3, a4, a5, a6⟩, k⟩ := h
    refine ⟨_, PSs.nox (pss_cons (ps_if (pt_cmpR op_gt (pe_ix ix_list (pv 0) pe_int (fun _ _ => rfl)) pe_int (nomark _))
        (pss_cons (ps_set (i := 2) scT.nd rfl (Or.inl rfl) (pe_op op_mod (pe_callTy call_int1 (by rfl) T.int PyProof.Rows.Boot.«int» (pa_cons (pe_ix ix_list (pv 0) pe_int (fun _ _ => rfl)) pa_nil)) (pv 1)))
        (pss_cons (ps_asg (pe_op op_fdivW (pe_ix ix_list (pv 0) pe_int (fun _ _ => rfl)) (pv 1)) (pg_sub (pv 0) pe_int set_list))
        (pss_one (ps_ret (pv 2))))) pss_nil)
      (pss_cons (ps_asg (pe_op op_add (pe_ix ix_list (pv 0) pe_int (fun _ _ => rfl)) pe_int) (pg_sub (pv 0) pe_int set_list))
      (pss_cons (ps_set (i := 3) scT.nd rfl (Or.inl rfl) (pe_op op_add (pe_op op_add (pe_op op_add (pe_ix ix_list (pv 0) pe_int (fun _ _ => rfl)) (pe_op op_mulW (pe_ix ix_list (pv 0) pe_int (fun _ _ => rfl)) pe_int)) (pe_op op_mulW (pe_ix ix_list (pv 0) pe_int (fun _ _ => rfl)) pe_int)) pe_int))
      (pss_cons (ps_set (i := 3) scT.nd rfl (Or.inl rfl) (pe_op op_mod (pe_callTy call_int1 (by rfl) T.int PyProof.Rows.Boot.«int» (pa_cons (pe_op op_mulW (pv 3) (pv 3)) pa_nil)) pe_int))
      (pss_cons (ps_set (i := 3) scT.nd rfl (Or.inl rfl) (pe_op op_mod (pe_callTy call_int1 (by rfl) T.int PyProof.Rows.Boot.«int» (pa_cons (pe_op op_mulW (pe_op op_add (pe_op op_add (pv 3) (pe_ix ix_list (pv 0) pe_int (fun _ _ => rfl))) (pe_op op_mulW (pe_op op_mulW (pe_ix ix_list (pv 0) pe_int (fun _ _ => rfl)) (pe_ix ix_list (pv 0) pe_int (fun _ _ => rfl))) (pe_ix ix_list (pv 0) pe_int (fun _ _ => rfl)))) pe_int) pa_nil)) pe_int))
      (pss_cons (ps_set (i := 3) scT.nd rfl (Or.inl rfl) (pe_op op_mod (pe_callTy call_int1 (by rfl) T.int PyProof.Rows.Boot.«int» (pa_cons (pe_op op_mulW (pv 3) (pv 3)) pa_nil)) pe_int))
      (pss_one (ps_ret (pe_op op_mod (pe_callTy call_int1 (by rfl) T.int PyProof.Rows.Boot.«int» (pa_cons (pe_op op_fdivW (pv 3) pe_int) pa_nil)) (pv 1)))))))))), ?_⟩
    have hW : CDivW 0 m := wide_div hm0 (small_ab (n := 40) (by omega) (by rw [pow40]; omega)) (by decide) (by decide)
    refine ⟨_, rfl, _, _, _, _, rfl, rfl, SqL.of hd, at_of (j := 0) rfl rfl, _, _, rfl, rfl, _, rfl, ite2 (fun z => ?_) (fun z => ?_)⟩
    · refine ⟨_, rfl, _, _, _, _, rfl, rfl, SqL.of hd, at_of (j := 0) rfl rfl, .inl ⟨_, rfl, _, rfl, _, _, rfl, rfl, hm0, ?_⟩⟩
      refine ⟨_, rfl, _, _, _, _, rfl, rfl, SqL.of hd, at_of (j := 0) rfl rfl, _, rfl, _, _, rfl, rfl, hW, _, rfl, _, _, _, 0, rfl, rfl, hd, rfl, _, rfl, ?_⟩
      exact k _ _ (Int.emod_nonneg _ (by omega)) (Int.emod_lt_of_pos _ hm0) Frm.of_upd ⟨_, mm, i, c, upd_same, a1, a2, a3, a4, a5, by omega⟩
    · have hd1 : (upd H d (.lst [.int r, .int mm, .int i, .int (c + 1)])) d = some (.lst [.int r, .int mm, .int i, .int (c + 1)]) := upd_same
      refine ⟨_, rfl, _, _, _, _, rfl, rfl, SqL.of hd, at_of (j := 3) rfl rfl, _, _, rfl, rfl, _, rfl, _, _, _, 3, rfl, rfl, hd, rfl, ?_⟩
      have b1 : CMulW i 1000003 := wide_mul (a := 20) (b := 20) (small_ab (by omega) (by rw [pow20]; omega)) (by decide) (by decide) (by decide) (by decide)
      have b2 : CMulW (c + 1) 10007 := wide_mul (a := 40) (b := 20) (small_ab (by omega) (by rw [pow40]; omega)) (by decide) (by decide) (by decide) (by decide)
      refine ⟨_, rfl, _, _, _, _, rfl, rfl, SqL.of hd1, at_of (j := 1) rfl rfl, _, rfl, _, _, _, _, rfl, rfl, SqL.of hd1, at_of (j := 2) rfl rfl, _, _, rfl, rfl, b1, _, _, rfl, rfl, _, rfl, _, _, _, _, rfl, rfl, SqL.of hd1, at_of (j := 3) rfl rfl, _, _, rfl, rfl, b2, _, _, rfl, rfl, _, _, rfl, rfl, ?_⟩
      obtain ⟨x0, hx0⟩ : ∃ x0, x0 = mm + i * 1000003 + (c + 1) * 10007 + 123456789012 := ⟨_, rfl⟩
      have x0a : x0.natAbs < 2 ^ 63 := small_ab (by omega) (by rw [pow63]; omega)
      show L2.tSeq _ _ _ (List.set _ 3 (some (V.int (mm + i * 1000003 + (c + 1) * 10007 + 123456789012)))) _
      rw [← hx0]
      refine ⟨_, rfl, _, rfl, _, _, rfl, rfl, wide_mul x0a x0a (by decide) (by decide) (by decide), .inl ⟨_, rfl, _, _, rfl, rfl, (show (0 : Int) < 2305843009213693921 by decide), ?_⟩⟩
      have y1 := Int.emod_nonneg (x0 * x0) (show (2305843009213693921 : Int) ≠ 0 by decide)
      have y2 := Int.emod_lt_of_pos (x0 * x0) (show (0 : Int) < 2305843009213693921 by decide)
      obtain ⟨x1, hx1⟩ : ∃ x1, x1 = (x0 * x0) % 2305843009213693921 := ⟨_, rfl⟩
      show L2.tSeq _ _ _ (List.set _ 3 (some (V.int ((x0 * x0) % 2305843009213693921)))) _
      rw [← hx1] at y1 y2 ⊢
      have c40 : (c + 1).natAbs < 2 ^ 40 := small_ab (by omega) (by rw [pow40]; omega)
      have b3 : CMulW (c + 1) (c + 1) := wide_mul c40 c40 (by decide) (by decide) (by decide)
      have b4 : CMulW ((c + 1) * (c + 1)) (c + 1) := wide_mul (wide_lt c40 c40) c40 (by decide) (by decide) (by decide)
      have b5 := wide_lt (wide_lt c40 c40) c40
      obtain ⟨q, hq⟩ : ∃ q, q = (c + 1) * (c + 1) * (c + 1) := ⟨_, rfl⟩
      have b6 : CMulW (x1 + mm + (c + 1) * (c + 1) * (c + 1)) 48271 := by
        rw [pow120] at b5
        rw [← hq] at b5 ⊢
        refine wide_mul (a := 122) (b := 20) ?_ (by decide) (by decide) (by decide) (by decide)
        rw [pow122]
        omega
      refine ⟨_, rfl, _, rfl, _, _, _, _, rfl, rfl, SqL.of hd1, at_of (j := 1) rfl rfl, _, _, rfl, rfl, _, rfl, _, _, _, _, rfl, rfl, SqL.of hd1, at_of (j := 3) rfl rfl, _, rfl, _, _, _, _, rfl, rfl, SqL.of hd1, at_of (j := 3) rfl rfl, _, _, rfl, rfl, b3, _, rfl, _, _, _, _, rfl, rfl, SqL.of hd1, at_of (j := 3) rfl rfl, _, _, rfl, rfl, b4, _, _, rfl, rfl, _, _, rfl, rfl, b6, .inl ⟨_, rfl, _, _, rfl, rfl, (show (0 : Int) < 2305843009213693951 by decide), ?_⟩⟩
      obtain ⟨x2, hx2⟩ : ∃ x2, x2 = ((x1 + mm + (c + 1) * (c + 1) * (c + 1)) * 48271) % 2305843009213693951 := ⟨_, rfl⟩
      have y3 := Int.emod_nonneg ((x1 + mm + (c + 1) * (c + 1) * (c + 1)) * 48271) (show (2305843009213693951 : Int) ≠ 0 by decide)
      have y4 := Int.emod_lt_of_pos ((x1 + mm + (c + 1) * (c + 1) * (c + 1)) * 48271) (show (0 : Int) < 2305843009213693951 by decide)
      show L2.tSeq _ _ _ (List.set _ 3 (some (V.int (((x1 + mm + (c + 1) * (c + 1) * (c + 1)) * 48271) % 2305843009213693951)))) _
      rw [← hx2] at y3 y4 ⊢
      have x2a : x2.natAbs < 2 ^ 63 := small_ab (by omega) (by rw [pow63]; omega)
      refine ⟨_, rfl, _, rfl, _, _, rfl, rfl, wide_mul x2a x2a (by decide) (by decide) (by decide), .inl ⟨_, rfl, _, _, rfl, rfl, (show (0 : Int) < 2305843009213693921 by decide), ?_⟩⟩
      refine ⟨_, rfl, _, _, rfl, rfl, wide_div (b := 10) (by decide) (by decide) (by decide) (by decide), .inl ⟨_, rfl, _, rfl, _, _, rfl, rfl, hm0, ?_⟩⟩
      exact k _ _ (Int.emod_nonneg _ (by omega)) (Int.emod_lt_of_pos _ hm0) Frm.of_upd ⟨r, mm, i, c + 1, upd_same, a1, a2, a3, a4, by omega, by omega⟩
/-! ### _law_any -/
def spAny : Sp := fun vs H Q _ => ∃ (d p : Addr) (xs : List V) (n : Nat), vs = [.ref d, .ref p] ∧ H p = some (.lst xs) ∧ p ≠ d ∧ 0 < xs.length ∧ xs.length ≤ 1000 ∧ Deck H d (n + 1) ∧ ∀ (j : Nat) v H', xs[j]? = some v → Frm d H H' → Deck H' d n → Q v H'
theorem scA : FnScope ["deck", "menu"] ["deck", "menu"] (defScope sAny) := ⟨rfl, rfl, rfl, by decide +kernel, rfl, by decide +kernel, by decide +kernel⟩
theorem ok_any (F : FnQ K "_law_any" "_law_any" sAny f fd) (T : Txt K mg) (FT : FnQ K "_law_take" "_law_take" sTake fT fdT) (gT : mg "_law_take" = some (.ref fT)) : FnOk P w K mg base CX0 2 f fd ["deck", "menu"] spAny := by
  have GT : FnOk P w K mg base CX0 1 fT fdT ["deck", "many"] spTake := ok_take FT T
  have bT : Binds K fdT ["deck", "many"] [] := FT.bindsN fun _ _ _ _ _ _ us hl => match us, hl with | [_, _], _ => rfl
  refine F.ok scA (fun vs H Q E h => ?_) (fun cdv A outer s H vs Q E hr h => ?_)
  · obtain ⟨d, p, xs, n, rfl, _⟩ := h
    rfl
  · obtain ⟨d, p, xs, n, rfl, hp, hne, h0, h1, hD, k⟩ := h
    have hr1 : Room 1 _ := hr
    refine ⟨_, PSs.nox (pss_one (ps_ret (pe_ix ix_list (pv 1) (pe_call GT hr1 (by rfl) gT FT.kp bT .nil pass0 (pa_cons (pv 0) (pa_cons (pe_callB call_len_seq (by rfl) T.len PyProof.Rows.Boot.«len» (pa_cons (pv 1) pa_nil)) pa_nil))) (fun _ _ => rfl)))), ?_⟩
    refine ⟨_, rfl, _, rfl, _, rfl, p, xs, rfl, .inl (SqL.of hp), d, _, n, rfl, by omega, by omega, hD, fun x H' g0 g1 fr hD' => ?_⟩
    obtain ⟨j, rfl⟩ : ∃ j : Nat, x = (j : Int) := ⟨x.toNat, by omega⟩
    have hj : j < xs.length := by omega
    exact ⟨p, xs, _, xs[j], rfl, rfl, SqL.of (fr p _ hne hp), atI_nat (List.getElem?_eq_getElem hj), k j _ H' (List.getElem?_eq_getElem hj) fr hD'⟩
/-! ### _law_given -/
def spGiven (K : PySem.W.Frag) : Sp := fun vs H Q _ => ∃ (d : Addr) (n : Nat), vs = [.ref d] ∧ Deck H d (n + 4) ∧ ∀ (v : V) (dt : PyData) H', Frm d H H' → Deck H' d n → Dp K H' v dt → Rp 3 dt → Q v H'
theorem scG : FnScope ["deck", "way", "number"] ["deck"] (defScope sGiven) := ⟨rfl, rfl, rfl, by decide +kernel, rfl, by decide +kernel, by decide +kernel⟩
theorem int_rp {i : Int} (h0 : -1000000 ≤ i) (h1 : i ≤ 1000001) (n : Nat) : Rp n (.int i) := by
  have e : i.natAbs.log2 < 100 := by
    have h2 : i.natAbs < 2 ^ 40 := by
      have e : (2 : Nat) ^ 40 = 1099511627776 := by decide
      omega
    exact Nat.lt_trans (PySem.Flt.log2_lt_of (by decide) h2) (by decide)
  cases n <;> exact e
theorem ok_given (F : FnQ K "_law_given" "_law_given" sGiven f fd) (T : Txt K mg) (FT : FnQ K "_law_take" "_law_take" sTake fT fdT) (gT : mg "_law_take" = some (.ref fT)) {fA : Addr} {fdA : FuncData} (FA : FnQ K "_law_any" "_law_any" sAny fA fdA) (gA : mg "_law_any" = some (.ref fA)) :
    FnOk P w K mg base CX0 3 f fd ["deck"] (spGiven K) := by
  have GT : FnOk P w K mg base CX0 1 fT fdT ["deck", "many"] spTake := ok_take FT T
  have GA : FnOk P w K mg base CX0 2 fA fdA ["deck", "menu"] spAny := ok_any FA T FT gT
  have bT : Binds K fdT ["deck", "many"] [] := FT.bindsN fun _ _ _ _ _ _ us hl => match us, hl with | [_, _], _ => rfl
  have bA : Binds K fdA ["deck", "menu"] [] := FA.bindsN fun _ _ _ _ _ _ us hl => match us, hl with | [_, _], _ => rfl
  refine F.ok scG (fun vs H Q E h => ?_) (fun cdv A outer s H vs Q E hr h => ?_)
  · obtain ⟨d, n, rfl, _⟩ := h
    rfl
  · obtain ⟨d, n, rfl, hD, k⟩ := h
    have hr2 : Room 2 _ := hr
    have hr1 : Room 1 _ := hr.mono (by decide)
    refine ⟨_, PSs.nox (pss_cons (ps_set (i := 1) scG.nd rfl (Or.inl rfl) (pe_call GT hr1 (by rfl) gT FT.kp bT .nil pass0 (pa_cons (pv 0) (pa_cons pe_int pa_nil))))
      (pss_cons (ps_set (i := 2) scG.nd rfl (Or.inl rfl) (pe_op op_sub (pe_call GT hr1 (by rfl) gT FT.kp bT .nil pass0 (pa_cons (pv 0) (pa_cons pe_int pa_nil))) pe_int))
      (pss_cons (ps_if (pt_cmpR op_eq (pv 1) pe_int (nomark _)) (pss_one (ps_ret pe_non)) pss_nil)
      (pss_cons (ps_if (pt_cmpR op_eq (pv 1) pe_int (nomark _)) (pss_one (ps_ret (pe_call GA hr2 (by rfl) gA FA.kp bA .nil pass0 (pa_cons (pv 0) (pa_cons (pe_lst (pa_cons pe_str (pa_cons pe_str (pa_cons pe_str (pa_cons pe_str (pa_cons pe_str pa_nil)))))) pa_nil))))) pss_nil)
      (pss_cons (ps_if (pt_cmpR op_eq (pv 1) pe_int (nomark _)) (pss_one (ps_ret (pe_tup (pa_cons (pv 2) (pa_cons (pe_call GT hr1 (by rfl) gT FT.kp bT .nil pass0 (pa_cons (pv 0) (pa_cons pe_int pa_nil))) pa_nil))))) pss_nil)
      (pss_cons (ps_if (pt_cmpR op_eq (pv 1) pe_int (nomark _)) (pss_one (ps_ret (pe_tup (pa_cons (pe_tup (pa_cons (pv 2) pa_nil)) (pa_cons (pe_tup pa_nil) (pa_cons pe_str pa_nil)))))) pss_nil)
      (pss_one (ps_ret (pv 2))))))))), ?_⟩
    refine ⟨_, rfl, d, _, n + 3, rfl, by decide, by decide, hD, fun x H1 x0 x1 f1 D1 => ?_⟩
    refine ⟨_, rfl, d, _, n + 2, rfl, by decide, by decide, D1, fun y H2 y0 y1 f2 D2 => ?_⟩
    refine ⟨_, _, rfl, rfl, ?_⟩
    have fr := f1.trans f2
    have hy : ∀ n, Rp n (.int (y - 1000000)) := fun n => int_rp (by omega) (by omega) n
    refine ⟨_, rfl, rfl, _, rfl, ite2 (fun z => ?_) (fun z => ?_)⟩
    · exact k _ .none _ fr (D2.le (by omega)) .non (by trivial)
    refine ⟨_, rfl, rfl, _, rfl, ite2 (fun z => ?_) (fun z => ?_)⟩
    · refine ⟨_, rfl, (show 5 ≤ sizeLine by decide), fun p np => ?_⟩
      have D3 : Deck (upd H2 p (.lst [.str "", .str "hero", .str "go a 0 1", .str "a\nb", .str "None"])) d (n + 2) := D2.same (new_same np)
      obtain ⟨ds, hds⟩ := D2.lst
      refine ⟨d, p, _, n + 1, rfl, upd_same, (ne_of_none hds np).symm, (show 0 < 5 by decide), (show 5 ≤ 1000 by decide), D3, fun j v H3 hj f3 D4 => ?_⟩
      have fr3 := (fr.trans (Frm.of_new np)).trans f3
      match j, hj with
      | 0, hj => cases hj; exact k _ (.str "") _ fr3 (D4.le (by omega)) (.str _) (by show (reprText ("" : Str)).length ≤ 200; decide +kernel)
      | 1, hj => cases hj; exact k _ (.str "hero") _ fr3 (D4.le (by omega)) (.str _) (by show (reprText ("hero" : Str)).length ≤ 200; decide +kernel)
      | 2, hj => cases hj; exact k _ (.str "go a 0 1") _ fr3 (D4.le (by omega)) (.str _) (by show (reprText ("go a 0 1" : Str)).length ≤ 200; decide +kernel)
      | 3, hj => cases hj; exact k _ (.str "a\nb") _ fr3 (D4.le (by omega)) (.str _) (by show (reprText ("a\nb" : Str)).length ≤ 200; decide +kernel)
      | 4, hj => cases hj; exact k _ (.str "None") _ fr3 (D4.le (by omega)) (.str _) (by show (reprText ("None" : Str)).length ≤ 200; decide +kernel)
      | j + 5, hj => cases hj
    refine ⟨_, rfl, rfl, _, rfl, ite2 (fun z => ?_) (fun z => ?_)⟩
    · refine ⟨_, rfl, _, rfl, d, _, n + 1, rfl, by decide, by decide, D2, fun u H3 u0 u1 f3 D3 => ⟨(show 2 ≤ sizeLine by decide), fun p np => ?_⟩⟩
      refine k _ (.tuple [.int (y - 1000000), .int u]) _ ((fr.trans f3).trans (Frm.of_new np)) ((D3.same (new_same np)).le (by omega)) (.tup (SqT.of upd_same) (.cons (.int _) (.cons (.int _) .nil))) ⟨(show 2 ≤ 4 by decide), fun e he => ?_⟩
      rcases List.mem_cons.mp he with rfl | he
      · exact hy 2
      · rcases List.mem_cons.mp he with rfl | he
        · exact int_rp (by omega) (by omega) 2
        · cases he
    refine ⟨_, rfl, rfl, _, rfl, ite2 (fun z => ?_) (fun z => ?_)⟩
    · refine ⟨_, rfl, (show 1 ≤ sizeLine by decide), fun p np => ⟨(show 0 ≤ sizeLine by decide), fun q nq => ⟨(show 3 ≤ sizeLine by decide), fun t nt => ?_⟩⟩⟩
      have e1 := new_same (o := .tup [.int (y - 1000000)]) np
      have e2 := new_same (o := .tup []) nq
      have e3 := new_same (o := .tup [.ref p, .ref q, .str "x"]) nt
      refine k _ (.tuple [.tuple [.int (y - 1000000)], .tuple [], .str "x"]) _ (fr.trans (Frm.of_same ((e1.trans e2).trans e3))) ((D2.same ((e1.trans e2).trans e3)).le (by omega))
        (.tup (SqT.of upd_same) (.cons (.tup (SqT.of (e3 _ _ (e2 _ _ upd_same))) (.cons (.int _) .nil)) (.cons (.tup (SqT.of (e3 _ _ upd_same)) .nil) (.cons (.str _) .nil)))) ⟨(show 3 ≤ 4 by decide), fun e he => ?_⟩
      rcases List.mem_cons.mp he with rfl | he
      · refine ⟨(show 1 ≤ 4 by decide), fun e he => ?_⟩
        rcases List.mem_cons.mp he with rfl | he
        · exact hy 1
        · cases he
      · rcases List.mem_cons.mp he with rfl | he
        · exact ⟨(show 0 ≤ 4 by decide), fun e he => by cases he⟩
        · rcases List.mem_cons.mp he with rfl | he
          · show (reprText ("x" : Str)).length ≤ 200
            decide +kernel
          · cases he
    exact ⟨_, rfl, k _ (.int (y - 1000000)) _ fr (D2.le (by omega)) (.int _) (hy 3)⟩
end
end K0
set_option maxRecDepth 100000
set_option maxHeartbeats 4000000
/-! The law's own equality, of what is the same data. -/
namespace K0
open PySem PySem.Spec PyProof.Rows L2 KC
theorem ty_tup {K : PySem.W.Frag} {H : Hp} {a : Addr} {xs : List V} (h : SqT K H a xs) : TyX K H (.ref a) (.type "tuple") := by
  rcases h with (h | ⟨o, h⟩) | ⟨o, _, _, h, hc, _⟩
  · exact .base (.tup h)
  · exact .fTuple h
  · exact .kTuple h hc
section
variable {K : PySem.W.Frag} {H : Hp}
theorem dpa_len : ∀ {vs : List V} {ds : List PyData}, DpAll K H vs ds → vs.length = ds.length
  | [], _, h => by cases h; rfl
  | v :: vs, _, h => by
    cases h with
    | cons _ b => rw [List.length_cons, List.length_cons, dpa_len b]
theorem dpa_get : ∀ {vs : List V} {ds : List PyData} {i : Nat} {e : PyData}, DpAll K H vs ds → ds[i]? = some e → ∃ v, vs[i]? = some v ∧ Dp K H v e
  | [], _, i, e, h, he => by cases h; cases he
  | v :: vs, _, 0, e, h, he => by
    cases h with
    | cons a _ => cases he; exact ⟨v, rfl, a⟩
  | v :: vs, _, i + 1, e, h, he => by
    cases h with
    | cons _ b => exact dpa_get (vs := vs) (i := i) b he
end
def spAlike (K : PySem.W.Frag) (n : Nat) : Sp := fun vs H Q _ => ∃ (v1 v2 : V) (d : PyData), vs = [v1, v2] ∧ Dp K H v1 d ∧ Dp K H v2 d ∧ Rp n d ∧ ∀ H', Same H H' → Q (.bl true) H'
def spAl (K : PySem.W.Frag) : Nat → Sp
  | 0 => fun _ _ _ _ => False
  | n + 1 => spAlike K n
section
variable {P : Program} {w : World} {K : PySem.W.Frag} {mg : Str → Option Value} {base : Heap} {f : Addr} {fd : FuncData}
theorem scAl : FnScope ["found", "due", "k"] ["found", "due"] (defScope sAlike) := ⟨rfl, rfl, rfl, by decide +kernel, rfl, by decide +kernel, by decide +kernel⟩
theorem ok_alike (F : FnQ K "_law_alike" "_law_alike" sAlike f fd) (T : Txt K mg) (g : mg "_law_alike" = some (.ref f)) : ∀ n : Nat, FnOk P w K mg base CX0 n f fd ["found", "due"] (spAl K n)
  | 0 => ⟨fun _ _ _ _ z => z.elim, fun _ _ _ _ _ _ _ _ _ _ _ _ _ z => z.elim⟩
  | n + 1 => by
    have G : FnOk P w K mg base CX0 n f fd ["found", "due"] (spAl K n) := ok_alike F T g n
    have b : Binds K fd ["found", "due"] [] := F.bindsN fun _ _ _ _ _ _ us hl => match us, hl with | [_, _], _ => rfl
    refine F.ok scAl (fun vs H Q E h => ?_) (fun cdv A outer s H vs Q E hr h => ?_)
    · obtain ⟨v1, v2, d, rfl, _⟩ := h
      rfl
    · obtain ⟨v1, v2, d, rfl, h1, h2, hp, k⟩ := h
      refine ⟨_, PSs.nox (pss_cons (ps_if (pt_cmpR op_isN (pv 1) pe_non (nomark _)) (pss_one (ps_ret (pe_cmpR op_isN (pv 0) pe_non (nomark _)))) pss_nil)
        (pss_cons (ps_if (pt_cmpR (op_isT true) (pv 1) pe_bl (nomark _)) (pss_one (ps_ret (pe_cmpR (op_isT true) (pv 0) pe_bl (nomark _)))) pss_nil)
        (pss_cons (ps_if (pt_cmpR (op_isT false) (pv 1) pe_bl (nomark _)) (pss_one (ps_ret (pe_cmpR (op_isT false) (pv 0) pe_bl (nomark _)))) pss_nil)
        (pss_cons (ps_if (pt_val (pe_callB call_isi (by rfl) T.isi PyProof.Rows.Boot.«isinstance» (pa_cons (pv 1) (pa_cons (pe_bltn (v := .ty "str") (by rfl) T.str PyProof.Rows.Boot.«str» rfl) pa_nil))))
          (pss_one (ps_ret (pe_and (pe_callB call_isi (by rfl) T.isi PyProof.Rows.Boot.«isinstance» (pa_cons (pv 0) (pa_cons (pe_bltn (v := .ty "str") (by rfl) T.str PyProof.Rows.Boot.«str» rfl) pa_nil))) (pe_one (pe_cmpR op_eq (pv 0) (pv 1) (nomark _)))))) pss_nil)
        (pss_cons (ps_if (pt_val (pe_callB call_isi (by rfl) T.isi PyProof.Rows.Boot.«isinstance» (pa_cons (pv 1) (pa_cons (pe_bltn (v := .ty "int") (by rfl) T.int PyProof.Rows.Boot.«int» rfl) pa_nil))))
          (pss_one (ps_ret (pe_and (pe_callB call_isi (by rfl) T.isi PyProof.Rows.Boot.«isinstance» (pa_cons (pv 0) (pa_cons (pe_bltn (v := .ty "int") (by rfl) T.int PyProof.Rows.Boot.«int» rfl) pa_nil)))
            (pe_and (pe_not (pe_callB call_isi (by rfl) T.isi PyProof.Rows.Boot.«isinstance» (pa_cons (pv 0) (pa_cons (pe_bltn (v := .ty "bool") (by rfl) T.bool PyProof.Rows.Boot.«bool» rfl) pa_nil)))) (pe_one (pe_cmpR op_eq (pv 0) (pv 1) (nomark _))))))) pss_nil)
        (pss_cons (ps_if (PW.pt (pw_or (pt_not (pt_val (pe_callB call_isi (by rfl) T.isi PyProof.Rows.Boot.«isinstance» (pa_cons (pv 0) (pa_cons (pe_bltn (v := .ty "tuple") (by rfl) T.tup PyProof.Rows.Boot.«tuple» rfl) pa_nil)))))
            (pw_or1 (pt_cmpR op_ne (pe_callB call_len_seq (by rfl) T.len PyProof.Rows.Boot.«len» (pa_cons (pv 0) pa_nil)) (pe_callB call_len_seq (by rfl) T.len PyProof.Rows.Boot.«len» (pa_cons (pv 1) pa_nil)) (nomark _))))) (pss_one (ps_ret pe_bl)) pss_nil)
        (pss_one (ps_ret (pe_callB (cr_all rfl) (by rfl) T.all' PyProof.Rows.Boot.«all» (pa_cons (pe_lc (own := [("k", 2)]) (g := gName 2) (tt := tYes) (by rfl) scAl.nd
          (pi_range1 (by rfl) T.rng (pa_cons (pe_callB call_len_seq (by rfl) T.len PyProof.Rows.Boot.«len» (pa_cons (pv 1) pa_nil)) pa_nil)) (blkOk_by (own := [("k", 2)]) (N := ["found", "due", "k"]) (sc := defScope sAlike) (by decide +kernel))
          (fun _ _ _ _ _ => pg_name (i := 2) scAl.nd rfl (Or.inl rfl)) (fun _ _ _ _ _ => pts_nil)
          (fun _ _ _ _ _ => pe_call G hr (by rfl) g F.kp b .nil pass0 (pa_cons (pe_ix (r := rIxT K) ix_tup (pv 0) (pv 2) (fun _ _ => rfl)) (pa_cons (pe_ix (r := rIxT K) ix_tup (pv 1) (pv 2) (fun _ _ => rfl)) pa_nil)))) pa_nil)))))))))), ?_⟩
      cases d with
      | none =>
        cases h1
        cases h2
        exact ⟨_, rfl, rfl, _, rfl, ite2 (fun _ => ⟨_, rfl, rfl, k H (Same.refl H)⟩) (fun z => (z rfl).elim)⟩
      | bool c =>
        cases h1
        cases h2
        refine ⟨_, rfl, rfl, _, rfl, ite2 (fun z => nomatch (of_decide_eq_true z)) (fun _ => ?_)⟩
        cases c with
        | true => exact ⟨_, rfl, rfl, _, rfl, ite2 (fun _ => ⟨_, rfl, rfl, k H (Same.refl H)⟩) (fun z => (z rfl).elim)⟩
        | false => exact ⟨_, rfl, rfl, _, rfl, ite2 (fun z => nomatch (of_decide_eq_true z)) (fun _ => ⟨_, rfl, rfl, _, rfl, ite2 (fun _ => ⟨_, rfl, rfl, k H (Same.refl H)⟩) (fun z => (z rfl).elim)⟩)⟩
      | str x =>
        cases h1
        cases h2
        refine ⟨_, rfl, rfl, _, rfl, ite2 (fun z => nomatch (of_decide_eq_true z)) (fun _ => ?_)⟩
        refine ⟨_, rfl, rfl, _, rfl, ite2 (fun z => nomatch (of_decide_eq_true z)) (fun _ => ?_)⟩
        refine ⟨_, rfl, rfl, _, rfl, ite2 (fun z => nomatch (of_decide_eq_true z)) (fun _ => ?_)⟩
        refine ⟨_, rfl, _, _, _, _, _, rfl, .ty "str", .base (.str x), kit_ty (r := true) (by decide +kernel), _, rfl, iteT ?_⟩
        refine ⟨_, rfl, _, _, _, _, _, rfl, .ty "str", .base (.str x), kit_ty (r := true) (by decide +kernel), _, rfl, iteT ⟨_, rfl, _, rfl, rfl, ?_⟩⟩
        rw [decide_eq_true (rfl : V.str x = V.str x)]
        exact k H (Same.refl H)
      | int i =>
        cases h1
        cases h2
        refine ⟨_, rfl, rfl, _, rfl, ite2 (fun z => nomatch (of_decide_eq_true z)) (fun _ => ?_)⟩
        refine ⟨_, rfl, rfl, _, rfl, ite2 (fun z => nomatch (of_decide_eq_true z)) (fun _ => ?_)⟩
        refine ⟨_, rfl, rfl, _, rfl, ite2 (fun z => nomatch (of_decide_eq_true z)) (fun _ => ?_)⟩
        refine ⟨_, rfl, _, _, _, _, _, rfl, .ty "str", .base (.int i), kit_ty (r := false) (by decide +kernel), _, rfl, iteF ?_⟩
        refine ⟨_, rfl, _, _, _, _, _, rfl, .ty "int", .base (.int i), kit_ty (r := true) (by decide +kernel), _, rfl, iteT ?_⟩
        refine ⟨_, rfl, _, _, _, _, _, rfl, .ty "int", .base (.int i), kit_ty (r := true) (by decide +kernel), _, rfl, iteT ?_⟩
        refine ⟨_, rfl, _, _, _, _, _, rfl, .ty "bool", .base (.int i), kit_ty (r := false) (by decide +kernel), _, rfl, _, rfl, iteT ⟨_, rfl, _, rfl, rfl, ?_⟩⟩
        rw [decide_eq_true (rfl : V.int i = V.int i)]
        exact k H (Same.refl H)
      | list ds => cases n <;> exact hp.elim
      | dict ds => cases n <;> exact hp.elim
      | tuple ds =>
        cases n with
        | zero => exact hp.elim
        | succ m =>
          cases h1 with
          | @tup p xs _ q1 a1 =>
            cases h2 with
            | @tup q ys _ q2 a2 =>
              have l1 := dpa_len a1
              have l2 := dpa_len a2
              refine ⟨_, rfl, rfl, _, rfl, ite2 (fun z => nomatch (of_decide_eq_true z)) (fun _ => ?_)⟩
              refine ⟨_, rfl, rfl, _, rfl, ite2 (fun z => nomatch (of_decide_eq_true z)) (fun _ => ?_)⟩
              refine ⟨_, rfl, rfl, _, rfl, ite2 (fun z => nomatch (of_decide_eq_true z)) (fun _ => ?_)⟩
              refine ⟨_, rfl, _, _, _, _, _, rfl, .ty "str", ty_tup q2, kit_ty (r := false) (by decide +kernel), _, rfl, iteF ?_⟩
              refine ⟨_, rfl, _, _, _, _, _, rfl, .ty "int", ty_tup q2, kit_ty (r := false) (by decide +kernel), _, rfl, iteF ?_⟩
              refine ⟨_, rfl, _, _, _, _, _, rfl, .ty "tuple", ty_tup q1, kit_ty (r := true) (by decide +kernel), _, rfl, iteF ?_⟩
              refine ⟨_, rfl, _, _, rfl, .inr q1, _, rfl, _, _, rfl, .inr q2, rfl, _, rfl, ?_⟩
              rw [l1, l2, decide_eq_true (rfl : V.int (ds.length : Int) = V.int (ds.length : Int))]
              refine iteF ?_
              refine ⟨_, rfl, q, ys, rfl, .inr q2, (ys.length : Int), rfl, ?_⟩
              have hlen : ds.length ≤ 4 := hp.1
              refine ⟨by omega, by omega, fun D hD => ?_⟩
              have hN : ((ys.length : Int)).toNat = ds.length := by omega
              rw [hN]
              refine lc_range (lo := 0) (n := ds.length) (fun i H' => Same H H' ∧ H' D = some (.lst ((List.replicate i true).map V.bl))) ⟨new_same hD, upd_same⟩ (fun i H' hi hPv => ?_) (fun H' hPv => ?_)
              · obtain ⟨s1, hl⟩ := hPv
                have he : ds[i]? = some ds[i] := List.getElem?_eq_getElem hi
                obtain ⟨v1, e1, d1⟩ := dpa_get a1 he
                obtain ⟨v2, e2, d2⟩ := dpa_get a2 he
                have tf : TF H H' := fun c zs z => by
                  rcases z with z | ⟨u, z⟩
                  · exact .inl (s1 _ _ z)
                  · exact .inr ⟨u, s1 _ _ z⟩
                have hr2 : Rp m ds[i] := hp.2 _ (List.getElem_mem hi)
                refine ⟨rfl, ?_⟩
                show tCall (spAl K (m + 1)) [] E0 (tCons (tOp (rIxT K) (tVar 0) (tVar 2)) (tCons (tOp (rIxT K) (tVar 1) (tVar 2)) tNil)) _ _ _
                refine ⟨_, rfl, _, rfl, p, xs, _, v1, rfl, rfl, tf.sq q1, at_of (j := i) (by omega) e1, _, rfl, _, rfl, q, ys, _, v2, rfl, rfl, tf.sq q2, at_of (j := i) (by omega) e2, ?_⟩
                refine ⟨v1, v2, ds[i], rfl, dp_tf tf m _ _ hr2 d1, dp_tf tf m _ _ hr2 d2, hr2, fun H2 s2 => ⟨_, s2 _ _ hl, ?_, fun b o z => ?_, ?_⟩⟩
                · rw [List.length_map, List.length_replicate]
                  exact Nat.lt_of_lt_of_le (show i < 100 by omega) (by decide)
                · rw [upd_ne (ne_of_none z hD)]
                  exact s2 _ _ (s1 _ _ z)
                · rw [upd_same, List.replicate_succ', List.map_append]
                  rfl
              · obtain ⟨s1, hl⟩ := hPv
                refine ⟨D, _, rfl, SqL.of hl, ?_⟩
                have e : (List.replicate ds.length true).all id = true := by simp
                rw [e]
                exact k H' s1
end
end K0
set_option maxRecDepth 100000
set_option maxHeartbeats 4000000
/-! One error looked at, and the law. -/
namespace K0
open PySem PySem.Spec PyProof.Rows L2 KC
theorem cs_nodup : cs.Nodup := by decide +kernel
theorem cs_len : cs.length = 30 := by decide +kernel
theorem cs_at {w : Int} (h1 : 1 ≤ w) (h2 : w ≤ 30) : ∃ x, cs[(w - 1).toNat]? = some x :=
  ⟨_, List.getElem?_eq_getElem (by rw [cs_len]; omega)⟩
theorem same_tf {H H' : Hp} (s : Same H H') : TF H H' := fun c zs z => by
  rcases z with z | ⟨u, z⟩
  · exact .inl (s _ _ z)
  · exact .inr ⟨u, s _ _ z⟩
theorem frm_same {H0 H1 H2 : Hp} {d : Addr} (s : Same H0 H1) (n : H0 d = none) (f : Frm d H1 H2) : Same H0 H2 := fun b o z => f b o (ne_of_none z n) (s b o z)
section
variable {P : Program} {w : World} {K : PySem.W.Frag} {mg : Str → Option Value} {base : Heap} {f fF fA fT fD fG fR : Addr} {fd fdF fdA fdT fdD fdG fdR : FuncData}
def spRight (K : PySem.W.Frag) : Sp := fun vs H Q _ => ∃ (w : Int) (v : V) (d : PyData) (nm : Bool), vs = [.int w, v, .bl nm] ∧ 1 ≤ w ∧ w ≤ 30 ∧ Dp K H v d ∧ Rp 3 d ∧ ∀ H', Same H H' → Q (.bl true) H'
theorem scRt : FnScope ["which", "given", "named", "found", "flags", "k"] ["which", "given", "named"] (defScope sRight) := ⟨rfl, rfl, rfl, by decide +kernel, rfl, by decide +kernel, by decide +kernel⟩
theorem ok_right (F : FnQ K "_law_right" "_law_right" sRight f fd) (T : Txt K mg) (FF : FnQ K "_law_fields" "_law_fields" sFields fF fdF) (gF : mg "_law_fields" = some (.ref fF)) (GF : FnOk P w K mg base CX0 5 fF fdF ["which", "given", "named"] (spFields K))
    (FA : FnQ K "_law_alike" "_law_alike" sAlike fA fdA) (gA : mg "_law_alike" = some (.ref fA)) : FnOk P w K mg base CX0 6 f fd ["which", "given", "named"] (spRight K) := by
  have GA : FnOk P w K mg base CX0 4 fA fdA ["found", "due"] (spAl K 4) := ok_alike FA T gA 4
  have bF : Binds K fdF ["which", "given", "named"] [] := FF.bindsN fun _ _ _ _ _ _ us hl => match us, hl with | [_, _, _], _ => rfl
  have bA : Binds K fdA ["found", "due"] [] := FA.bindsN fun _ _ _ _ _ _ us hl => match us, hl with | [_, _], _ => rfl
  refine F.ok scRt (fun vs H Q E h => ?_) (fun cdv A outer s H vs Q E hr h => ?_)
  · obtain ⟨a, v, d, nm, rfl, _⟩ := h
    rfl
  · obtain ⟨a, v, d, nm, rfl, h1, h2, hd, hp, kk⟩ := h
    have hr5 : Room 5 _ := hr
    have hr4 : Room 4 _ := hr.mono (by decide)
    refine ⟨_, PSs.nox (pss_cons (ps_set (i := 3) scRt.nd rfl (Or.inl rfl) (pe_call GF hr5 (by rfl) gF FF.kp bF .nil pass0 (pa_cons (pv 0) (pa_cons (pv 1) (pa_cons (pv 2) pa_nil)))))
      (pss_cons (ps_if (PW.pt (pw_or (pt_cmpR op_isN (pv 3) pe_non (nomark _)) (pw_or1 (pt_cmpR (op_notT true) (pe_ix ix_tup (pv 3) pe_int (fun _ _ => rfl)) pe_bl (nomark _))))) (pss_one (ps_ret pe_bl)) pss_nil)
      (pss_cons (ps_set (i := 4) scRt.nd rfl (Or.inr rfl) (pe_ix ix_tup (pv 3) pe_int (fun _ _ => rfl)))
      (pss_cons (ps_if (pt_cmpR op_ne (pe_callB call_len_seq (by rfl) T.len PyProof.Rows.Boot.«len» (pa_cons (pe_lc (own := [("k", 5)]) (g := gName 5)
            (tt := tTest (tOp rEq (tOp (rIxL K) (tVar 4) (tVar 5)) (tOp rEq (tOp (rI0 fun i j => .int (i + j)) (tVar 5) (tC (.int 1))) (tVar 0)))) (by rfl) scRt.nd
          (pi_range1 (by rfl) T.rng (pa_cons pe_int pa_nil)) (blkOk_by (own := [("k", 5)]) (N := ["which", "given", "named", "found", "flags", "k"]) (sc := defScope sRight) (by decide +kernel))
          (fun _ _ _ _ _ => pg_name (i := 5) scRt.nd rfl (Or.inl rfl))
          (fun _ _ _ _ _ => pts_one (pt_cmpR op_eq (pe_ix (r := rIxL K) ix_list (pv 4) (pv 5) (fun _ _ => rfl)) (pe_cmpR op_eq (pe_op op_add (pv 5) pe_int) (pv 0) (nomark _)) (nomark _)))
          (fun _ _ _ _ _ => pv 5)) pa_nil)) pe_int (nomark _)) (pss_one (ps_ret pe_bl)) pss_nil)
      (pss_one (ps_ret (pe_call GA hr4 (by rfl) gA FA.kp bA .nil pass0 (pa_cons (pe_ix ix_tup (pv 3) pe_int (fun _ _ => rfl)) (pa_cons (pv 1) pa_nil))))))))), ?_⟩
    obtain ⟨x, hx⟩ := cs_at h1 h2
    refine ⟨_, rfl, _, rfl, _, rfl, a, v, d, nm, rfl, h1, h2, hd, hp, fun y t l H1 hy s1 ht hl => ?_⟩
    have hxy : x = y := Option.some.inj (hx.symm.trans hy)
    subst hxy
    refine ⟨_, rfl, rfl, _, rfl, ite2 (fun z => nomatch (of_decide_eq_true z)) (fun _ => ?_)⟩
    refine ⟨_, rfl, _, _, _, _, rfl, rfl, SqT.of ht, at_of (j := 1) rfl rfl, rfl, _, rfl, iteNS rfl ?_⟩
    refine ⟨_, rfl, _, _, _, _, rfl, rfl, SqT.of ht, at_of (j := 0) rfl rfl, ?_⟩
    refine ⟨30, rfl, by decide, by decide, fun D hD => ?_⟩
    refine lc_range (lo := 0) (n := 30) (fun i H' => Same H1 H' ∧ ∃ acc, H' D = some (.lst acc) ∧ acc.length = i) ⟨new_same hD, [], upd_same, rfl⟩ (fun i H' hi hPv => ?_) (fun H' hPv => ?_)
    · obtain ⟨s2, acc, hacc, hlen⟩ := hPv
      have hi2 : i < cs.length := by
        rw [cs_len]
        exact hi
      refine ⟨rfl, _, rfl, _, rfl, l, _, _, .bl (decide (x = cs[i])), rfl, rfl, SqL.of (s2 _ _ hl), at_of (j := i) (by omega) (by rw [List.getElem?_map, List.getElem?_eq_getElem hi2]; rfl), _, rfl, _, _, rfl, rfl, _, rfl, rfl, rfl, _, rfl, ?_⟩
      have hw : (a - 1).toNat < cs.length := by
        rw [cs_len]
        omega
      have hxe : x = cs[(a - 1).toNat] := by
        rw [List.getElem?_eq_getElem hw] at hx
        exact (Option.some.inj hx).symm
      have key : decide (x = cs[i]) = decide (V.int (0 + (i : Int) + 1) = V.int a) := by
        by_cases e : i = (a - 1).toNat
        · subst e
          rw [decide_eq_true hxe, decide_eq_true]
          congr 1
          omega
        · rw [decide_eq_false, decide_eq_false]
          · intro z
            injection z with z
            omega
          · intro z
            rw [hxe] at z
            exact e (((List.getElem_inj cs_nodup).mp z).symm)
      rw [key]
      refine ite2 (fun _ => ?_) (fun z => absurd (decide_eq_true rfl) z)
      exact ⟨_, rfl, acc, hacc, Nat.lt_of_lt_of_le (show acc.length < 100 by omega) (by decide), fun b o z => by rw [upd_ne (ne_of_none z hD)]; exact s2 _ _ z, _, upd_same, by rw [List.length_append, hlen]; rfl⟩
    · obtain ⟨s2, acc, hacc, hlen⟩ := hPv
      refine ⟨D, acc, rfl, .inl (SqL.of hacc), rfl, _, rfl, ?_⟩
      rw [hlen]
      refine iteNS rfl ?_
      have e := same_tf (s1.trans s2)
      exact ⟨_, rfl, _, _, _, _, rfl, rfl, SqT.of (s2 _ _ ht), at_of (j := 2) rfl rfl, _, rfl, v, v, d, rfl, dp_tf e 3 d v hp hd, dp_tf e 3 d v hp hd, hp, fun H2 s3 => kk H2 ((s1.trans s2).trans s3)⟩
/-! ### the law -/
def spLaw (K : PySem.W.Frag) : Sp := fun vs H Q _ => ∃ (a : Addr) (ns : List Int), vs = [.ref a] ∧ SqL K H a (ns.map V.int) ∧ ns.length ≤ 63 ∧ ∀ H', Q (.bl true) H'
theorem scL : FnScope ["script", "many", "start", "k", "deck", "named", "which", "first"] ["script"] (defScope sLaw) := ⟨rfl, rfl, rfl, by decide +kernel, rfl, by decide +kernel, by decide +kernel⟩
theorem ok_law (F : FnQ K "law" "law" sLaw f fd) (T : Txt K mg) (FD : FnQ K "_law_deck" "_law_deck" sDeck fD fdD) (gD : mg "_law_deck" = some (.ref fD)) (FT : FnQ K "_law_take" "_law_take" sTake fT fdT) (gT : mg "_law_take" = some (.ref fT))
    (FG : FnQ K "_law_given" "_law_given" sGiven fG fdG) (gG : mg "_law_given" = some (.ref fG)) (GG : FnOk P w K mg base CX0 3 fG fdG ["deck"] (spGiven K)) (FR : FnQ K "_law_right" "_law_right" sRight fR fdR) (gR : mg "_law_right" = some (.ref fR))
    (GR : FnOk P w K mg base CX0 6 fR fdR ["which", "given", "named"] (spRight K)) : FnOk P w K mg base CX0 7 f fd ["script"] (spLaw K) := by
  have GD : FnOk P w K mg base CX0 1 fD fdD ["script", "k"] (spDeck K) := ok_deck FD T
  have GT : FnOk P w K mg base CX0 1 fT fdT ["deck", "many"] spTake := ok_take FT T
  have bD : Binds K fdD ["script", "k"] [] := FD.bindsN fun _ _ _ _ _ _ us hl => match us, hl with | [_, _], _ => rfl
  have bT : Binds K fdT ["deck", "many"] [] := FT.bindsN fun _ _ _ _ _ _ us hl => match us, hl with | [_, _], _ => rfl
  have bG : Binds K fdG ["deck"] [] := FG.bindsN fun _ _ _ _ _ _ us hl => match us, hl with | [_], _ => rfl
  have bR : Binds K fdR ["which", "given", "named"] [] := FR.bindsN fun _ _ _ _ _ _ us hl => match us, hl with | [_, _, _], _ => rfl
  refine F.ok scL (fun vs H Q E h => ?_) (fun cdv A outer s H vs Q E hr h => ?_)
  · obtain ⟨a, ns, rfl, _⟩ := h
    rfl
  · obtain ⟨a, ns, rfl, hS, hl, kk⟩ := h
    have hr6 : Room 6 _ := hr
    have hr3 : Room 3 _ := hr.mono (by decide)
    have hr1 : Room 1 _ := hr.mono (by decide)
    refine ⟨_, PSs.nox (pss_cons (ps_set (i := 1) scL.nd rfl (Or.inl rfl) (pe_callB (call_max2 rfl) (by rfl) T.max' PyProof.Rows.Boot.«max» (pa_cons pe_int (pa_cons (pe_callB (call_min2 rfl) (by rfl) T.min' PyProof.Rows.Boot.«min» (pa_cons (pe_callB call_len_seq (by rfl) T.len PyProof.Rows.Boot.«len» (pa_cons (pv 0) pa_nil)) (pa_cons pe_int pa_nil))) pa_nil))))
      (pss_cons (ps_set (i := 2) scL.nd rfl (Or.inl rfl) (pe_call GT hr1 (by rfl) gT FT.kp bT .nil pass0 (pa_cons (pe_call GD hr1 (by rfl) gD FD.kp bD .nil pass0 (pa_cons (pv 0) (pa_cons pe_int pa_nil))) (pa_cons pe_int pa_nil))))
      (pss_cons (ps_for PassesOwn.never rfl (pi_range1 (by rfl) T.rng (pa_cons (pv 1) pa_nil)) (pg_name (i := 3) scL.nd rfl (Or.inl rfl))
        (pss_cons (ps_set (i := 4) scL.nd rfl (Or.inl rfl) (pe_call GD hr1 (by rfl) gD FD.kp bD .nil pass0 (pa_cons (pv 0) (pa_cons (pv 3) pa_nil))))
        (pss_cons (ps_set (i := 5) scL.nd rfl (Or.inl rfl) (pe_cmpR op_eq (pe_call GT hr1 (by rfl) gT FT.kp bT .nil pass0 (pa_cons (pv 4) (pa_cons pe_int pa_nil))) pe_int (nomark _)))
        (pss_cons (ps_set (i := 6) scL.nd rfl (Or.inl rfl) (pe_op op_add pe_int (pe_call GT hr1 (by rfl) gT FT.kp bT .nil pass0 (pa_cons (pv 4) (pa_cons pe_int pa_nil)))))
        (pss_cons (ps_set (i := 7) scL.nd rfl (Or.inl rfl) (pe_call GG hr3 (by rfl) gG FG.kp bG .nil pass0 (pa_cons (pv 4) pa_nil)))
        (pss_cons (ps_if (PW.pt (pw_or (pt_not (pt_val (pe_call GR hr6 (by rfl) gR FR.kp bR .nil pass0 (pa_cons (pv 6) (pa_cons (pv 7) (pa_cons (pv 5) pa_nil))))))
          (pw_or1 (pt_not (pt_val (pe_call GR hr6 (by rfl) gR FR.kp bR .nil pass0 (pa_cons (pv 6) (pa_cons (pe_call GG hr3 (by rfl) gG FG.kp bG .nil pass0 (pa_cons (pv 4) pa_nil)) (pa_cons (pe_not (pv 5)) pa_nil))))))))) (pss_one (ps_ret pe_bl)) pss_nil)
        (pss_one (ps_if (pt_not (pt_val (pe_call GR hr6 (by rfl) gR FR.kp bR .nil pass0 (pa_cons (pv 6) (pa_cons (pv 7) (pa_cons (pv 5) pa_nil)))))) (pss_one (ps_ret pe_bl)) pss_nil))))))))
      (pss_cons (ps_for PassesOwn.never rfl (pi_range1 (by rfl) T.rng (pa_cons pe_int pa_nil)) (pg_name (i := 3) scL.nd rfl (Or.inl rfl))
        (pss_one (ps_if (pt_not (pt_val (pe_call GR hr6 (by rfl) gR FR.kp bR .nil pass0 (pa_cons (pe_op op_add pe_int (pe_op op_mod (pe_callTy call_int1 (by rfl) T.int PyProof.Rows.Boot.«int» (pa_cons (pe_op op_add (pv 3) (pv 2)) pa_nil)) pe_int))
          (pa_cons (pe_op op_sub (pe_op op_mul (pv 3) (pv 3)) pe_int) (pa_cons (pe_cmpR op_eq (pe_op op_mod (pe_callTy call_int1 (by rfl) T.int PyProof.Rows.Boot.«int» (pa_cons (pv 3) pa_nil)) pe_int) pe_int (nomark _)) pa_nil)))))) (pss_one (ps_ret pe_bl)) pss_nil)))
      (pss_one (ps_ret pe_bl)))))), ?_⟩
    refine ⟨_, rfl, a, _, rfl, .inl hS, _, _, rfl, _, _, rfl, ?_⟩
    obtain ⟨m, hm⟩ : ∃ m : Int, m = (if (if (40 : Int) < ((ns.map V.int).length : Int) then (40 : Int) else ((ns.map V.int).length : Int)) > 1 then (if (40 : Int) < ((ns.map V.int).length : Int) then (40 : Int) else ((ns.map V.int).length : Int)) else 1) := ⟨_, rfl⟩
    show L2.tSeq _ _ _ (List.set _ 1 (some (V.int (if (if (40 : Int) < ((ns.map V.int).length : Int) then (40 : Int) else ((ns.map V.int).length : Int)) > 1 then (if (40 : Int) < ((ns.map V.int).length : Int) then (40 : Int) else ((ns.map V.int).length : Int)) else 1)))) _
    rw [← hm]
    have hm0 : 0 ≤ m := by
      rw [hm]
      split <;> omega
    have hm1 : m ≤ 40 := by
      rw [hm]
      split
      · split <;> omega
      · omega
    refine ⟨_, rfl, a, ns, 0, rfl, hS, by omega, fun l H1 s1 n1 D1 => ?_⟩
    refine ⟨l, 30, 899999999999, rfl, by decide, by decide, D1, fun st H2 st0 st1 f2 D2 => ?_⟩
    have s2 : Same H H2 := frm_same s1 n1 f2
    refine ⟨_, rfl, m, rfl, by omega, by omega, ?_⟩
    refine for_range (lo := 0) (n := m.toNat) (fun i σ H' => ∃ (v3 v4 v5 v6 v7 : Option V), σ = [some (.ref a), some (.int m), some (.int st), v3, v4, v5, v6, v7] ∧ Same H H') ⟨none, none, none, none, none, rfl, s2⟩ (fun i σ H3 hi hPv => ?_) (fun σ H3 hPv => ?_)
    · obtain ⟨v3, v4, v5, v6, v7, rfl, s3⟩ := hPv
      refine ⟨_, rfl, _, rfl, a, ns, i, by rw [Int.zero_add]; rfl, s3.seq hS, by omega, fun d H4 s4 n4 D4 => ?_⟩
      have hdn : H d = none := s3.free n4
      have s4' : Same H H4 := s3.trans s4
      refine ⟨_, rfl, d, 2, 899999999999, rfl, by decide, by decide, D4, fun x5 H5 _ _ f5 D5 => ?_⟩
      have s5 := frm_same s4' hdn f5
      refine ⟨rfl, ?_⟩
      refine ⟨_, rfl, d, 30, 899999999998, rfl, by decide, by decide, D5, fun x6 H6 x60 x61 f6 D6 => ?_⟩
      have s6 := frm_same s5 hdn f6
      refine ⟨_, _, rfl, rfl, ?_⟩
      refine ⟨_, rfl, d, 899999999994, rfl, D6, fun v dt H7 f7 D7 dp7 rp7 => ?_⟩
      have s7 := frm_same s6 hdn f7
      refine ⟨_, rfl, _, rfl, _, rfl, _, v, dt, _, rfl, by omega, by omega, dp7, rp7, fun H8 s8 => ?_⟩
      have D8 := D7.same s8
      refine ⟨true, rfl, ?_⟩
      refine iteF ?_
      refine ⟨_, rfl, _, rfl, d, 899999999990, rfl, D8, fun v' dt' H9 f9 D9 dp9 rp9 => ?_⟩
      have s9 := frm_same (s7.trans s8) hdn f9
      refine ⟨_, rfl, _, rfl, _, v', dt', _, rfl, by omega, by omega, dp9, rp9, fun H10 s10 => ⟨true, rfl, ?_⟩⟩
      refine iteF ?_
      obtain ⟨ds8, hds8⟩ := D8.lst
      have t10 : TF H7 H10 := ((same_tf s8).trans (f9.tf hds8)).trans (same_tf s10)
      refine ⟨_, rfl, _, rfl, _, rfl, _, v, dt, _, rfl, by omega, by omega, dp_tf t10 3 dt v rp7 dp7, rp7, fun H11 s11 => ⟨true, rfl, ?_⟩⟩
      refine iteF ?_
      exact ⟨_, _, _, _, _, rfl, (s9.trans s10).trans s11⟩
    · obtain ⟨v3, v4, v5, v6, v7, rfl, s3⟩ := hPv
      refine ⟨30, rfl, by decide, by decide, ?_⟩
      refine for_range (lo := 0) (n := 30) (fun i σ H' => ∃ (v3 v4 v5 v6 v7 : Option V), σ = [some (.ref a), some (.int m), some (.int st), v3, v4, v5, v6, v7]) ⟨_, _, _, _, _, rfl⟩ (fun i σ H4 hi hPv => ?_) (fun σ H4 hPv => ?_)
      · obtain ⟨v3, v4, v5, v6, v7, rfl⟩ := hPv
        have e1 := Int.emod_nonneg (0 + (i : Int) + st) (show (30 : Int) ≠ 0 by decide)
        have e2 := Int.emod_lt_of_pos (0 + (i : Int) + st) (show (0 : Int) < 30 by decide)
        have e3 : 0 ≤ (0 + (i : Int)) * (0 + (i : Int)) := Int.mul_nonneg (by omega) (by omega)
        have e4 : (0 + (i : Int)) * (0 + (i : Int)) ≤ 30 * 30 := Int.mul_le_mul (by omega) (by omega) (by omega) (by omega)
        refine ⟨_, rfl, _, rfl, _, _, rfl, rfl, .inl ⟨_, rfl, _, _, rfl, rfl, (show (0 : Int) < 30 by decide), _, _, rfl, rfl, ?_⟩⟩
        refine ⟨_, rfl, _, rfl, _, _, rfl, rfl, .inl ⟨by omega, by omega⟩, _, _, rfl, rfl, _, rfl, .inl ⟨_, rfl, _, _, rfl, rfl, (show (0 : Int) < 2 by decide), rfl, ?_⟩⟩
        refine ⟨_, _, .int _, _, rfl, by omega, by omega, .int _, int_rp (by omega) (by omega) 3, fun H5 s5 => ⟨true, rfl, iteF ?_⟩⟩
        exact ⟨_, _, _, _, _, rfl⟩
      · exact kk H4
end
end K0
set_option maxRecDepth 100000
set_option maxHeartbeats 4000000
namespace K0
open PySem PySem.Spec PyProof.Rows L2 KC
theorem facts {P : Program} {w : World} {K : PySem.W.Frag} {h : Heap} {mg : Str → Option Value} {f : Addr} (X : K.In h) (G : h.Ns mainGlobals mg) (hfa : mg ("law" : Str) = some (.ref f)) (c : He.SaysD fa fn K) (ex : exAll K = true) :
    ∃ fd : FuncData, (∀ (s : Shared) (v : Value), BindsTo s fd ⟨[v], []⟩ [("script", v)]) ∧ ∀ base : Heap, K.In base → base.Ns mainGlobals mg → FnOk P w K mg base CX0 7 f fd ["script"] (spLaw K) := by
  obtain ⟨fdI, FI⟩ := c.def_ 0 (d := dI) rfl
  obtain ⟨fdD, FD⟩ := c.def_ 1 (d := dd "_law_deck" sDeck) rfl
  obtain ⟨fdT, FT⟩ := c.def_ 2 (d := dd "_law_take" sTake) rfl
  obtain ⟨fdA, FA⟩ := c.def_ 3 (d := dd "_law_any" sAny) rfl
  obtain ⟨fdL, FL⟩ := c.def_ 4 (d := dd "_law_alike" sAlike) rfl
  obtain ⟨fd1, F1⟩ := c.def_ 5 (d := dd "_law_raise_first" sR1) rfl
  obtain ⟨fd2, F2⟩ := c.def_ 6 (d := dd "_law_raise_second" sR2) rfl
  obtain ⟨fd3, F3⟩ := c.def_ 7 (d := dd "_law_raise_named_first" sN1) rfl
  obtain ⟨fd4, F4⟩ := c.def_ 8 (d := dd "_law_raise_named_second" sN2) rfl
  obtain ⟨fdR, FR⟩ := c.def_ 9 (d := dd "_law_raised" sRaised) rfl
  obtain ⟨fdC, FC⟩ := c.def_ 10 (d := dd "_law_classes" sClasses) rfl
  obtain ⟨fdF, FF⟩ := c.def_ 11 (d := dd "_law_fields" sFields) rfl
  obtain ⟨fdG, FG⟩ := c.def_ 12 (d := dd "_law_given" sGiven) rfl
  obtain ⟨fdQ, FQ⟩ := c.def_ 13 (d := dd "_law_right" sRight) rfl
  obtain ⟨fd, F⟩ := c.def_ 14 (d := dd "law" sLaw) rfl
  have e := hfa.symm.trans (He.glo_ok X G (c.fact 13 (f := .glo "law") rfl))
  cases e
  have T : Txt K mg :=
    { ex := ex
      cl := fun x hx => PySem.W.mg_of X G (cf_of ex hx).1
      ge := He.glo_ok X G (c.fact 14 (f := .glo "GameError") rfl)
      len := He.free_ok X G (c.fact 15 (f := .free "len") rfl)
      int := He.free_ok X G (c.fact 16 (f := .free "int") rfl)
      isi := He.free_ok X G (c.fact 17 (f := .free "isinstance") rfl)
      rng := He.free_ok X G (c.fact 18 (f := .free "range") rfl)
      all' := He.free_ok X G (c.fact 19 (f := .free "all") rfl)
      min' := He.free_ok X G (c.fact 20 (f := .free "min") rfl)
      max' := He.free_ok X G (c.fact 21 (f := .free "max") rfl)
      ve := He.free_ok X G (c.fact 22 (f := .free "ValueError") rfl)
      rep := He.free_ok X G (c.fact 23 (f := .free "repr") rfl)
      str := He.free_ok X G (c.fact 24 (f := .free "str") rfl)
      bool := He.free_ok X G (c.fact 25 (f := .free "bool") rfl)
      tup := He.free_ok X G (c.fact 26 (f := .free "tuple") rfl) }
  have gD := He.glo_ok X G (c.fact 0 (f := .glo "_law_deck") rfl)
  have gT := He.glo_ok X G (c.fact 1 (f := .glo "_law_take") rfl)
  have gA := He.glo_ok X G (c.fact 2 (f := .glo "_law_any") rfl)
  have gL := He.glo_ok X G (c.fact 3 (f := .glo "_law_alike") rfl)
  have g1 := He.glo_ok X G (c.fact 4 (f := .glo "_law_raise_first") rfl)
  have g2 := He.glo_ok X G (c.fact 5 (f := .glo "_law_raise_second") rfl)
  have g3 := He.glo_ok X G (c.fact 6 (f := .glo "_law_raise_named_first") rfl)
  have g4 := He.glo_ok X G (c.fact 7 (f := .glo "_law_raise_named_second") rfl)
  have gR := He.glo_ok X G (c.fact 8 (f := .glo "_law_raised") rfl)
  have gC := He.glo_ok X G (c.fact 9 (f := .glo "_law_classes") rfl)
  have gF := He.glo_ok X G (c.fact 10 (f := .glo "_law_fields") rfl)
  have gG := He.glo_ok X G (c.fact 11 (f := .glo "_law_given") rfl)
  have gQ := He.glo_ok X G (c.fact 12 (f := .glo "_law_right") rfl)
  have b := FunD.bindsA (ps := ["script"]) F fun _ _ _ _ _ _ us hl => match us, hl with | [_], _ => rfl
  refine ⟨fd, fun s v => b s [v] rfl, fun base _ _ => ?_⟩
  have GR := ok_raised (P := P) (w := w) (base := base) FR T FI F1 g1 F2 g2 F3 g3 F4 g4
  have GF := ok_fields (P := P) (w := w) (base := base) FF T FC gC FR gR GR
  have GQ := ok_right (P := P) (w := w) (base := base) FQ T FF gF GF FL gL
  have GG := ok_given (P := P) (w := w) (base := base) FG T FT gT FA gA
  exact ok_law F T FD gD FT gT FG gG GG FQ gQ GQ
end K0
open PySem PySem.W PySem.Calls PyProof.Rows
set_option maxHeartbeats 0 in
theorem PySem.Challenge.cw_latepresses_k00_error_classes_holds : PySem.Challenge.rw_latepresses_k00_error_classes.Holds := by
  w_on; o_law
  refine HandSHeadRun.head_any (r := K0.R) (q := view K0.R.prog [47]) (H := K0.hk) (ob := K0.ob) (M := 20000) (loose := K0.loose) (d := HandSHeadRun.topDef K0.R.prog 47) (kwd := []) K0.ob_eq
    (by kernel_rfl) (fun s => by kernel_rfl) K0.run (by kernel_rfl) (by kernel_rfl) (by kernel_rfl) (by rfl) (by first | assumption | decide +kernel) (by decide +kernel) ⟨rfl, rfl, rfl, rfl, rfl, by decide +kernel⟩ ?hw ?hc
  case hw => w_witness2
  case hc =>
    refine L2.walk_ofE (l := PySem.Challenge.rw_latepresses_k00_error_classes) (n := 63) (k := 7) (x := "script") (CX := L2.CX0) rfl (by decide) (by kernel_rfl) ⟨rfl, by decide, by decide⟩ ?F (fun _ _ _ _ z => z)
    intro w mg fa h Y G hmg0
    obtain ⟨K, KX, c⟩ := Y
    have hmg : mg ("law" : PySem.Str) = some (.ref fa) := by
      have e : (HandSHeadRun.topDef K0.R.prog 47).name = ("law" : PySem.Str) := by kernel_rfl
      rw [← e]
      exact hmg0
    obtain ⟨fd, hb, hF⟩ := K0.facts (P := (PySem.Challenge.rw_latepresses_k00_error_classes).prog) (w := w) KX G hmg c.t.d c.more
    exact ⟨K, fd, K0.spLaw K, KX, hb, fun H a ns hl _ hS => ⟨a, ns, rfl, hS, hl, fun _ => rfl⟩, hF⟩
#print axioms PySem.Challenge.cw_latepresses_k00_error_classes_holds
