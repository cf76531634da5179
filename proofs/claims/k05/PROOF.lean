import PyProof.Rows.All
import Wide.All
import OpenK.AllK
import Wide.FinOn
import HandS.ForExc
import HandS.IsInst
import HandS.Wide
import HandS.List
import HandS.Flow
import HandS.TupAny
import KE.GoesEnumKw
import KE.KDictPairs
import HandS.ForMost
import HandS.Walk
import HandS.SortInts
import HandS.Dict
import HandS.More
import KE.KStateDown
import Wide.Once
import HandS.Comp
import HandS.Evl
import HandS.Defaults
import HandS.Head0
import HandS.Head1
import HandS.Head2
import HandS.HeadEnd
import HandS.HeadHook1
import HandS.HeadHook2
import HandS.HeadHook3
import HandS.HeadHook4
import HandS.SortRule
import HandS.Text
import HandS.Zip
import HandS.Star
import HandS.SetKeys
import PySem.Challenge.RW_latepresses_k05_whole_code_is_the_trees
set_option Elab.async false
set_option linter.all false
set_option maxRecDepth 100000
set_option maxHeartbeats 4000000
/-! Frames, draws, data without lists. -/
namespace KF
open PySem PySem.Spec PyProof.Rows L2
/-! ### data stand while tuples stand -/
def TF (H H' : Hp) : Prop := ∀ b xs, Rd H b (.tup xs) → Rd H' b (.tup xs)
theorem TF.sq {K : PySem.W.Frag} {H H' : Hp} (e : TF H H') {a : Addr} {xs : List V} (h : SqT K H a xs) : SqT K H' a xs := by
  rcases h with h | h
  · exact .inl (e _ _ h)
  · exact .inr h
theorem TF.refl (H : Hp) : TF H H := fun _ _ h => h
theorem TF.trans {H H1 H2 : Hp} (a : TF H H1) (b : TF H1 H2) : TF H H2 := fun c xs h => b c xs (a c xs h)
theorem TF.of_new {H : Hp} {p : Addr} {o : HO} (h : H p = none) : TF H (upd H p o) := fun c xs z => by
  rcases z with z | ⟨u, z⟩
  · exact .inl (by rw [upd_ne (ne_of_none z h)]; exact z)
  · exact .inr ⟨u, by rw [upd_ne (ne_of_none z h)]; exact z⟩
/-- but for one list all stands -/
def Frm (d : Addr) (H H' : Hp) : Prop := ∀ b o, b ≠ d → H b = some o → H' b = some o
theorem Frm.refl (d : Addr) (H : Hp) : Frm d H H := fun _ _ _ h => h
theorem Frm.trans {d : Addr} {H H1 H2 : Hp} (a : Frm d H H1) (b : Frm d H1 H2) : Frm d H H2 := fun c o n h => b c o n (a c o n h)
theorem Frm.of_same {d : Addr} {H H' : Hp} (e : Same H H') : Frm d H H' := fun b o _ h => e b o h
theorem Frm.of_new {d : Addr} {H : Hp} {p : Addr} {o : HO} (h : H p = none) : Frm d H (upd H p o) := fun b u _ z => by
  rw [upd_ne (ne_of_none z h)]
  exact z
theorem Frm.of_upd {d : Addr} {H : Hp} {o : HO} : Frm d H (upd H d o) := fun b u n z => by
  rw [upd_ne n]
  exact z
theorem Frm.tf {d : Addr} {H H' : Hp} {xs : List V} (e : Frm d H H') (h : H d = some (.lst xs)) : TF H H' := fun c ys z => by
  rcases z with z | ⟨u, z⟩
  · exact .inl (e c _ (fun q => by rw [q, h] at z; cases z) z)
  · exact .inr ⟨u, e c _ (fun q => by rw [q, h] at z; cases z) z⟩
theorem new_same {H : Hp} {p : Addr} {o : HO} (h : H p = none) : Same H (upd H p o) := fun b u z => by
  rw [upd_ne (ne_of_none z h)]
  exact z
theorem same_tf {H H' : Hp} (s : Same H H') : TF H H' := fun c zs z => by
  rcases z with z | ⟨u, z⟩
  · exact .inl (s _ _ z)
  · exact .inr ⟨u, s _ _ z⟩
theorem frm_same {H0 H1 H2 : Hp} {d : Addr} (s : Same H0 H1) (n : H0 d = none) (f : Frm d H1 H2) : Same H0 H2 := fun b o z => f b o (ne_of_none z n) (s b o z)
/-- a row of draws at d, good for n more -/
def Deck (H : Hp) (d : Addr) (n : Nat) : Prop := ∃ r m i c : Int, H d = some (.lst [.int r, .int m, .int i, .int c]) ∧ 0 ≤ m ∧ m < 2305843009213693951 ∧ 0 ≤ i ∧ i ≤ 1000 ∧ 0 ≤ c ∧ c + n ≤ 1000000000000
theorem Deck.le {H : Hp} {d : Addr} {n k : Nat} (h : Deck H d n) (hk : k ≤ n) : Deck H d k := by
  obtain ⟨r, m, i, c, h0, h1, h2, h3, h4, h5, h6⟩ := h
  exact ⟨r, m, i, c, h0, h1, h2, h3, h4, h5, by omega⟩
theorem Deck.lst {H : Hp} {d : Addr} {n : Nat} (h : Deck H d n) : ∃ xs, H d = some (.lst xs) := by
  obtain ⟨r, m, i, c, h0, _⟩ := h
  exact ⟨_, h0⟩
theorem Deck.keep {H H' : Hp} {d : Addr} {n : Nat} (h : Deck H d n) (e : H' d = H d) : Deck H' d n := by
  obtain ⟨r, m, i, c, h0, h1⟩ := h
  exact ⟨r, m, i, c, by rw [e]; exact h0, h1⟩
theorem Deck.same {H H' : Hp} {d : Addr} {n : Nat} (h : Deck H d n) (e : Same H H') : Deck H' d n := by
  obtain ⟨r, m, i, c, h0, h1⟩ := h
  exact ⟨r, m, i, c, e _ _ h0, h1⟩
theorem small_ab {i : Int} {n : Nat} (h0 : 0 ≤ i) (h1 : i < 2 ^ n) : i.natAbs < 2 ^ n := by
  have e : ((i.natAbs : Nat) : Int) = i := Int.natAbs_of_nonneg h0
  have h2 : ((i.natAbs : Nat) : Int) < ((2 ^ n : Nat) : Int) := by
    rw [e, Int.natCast_pow]
    exact h1
  exact Int.ofNat_lt.mp h2
theorem pow63 : (2 : Int) ^ 63 = 9223372036854775808 := by decide
theorem pow20 : (2 : Int) ^ 20 = 1048576 := by decide
theorem pow40 : (2 : Int) ^ 40 = 1099511627776 := by decide
theorem pow122 : (2 : Nat) ^ 122 = 5316911983139663491615228241121378304 := by decide
theorem pow120 : (2 : Nat) ^ (40 + 40 + 40) = 1329227995784915872903807060280344576 := by decide
theorem ne_int {i j : Int} (h : ¬ (V.int i = V.int j)) : i ≠ j := fun e => h (by rw [e])
theorem ty_tup {K : PySem.W.Frag} {H : Hp} {a : Addr} {xs : List V} (h : SqT K H a xs) : TyX K H (.ref a) (.type "tuple") := by
  rcases h with (h | ⟨o, h⟩) | ⟨o, _, _, h, hc, _⟩
  · exact .base (.tup h)
  · exact .fTuple h
  · exact .kTuple h hc
section
variable {K : PySem.W.Frag} {H : Hp}
theorem dpa_len : ∀ {vs : List V} {ds : List PyData}, DpAll K H vs ds → vs.length = ds.length
  | [], _, h => by cases h; rfl
  | v :: vs, _, h => by
    cases h with
    | cons _ b => rw [List.length_cons, List.length_cons, dpa_len b]
theorem dpa_get : ∀ {vs : List V} {ds : List PyData} {i : Nat} {e : PyData}, DpAll K H vs ds → ds[i]? = some e → ∃ v, vs[i]? = some v ∧ Dp K H v e
  | [], _, i, e, h, he => by cases h; cases he
  | v :: vs, _, 0, e, h, he => by
    cases h with
    | cons a _ => cases he; exact ⟨v, rfl, a⟩
  | v :: vs, _, i + 1, e, h, he => by
    cases h with
    | cons _ b => exact dpa_get (vs := vs) (i := i) b he
end
/-! ### x is True, x is not True, x any value -/
def rIsT (c : Bool) : R2 := fun x y H Q => y = .bl c ∧ Q (.bl (decide (x = .bl c))) H
theorem plain_bl (c : Bool) {x : V} {u : Value} (r : RelV x u) : plainIs u (.bool c) = true := by
  cases x <;> first | (cases r; rfl) | (obtain ⟨t, rfl⟩ := r; rfl)
section
variable {X : Cx}
theorem op_isT (c : Bool) : OpR X (compareOp .Is) (rIsT c) := by
  intro pins s σ H x y v u Q I rx ry h
  obtain ⟨rfl, q⟩ := h
  cases (show u = Value.bool c from ry)
  by_cases e : x = .bl c
  · subst e
    cases (show v = Value.bool c from rx)
    exact wpAny_is_self (plain_bl c rx) ⟨.bl true, H, I, rfl, by simpa using q⟩
  · refine wpAny_is_other (plain_bl c rx) (fun z => e ?_) ⟨.bl false, H, I, rfl, by simpa [e] using q⟩
    subst z
    exact RelV.inj rx rfl
theorem op_notT (c : Bool) : OpR X (compareOp .IsNot) (fun x y H Q => y = .bl c ∧ Q (.bl (!decide (x = .bl c))) H) := by
  intro pins s σ H x y v u Q I rx ry h
  obtain ⟨rfl, q⟩ := h
  cases (show u = Value.bool c from ry)
  by_cases e : x = .bl c
  · subst e
    cases (show v = Value.bool c from rx)
    exact wpAny_isNot_self (plain_bl c rx) ⟨.bl false, H, I, rfl, by simpa using q⟩
  · refine wpAny_isNot_other (plain_bl c rx) (fun z => e ?_) ⟨.bl true, H, I, rfl, by simpa [e] using q⟩
    subst z
    exact RelV.inj rx rfl
end

/-! ### data without lists and dicts -/
mutual
def NL : PyData → Prop
  | .none => True
  | .bool _ => True
  | .int _ => True
  | .str _ => True
  | .list _ => False
  | .tuple ds => NLs ds
  | .dict _ => False
def NLs : List PyData → Prop
  | [] => True
  | d :: ds => NL d ∧ NLs ds
end
section
variable {K : PySem.W.Frag} {H H' : Hp}
mutual
theorem dp_nl (e : TF H H') : ∀ (d : PyData) (v : V), NL d → Dp K H v d → Dp K H' v d
  | .none, _, _, h => by cases h; exact .non
  | .bool _, _, _, h => by cases h; exact .bl _
  | .int _, _, _, h => by cases h; exact .int _
  | .str _, _, _, h => by cases h; exact .str _
  | .list _, _, r, _ => r.elim
  | .dict _, _, r, _ => r.elim
  | .tuple ds, _, r, h => by
    cases h with
    | tup a b => exact .tup (e.sq a) (dpa_nl e ds _ r b)
theorem dpa_nl (e : TF H H') : ∀ (ds : List PyData) (vs : List V), NLs ds → DpAll K H vs ds → DpAll K H' vs ds
  | [], _, _, h => by cases h; exact .nil
  | d :: ds, _, r, h => by
    cases h with
    | cons a b => exact .cons (dp_nl e d _ r.1 a) (dpa_nl e ds _ r.2 b)
end
end
end KF
set_option maxRecDepth 100000
set_option maxHeartbeats 4000000
/-! max of a tuple of ints. -/
namespace KM
open PySem PySem.Spec PyProof.Rows L2 HT
section
variable {prog : Program} {w : World} {A : Around} {E : Value → Shared → Prop} {s : Shared} {l : Addr} {xs : Array (Int × Tok)} {its : List Value} {ns : List Int}
theorem iter_intTup {Q : Value → Shared → Prop} (hl : s.heap.IsTuple l (intItems xs))
    (h : ∀ s₂ : Shared, s₂ = { s with heap := s.heap.push { cls := .type "tuple_iterator", data := .fields #[.ref l, .int 0 0] } } →
      (s₂.heap.IsTupleIter s.heap.objs.size l 0 ∧ s₂.heap.IsTuple l (intItems xs)) → (∀ b ∈ [s.heap.objs.size, l], b < s₂.heap.objs.size) → l ≠ s.heap.objs.size → Q (.ref s.heap.objs.size) s₂) :
    wpAny (model prog w) A (pyIter (.ref l)) Q E s := by
  have hlt : l < s.heap.objs.size := by obtain ⟨_, e, _⟩ := hl; exact Heap.lt_size e
  refine wpAny_pyIter_tuple hl (h _ rfl ⟨⟨_, Heap.get?_push_size _ rfl, rfl, rfl⟩, hl.push _⟩ (fun b hb => ?_) (Nat.ne_of_lt hlt))
  show b < (s.heap.push _).objs.size
  rw [Heap.size_push]
  rcases List.mem_cons.mp hb with rfl | hb
  · exact Nat.lt_succ_self _
  · rcases List.mem_cons.mp hb with rfl | hb
    · exact Nat.lt_succ_of_lt hlt
    · cases hb
theorem old_keptT {h' : Heap} (hk : ∀ b o, b ∉ [s.heap.objs.size] → (s.heap.push { cls := .type "tuple_iterator", data := .fields #[.ref l, .int 0 0] }).get? b = some o → h'.get? b = some o) :
    ∀ b o, s.heap.get? b = some o → h'.get? b = some o := fun b o e => by
  refine hk b o (fun hm => ?_) (Heap.get?_push_of_some _ e)
  rcases List.mem_cons.mp hm with e1 | hm
  · exact absurd (e1 ▸ Heap.lt_size e) (Nat.lt_irrefl _)
  · cases hm
theorem max_intTup {Q : Value → Shared → Prop} (hh : A.handled = none) (hl : s.heap.IsTuple l (intItems xs)) (hne : 0 < xs.size)
    (h : ∀ v h' tk, (intItems xs)[argBest (fun i j => decide (numAt xs i > numAt xs j)) (xs.size - 1)]? = some v → (∀ b o, s.heap.get? b = some o → h'.get? b = some o) → Q v { s with heap := h', toks := tk }) :
    wpAny (model prog w) A (call (.builtin "max") [.ref l]) Q E s := by
  refine call_max_walk (iter_intTup hl fun s₂ e st hfp hlI => ?_)
  subst e
  refine ⟨_, _, _, _, _, _, _, rfl, Walks.tuple (A := A.in1) hh _ l hlI (intItems xs), st, hfp, by simpa [intItems] using hne, CmpOf.ints_gt (numAt xs) (fun _ _ => intItems_at), fun v h' tk hP hk => ?_⟩
  exact h v h' tk (by simpa [intItems] using hP) (old_keptT hk)
theorem max_rawT (hh : A.handled = none) (hl : s.heap.IsTuple l its.toArray) (hi : IntsAre its ns) (hne : 0 < ns.length)
    {Q : Value → Shared → Prop} (h : ∀ h' tk M t', (∀ b o, s.heap.get? b = some o → h'.get? b = some o) → M ∈ ns → (∀ a, a ∈ ns → a ≤ M) → Q (.int M t') { s with heap := h', toks := tk }) : wpAny (model prog w) A (call (.builtin "max") [.ref l]) Q E s := by
  obtain ⟨xs, e⟩ := hi.allInts.items
  have hn : numsOf (intItems xs).toList = ns := by rw [← e]; exact hi.numsOf
  rw [nums_intItems] at hn
  subst hn
  rw [e] at hl
  have hsz : 0 < xs.size := by simpa using hne
  refine max_intTup hh hl hsz fun v h' tk hv hk => ?_
  obtain ⟨t, rfl⟩ := intItems_at hv
  obtain ⟨h1, h2⟩ := argBest_gt (numAt xs) (xs.size - 1)
  refine h h' tk _ t hk ?_ fun a ha => ?_
  · rw [numAt_eq]; exact PySem.getD_mem (by rw [List.length_map, Array.length_toList]; omega)
  · obtain ⟨j, hj, rfl⟩ := mem_getD ha
    rw [List.length_map, Array.length_toList] at hj
    rw [← numAt_eq]; exact h2 j (by omega)
end
section
variable {X : Cx}
def rMaxT (K : PySem.W.Frag) : List V → Hp → VK → Prop := fun vs H Q => ∃ (a : Addr) (ns : List Int), vs = [V.ref a] ∧ SqT K H a (ns.map V.int) ∧ 0 < ns.length ∧ ∀ m, m ∈ ns → (∀ y, y ∈ ns → y ≤ m) → Q (.int m) H
theorem cr_maxT (hc : X.calm = true) : CallR X (.builtin "max") (rMaxT X.K) := by
  intro pins s σ H vs us Q I r h
  obtain ⟨a, ns, rfl, hs, hne, q⟩ := h
  obtain ⟨its, rv, hl, _⟩ := I.tuple hs
  rw [Vals.ref1 r]
  exact max_rawT (I.ok.hd hc) hl rv.ints hne fun h' tk m t' hk h1 h2 => ⟨.int _, H, I.kept hk, ⟨_, rfl⟩, q m h1 h2⟩
end
end KM
set_option maxRecDepth 100000
set_option maxHeartbeats 4000000
/-! enumerate of a tuple, from any number on; sorted of a dict of any size; dict of a tuple of pairs. -/
namespace PySem
open Sem (wp)
set_option maxHeartbeats 1000000 in
theorem kd_meets_enum1 {v : Value} {o : Obj} {Hv : Heap → Prop} (B : Begins v o Hv) :
    Meets (Builtin.«enumerate.__new__» ⟨[.type "enumerate", v], []⟩) (fun _ R s => Hv s.heap ∧
      R (.ok (.ret (.ref (s.heap.push o).objs.size))) { s with heap := (s.heap.push o).push { cls := .type "enumerate", data := .fields #[.none, .bool false, .ref s.heap.objs.size, rawInt 0, .none, .none] } }) :=
  .of_wp fun prog w A R s hh => by
    obtain ⟨hp, g, d, tk, os⟩ := s
    obtain ⟨v1, hh⟩ := hh
    have hsub := sub_enumerate
    have start : ∀ {A' : Around} {E : Value → Shared → Prop} {Q : Value → Shared → Prop}, Q (.ref hp.objs.size) ⟨hp.push o, g, d, tk, os⟩ → wpAny (model prog w) A' (pyIter v) Q E ⟨hp, g, d, tk, os⟩ :=
      fun q => B.iter prog w _ _ ⟨hp, g, d, tk, os⟩ _ v1 q
    wp_walk using start
    refine wpAny_stack_any fun st => wpAny_pure ?_
    split
    · rename_i c _ _ _ _ _
      cases (c == Value.type "enumerate")
      · wp_walk using start
        exact ⟨_, rfl, hh⟩
      · wp_walk using start
        exact ⟨_, rfl, hh⟩
    · wp_walk using start
      exact ⟨_, rfl, hh⟩
section
variable {prog : Program} {w : World} {A : Around} {E : Value → Shared → Prop} {s : Shared}
theorem kd_enum1 {v : Value} {o : Obj} {Hv : Heap → Prop} {Q : Value → Shared → Prop} (B : Begins v o Hv) (v1 : Hv s.heap)
    (hq : ∀ h', IsEnum h' (s.heap.objs.size + 1) s.heap.objs.size 0 .none → h'.get? s.heap.objs.size = some o → h'.objs.size = s.heap.objs.size + 2 →
      (∀ b o, s.heap.get? b = some o → h'.get? b = some o) → Q (.ref (s.heap.objs.size + 1)) { s with heap := h' }) :
    wpAny (model prog w) A (call (.type "enumerate") [v]) Q E s := by
  refine callType_new F.called_enumerate (by decide) (F.typeCall_enumerate_1 _) (F.newCall_enumerate_1 _) (fun ob => F.args_object_init_2 ob _) F.entry_enumerate_new
    (kd_meets_enum1 B) ⟨v1, ?_⟩
  have hz : (s.heap.push o).objs.size = s.heap.objs.size + 1 := Heap.size_push ..
  show _ ∧ _
  rw [hz]
  have he : IsEnum ((s.heap.push o).push { cls := .type "enumerate", data := .fields #[.none, .bool false, .ref s.heap.objs.size, rawInt 0, .none, .none] }) (s.heap.objs.size + 1) s.heap.objs.size 0 .none := by
    have := Heap.get?_push_size (s.heap.push o) (o := { cls := .type "enumerate", data := .fields #[.none, .bool false, .ref s.heap.objs.size, rawInt 0, .none, .none] }) rfl
    rw [hz] at this
    exact this
  exact ⟨⟨_, he, rfl⟩, hq _ he (Heap.get?_push_of_some _ (Heap.get?_push_size _ B.free)) (by rw [Heap.size_push, hz]) fun b o x => Heap.get?_push_of_some _ (Heap.get?_push_of_some _ x)⟩
end
end PySem
namespace KD
open PySem PySem.Spec PyProof.Rows L2
/-- the tuple at a, each item behind its number, from c on, in a new pair -/
def Ity (K : PySem.W.Frag) (a : Addr) (c : Int) : It :=
  ⟨fun i G => ∃ (xs : List V) (x : V), SqT K G a xs ∧ xs[i]? = some x, fun i G v G' => ∃ t x, v = .ref t ∧ G t = none ∧ G' = upd G t (.tup [.int (c + (i : Nat)), x]) ∧ ∀ xs, SqT K G a xs → xs[i]? = some x, fun i G => ∃ xs : List V, SqT K G a xs ∧ xs.length ≤ i⟩
theorem turn_ity {P : Program} {w : World} {K : PySem.W.Frag} {elts : List Expr} {kk : Nat} {tpos : Pos} (a e it : Addr) (c : Int) :
    Turn P w K (.Tuple elts kk tpos) (Ity K a c) [e, it] e (fun i h => (∃ old, IsEnum h e it (c + ((i : Nat) : Int)) old) ∧ h.IsTupleIter it a i ∧ e ≠ it) where
  mem := by simp
  obj := fun i h st b hb => by
    obtain ⟨⟨old, he⟩, ⟨o, ho, _, hd⟩, _⟩ := st
    have z : b = e ∨ b = it := by simpa using hb
    rcases z with z | z
    · rw [z]
      exact ⟨_, he, fun v q => nomatch q⟩
    · rw [z]
      exact ⟨o, ho, fun v q => by rw [hd] at q; cases q⟩
  keep := fun i h h' st k => let ⟨⟨old, he⟩, hi, hne⟩ := st; ⟨⟨old, k e (by simp) _ he⟩, hi.at fun o q => k it (by simp) o q, hne⟩
  item := by
    intro X hP hw hK hc i pins s σ G E I hf st hg
    subst hP hw hK
    obtain ⟨⟨old, he⟩, hit, hne⟩ := st
    obtain ⟨xs, x, hq, hx⟩ := hg
    obtain ⟨its, rv, p, hz⟩ := I.tuple hq
    obtain ⟨u, hu, ru⟩ := rv.get hx
    have p2 : s.heap.IsTuple a its.toArray := p
    obtain ⟨oa, g1, g2, n1, g3⟩ := id p2
    obtain ⟨oi, i1, i2, i3⟩ := id hit
    have nai : a ≠ it := fun z => by
      rw [z, i1] at g1
      cases g1
      rw [i3] at g3
      cases g3
    have nea : e ≠ a := fun z => by
      have he2 := he
      unfold IsEnum at he2
      rw [z, g1] at he2
      cases he2
      cases g3
    have hel : e < s.heap.objs.size := Heap.lt_size he
    have hil : it < s.heap.objs.size := Heap.lt_size i1
    have D := Draws.tuple (prog := X.prog) (w := X.w) (A := X.A.in1) (I.ok.hd hc) it a nai its.toArray
    have hin : i < its.toArray.size := by
      have z : i < its.length := (List.getElem?_eq_some_iff.mp hu).1
      simpa using z
    refine wpAny_pyNext_enum_itemC D he ⟨hit, p2⟩ hin hne (by simp [hne, nea]) fun y h' tk hy ho hst' hT hsz hk => ?_
    have hy2 : y = u := by
      have z : its[i]? = some y := by simpa using hy
      rw [hu] at z
      exact (Option.some.inj z).symm
    subst hy2
    refine ⟨_, rfl, wpAny_letOwnedTupleGo_enum (s := { s with heap := h', toks := tk + 1 }) ho fun h2 he2 sb => ?_⟩
    have hT2 : h2.get? s.heap.objs.size = some { cls := .type "tuple", data := .seq #[.int (c + ((i : Nat) : Int)) tk, y] } := (sb.2 _ (Nat.ne_of_gt hel)).trans hT
    have new : ObjOk X.prog X.w (upd G s.heap.objs.size (.tup [.int (c + ((i : Nat) : Int)), x])) h2 s.heap.objs.size (.tup [.int (c + ((i : Nat) : Int)), x]) :=
      ⟨by show 2 ≤ sizeLine; decide, [.int (c + ((i : Nat) : Int)) tk, y], .cons ⟨_, rfl⟩ (.cons ru .nil), ⟨_, hT2, rfl, _, rfl⟩⟩
    have I1 : Inv X pins σ (upd G s.heap.objs.size (.tup [.int (c + ((i : Nat) : Int)), x])) { s with heap := h2, toks := tk + 1 } :=
      I.turnedNew (ch := [e, it]) (fun b ob hb q => (sb.2 b (fun z => hb (by simp [z]))).trans (hk b ob (fun z => hb (by simp [z])) (fun z => hb (by simp [z])) q)) hf (Nat.le_refl _) new
    refine ⟨.ref s.heap.objs.size, _, I1, rfl, ⟨_, x, rfl, I.hok.fresh (Nat.le_refl _), rfl, fun ys hys => by rw [I.tuple_inj hys hq]; exact hx⟩, ⟨⟨y, ?_⟩, hst'.1.at fun o q => (sb.2 it (Ne.symm hne)).trans q, hne⟩, fun b hb => ?_⟩
    · have e1 : c + ((i + 1 : Nat) : Int) = c + (i : Int) + 1 := by omega
      rw [e1]
      exact he2
    · have hb2 : b < s.heap.objs.size := by
        have z : b = e ∨ b = it := by simpa using hb
        rcases z with z | z
        · rw [z]; exact hel
        · rw [z]; exact hil
      rw [upd_ne (Nat.ne_of_lt hb2)]
      exact (hf b hb).1
  done := by
    intro X hP hw hK hc i pins s σ G E I hf st hg
    subst hP hw hK
    obtain ⟨⟨old, he⟩, hit, hne⟩ := st
    obtain ⟨xs, hq, hx⟩ := hg
    obtain ⟨its, rv, p, hz⟩ := I.tuple hq
    have p2 : s.heap.IsTuple a its.toArray := p
    obtain ⟨oa, g1, g2, n1, g3⟩ := id p2
    obtain ⟨oi, i1, i2, i3⟩ := id hit
    obtain ⟨f0, f1, f2, f3, f4, f5⟩ := hf it (by simp)
    have hl := rv.length
    have hit2 := hit
    have ends : ∀ h', Heap.ExtBut it s.heap h' → (none : Option Value) = none ∧ Inv X pins σ G { s with heap := h' } := fun h' eb => ⟨rfl, I.turned (t' := s.toks) (fun b o hb q => eb b o hb q) f0 f1 f3 f4 f5⟩
    have hT : s.TypeIs (.ref e) "enumerate" := ⟨_, he, rfl⟩
    unfold pyNext
    refine wpAny_bind (wpAny_attempt (wpAny_callSpecial?_slot (name := Str.ofString "__next__") hT F.slot_enumerate_next (wpAny_call_entry F.slot_enumerate_next hT F.entry_enumerate_next ?_ (F.args_enumerate_next_1 _))))
    show wpAny _ _ (field (.ref e) 2 >>= _) _ _ _
    refine wpAny_bind (wpAny_field he rfl (x := .ref it) rfl ?_)
    refine wpAny_bind (wpAny_nextOf_tuple_end (I.ok.hd hc) hit p2 (by simp; omega) fun h' x he' hx' => ?_)
    obtain ⟨o, ho, hc2⟩ := hx'
    refine wpAny_bind (wpAny_isInstance (T := "StopIteration") (b := true) ⟨o, ho, hc2⟩ isSubtype_stop ?_)
    exact wpAny_pure (ends _ he')
  self := fun A i s Q E st h => let ⟨⟨_, he⟩, _⟩ := st; wpAny_pyIter_enum he h
def iEnT (K : PySem.W.Frag) (ta : TA) : TI := fun σ G R => ta σ G fun vs G1 => ∃ a xs, vs = [.ref a] ∧ SqT K G1 a xs ∧ R (Ity K a 0) G1
def iEnTS (K : PySem.W.Frag) (ta tk : TA) : TI := fun σ G R => ta σ G fun vs G1 => tk σ G1 fun zs G2 => ∃ a xs c, vs = [.ref a] ∧ zs = [.int c] ∧ -(2 ^ 63) ≤ c ∧ c < 2 ^ 63 ∧ SqT K G2 a xs ∧ R (Ity K a c) G2
section
variable {X : Cx} {e : Expr} {ta tk : TA} {p pos tpos : Pos} {elts : List Expr} {kk : Nat} {kws : List Keyword}
theorem begun {pins : List (Addr × Obj)} {σ : L2.St} {G : Hp} {s1 : Shared} {R : It → Hp → Prop} {a : Addr} {c : Int} {h' : Heap} (I1 : Inv X pins σ G s1) (he : IsEnum h' (s1.heap.objs.size + 1) s1.heap.objs.size c .none)
    (hit : h'.get? s1.heap.objs.size = some { cls := .type "tuple_iterator", data := .fields #[.ref a, .int 0 0] }) (hk : ∀ b o, s1.heap.get? b = some o → h'.get? b = some o) (q : R (Ity X.K a c) G) :
    PIE X pins σ (.Tuple elts kk tpos) R (.ref (s1.heap.objs.size + 1)) { s1 with heap := h' } := by
  have I2 : Inv X pins σ G { s1 with heap := h' } := I1.kept (t' := s1.toks) hk
  have he0 : IsEnum h' (s1.heap.objs.size + 1) s1.heap.objs.size (c + ((0 : Nat) : Int)) .none := by
    rw [show c + ((0 : Nat) : Int) = c from by omega]
    exact he
  refine ⟨s1.heap.objs.size + 1, [s1.heap.objs.size + 1, s1.heap.objs.size], _, _, G, rfl, I2, turn_ity a (s1.heap.objs.size + 1) s1.heap.objs.size c, ⟨⟨.none, he0⟩, ⟨_, hit, rfl, rfl⟩, Nat.succ_ne_self _⟩, fun b hb => ?_, q⟩
  have z : b = s1.heap.objs.size + 1 ∨ b = s1.heap.objs.size := by simpa using hb
  have hle : s1.heap.objs.size ≤ b := by
    rcases z with z | z
    · rw [z]; exact Nat.le_add_right _ _
    · rw [z]; exact Nat.le_refl _
  exact I1.fpOk hle (I1.hok.fresh hle)
theorem pi_enT (hg : Gl X "enumerate") (hm : X.mg "enumerate" = none) (ha : PA X [e] ta) (hs : starEach [e] X.env = [(false, eval e X.env)] := by rfl) :
    PI X (.Tuple elts kk tpos) (.Call (.Name "enumerate" p) [e] [] pos) (iEnT X.K ta) := by
  refine ⟨fun pins s σ G R I h => ?_⟩
  refine Call_ (ld_blt I hg hm boot_enumerate (PyProof.Rows.callWith_type1 (thn (ha.run pos pins s σ G _ I h) fun us s1 ⟨vs, G1, I1, r1, q1⟩ => ?_) hs rfl))
  obtain ⟨a, xs, ex, hq, q⟩ := q1
  subst ex
  cases r1 with
  | cons r rr =>
    cases rr
    cases r
    obtain ⟨its, rv, p', hz⟩ := I1.tuple hq
    refine kd_enum1 (begins_tuple a its.toArray) (show s1.heap.IsTuple a its.toArray from p') fun h' he hit hsz hk => wpAny_pyIter_enum he (begun I1 he hit hk q)
theorem callWith_typeK {M : Model} {A : Around} {E : Value → Shared → Prop} {s : Shared} {env : Env} {T : String} {e : Expr} {rest : List Expr} {kws : List Keyword} {Q : Value → Shared → Prop}
    (h : wpAny M A (spliced (backTo pos (starEach (e :: rest) env))) (fun vs s1 => wpAny M A (evalAll ((backToKw pos (keywordEach kws env)).map (·.2)))
      (fun kvs s2 => wpAny M A (call (.type T) vs (((backToKw pos (keywordEach kws env)).filterMap (·.1)).zip kvs)) Q E s2) E s1) E s)
    (he : backTo pos (starEach (e :: rest) env) = (false, eval e env) :: backTo pos (starEach rest env) := by rfl)
    (hplain : (backTo pos (starEach (e :: rest) env)).any (·.1) = false := by rfl)
    (hall : (backToKw pos (keywordEach kws env)).all (·.1.isSome) = true := by rfl)
    (hkw : (backToKw pos (keywordEach kws env)).any (·.1.isNone) = false := by rfl) :
    wpAny M A (callWith pos (.type T) [] (backTo pos (starEach (e :: rest) env)) (backToKw pos (keywordEach kws env))) Q E s := by
  unfold callWith
  have hE : wpAny M A (evalArgs (.type T) true (backTo pos (starEach (e :: rest) env)) (backToKw pos (keywordEach kws env))) (fun a s1 => wpAny M A (call (.type T) ([] ++ a.pos) a.kw) Q E s1) E s := by
    rw [he] at h ⊢
    exact PyProof.Rows.evalArgs_kwB hall h
  refine wpAny_bind (wpAny_holding (wpAny_mono hE (fun a s1 g1 => wpAny_bind (wpAny_standAt ?_)) fun _ _ x => x))
  simp only [hplain, hkw, Bool.or_false]
  refine wpAny_bind (wpAny_pure ?_)
  exact wpAny_bind (wpAny_mono g1 (fun r s2 hr => wpAny_bind (wpAny_holding (wpAny_point (wpAny_pure hr)))) fun _ _ x => x)
theorem pi_enTS (hg : Gl X "enumerate") (hm : X.mg "enumerate" = none) (ha : PA X [e] ta) (hk : PK X kws tk)
    (hks : (backToKw pos (keywordEach kws X.env)).filterMap (·.1) = [("start" : Str)] := by rfl)
    (he : backTo pos (starEach [e] X.env) = (false, eval e X.env) :: backTo pos (starEach [] X.env) := by rfl)
    (hplain : (backTo pos (starEach [e] X.env)).any (·.1) = false := by rfl)
    (hall : (backToKw pos (keywordEach kws X.env)).all (·.1.isSome) = true := by rfl)
    (hkw : (backToKw pos (keywordEach kws X.env)).any (·.1.isNone) = false := by rfl) :
    PI X (.Tuple elts kk tpos) (.Call (.Name "enumerate" p) [e] kws pos) (iEnTS X.K ta tk) := by
  refine ⟨fun pins s σ G R I h => ?_⟩
  refine wpAny_Call_Name_kw (ld_blt I hg hm boot_enumerate ?_)
  refine callWith_typeK (thn (ha.run pos pins s σ G _ I h) fun us s1 ⟨vs, G1, I1, r1, q1⟩ => thn (hk.run pos pins s1 σ G1 _ I1 q1) fun ws s2 ⟨zs, G2, I2, r2, q2⟩ => ?_) he hplain hall hkw
  rw [hks]
  obtain ⟨a, xs, c, ex, ez, c0, c1, hq, q⟩ := q2
  subst ex ez
  cases r1 with
  | cons r rr =>
    cases rr
    cases r
    cases r2 with
    | cons t tt =>
      cases tt
      obtain ⟨t0, rfl⟩ := t
      obtain ⟨its, rv, p', hz⟩ := I2.tuple hq
      exact enum_begins_start (begins_tuple a its.toArray) (show s2.heap.IsTuple a its.toArray from p') c0 c1 fun h' he hit hsz hk => wpAny_pyIter_enum he (begun I2 he hit hk q)
end
theorem walk_ity {K : PySem.W.Frag} {a : Addr} {xs : List V} {c : Int} : Walk (Ity K a c) xs.length (fun G => SqT K G a xs) (YPair (fun i => some (.int (c + (i : Nat)))) (fun i => xs[i]?)) := by
  refine ⟨fun i _ hi q => ⟨xs, xs[i], q, by simp [hi]⟩, fun _ q => ⟨xs, q, Nat.le_refl _⟩, fun i G v G' _ q y => ?_⟩
  obtain ⟨t, x, h1, h2, h3, h4⟩ := y
  exact ⟨t, .int (c + (i : Nat)), x, h1, h2, h3, rfl, h4 xs q⟩
section
variable {X : Cx}
/-- sorted(d), its keys ints, any number of them -/
theorem call_sortedDA (hcalm : X.calm = true) : CallR X (.builtin "sorted") (fun xs G Q => ∃ (a : Addr) (kvs : List (Key × V)) (ks : List Int), xs = [.ref a] ∧ Rd G a (.dK kvs) ∧ kvs.map (·.1) = ks.map Sum.inl ∧
    ∀ (ys : List Int) (p : Addr), ys.Perm ks → ys.Pairwise (· ≤ ·) → G p = none → Q (.ref p) (upd G p (.lst (ys.map V.int)))) := by
  intro pins s σ G xs us Q I r q
  obtain ⟨a, kvs, ks, ex, hd, hks, q⟩ := q
  subst ex
  obtain ⟨u, eu, rx⟩ := vals1 r
  subst eu
  cases rx
  obtain ⟨z, lo, vs, rel, dd⟩ := dk_rd I.hok hd
  obtain ⟨ep, hat⟩ := dd.dictAt
  have hkeys : vs.map (·.1) = ks.map Sum.inl := rel.keys.symm.trans hks
  have hl : vs.length = ks.length := by
    have e := congrArg List.length hkeys
    rw [List.length_map, List.length_map] at e
    exact e
  have zv : vs.length ≤ sizeLine := by rw [← rel.length]; exact z
  refine Calls.call_function_entry PyProof.Rows.kind_sorted PyProof.Rows.plain_sorted PyProof.Rows.entry_sorted (PyProof.Rows.args_sorted1 _) ?_
  unfold Builtin.«sorted»
  refine wpAny_bind (m := checkCount "sorted" 1 1 _) (wpAny_pure ?_)
  refine wpAny_bind (PySem.W.kdu_collect (A := X.A.in1) (PySem.W.kdl_dict (knd := mixKind X.prog X.w) (kvs := vs) (ep := ep) lo) (I.ok.hd hcalm) hat zv fun h' tk acc hk hacc => ?_)
  have hal : acc.toList.length = ks.length := by rw [Array.length_toList, hacc.1, hl]
  have hS : IntsAre acc.toList ks := ints_each hal fun j v e => by
    obtain ⟨k, x, e1, e2⟩ := hacc.2 j v (by rw [← Array.getElem?_toList]; exact e)
    have e3 : (vs.map (·.1))[j]? = some k := by rw [List.getElem?_map, e1]; rfl
    rw [hkeys, List.getElem?_map] at e3
    cases e4 : ks[j]? with
    | none => rw [e4] at e3; cases e3
    | some y =>
      rw [e4] at e3
      have e5 : Sum.inl y = k := Option.some.inj e3
      subst e5
      rcases keyIs_shape (show keyIs (Sum.inl y) v = true from e2) with ⟨i, t, ek, ev⟩ | ⟨zz, t, ek, ev⟩
      · cases ek
        exact ⟨y, t, rfl, ev⟩
      · cases ek
  have I1 : Inv X pins σ G { s with heap := h', toks := tk } := I.kept hk
  have hsz : acc.toList.length ≤ sizeLine := by rw [hal, ← hl]; exact zv
  refine wpAny_bind (wpAny_newList ?_ hsz)
  have hoL : (h'.push (seqObj "list" acc.toList.toArray 0)).get? h'.objs.size = some (seqObj "list" acc.toList.toArray 0) := Heap.get?_push_size _ rfl
  show wpAny _ _ _ _ _ { s with heap := h'.push (seqObj "list" acc.toList.toArray 0), toks := tk }
  refine wpAny_bind (wpAny_holding (wpAny_call_entry PyProof.Rows.slot_list_sort ⟨_, hoL, rfl⟩ PyProof.Rows.entry_list_sort
    (SrtO.list_sort_ord (s := { s with heap := h'.push (seqObj "list" acc.toList.toArray 0), toks := tk }) SrtO.swo_int hoL hsz (fun h2 => SrtO.ints_sortable hS h2) fun out g1 g2 => ⟨_, rfl, ?_⟩) (PyProof.Rows.args_list_sort _)))
  obtain ⟨k1, k2, k3⟩ := SrtO.ints_out hS g1 g2
  obtain ⟨e', he'⟩ := PyProof.Rows.sortedHeap_at (vs := acc.toList) (out := out.toArray) hoL
  have hlen : ((out.map SrtO.iv).map V.int).length ≤ sizeLine := by
    rw [List.length_map, k2.length_eq, ← hal]
    exact hsz
  refine wpAny_pure ⟨_, rfl, .ref h'.objs.size, upd G h'.objs.size (.lst ((out.map SrtO.iv).map V.int)), I1.laid (t' := tk) (fun b u e => ?_) (Nat.le_refl _)
    (show ObjOk X.prog X.w _ _ _ (.lst ((out.map SrtO.iv).map V.int)) from ⟨hlen, out, e', vals_of_ints k1, he'⟩), rfl, q _ _ k2 k3 (I1.hok.fresh (Nat.le_refl _))⟩
  have hb : b < h'.objs.size := Heap.lt_size e
  rw [PyProof.Rows.sortedHeap_old (Nat.ne_of_lt hb) (by rw [size_push']; exact Nat.lt_succ_of_lt hb)]
  exact Heap.get?_push_of_some _ e
/-! ### plain tuples, whose objects are known; dict of one -/
def FzT (G : Hp) (a : Addr) (ys : List V) : Prop := ∃ ob : Obj, ob.dict = none ∧ G a = some (.frz ob (.tup ys))
theorem FzT.sq {K : PySem.W.Frag} {G : Hp} {a : Addr} {ys : List V} (h : FzT G a ys) : SqT K G a ys := by
  obtain ⟨ob, _, e⟩ := h
  exact .inl (.inr ⟨ob, e⟩)
/-- tuple(xs), xs a list -/
theorem call_tupleFz : CallR X (.type "tuple") (fun xs G Q => ∃ p ys, xs = [.ref p] ∧ SqL X.K G p ys ∧ ∀ l ob, G l = none → ob.dict = none → Q (.ref l) (upd G l (.frz ob (.tup ys)))) := by
  intro pins s σ G xs us Q I r h
  obtain ⟨p, ys, rfl, hq, q⟩ := h
  obtain ⟨u, rfl, rx⟩ := vals1 r
  cases rx
  obtain ⟨its, r', pl, hz⟩ := I.list hq
  have hlen := r'.length
  refine call_tuple_list pl.isList (fun h' kp => ?_) (by simp only [List.size_toArray] <;> omega)
  have I1 : Inv X pins σ G { s with heap := h' } := I.kept (t' := s.toks) kp
  have I2 : Inv X pins σ (upd G h'.objs.size (.frz { cls := .type "tuple", data := .seq its.toArray } (.tup ys))) { s with heap := h'.push { cls := .type "tuple", data := .seq its.toArray } } :=
    I1.laid (t' := s.toks) (fun b o e => Heap.get?_push_of_some _ e) (Nat.le_refl _) (show ObjOk X.prog X.w _ _ _ (.frz { cls := .type "tuple", data := .seq its.toArray } (.tup ys)) from ⟨Heap.get?_push_size _ rfl, hz, its, r', IsTup.new _ _⟩)
  exact ⟨.ref h'.objs.size, _, I2, rfl, q _ _ (I1.hok.fresh (Nat.le_refl _)) rfl⟩
theorem pairs_both {pins : List (Addr × Obj)} {σ : L2.St} {G : Hp} {s : Shared} (I : Inv X pins σ G s) : ∀ {ps : List Addr} {kvs : List (Key × V)}, Paired (fun p kv => SqT X.K G p [kV kv.1, kv.2]) ps kvs →
    ∃ (prs : List (Key × Value)) (ks : List (Value × Value)), KV kvs prs ∧ prs.length = ps.length ∧ ks.length = ps.length ∧
      ∀ (j : Nat) (k v : Value), ks[j]? = some (k, v) → ∃ (b : Addr) (y : Key), ps[j]? = some b ∧ IsTup s.heap b #[k, v] ∧ prs[j]? = some (y, v) ∧ keyIs y k = true
  | _, _, .nil => ⟨[], [], .nil, rfl, rfl, fun j _ _ e => by simp at e⟩
  | _, _, .cons (a := p) (b := kv) h t => by
    obtain ⟨prs, ks, rr, l1, l2, hp⟩ := pairs_both I t
    obtain ⟨its, rv, ht, _⟩ := I.tuple h
    obtain ⟨u, y, ei, ru, ry⟩ := vals2 rv
    subst ei
    refine ⟨(kv.1, y) :: prs, (u, y) :: ks, .cons ⟨rfl, ry⟩ rr, by rw [List.length_cons, List.length_cons, l1], by rw [List.length_cons, List.length_cons, l2], fun j k v e => ?_⟩
    cases j with
    | zero =>
      have e' : (u, y) = (k, v) := Option.some.inj e
      cases e'
      exact ⟨p, kv.1, rfl, ht, rfl, kV_is (P := X.prog) (w := X.w) ru⟩
    | succ j =>
      obtain ⟨b, z, e1, e2, e3, e4⟩ := hp j k v (by simpa using e)
      exact ⟨b, z, by simpa using e1, e2, by simpa using e3, e4⟩
/-- dict(t), t a plain tuple of pairs -/
theorem call_dictFz (hcalm : X.calm = true) : CallR X (.type "dict") (fun xs G Q => ∃ (a : Addr) (ps : List Addr) (kvs : List (Key × V)), xs = [.ref a] ∧ FzT G a (ps.map V.ref) ∧ Paired (fun p kv => SqT X.K G p [kV kv.1, kv.2]) ps kvs ∧
    ∀ p, G p = none → Q (.ref p) (upd G p (.dK (mergeK [] kvs)))) := by
  intro pins s σ G xs us Q I r q
  obtain ⟨a, ps, kvs, rfl, ⟨ob, od, ha⟩, hp, q⟩ := q
  obtain ⟨u, rfl, rx⟩ := vals1 r
  cases rx
  obtain ⟨hget, hz, its, rv, o2, g1, g2, n, g3⟩ := (show ObjOk X.prog X.w G s.heap a (.frz ob (.tup (ps.map V.ref))) from I.hok a _ ha)
  rw [hget] at g1
  cases g1
  have ei := refs_at rv
  subst ei
  rw [List.length_map] at hz
  obtain ⟨prs, ks, rel, l1, l2, hpr⟩ := pairs_both I hp
  have ok : PlainSeq "tuple" s.heap a (ps.map Value.ref).toArray ∧ PairItems s.heap (ps.map Value.ref).toArray (fun j => ps.getD j 0) ks := by
    refine ⟨⟨ob, n, hget, g2, od, g3⟩, by simp [l2], fun j k v e => ?_⟩
    obtain ⟨b, y, e1, e2, e3, e4⟩ := hpr j k v e
    have eb : ps.getD j 0 = b := by
      rw [List.getD_eq_getElem?_getD, e1]
      rfl
    show _ = some (Value.ref (ps.getD j 0)) ∧ PairAt s.heap (ps.getD j 0) k v
    rw [eb]
    exact ⟨by simp [e1], .inl e2⟩
  refine PySem.call_dict_pairs (knd := mixKind X.prog X.w) (kvs := prs) (PairArg.tuple a _ (fun j => ps.getD j 0) ks) (I.ok.hd hcalm) ok ⟨by rw [l1, l2], fun j k v e => ?_⟩ (by rw [l2]; exact hz) fun h' tk hd' kk => ?_
  · obtain ⟨b, y, e1, e2, e3, e4⟩ := hpr j k v e
    exact ⟨y, e3, e4⟩
  · have hm : (s.heap.objs.size == sysModules) = false := beq_eq_false_iff_ne.mpr (Nat.ne_of_gt I.big)
    have hlen : (mergeK [] kvs).length ≤ sizeLine := by
      refine Nat.le_trans (length_mergeK kvs []) ?_
      rw [List.length_nil, Nat.zero_add, rel.length, l1]
      exact hz
    exact ⟨.ref s.heap.objs.size, upd G s.heap.objs.size (.dK (mergeK [] kvs)), I.laid (t' := tk) (fun b o e => kk b o (fun z => nomatch z) e) (Nat.le_refl _) (show ObjOk X.prog X.w _ _ _ (.dK (mergeK [] kvs)) from ⟨hlen, hm, merged [] prs, KV.merge rel .nil, hd'⟩), rfl, q _ (I.hok.fresh (Nat.le_refl _))⟩
end
end KD
set_option maxRecDepth 100000
set_option maxHeartbeats 4000000
/-! t += u of tuples; del xs[a:]. -/
namespace KI
open PySem PySem.Spec PyProof.Rows L2 HT
section
variable {prog : Program} {w : World} {A : Around} {E : Value → Shared → Prop} {s : Shared}
theorem noI_tuple : typeLookup (.type "tuple") (dunderI "add") = pure none := by first | rfl | kernel_rfl | decide +kernel
theorem del_keep (sel : Nat → Bool) (a n : Nat) : ∀ (its : List Value) (k : Nat), k + its.length ≤ n → (∀ j, j < n → sel j = decide (a ≤ j)) → ((its.zipIdx k).filterMap fun p => if sel p.2 = true then none else some p.1) = its.take (a - k)
  | [], k, _, h => by simp
  | x :: its, k, hk, h => by
    rw [List.length_cons] at hk
    rw [List.zipIdx_cons, List.filterMap_cons]
    have ih := del_keep sel a n its (k + 1) (by omega) h
    rw [h k (by omega)]
    by_cases hk : a ≤ k
    · rw [decide_eq_true hk, if_pos rfl]
      dsimp only
      rw [ih, show a - (k + 1) = 0 by omega, show a - k = 0 by omega]
      rfl
    · rw [decide_eq_false hk, if_neg (by decide)]
      dsimp only
      rw [ih, show a - k = (a - (k + 1)) + 1 by omega]
      rfl
theorem sel_run (a n j : Nat) (hj : j < n) : (if (1 : Int) > 0 then (decide ((a : Int) ≤ (j : Int)) && decide ((j : Int) < (n : Int)) && (((j : Int) - (a : Int)) % 1 == 0)) else (decide ((n : Int) < (j : Int)) && decide ((j : Int) ≤ (a : Int)) && (((a : Int) - (j : Int)) % (-1) == 0))) = decide (a ≤ j) := by
  rw [if_pos (by decide), Int.emod_one]
  have h1 : decide ((j : Int) < (n : Int)) = true := decide_eq_true (by omega)
  rw [h1]
  by_cases h : a ≤ j
  · rw [decide_eq_true h, decide_eq_true (show (a : Int) ≤ (j : Int) by omega)]
    rfl
  · rw [decide_eq_false h, decide_eq_false (show ¬ (a : Int) ≤ (j : Int) by omega)]
    rfl
theorem upd_go {l : Addr} {items : Array Value} {n a : Nat} {f : Array Value → Array Value} {g : List Value} {Q : Fin → Shared → Prop}
    (e : s.heap.get? l = some { cls := .type "list", data := .seq items n }) (hsz : items.size ≤ sizeLine) (hf : f items = (items.toList.take a).toArray)
    (h : Q (.done (.ret .none)) { s with heap := s.heap.update l (Obj.mapSeq f) }) : wpAny (model prog w) A (do Builtin.List.listUpdate (.ref l) f; letGo g; ret .none) Q E s := by
  have hz' : (f items).size ≤ sizeLine + 1 := by
    rw [hf, List.size_toArray, List.length_take, Array.length_toList]
    omega
  show wpAny _ _ (updateSeq l f >>= _) _ _ s
  refine wpAny_bind (wpAny_updateSeq (hz := hsz) (_hz' := hz') e rfl ?_)
  refine wpAny_bind (wpAny_letGo ?_)
  exact wpAny_pure h
theorem bounds_end {a n : Nat} (hc : a ≤ n) : sliceBounds (some (a : Int)) none none n = ((a : Int), (n : Int), 1) := by
  simp only [sliceBounds, Option.getD_none]
  have h1 : ¬ ((a : Int) < 0) := by omega
  simp only [h1, if_false, show (1 : Int) > 0 by decide, if_true]
  congr 1
  omega
set_option maxRecDepth 100000 in
/-- list.__delitem__ with a slice to the end -/
theorem delItem_slice {l sl : Addr} {items : Array Value} {n : Nat} {vl vu : Value} {a : Nat} {Q : Unit → Shared → Prop}
    (e : s.heap.get? l = some { cls := .type "list", data := .seq items n })
    (hs : s.heap.IsSliceOf sl vl vu .none) (pl : IsPart vl (some (a : Int))) (pu : IsPart vu none) (hac : a ≤ items.size)
    (hsz : items.size ≤ sizeLine) (h : ∀ f : Array Value → Array Value, f items = (items.toList.take a).toArray → Q () { s with heap := s.heap.update l (Obj.mapSeq f) }) :
    wpAny (model prog w) A (delItem (.ref l) (.ref sl)) Q E s := by
  have hl : s.heap.IsList l items := PySem.IsL.isList e
  obtain ⟨os, hos, hcs, hds⟩ := id hs
  have hTs : s.TypeIs (.ref sl) "slice" := ⟨os, hos, hcs⟩
  have hstep : ¬ ((rawPart none == rawInt 0) = true) := Bool.false_ne_true
  unfold delItem
  try with_reducible refine wpAny_holding ?_
  first | refine wpAny_bind (wpAny_pure ?_) | skip
  refine wpAny_bind (wpAny_sequenceKey hl.typeIs (by decide) ?_)
  refine wpAny_bind (wpAny_callSpecial?_slot (name := Str.ofString "__delitem__") hl.typeIs PySem.F.slot_list_delitem
    (wpAny_call_entry PySem.F.slot_list_delitem hl.typeIs PySem.F.entry_list_delitem ?_ (PySem.F.args_list_delitem_2 _ _)))
  show wpAny _ _ (Builtin.List.listSubscript? (.ref sl) >>= _) _ _ s
  refine wpAny_bind ?_
  unfold Builtin.List.listSubscript?
  refine wpAny_bind (wpAny_specialOf hTs slice_no_index ?_)
  simp only [Option.isNone_none, if_true]
  refine wpAny_pure ?_
  show wpAny _ _ (typeOf (.ref sl) >>= _) _ _ s
  refine wpAny_bind (wpAny_typeOf hTs ?_)
  first
    | rw [if_neg (by decide)]
    | refine PySem.W.KFB.if_not (by decide) ?_
  rw [listSliceParts_eq]
  refine wpAny_bind (wpAny_bind (wpAny_field hos hds (x := .none) rfl (wpAny_bind (wpAny_listPart .none ?_))))
  rw [if_neg hstep]
  refine wpAny_bind (wpAny_field hos hds (x := vl) rfl (wpAny_bind (wpAny_listPart pl ?_)))
  refine wpAny_bind (wpAny_field hos hds (x := vu) rfl (wpAny_bind (wpAny_listPart pu (wpAny_pure ?_))))
  unfold Builtin.List.listItems
  refine wpAny_bind (wpAny_bind (wpAny_seqItems e rfl (wpAny_pure ?_)))
  refine wpAny_bind (wpAny_of_eq ((sliceIndices_raw (some (a : Int)) none none items.size (by simp)).trans (congrArg (pure : Int × Int × Int → Sem (Int × Int × Int)) (bounds_end hac))) ?_)
  refine wpAny_bind (wpAny_rule ?_)
  refine upd_go (a := a) e hsz ?_ ⟨.none, rfl, wpAny_pure (h _ ?_)⟩
  all_goals exact congrArg List.toArray (del_keep _ a items.size items.toList 0 (by simp) (fun j hj => sel_run a items.size j hj))
theorem iconcat_meets {T id : String} {B : Builtin} {a b : Value} {S : PySem.Spec} {Q : Value → Shared → Prop} (ha : s.TypeIs a T) (hb : s.TypeIs b T) (hno : typeLookup (.type T) (dunderI "add") = pure none)
    (hfill : fillsNumberSlot (.type T) "add" = pure false) (hseq : seqSlot? (.type T) "__add__" = pure (some (.builtin id))) (slot : Slot T "__add__" id)
    (entry : entryFor table id = some B) (args : argsOk id ⟨[a, b], []⟩) (g : Meets (B ⟨[a, b], []⟩) S) (h : S A (wants Q E) s) : wpAny (model prog w) A (inplaceOp .Add a b) Q E s :=
  wpAny_inplaceOp_concat ha hb hno hfill hseq (call_meets slot ha entry args g h)
theorem icat_tup {t b : Addr} {vs ws : List Value} {Q : Value → Shared → Prop} (ht : IsTup s.heap t vs.toArray) (hb : IsTup s.heap b ws.toArray)
    (h0 : vs = [] → Q (.ref b) s) (h1 : vs ≠ [] → ws = [] → Q (.ref t) s) (h2 : vs ≠ [] → ws ≠ [] → Q (.ref s.heap.objs.size) { s with heap := s.heap.push { cls := .type "tuple", data := .seq (vs ++ ws).toArray } })
    (hsz : vs.length + ws.length ≤ sizeLine) : wpAny (model prog w) A (inplaceOp .Add (.ref t) (.ref b)) Q E s := by
  obtain ⟨⟨cls, dd, data, sl⟩, ho, hc, n, hd⟩ := id ht
  obtain ⟨⟨cls2, dd2, data2, sl2⟩, ho2, hc2, n2, hd2⟩ := id hb
  simp only at hc hd hc2 hd2
  subst hc hd hc2 hd2
  have e : vs.toArray ++ ws.toArray = (vs ++ ws).toArray := by simp
  by_cases hv : vs = []
  · subst hv
    exact iconcat_meets ⟨_, ho, rfl⟩ ⟨_, ho2, rfl⟩ noI_tuple noFill_tuple_add seq_tuple_add PySem.F.slot_tuple_add PySem.F.entry_tuple_add (PySem.F.args_tuple_add_2 _ _)
      (tuple_addW0 t b ([] : List Value).toArray ws.toArray n n2 dd dd2 sl sl2 (by simp)) ⟨ho, ho2, h0 rfl⟩
  by_cases hw : ws = []
  · exact iconcat_meets ⟨_, ho, rfl⟩ ⟨_, ho2, rfl⟩ noI_tuple noFill_tuple_add seq_tuple_add PySem.F.slot_tuple_add PySem.F.entry_tuple_add (PySem.F.args_tuple_add_2 _ _)
      (tuple_addW1 t b vs.toArray ws.toArray n n2 dd dd2 sl sl2 (by simpa using hv) (by simp [hw])) ⟨ho, ho2, h1 hv hw⟩
  · refine iconcat_meets ⟨_, ho, rfl⟩ ⟨_, ho2, rfl⟩ noI_tuple noFill_tuple_add seq_tuple_add PySem.F.slot_tuple_add PySem.F.entry_tuple_add (PySem.F.args_tuple_add_2 _ _)
      (tuple_addW2 t b vs.toArray ws.toArray n n2 dd dd2 sl sl2 (by simpa using hv) (by simpa using hw) (by rw [List.size_toArray, List.size_toArray]; exact hsz)) ⟨ho, ho2, ?_⟩
    rw [e]
    exact h2 hv hw
end
section
variable {X : Cx}
theorem ip_catA : PIp X .Add (rCatA X.K) := by
  intro pins s σ H x y v u Q I rx ry h
  obtain ⟨a, b, xs, ys, rfl, rfl, ha, hb, hz, q0, q1, q2⟩ := h
  cases rx
  cases ry
  obtain ⟨its, r1, p1, _⟩ := I.tuple ha
  obtain ⟨its2, r2, p2, _⟩ := I.tuple hb
  refine icat_tup p1 p2 (fun z => ⟨.ref b, H, I, rfl, q0 (r1.nil_iff.mp z)⟩) (fun z z2 => ⟨.ref a, H, I, rfl, q1 (fun w => z (r1.nil_iff.mpr w)) (r2.nil_iff.mp z2)⟩) (fun z z2 => ?_) (by rw [← r1.length, ← r2.length]; exact hz)
  refine ⟨.ref s.heap.objs.size, _, I.laid (t' := s.toks) (o := .tup (xs ++ ys)) (fun b ob q => Heap.get?_push_of_some _ q) (Nat.le_refl _) ?_, rfl, q2 (fun w => z (r1.nil_iff.mpr w)) (fun w => z2 (r2.nil_iff.mpr w)) _ (I.hok.fresh (Nat.le_refl _))⟩
  exact ⟨by rw [List.length_append]; exact hz, _, r1.append r2, IsTup.new _ _⟩
/-- del xs[a:] at the value level -/
theorem del_slice {pins : List (Addr × Obj)} {s : Shared} {σ : L2.St} {H : Hp} {l sl : Addr} {xs : List V} {a : Nat} {vl vu : Value} {Q : Unit → Shared → Prop} (I : Inv X pins σ H s)
    (hH : H l = some (.lst xs)) (hs : s.heap.IsSliceOf sl vl vu .none) (pl : IsPart vl (some (a : Int))) (pu : IsPart vu none) (ha : a ≤ xs.length) (h : ∀ s', Inv X pins σ (upd H l (.lst (xs.take a))) s' → Q () s') :
    wpAny (model X.prog X.w) X.A (delItem (.ref l) (.ref sl)) Q X.xe s := by
  obtain ⟨z, its, n, r, hl, e⟩ := I.lstM hH
  refine delItem_slice (a := a) e hs pl pu (by rw [List.size_toArray]; omega) (by rw [List.size_toArray]; omega) (fun f hf => h _ ?_)
  refine I.lset (its' := its.take a) (t' := s.toks) hH e ?_ (r.take a) ?_
  · exact hf
  · rw [List.length_take]
    omega
def tDelS (to : TE) (tl : TO) : TS := fun D σ H => to σ H fun x H1 => tl σ H1 fun lo H2 => ∃ (l : Addr) (xs : List V) (a : Nat), x = .ref l ∧ lo = some (a : Int) ∧ H2 l = some (.lst xs) ∧ a ≤ xs.length ∧ D.nx σ (upd H2 l (.lst (xs.take a)))
theorem ps_delS {o lo : Expr} {to : TE} {tl : TO} {tpos p2 pos : Pos} (ho : PE X o to) (hl : PO X (some lo) tl) : PS X (.Delete [.Subscript o (.Slice (some lo) none none p2) tpos] pos) (tDelS to tl) := by
  refine ⟨fun pins s σ H D I h => ?_⟩
  refine wpAny_Delete (wpAny_deleteEach_cons (wpAny_delete_Subscript (thn (ho.run pins s σ H _ I h) fun u s1 ⟨x, H1, I1, rx, q1⟩ => ?_)))
  refine wpAny_Slice (thn (hl.run pins s1 σ H1 _ I1 q1) fun vl s2 ⟨lo', H2, I2, pl, q2⟩ => ?_)
  rw [evalPart_none]
  refine wpAny_pure (wpAny_pure ?_)
  obtain ⟨l, xs, a, rfl, rfl, hH, ha, q3⟩ := q2
  cases rx
  have I4 : Inv X pins σ H2 { s2 with heap := s2.heap.push { cls := .type "slice", data := .fields #[vl, .none, .none] } } := I2.kept (t' := s2.toks) fun b ob q => Heap.get?_push_of_some _ q
  exact del_slice I4 hH (Heap.IsSliceOf.new ..) pl .none ha fun s3 I3 => wpAny_deleteEach_nil ⟨σ, _, I3, q3⟩
theorem extend_tupW (l : Addr) (items : Array Value) (n : Nat) (b : Addr) (items2 : Array Value) (n2 : Nat) (dd) (sl) (hs0 : ¬(!items.isEmpty && Builtin.List.listTooLong (items.size + items2.size)) = true) (hs1 : items.size ≤ sizeLine) (hs2 : items.size + items2.size ≤ sizeLine + 1) :
    Meets (Builtin.«list.extend» ⟨[.ref l, .ref b], []⟩) (fun _ R s => s.heap.get? l = some { cls := .type "list", dict := none, data := .seq items n, slots := #[] } ∧ s.heap.get? b = some { cls := .type "tuple", dict := dd, data := .seq items2 n2, slots := sl } ∧ R (.ok (.ret Value.none)) { s with heap := s.heap.update l (Obj.mapSeq fun x => x ++ items2), toks := s.toks }) :=
  .of_wp fun prog w A R s h => by
    obtain ⟨hp, g, d, tk, os⟩ := s; obtain ⟨hl, hb, h⟩ := h; have f1 := AutoSeq1.idx_int; have f2 := AutoSeq1.sub_tuple_tuple; have f3 := AutoSeq1.sub_list_list; have f4 := AutoSeq1.sub_tuple_list; have f5 := AutoSeq1.sub_list_tuple;
    have hz' : (items ++ items2).size ≤ sizeLine + 1 := by rw [Array.size_append]; exact hs2
    wp_walk using (wpAny_updateSeq hl rfl (hz := hs1) (_hz' := hz')), AutoSeq1.wpAny_loadPart' hl, AutoSeq1.wpAny_loadPart' hb; exact ⟨_, rfl, h⟩
/-- xs.extend(a tuple) -/
def rExtendT (K : PySem.W.Frag) : V → List V → Hp → VK → Prop := fun x vs H Q => ∃ l b xs zs, x = .ref l ∧ vs = [.ref b] ∧ H l = some (.lst xs) ∧ SqT K H b zs ∧ xs.length + zs.length ≤ sizeLine ∧ Q .non (upd H l (.lst (xs ++ zs)))
theorem mt_extendT : MtM X "list.extend" (rExtendT X.K) := by
  intro pins s σ H x vs v us Q I rx rv h
  obtain ⟨l, b, xs, zs, rfl, rfl, hH, hB, hz, q⟩ := h
  cases rx
  obtain ⟨u, rfl, ru⟩ := rv.one
  cases ru
  obtain ⟨z, its, n, r, hl, e⟩ := I.lstM hH
  obtain ⟨its2, r2, p2, _⟩ := I.tuple hB
  obtain ⟨⟨cls2, dd2, data2, sl2⟩, ho2, hc2, n2, hd2⟩ := id p2
  simp only at hc2 hd2
  subst hc2 hd2
  have hl2 := r2.length
  have hsz : its.toArray.size + its2.toArray.size ≤ sizeLine := by rw [List.size_toArray, List.size_toArray]; omega
  have hlong : ¬ (!its.toArray.isEmpty && Builtin.List.listTooLong (its.toArray.size + its2.toArray.size)) = true := by
    rw [notLongL hsz, Bool.and_false]
    exact Bool.false_ne_true
  refine call_meets PySem.F.slot_list_extend ⟨_, e, rfl⟩ PySem.F.entry_list_extend (PySem.F.args_list_extend_2 _ _)
    (extend_tupW l its.toArray n b its2.toArray n2 dd2 sl2 hlong (by rw [List.size_toArray]; omega) (by omega)) ⟨e, ho2, ?_⟩
  refine ⟨.non, _, I.lset (its' := its ++ its2) hH e (by simp) (r.append r2) ?_, rfl, q⟩
  rw [List.length_append]
  omega
end
end KI
set_option maxRecDepth 100000
set_option maxHeartbeats 0
namespace K5
open PySem PySem.Spec PyProof.Rows L2
def top (i : Nat) : Stmt := PySem.Challenge.pw_latepresses_k05_whole_code_is_the_trees.main.body.getD i (.Pass ⟨0, 0, 0, 0⟩)
abbrev s_is_whole : Stmt := top 1
abbrev s_is_between : Stmt := top 2
abbrev s_kept : Stmt := top 3
abbrev s_is_form_of_expression : Stmt := top 11
abbrev s_measured : Stmt := top 12
abbrev s_parts : Stmt := top 13
abbrev s_is_single : Stmt := top 14
abbrev s_is_sign : Stmt := top 15
abbrev s_next_seed : Stmt := top 25
abbrev s_number_in : Stmt := top 26
abbrev s_number_made : Stmt := top 27
abbrev s_reckoned : Stmt := top 28
abbrev s_read_number : Stmt := top 29
abbrev s_number_of_thing : Stmt := top 30
abbrev s_drawn : Stmt := top 31
abbrev s_own_of_first_met : Stmt := top 32
abbrev s_do_deed : Stmt := top 33
abbrev s_told_by : Stmt := top 34
abbrev s_is_code : Stmt := top 39
abbrev s_has_form : Stmt := top 40
abbrev s_is_part : Stmt := top 41
abbrev s_is_reading : Stmt := top 42
abbrev s_led_to : Stmt := top 43
abbrev s_places_behind : Stmt := top 44
abbrev s_taken_by : Stmt := top 45
abbrev s_has_fitting_rows : Stmt := top 46
abbrev s_compiled : Stmt := top 52
abbrev s_run_code : Stmt := top 53
abbrev s_need_script : Stmt := top 54
abbrev s_need_code : Stmt := top 55
abbrev s_code_of_deeds : Stmt := top 56
abbrev s_code_of : Stmt := top 57
abbrev s_code_of_parts : Stmt := top 58
abbrev s_fork : Stmt := top 59
abbrev s_ran : Stmt := top 60
abbrev s_left_out : Stmt := top 61
abbrev s_law_deck : Stmt := top 63
abbrev s_law_take : Stmt := top 64
abbrev s_law_any : Stmt := top 65
abbrev s_law_small : Stmt := top 66
abbrev s_law_single : Stmt := top 67
abbrev s_law_parts : Stmt := top 68
abbrev s_law_tree : Stmt := top 69
abbrev s_law_deed : Stmt := top 70
abbrev s_law_rules : Stmt := top 71
abbrev s_law_within : Stmt := top 72
abbrev s_law_all : Stmt := top 73
abbrev s_law_wants : Stmt := top 74
abbrev s_law_met : Stmt := top 75
abbrev s_law_facts : Stmt := top 76
abbrev s_law_kept : Stmt := top 77
abbrev s_law_state : Stmt := top 78
abbrev s_law_read : Stmt := top 79
abbrev s_law_made : Stmt := top 80
abbrev s_law_number : Stmt := top 81
abbrev s_law_set : Stmt := top 82
abbrev s_law_done : Stmt := top 83
abbrev s_law_outcome : Stmt := top 84
abbrev s_law_told : Stmt := top 85
abbrev s_law_tree_code : Stmt := top 86
abbrev s_law_fork : Stmt := top 87
abbrev s_law_code : Stmt := top 88
abbrev s_law_alike : Stmt := top 89
abbrev s_law_made_code : Stmt := top 90
abbrev s_law_followed : Stmt := top 91
abbrev s_law_right : Stmt := top 92
abbrev s_law : Stmt := top 93
abbrev s_Reading_init : Stmt := inClass (top 24) 0
abbrev FnQ (K : PySem.W.Frag) (x q : Str) (st : Stmt) (f : Addr) (fd : FuncData) : Prop := FunD K x q (defArgs st) (defBody st) (defScope st) [] [] f fd
def fdAt (K : PySem.W.Frag) (a : Addr) : FuncData := match K.lookup a with
  | some ⟨_, _, .func fd, _⟩ => fd
  | _ => PySem.W.fnOf "" "" (defArgs (top 0)) [] (defScope (top 0)) .none .none .none .none none .none .none
theorem fdAt_eq {K : PySem.W.Frag} {a : Addr} {x q : Str} {st : Stmt} {fd : FuncData} (F : FnQ K x q st a fd) : FnQ K x q st a (fdAt K a) := by
  obtain ⟨oc, od, dV, kV, doc, pm, an, cdv, ct, osl, e, lk, r⟩ := F.ex
  have h : fdAt K a = fd := by
    unfold fdAt
    rw [lk]
  rw [h]
  exact F
def d_is_whole : He.DefD := ⟨("is_whole", none), "is_whole", "is_whole", defArgs s_is_whole, defBody s_is_whole, defScope s_is_whole, [], []⟩
def d_is_between : He.DefD := ⟨("is_between", none), "is_between", "is_between", defArgs s_is_between, defBody s_is_between, defScope s_is_between, [], []⟩
def d_kept : He.DefD := ⟨("kept", none), "kept", "kept", defArgs s_kept, defBody s_kept, defScope s_kept, [], []⟩
def d_is_form_of_expression : He.DefD := ⟨("is_form_of_expression", none), "is_form_of_expression", "is_form_of_expression", defArgs s_is_form_of_expression, defBody s_is_form_of_expression, defScope s_is_form_of_expression, [], []⟩
def d_measured : He.DefD := ⟨("measured", none), "measured", "measured", defArgs s_measured, defBody s_measured, defScope s_measured, [], []⟩
def d_parts : He.DefD := ⟨("_parts", none), "_parts", "_parts", defArgs s_parts, defBody s_parts, defScope s_parts, [], []⟩
def d_is_single : He.DefD := ⟨("_is_single", none), "_is_single", "_is_single", defArgs s_is_single, defBody s_is_single, defScope s_is_single, [], []⟩
def d_is_sign : He.DefD := ⟨("is_sign", none), "is_sign", "is_sign", defArgs s_is_sign, defBody s_is_sign, defScope s_is_sign, [], []⟩
def d_next_seed : He.DefD := ⟨("next_seed", none), "next_seed", "next_seed", defArgs s_next_seed, defBody s_next_seed, defScope s_next_seed, [], []⟩
def d_number_in : He.DefD := ⟨("number_in", none), "number_in", "number_in", defArgs s_number_in, defBody s_number_in, defScope s_number_in, [], []⟩
def d_number_made : He.DefD := ⟨("number_made", none), "number_made", "number_made", defArgs s_number_made, defBody s_number_made, defScope s_number_made, [], []⟩
def d_reckoned : He.DefD := ⟨("_reckoned", none), "_reckoned", "_reckoned", defArgs s_reckoned, defBody s_reckoned, defScope s_reckoned, [], []⟩
def d_read_number : He.DefD := ⟨("read_number", none), "read_number", "read_number", defArgs s_read_number, defBody s_read_number, defScope s_read_number, [], []⟩
def d_number_of_thing : He.DefD := ⟨("_number_of_thing", none), "_number_of_thing", "_number_of_thing", defArgs s_number_of_thing, defBody s_number_of_thing, defScope s_number_of_thing, [], []⟩
def d_drawn : He.DefD := ⟨("_drawn", none), "_drawn", "_drawn", defArgs s_drawn, defBody s_drawn, defScope s_drawn, [], []⟩
def d_own_of_first_met : He.DefD := ⟨("_own_of_first_met", none), "_own_of_first_met", "_own_of_first_met", defArgs s_own_of_first_met, defBody s_own_of_first_met, defScope s_own_of_first_met, [], []⟩
def d_do_deed : He.DefD := ⟨("do_deed", none), "do_deed", "do_deed", defArgs s_do_deed, defBody s_do_deed, defScope s_do_deed, [], []⟩
def d_told_by : He.DefD := ⟨("told_by", none), "told_by", "told_by", defArgs s_told_by, defBody s_told_by, defScope s_told_by, [], []⟩
def d_is_code : He.DefD := ⟨("is_code", none), "is_code", "is_code", defArgs s_is_code, defBody s_is_code, defScope s_is_code, [], []⟩
def d_has_form : He.DefD := ⟨("_has_form", none), "_has_form", "_has_form", defArgs s_has_form, defBody s_has_form, defScope s_has_form, [], []⟩
def d_is_part : He.DefD := ⟨("_is_part", none), "_is_part", "_is_part", defArgs s_is_part, defBody s_is_part, defScope s_is_part, [], []⟩
def d_is_reading : He.DefD := ⟨("_is_reading", none), "_is_reading", "_is_reading", defArgs s_is_reading, defBody s_is_reading, defScope s_is_reading, [], []⟩
def d_led_to : He.DefD := ⟨("led_to", none), "led_to", "led_to", defArgs s_led_to, defBody s_led_to, defScope s_led_to, [], []⟩
def d_places_behind : He.DefD := ⟨("places_behind", none), "places_behind", "places_behind", defArgs s_places_behind, defBody s_places_behind, defScope s_places_behind, [], []⟩
def d_taken_by : He.DefD := ⟨("taken_by", none), "taken_by", "taken_by", defArgs s_taken_by, defBody s_taken_by, defScope s_taken_by, [], []⟩
def d_has_fitting_rows : He.DefD := ⟨("_has_fitting_rows", none), "_has_fitting_rows", "_has_fitting_rows", defArgs s_has_fitting_rows, defBody s_has_fitting_rows, defScope s_has_fitting_rows, [], []⟩
def d_compiled : He.DefD := ⟨("compiled", none), "compiled", "compiled", defArgs s_compiled, defBody s_compiled, defScope s_compiled, [], []⟩
def d_run_code : He.DefD := ⟨("run_code", none), "run_code", "run_code", defArgs s_run_code, defBody s_run_code, defScope s_run_code, [], []⟩
def d_need_script : He.DefD := ⟨("_need_script", none), "_need_script", "_need_script", defArgs s_need_script, defBody s_need_script, defScope s_need_script, [], []⟩
def d_need_code : He.DefD := ⟨("_need_code", none), "_need_code", "_need_code", defArgs s_need_code, defBody s_need_code, defScope s_need_code, [], []⟩
def d_code_of_deeds : He.DefD := ⟨("_code_of_deeds", none), "_code_of_deeds", "_code_of_deeds", defArgs s_code_of_deeds, defBody s_code_of_deeds, defScope s_code_of_deeds, [], []⟩
def d_code_of : He.DefD := ⟨("_code_of", none), "_code_of", "_code_of", defArgs s_code_of, defBody s_code_of, defScope s_code_of, [], []⟩
def d_code_of_parts : He.DefD := ⟨("_code_of_parts", none), "_code_of_parts", "_code_of_parts", defArgs s_code_of_parts, defBody s_code_of_parts, defScope s_code_of_parts, [], []⟩
def d_fork : He.DefD := ⟨("_fork", none), "_fork", "_fork", defArgs s_fork, defBody s_fork, defScope s_fork, [], []⟩
def d_ran : He.DefD := ⟨("_ran", none), "_ran", "_ran", defArgs s_ran, defBody s_ran, defScope s_ran, [], []⟩
def d_left_out : He.DefD := ⟨("_left_out", none), "_left_out", "_left_out", defArgs s_left_out, defBody s_left_out, defScope s_left_out, [], []⟩
def d_law_deck : He.DefD := ⟨("_law_deck", none), "_law_deck", "_law_deck", defArgs s_law_deck, defBody s_law_deck, defScope s_law_deck, [], []⟩
def d_law_take : He.DefD := ⟨("_law_take", none), "_law_take", "_law_take", defArgs s_law_take, defBody s_law_take, defScope s_law_take, [], []⟩
def d_law_any : He.DefD := ⟨("_law_any", none), "_law_any", "_law_any", defArgs s_law_any, defBody s_law_any, defScope s_law_any, [], []⟩
def d_law_small : He.DefD := ⟨("_law_small", none), "_law_small", "_law_small", defArgs s_law_small, defBody s_law_small, defScope s_law_small, [], []⟩
def d_law_single : He.DefD := ⟨("_law_single", none), "_law_single", "_law_single", defArgs s_law_single, defBody s_law_single, defScope s_law_single, [], []⟩
def d_law_parts : He.DefD := ⟨("_law_parts", none), "_law_parts", "_law_parts", defArgs s_law_parts, defBody s_law_parts, defScope s_law_parts, [], []⟩
def d_law_tree : He.DefD := ⟨("_law_tree", none), "_law_tree", "_law_tree", defArgs s_law_tree, defBody s_law_tree, defScope s_law_tree, [], []⟩
def d_law_deed : He.DefD := ⟨("_law_deed", none), "_law_deed", "_law_deed", defArgs s_law_deed, defBody s_law_deed, defScope s_law_deed, [], []⟩
def d_law_rules : He.DefD := ⟨("_law_rules", none), "_law_rules", "_law_rules", defArgs s_law_rules, defBody s_law_rules, defScope s_law_rules, [], []⟩
def d_law_within : He.DefD := ⟨("_law_within", none), "_law_within", "_law_within", defArgs s_law_within, defBody s_law_within, defScope s_law_within, [], []⟩
def d_law_all : He.DefD := ⟨("_law_all", none), "_law_all", "_law_all", defArgs s_law_all, defBody s_law_all, defScope s_law_all, [], []⟩
def d_law_wants : He.DefD := ⟨("_law_wants", none), "_law_wants", "_law_wants", defArgs s_law_wants, defBody s_law_wants, defScope s_law_wants, [], []⟩
def d_law_met : He.DefD := ⟨("_law_met", none), "_law_met", "_law_met", defArgs s_law_met, defBody s_law_met, defScope s_law_met, [], []⟩
def d_law_facts : He.DefD := ⟨("_law_facts", none), "_law_facts", "_law_facts", defArgs s_law_facts, defBody s_law_facts, defScope s_law_facts, [], []⟩
def d_law_kept : He.DefD := ⟨("_law_kept", none), "_law_kept", "_law_kept", defArgs s_law_kept, defBody s_law_kept, defScope s_law_kept, [], []⟩
def d_law_state : He.DefD := ⟨("_law_state", none), "_law_state", "_law_state", defArgs s_law_state, defBody s_law_state, defScope s_law_state, [], []⟩
def d_law_read : He.DefD := ⟨("_law_read", none), "_law_read", "_law_read", defArgs s_law_read, defBody s_law_read, defScope s_law_read, [], []⟩
def d_law_made : He.DefD := ⟨("_law_made", none), "_law_made", "_law_made", defArgs s_law_made, defBody s_law_made, defScope s_law_made, [], []⟩
def d_law_number : He.DefD := ⟨("_law_number", none), "_law_number", "_law_number", defArgs s_law_number, defBody s_law_number, defScope s_law_number, [], []⟩
def d_law_set : He.DefD := ⟨("_law_set", none), "_law_set", "_law_set", defArgs s_law_set, defBody s_law_set, defScope s_law_set, [], []⟩
def d_law_done : He.DefD := ⟨("_law_done", none), "_law_done", "_law_done", defArgs s_law_done, defBody s_law_done, defScope s_law_done, [], []⟩
def d_law_outcome : He.DefD := ⟨("_law_outcome", none), "_law_outcome", "_law_outcome", defArgs s_law_outcome, defBody s_law_outcome, defScope s_law_outcome, [], []⟩
def d_law_told : He.DefD := ⟨("_law_told", none), "_law_told", "_law_told", defArgs s_law_told, defBody s_law_told, defScope s_law_told, [], []⟩
def d_law_tree_code : He.DefD := ⟨("_law_tree_code", none), "_law_tree_code", "_law_tree_code", defArgs s_law_tree_code, defBody s_law_tree_code, defScope s_law_tree_code, [], []⟩
def d_law_fork : He.DefD := ⟨("_law_fork", none), "_law_fork", "_law_fork", defArgs s_law_fork, defBody s_law_fork, defScope s_law_fork, [], []⟩
def d_law_code : He.DefD := ⟨("_law_code", none), "_law_code", "_law_code", defArgs s_law_code, defBody s_law_code, defScope s_law_code, [], []⟩
def d_law_alike : He.DefD := ⟨("_law_alike", none), "_law_alike", "_law_alike", defArgs s_law_alike, defBody s_law_alike, defScope s_law_alike, [], []⟩
def d_law_made_code : He.DefD := ⟨("_law_made_code", none), "_law_made_code", "_law_made_code", defArgs s_law_made_code, defBody s_law_made_code, defScope s_law_made_code, [], []⟩
def d_law_followed : He.DefD := ⟨("_law_followed", none), "_law_followed", "_law_followed", defArgs s_law_followed, defBody s_law_followed, defScope s_law_followed, [], []⟩
def d_law_right : He.DefD := ⟨("_law_right", none), "_law_right", "_law_right", defArgs s_law_right, defBody s_law_right, defScope s_law_right, [], []⟩
def d_law : He.DefD := ⟨("law", none), "law", "law", defArgs s_law, defBody s_law, defScope s_law, [], []⟩
def d_Reading_init : He.DefD := ⟨("Reading", some "__init__"), "__init__", "Reading.__init__", defArgs s_Reading_init, defBody s_Reading_init, defScope s_Reading_init, [], []⟩
def loose0 : List Str := ["is_whole", "is_between", "kept", "is_form_of_expression", "measured", "_parts", "_is_single", "is_sign", "next_seed", "number_in", "number_made", "_reckoned", "read_number", "_number_of_thing", "_drawn", "_own_of_first_met", "do_deed", "told_by", "is_code", "_has_form", "_is_part", "_is_reading", "led_to", "places_behind", "taken_by", "_has_fitting_rows", "compiled", "run_code", "_need_script", "_need_code"]
def loose1 : List Str := ["_code_of_deeds", "_code_of", "_code_of_parts", "_fork", "_ran", "_left_out", "_law_deck", "_law_take", "_law_any", "_law_small", "_law_single", "_law_parts", "_law_tree", "_law_deed", "_law_rules", "_law_within", "_law_all", "_law_wants", "_law_met", "_law_facts", "_law_kept", "_law_state", "_law_read", "_law_made", "_law_number", "_law_set", "_law_done", "_law_outcome", "_law_told", "_law_tree_code"]
def loose2 : List Str := ["_law_fork", "_law_code", "_law_alike", "_law_made_code", "_law_followed", "_law_right", "Reading", "GameError", "InvalidScript", "InvalidCode", "SIGNS", "MOST_TUPLES", "MOST_DEEP", "RANGES", "EXPRESSION_FORMS", "DEED_FORMS", "MOST_SET", "MOST_WAY", "IN_THE_AIR", "MOST", "MOST_AWAY", "MOST_BIRTHS", "TWO_SIDED", "FORMS", "TAKEN", "GIVEN"]
def loose : List Str := loose0 ++ loose1 ++ loose2
def fn : List He.DefD := [d_is_whole, d_is_between, d_kept, d_is_form_of_expression, d_measured, d_parts, d_is_single, d_is_sign, d_next_seed, d_number_in, d_number_made, d_reckoned, d_read_number, d_number_of_thing, d_drawn, d_own_of_first_met, d_do_deed, d_told_by, d_is_code, d_has_form, d_is_part, d_is_reading, d_led_to, d_places_behind, d_taken_by, d_has_fitting_rows, d_compiled, d_run_code, d_need_script, d_need_code, d_code_of_deeds, d_code_of, d_code_of_parts, d_fork, d_ran, d_left_out, d_law_deck, d_law_take, d_law_any, d_law_small, d_law_single, d_law_parts, d_law_tree, d_law_deed, d_law_rules, d_law_within, d_law_all, d_law_wants, d_law_met, d_law_facts, d_law_kept, d_law_state, d_law_read, d_law_made, d_law_number, d_law_set, d_law_done, d_law_outcome, d_law_told, d_law_tree_code, d_law_fork, d_law_code, d_law_alike, d_law_made_code, d_law_followed, d_law_right, d_law, d_Reading_init]
def fa : List He.Fa := [.glo "is_whole", .glo "is_between", .glo "kept", .glo "is_form_of_expression", .glo "measured", .glo "_parts", .glo "_is_single", .glo "is_sign", .glo "next_seed", .glo "number_in", .glo "number_made", .glo "_reckoned", .glo "read_number", .glo "_number_of_thing", .glo "_drawn", .glo "_own_of_first_met", .glo "do_deed", .glo "told_by", .glo "is_code", .glo "_has_form", .glo "_is_part", .glo "_is_reading", .glo "led_to", .glo "places_behind", .glo "taken_by", .glo "_has_fitting_rows", .glo "compiled", .glo "run_code", .glo "_need_script", .glo "_need_code", .glo "_code_of_deeds", .glo "_code_of", .glo "_code_of_parts", .glo "_fork", .glo "_ran", .glo "_left_out", .glo "_law_deck", .glo "_law_take", .glo "_law_any", .glo "_law_small", .glo "_law_single", .glo "_law_parts", .glo "_law_tree", .glo "_law_deed", .glo "_law_rules", .glo "_law_within", .glo "_law_all", .glo "_law_wants", .glo "_law_met", .glo "_law_facts", .glo "_law_kept", .glo "_law_state", .glo "_law_read", .glo "_law_made", .glo "_law_number", .glo "_law_set", .glo "_law_done", .glo "_law_outcome", .glo "_law_told", .glo "_law_tree_code", .glo "_law_fork", .glo "_law_code", .glo "_law_alike", .glo "_law_made_code", .glo "_law_followed", .glo "_law_right", .glo "law", .free "len", .free "int", .free "isinstance", .free "range", .free "all", .free "any", .free "min", .free "max", .free "str", .free "bool", .free "tuple", .free "list", .free "sorted", .free "zip", .free "enumerate", .free "ValueError", .free "repr", .str "SIGNS" ".#=<>^wg", .int "MOST_TUPLES" 60, .int "MOST_DEEP" 8, .glo "RANGES", .glo "EXPRESSION_FORMS", .glo "DEED_FORMS", .int "MOST_SET" 999, .int "MOST_WAY" 7, .int "IN_THE_AIR" (-2), .int "MOST" 999999, .int "MOST_AWAY" 64, .int "MOST_BIRTHS" 2, .glo "TWO_SIDED", .glo "FORMS", .glo "TAKEN", .glo "GIVEN", .glo "Reading", .cls "Reading", .mkr "Reading", .noat "Reading" "thing", .noat "Reading" "dx", .noat "Reading" "dy", .noat "Reading" "own", .noat "Reading" "press", .noat "Reading" "marks", .noat "Reading" "seed", .noat "Reading" "met", .noat "Reading" "here", .noat "Reading" "below", .noat "Reading" "marks_set", .noat "Reading" "drawn", .noat "Reading" "births", .noat "Reading" "gone", .glo "GameError", .glo "InvalidScript", .glo "InvalidCode"]
def tupA (K : PySem.W.Frag) (a : Addr) (vs : List He.Dv) : Bool := match K.lookup a with
  | some ⟨.type c, _, .seq its _, _⟩ => decide (c = "tuple") && (decide (its.size ≤ sizeLine) && He.relAll (vs.map (He.Dv.v K)) its.toList)
  | _ => false
theorem tupA_ok {K : PySem.W.Frag} {a : Addr} {vs : List He.Dv} (h : tupA K a vs = true) (H : Hp) : SqT K H a (vs.map (He.Dv.v K)) := by
  unfold tupA at h
  split at h
  · rename_i c dd its n sl q
    obtain ⟨h1, h2⟩ := He.ba h
    obtain ⟨h3, h4⟩ := He.ba h2
    exact .inr ⟨_, its, n, q, congrArg Value.type (of_decide_eq_true h1), rfl, of_decide_eq_true h3, He.relAll_ok h4⟩
  · cases h
/-- where a written dict's value lies -/
def dtA (K : PySem.W.Frag) (x k : Str) : Addr := match PySem.W.nsIn K (He.ga K x) k with
  | some (some (.ref a)) => a
  | _ => 0
def dtB (K : PySem.W.Frag) (x : Str) (q : Str × List He.Dv) : Bool := decide (PySem.W.nsIn K (He.ga K x) q.1 = some (some (.ref (dtA K x q.1)))) && tupA K (dtA K x q.1) q.2
def v_RANGES : List (Str × List He.Dv) := [("number", [.int (-9999), .int 9999]), ("own", [.int 0, .int 3]), ("mark", [.int 0, .int 15]), ("kind", [.int 0, .int 7]), ("key", [.int 0, .int 5]), ("draw", [.int 1, .int 99])]
def v_EXPRESSION_FORMS : List (Str × List He.Dv) := [("number", [.str "number"]), ("own", [.str "own"]), ("mark", [.str "mark"]), ("x", []), ("y", []), ("dx", []), ("dy", []), ("rests", []), ("held", [.str "key"]), ("met", [.str "kind"]), ("met own", [.str "kind", .str "own"]), ("here", [.str "sign"]), ("under", [.str "sign"]), ("drawn", [.str "draw"]), ("sum", [.str "part", .str "part"]), ("less", [.str "part", .str "part"]), ("times", [.str "part", .str "part"]), ("part", [.str "part", .str "part"]), ("rest", [.str "part", .str "part"]), ("least", [.str "part", .str "part"]), ("most", [.str "part", .str "part"]), ("same", [.str "part", .str "part"]), ("below", [.str "part", .str "part"]), ("both", [.str "part", .str "part"]), ("either", [.str "part", .str "part"]), ("not", [.str "part"]), ("pick", [.str "part", .str "part", .str "part"])]
def v_DEED_FORMS : List (Str × List He.Dv) := [("own", [.str "own", .str "part"]), ("mark", [.str "mark", .str "part"]), ("go", [.str "part", .str "part"]), ("born", [.str "kind", .str "part", .str "part", .str "part", .str "part"]), ("gone", []), ("when", [.str "part", .str "deeds", .str "deeds"])]
def v_TWO_SIDED : List He.Dv := [.str "sum", .str "less", .str "times", .str "part", .str "rest", .str "least", .str "most", .str "same", .str "below", .str "both", .str "either"]
def v_FORMS : List (Str × List He.Dv) := [("push", [.str "pushed"]), ("read", [.str "reading"]), ("do", [.str "joining"]), ("own", [.str "own"]), ("mark", [.str "mark"]), ("go", []), ("born", [.str "kind"]), ("gone", []), ("over", [.str "many"]), ("nought", [.str "many"])]
def intB (K : PySem.W.Frag) (x : Str) (q : Str × Int) : Bool := match PySem.W.nsIn K (He.ga K x) q.1 with
  | some (some (.int n _)) => decide (n = q.2)
  | _ => false
theorem intB_ok {K : PySem.W.Frag} {x : Str} {q : Str × Int} (h : intB K x q = true) : ∃ t, PySem.W.nsIn K (He.ga K x) q.1 = some (some (.int q.2 t)) := by
  unfold intB at h
  split at h
  · rename_i n t e
    rw [e, of_decide_eq_true h]
    exact ⟨t, rfl⟩
  · cases h
def v_TAKEN : List (Str × Int) := [("push", 0), ("read", 0), ("own", 1), ("mark", 1), ("go", 2), ("born", 4), ("gone", 0), ("over", 0), ("nought", 1)]
def v_GIVEN : List He.Dv := [.str "push", .str "read", .str "do"]
def tabs : List He.Tab := [(fun K => He.ga K "RANGES", v_RANGES.map (·.1)), (fun K => He.ga K "EXPRESSION_FORMS", v_EXPRESSION_FORMS.map (·.1)), (fun K => He.ga K "DEED_FORMS", v_DEED_FORMS.map (·.1)), (fun K => He.ga K "FORMS", v_FORMS.map (·.1)), (fun K => He.ga K "TAKEN", v_TAKEN.map (·.1))]
def exs (K : PySem.W.Frag) : Bool := v_RANGES.all (dtB K "RANGES") && (v_EXPRESSION_FORMS.all (dtB K "EXPRESSION_FORMS") && (v_DEED_FORMS.all (dtB K "DEED_FORMS") && (tupA K (He.ga K "TWO_SIDED") v_TWO_SIDED && (v_FORMS.all (dtB K "FORMS") && (v_TAKEN.all (intB K "TAKEN") && (tupA K (He.ga K "GIVEN") v_GIVEN && (true)))))))
abbrev R : PySem.W.OpenRow := PySem.W.OpenLaw.row PySem.Challenge.rw_latepresses_k05_whole_code_is_the_trees
abbrev hk : PySem.W.Hook := He.hookX 6 fa fn tabs [] exs
def ob (s : PySem.W.SharedT) : He.AlX := He.obsX 6 fa fn tabs [] exs (HandSHeadRun.getT s)
theorem ob_eq (s : PySem.W.SharedT) : ob s = hk.obs s.abs := He.obsX_eq (HandSHeadRun.getT_eq s)
theorem map2p {α β γ : Type _} {X : Option α} {f : α → β × γ} {v : β × γ} (h1 : X.map (fun s => (f s).1) = some v.1) (h2 : X.map (fun s => (f s).2) = some v.2) : X.map f = some v := by
  cases X with
  | none => cases h1
  | some x =>
    have e1 : (f x).1 = v.1 := Option.some.inj h1
    have e2 : (f x).2 = v.2 := Option.some.inj h2
    exact congrArg some (Prod.ext e1 e2)
theorem map3 {α β γ δ : Type _} {X : Option α} {f : α → β} {g : α → γ} {h : α → δ} {a : β} {b : γ} {c : δ} (h1 : X.map f = some a) (h2 : X.map g = some b) (h3 : X.map h = some c) : X.map (fun s => (f s, g s, h s)) = some (a, b, c) := by
  cases X with
  | none => cases h1
  | some x =>
    cases h1
    cases h2
    cases h3
    rfl
theorem run0a (w : World) (os : OsState) : (HandSHeadRun.endF (HandSHeadRun.stepQ (HandSHeadRun.denQ HandSHeadRun.tabQ) R.prog (w.withFollow "special-get-raises" false)) 40000 R.prog (w.withFollow "special-get-raises" false) os).map (fun s => HandSHeadRun.looksF R.prog (PySem.W.boot_heap (w.withFollow "special-get-raises" false).params) s.abs) = some true := by
  kernel_rfl
theorem run0b (w : World) (os : OsState) : (HandSHeadRun.endF (HandSHeadRun.stepQ (HandSHeadRun.denQ HandSHeadRun.tabQ) R.prog (w.withFollow "special-get-raises" false)) 40000 R.prog (w.withFollow "special-get-raises" false) os).map (fun s => HandSHeadRun.seenQ (PySem.W.view R.prog [93]) loose (importedModules R.prog.main.body) (fun s => PySem.W.xlAt (PySem.W.view R.prog [93]) [] s && PySem.W.recOk R.toRowW.records s) s.abs) = some (PySem.W.openGood (PySem.W.view R.prog [93]) loose) := by
  kernel_rfl
theorem run0c (w : World) (os : OsState) : (HandSHeadRun.endF (HandSHeadRun.stepQ (HandSHeadRun.denQ HandSHeadRun.tabQ) R.prog (w.withFollow "special-get-raises" false)) 40000 R.prog (w.withFollow "special-get-raises" false) os).map (fun s => (ob s).1) = some (hk.val (w.withFollow "special-get-raises" false)).1 := by
  kernel_rfl
theorem run0d (w : World) (os : OsState) : (HandSHeadRun.endF (HandSHeadRun.stepQ (HandSHeadRun.denQ HandSHeadRun.tabQ) R.prog (w.withFollow "special-get-raises" false)) 40000 R.prog (w.withFollow "special-get-raises" false) os).map (fun s => (ob s).2) = some (hk.val (w.withFollow "special-get-raises" false)).2 := by
  kernel_rfl
theorem run0 (w : World) : HandSHeadRun.RunEq R (PySem.W.view R.prog [93]) hk ob 40000 loose (w.withFollow "special-get-raises" false) := fun os => map3 (run0a w os) (run0b w os) (map2p (run0c w os) (run0d w os))
theorem run1a (w : World) (os : OsState) : (HandSHeadRun.endF (HandSHeadRun.stepQ (HandSHeadRun.denQ HandSHeadRun.tabQ) R.prog (w.withFollow "special-get-raises" true)) 40000 R.prog (w.withFollow "special-get-raises" true) os).map (fun s => HandSHeadRun.looksF R.prog (PySem.W.boot_heap (w.withFollow "special-get-raises" true).params) s.abs) = some true := by
  kernel_rfl
theorem run1b (w : World) (os : OsState) : (HandSHeadRun.endF (HandSHeadRun.stepQ (HandSHeadRun.denQ HandSHeadRun.tabQ) R.prog (w.withFollow "special-get-raises" true)) 40000 R.prog (w.withFollow "special-get-raises" true) os).map (fun s => HandSHeadRun.seenQ (PySem.W.view R.prog [93]) loose (importedModules R.prog.main.body) (fun s => PySem.W.xlAt (PySem.W.view R.prog [93]) [] s && PySem.W.recOk R.toRowW.records s) s.abs) = some (PySem.W.openGood (PySem.W.view R.prog [93]) loose) := by
  kernel_rfl
theorem run1c (w : World) (os : OsState) : (HandSHeadRun.endF (HandSHeadRun.stepQ (HandSHeadRun.denQ HandSHeadRun.tabQ) R.prog (w.withFollow "special-get-raises" true)) 40000 R.prog (w.withFollow "special-get-raises" true) os).map (fun s => (ob s).1) = some (hk.val (w.withFollow "special-get-raises" true)).1 := by
  kernel_rfl
theorem run1d (w : World) (os : OsState) : (HandSHeadRun.endF (HandSHeadRun.stepQ (HandSHeadRun.denQ HandSHeadRun.tabQ) R.prog (w.withFollow "special-get-raises" true)) 40000 R.prog (w.withFollow "special-get-raises" true) os).map (fun s => (ob s).2) = some (hk.val (w.withFollow "special-get-raises" true)).2 := by
  kernel_rfl
theorem run1 (w : World) : HandSHeadRun.RunEq R (PySem.W.view R.prog [93]) hk ob 40000 loose (w.withFollow "special-get-raises" true) := fun os => map3 (run1a w os) (run1b w os) (map2p (run1c w os) (run1d w os))
theorem run (w : World) : HandSHeadRun.RunEq R (PySem.W.view R.prog [93]) hk ob 40000 loose w :=
  PySem.W.byRow2 "special-get-raises" (P := fun w => HandSHeadRun.RunEq R (PySem.W.view R.prog [93]) hk ob 40000 loose w) run0 run1 w
structure Txt (K : PySem.W.Frag) (w : World) (mg : Str → Option Value) : Prop where
  F_is_whole : FnQ K "is_whole" "is_whole" s_is_whole (He.fAd K ("is_whole", none)) (fdAt K (He.fAd K ("is_whole", none)))
  b_is_whole : Binds K (fdAt K (He.fAd K ("is_whole", none))) ["told"] []
  F_is_between : FnQ K "is_between" "is_between" s_is_between (He.fAd K ("is_between", none)) (fdAt K (He.fAd K ("is_between", none)))
  b_is_between : Binds K (fdAt K (He.fAd K ("is_between", none))) ["told", "low", "high"] []
  F_kept : FnQ K "kept" "kept" s_kept (He.fAd K ("kept", none)) (fdAt K (He.fAd K ("kept", none)))
  b_kept : Binds K (fdAt K (He.fAd K ("kept", none))) ["number", "low", "high"] []
  F_is_form_of_expression : FnQ K "is_form_of_expression" "is_form_of_expression" s_is_form_of_expression (He.fAd K ("is_form_of_expression", none)) (fdAt K (He.fAd K ("is_form_of_expression", none)))
  b_is_form_of_expression : Binds K (fdAt K (He.fAd K ("is_form_of_expression", none))) ["told"] []
  F_measured : FnQ K "measured" "measured" s_measured (He.fAd K ("measured", none)) (fdAt K (He.fAd K ("measured", none)))
  b_measured : Binds K (fdAt K (He.fAd K ("measured", none))) ["script"] []
  F_parts : FnQ K "_parts" "_parts" s_parts (He.fAd K ("_parts", none)) (fdAt K (He.fAd K ("_parts", none)))
  b_parts : Binds K (fdAt K (He.fAd K ("_parts", none))) ["told", "is_deed"] []
  F_is_single : FnQ K "_is_single" "_is_single" s_is_single (He.fAd K ("_is_single", none)) (fdAt K (He.fAd K ("_is_single", none)))
  b_is_single : Binds K (fdAt K (He.fAd K ("_is_single", none))) ["wanted", "part"] []
  F_is_sign : FnQ K "is_sign" "is_sign" s_is_sign (He.fAd K ("is_sign", none)) (fdAt K (He.fAd K ("is_sign", none)))
  b_is_sign : Binds K (fdAt K (He.fAd K ("is_sign", none))) ["told"] []
  F_next_seed : FnQ K "next_seed" "next_seed" s_next_seed (He.fAd K ("next_seed", none)) (fdAt K (He.fAd K ("next_seed", none)))
  b_next_seed : Binds K (fdAt K (He.fAd K ("next_seed", none))) ["seed"] []
  F_number_in : FnQ K "number_in" "number_in" s_number_in (He.fAd K ("number_in", none)) (fdAt K (He.fAd K ("number_in", none)))
  b_number_in : Binds K (fdAt K (He.fAd K ("number_in", none))) ["expression", "reading"] []
  F_number_made : FnQ K "number_made" "number_made" s_number_made (He.fAd K ("number_made", none)) (fdAt K (He.fAd K ("number_made", none)))
  b_number_made : Binds K (fdAt K (He.fAd K ("number_made", none))) ["name", "sides"] []
  F_reckoned : FnQ K "_reckoned" "_reckoned" s_reckoned (He.fAd K ("_reckoned", none)) (fdAt K (He.fAd K ("_reckoned", none)))
  b_reckoned : Binds K (fdAt K (He.fAd K ("_reckoned", none))) ["name", "one", "other"] []
  F_read_number : FnQ K "read_number" "read_number" s_read_number (He.fAd K ("read_number", none)) (fdAt K (He.fAd K ("read_number", none)))
  b_read_number : Binds K (fdAt K (He.fAd K ("read_number", none))) ["expression", "reading"] []
  F_number_of_thing : FnQ K "_number_of_thing" "_number_of_thing" s_number_of_thing (He.fAd K ("_number_of_thing", none)) (fdAt K (He.fAd K ("_number_of_thing", none)))
  b_number_of_thing : Binds K (fdAt K (He.fAd K ("_number_of_thing", none))) ["name", "reading"] []
  F_drawn : FnQ K "_drawn" "_drawn" s_drawn (He.fAd K ("_drawn", none)) (fdAt K (He.fAd K ("_drawn", none)))
  b_drawn : Binds K (fdAt K (He.fAd K ("_drawn", none))) ["many", "reading"] []
  F_own_of_first_met : FnQ K "_own_of_first_met" "_own_of_first_met" s_own_of_first_met (He.fAd K ("_own_of_first_met", none)) (fdAt K (He.fAd K ("_own_of_first_met", none)))
  b_own_of_first_met : Binds K (fdAt K (He.fAd K ("_own_of_first_met", none))) ["kind", "at", "reading"] []
  F_do_deed : FnQ K "do_deed" "do_deed" s_do_deed (He.fAd K ("do_deed", none)) (fdAt K (He.fAd K ("do_deed", none)))
  b_do_deed : Binds K (fdAt K (He.fAd K ("do_deed", none))) ["deed", "numbers", "reading"] []
  F_told_by : FnQ K "told_by" "told_by" s_told_by (He.fAd K ("told_by", none)) (fdAt K (He.fAd K ("told_by", none)))
  b_told_by : Binds K (fdAt K (He.fAd K ("told_by", none))) ["reading"] []
  F_is_code : FnQ K "is_code" "is_code" s_is_code (He.fAd K ("is_code", none)) (fdAt K (He.fAd K ("is_code", none)))
  b_is_code : Binds K (fdAt K (He.fAd K ("is_code", none))) ["told"] []
  F_has_form : FnQ K "_has_form" "_has_form" s_has_form (He.fAd K ("_has_form", none)) (fdAt K (He.fAd K ("_has_form", none)))
  b_has_form : Binds K (fdAt K (He.fAd K ("_has_form", none))) ["told"] []
  F_is_part : FnQ K "_is_part" "_is_part" s_is_part (He.fAd K ("_is_part", none)) (fdAt K (He.fAd K ("_is_part", none)))
  b_is_part : Binds K (fdAt K (He.fAd K ("_is_part", none))) ["wanted", "part"] []
  F_is_reading : FnQ K "_is_reading" "_is_reading" s_is_reading (He.fAd K ("_is_reading", none)) (fdAt K (He.fAd K ("_is_reading", none)))
  b_is_reading : Binds K (fdAt K (He.fAd K ("_is_reading", none))) ["told"] []
  F_led_to : FnQ K "led_to" "led_to" s_led_to (He.fAd K ("led_to", none)) (fdAt K (He.fAd K ("led_to", none)))
  b_led_to : Binds K (fdAt K (He.fAd K ("led_to", none))) ["code", "place"] []
  F_places_behind : FnQ K "places_behind" "places_behind" s_places_behind (He.fAd K ("places_behind", none)) (fdAt K (He.fAd K ("places_behind", none)))
  b_places_behind : Binds K (fdAt K (He.fAd K ("places_behind", none))) ["code", "place"] []
  F_taken_by : FnQ K "taken_by" "taken_by" s_taken_by (He.fAd K ("taken_by", none)) (fdAt K (He.fAd K ("taken_by", none)))
  b_taken_by : Binds K (fdAt K (He.fAd K ("taken_by", none))) ["thing"] []
  F_has_fitting_rows : FnQ K "_has_fitting_rows" "_has_fitting_rows" s_has_fitting_rows (He.fAd K ("_has_fitting_rows", none)) (fdAt K (He.fAd K ("_has_fitting_rows", none)))
  b_has_fitting_rows : Binds K (fdAt K (He.fAd K ("_has_fitting_rows", none))) ["code"] []
  F_compiled : FnQ K "compiled" "compiled" s_compiled (He.fAd K ("compiled", none)) (fdAt K (He.fAd K ("compiled", none)))
  b_compiled : Binds K (fdAt K (He.fAd K ("compiled", none))) ["script"] []
  F_run_code : FnQ K "run_code" "run_code" s_run_code (He.fAd K ("run_code", none)) (fdAt K (He.fAd K ("run_code", none)))
  b_run_code : Binds K (fdAt K (He.fAd K ("run_code", none))) ["code", "reads"] []
  F_need_script : FnQ K "_need_script" "_need_script" s_need_script (He.fAd K ("_need_script", none)) (fdAt K (He.fAd K ("_need_script", none)))
  b_need_script : Binds K (fdAt K (He.fAd K ("_need_script", none))) ["script"] []
  F_need_code : FnQ K "_need_code" "_need_code" s_need_code (He.fAd K ("_need_code", none)) (fdAt K (He.fAd K ("_need_code", none)))
  b_need_code : Binds K (fdAt K (He.fAd K ("_need_code", none))) ["code"] []
  F_code_of_deeds : FnQ K "_code_of_deeds" "_code_of_deeds" s_code_of_deeds (He.fAd K ("_code_of_deeds", none)) (fdAt K (He.fAd K ("_code_of_deeds", none)))
  b_code_of_deeds : Binds K (fdAt K (He.fAd K ("_code_of_deeds", none))) ["deeds"] []
  F_code_of : FnQ K "_code_of" "_code_of" s_code_of (He.fAd K ("_code_of", none)) (fdAt K (He.fAd K ("_code_of", none)))
  b_code_of : Binds K (fdAt K (He.fAd K ("_code_of", none))) ["expression"] []
  F_code_of_parts : FnQ K "_code_of_parts" "_code_of_parts" s_code_of_parts (He.fAd K ("_code_of_parts", none)) (fdAt K (He.fAd K ("_code_of_parts", none)))
  b_code_of_parts : Binds K (fdAt K (He.fAd K ("_code_of_parts", none))) ["told"] []
  F_fork : FnQ K "_fork" "_fork" s_fork (He.fAd K ("_fork", none)) (fdAt K (He.fAd K ("_fork", none)))
  b_fork : Binds K (fdAt K (He.fAd K ("_fork", none))) ["one", "other"] []
  F_ran : FnQ K "_ran" "_ran" s_ran (He.fAd K ("_ran", none)) (fdAt K (He.fAd K ("_ran", none)))
  b_ran : Binds K (fdAt K (He.fAd K ("_ran", none))) ["code", "reads"] []
  F_left_out : FnQ K "_left_out" "_left_out" s_left_out (He.fAd K ("_left_out", none)) (fdAt K (He.fAd K ("_left_out", none)))
  b_left_out : Binds K (fdAt K (He.fAd K ("_left_out", none))) ["thing", "row", "reading"] []
  F_law_deck : FnQ K "_law_deck" "_law_deck" s_law_deck (He.fAd K ("_law_deck", none)) (fdAt K (He.fAd K ("_law_deck", none)))
  b_law_deck : Binds K (fdAt K (He.fAd K ("_law_deck", none))) ["script", "k"] []
  F_law_take : FnQ K "_law_take" "_law_take" s_law_take (He.fAd K ("_law_take", none)) (fdAt K (He.fAd K ("_law_take", none)))
  b_law_take : Binds K (fdAt K (He.fAd K ("_law_take", none))) ["deck", "many"] []
  F_law_any : FnQ K "_law_any" "_law_any" s_law_any (He.fAd K ("_law_any", none)) (fdAt K (He.fAd K ("_law_any", none)))
  b_law_any : Binds K (fdAt K (He.fAd K ("_law_any", none))) ["deck", "menu"] []
  F_law_small : FnQ K "_law_small" "_law_small" s_law_small (He.fAd K ("_law_small", none)) (fdAt K (He.fAd K ("_law_small", none)))
  b_law_small : Binds K (fdAt K (He.fAd K ("_law_small", none))) ["deck"] []
  F_law_single : FnQ K "_law_single" "_law_single" s_law_single (He.fAd K ("_law_single", none)) (fdAt K (He.fAd K ("_law_single", none)))
  b_law_single : Binds K (fdAt K (He.fAd K ("_law_single", none))) ["deck"] []
  F_law_parts : FnQ K "_law_parts" "_law_parts" s_law_parts (He.fAd K ("_law_parts", none)) (fdAt K (He.fAd K ("_law_parts", none)))
  b_law_parts : Binds K (fdAt K (He.fAd K ("_law_parts", none))) ["deck", "many", "room", "deep"] []
  F_law_tree : FnQ K "_law_tree" "_law_tree" s_law_tree (He.fAd K ("_law_tree", none)) (fdAt K (He.fAd K ("_law_tree", none)))
  b_law_tree : Binds K (fdAt K (He.fAd K ("_law_tree", none))) ["deck", "room", "deep"] []
  F_law_deed : FnQ K "_law_deed" "_law_deed" s_law_deed (He.fAd K ("_law_deed", none)) (fdAt K (He.fAd K ("_law_deed", none)))
  b_law_deed : Binds K (fdAt K (He.fAd K ("_law_deed", none))) ["deck", "room", "deep"] []
  F_law_rules : FnQ K "_law_rules" "_law_rules" s_law_rules (He.fAd K ("_law_rules", none)) (fdAt K (He.fAd K ("_law_rules", none)))
  b_law_rules : Binds K (fdAt K (He.fAd K ("_law_rules", none))) ["deck", "room", "deep"] []
  F_law_within : FnQ K "_law_within" "_law_within" s_law_within (He.fAd K ("_law_within", none)) (fdAt K (He.fAd K ("_law_within", none)))
  b_law_within : Binds K (fdAt K (He.fAd K ("_law_within", none))) ["waiting"] []
  F_law_all : FnQ K "_law_all" "_law_all" s_law_all (He.fAd K ("_law_all", none)) (fdAt K (He.fAd K ("_law_all", none)))
  b_law_all : Binds K (fdAt K (He.fAd K ("_law_all", none))) ["rules"] []
  F_law_wants : FnQ K "_law_wants" "_law_wants" s_law_wants (He.fAd K ("_law_wants", none)) (fdAt K (He.fAd K ("_law_wants", none)))
  b_law_wants : Binds K (fdAt K (He.fAd K ("_law_wants", none))) ["rules"] []
  F_law_met : FnQ K "_law_met" "_law_met" s_law_met (He.fAd K ("_law_met", none)) (fdAt K (He.fAd K ("_law_met", none)))
  b_law_met : Binds K (fdAt K (He.fAd K ("_law_met", none))) ["deck"] []
  F_law_facts : FnQ K "_law_facts" "_law_facts" s_law_facts (He.fAd K ("_law_facts", none)) (fdAt K (He.fAd K ("_law_facts", none)))
  b_law_facts : Binds K (fdAt K (He.fAd K ("_law_facts", none))) ["deck", "wanted"] []
  F_law_kept : FnQ K "_law_kept" "_law_kept" s_law_kept (He.fAd K ("_law_kept", none)) (fdAt K (He.fAd K ("_law_kept", none)))
  b_law_kept : Binds K (fdAt K (He.fAd K ("_law_kept", none))) ["number", "low", "high"] []
  F_law_state : FnQ K "_law_state" "_law_state" s_law_state (He.fAd K ("_law_state", none)) (fdAt K (He.fAd K ("_law_state", none)))
  b_law_state : Binds K (fdAt K (He.fAd K ("_law_state", none))) ["facts"] []
  F_law_read : FnQ K "_law_read" "_law_read" s_law_read (He.fAd K ("_law_read", none)) (fdAt K (He.fAd K ("_law_read", none)))
  b_law_read : Binds K (fdAt K (He.fAd K ("_law_read", none))) ["item", "state"] []
  F_law_made : FnQ K "_law_made" "_law_made" s_law_made (He.fAd K ("_law_made", none)) (fdAt K (He.fAd K ("_law_made", none)))
  b_law_made : Binds K (fdAt K (He.fAd K ("_law_made", none))) ["name", "a", "b"] []
  F_law_number : FnQ K "_law_number" "_law_number" s_law_number (He.fAd K ("_law_number", none)) (fdAt K (He.fAd K ("_law_number", none)))
  b_law_number : Binds K (fdAt K (He.fAd K ("_law_number", none))) ["item", "state"] []
  F_law_set : FnQ K "_law_set" "_law_set" s_law_set (He.fAd K ("_law_set", none)) (fdAt K (He.fAd K ("_law_set", none)))
  b_law_set : Binds K (fdAt K (He.fAd K ("_law_set", none))) ["deed", "numbers", "state"] []
  F_law_done : FnQ K "_law_done" "_law_done" s_law_done (He.fAd K ("_law_done", none)) (fdAt K (He.fAd K ("_law_done", none)))
  b_law_done : Binds K (fdAt K (He.fAd K ("_law_done", none))) ["deeds", "state"] []
  F_law_outcome : FnQ K "_law_outcome" "_law_outcome" s_law_outcome (He.fAd K ("_law_outcome", none)) (fdAt K (He.fAd K ("_law_outcome", none)))
  b_law_outcome : Binds K (fdAt K (He.fAd K ("_law_outcome", none))) ["state"] []
  F_law_told : FnQ K "_law_told" "_law_told" s_law_told (He.fAd K ("_law_told", none)) (fdAt K (He.fAd K ("_law_told", none)))
  b_law_told : Binds K (fdAt K (He.fAd K ("_law_told", none))) ["rules", "facts"] []
  F_law_tree_code : FnQ K "_law_tree_code" "_law_tree_code" s_law_tree_code (He.fAd K ("_law_tree_code", none)) (fdAt K (He.fAd K ("_law_tree_code", none)))
  b_law_tree_code : Binds K (fdAt K (He.fAd K ("_law_tree_code", none))) ["item"] []
  F_law_fork : FnQ K "_law_fork" "_law_fork" s_law_fork (He.fAd K ("_law_fork", none)) (fdAt K (He.fAd K ("_law_fork", none)))
  b_law_fork : Binds K (fdAt K (He.fAd K ("_law_fork", none))) ["one", "other"] []
  F_law_code : FnQ K "_law_code" "_law_code" s_law_code (He.fAd K ("_law_code", none)) (fdAt K (He.fAd K ("_law_code", none)))
  b_law_code : Binds K (fdAt K (He.fAd K ("_law_code", none))) ["deeds"] []
  F_law_alike : FnQ K "_law_alike" "_law_alike" s_law_alike (He.fAd K ("_law_alike", none)) (fdAt K (He.fAd K ("_law_alike", none)))
  b_law_alike : Binds K (fdAt K (He.fAd K ("_law_alike", none))) ["found", "due"] []
  F_law_made_code : FnQ K "_law_made_code" "_law_made_code" s_law_made_code (He.fAd K ("_law_made_code", none)) (fdAt K (He.fAd K ("_law_made_code", none)))
  b_law_made_code : Binds K (fdAt K (He.fAd K ("_law_made_code", none))) ["named", "rules"] []
  F_law_followed : FnQ K "_law_followed" "_law_followed" s_law_followed (He.fAd K ("_law_followed", none)) (fdAt K (He.fAd K ("_law_followed", none)))
  b_law_followed : Binds K (fdAt K (He.fAd K ("_law_followed", none))) ["named", "steps", "facts"] []
  F_law_right : FnQ K "_law_right" "_law_right" s_law_right (He.fAd K ("_law_right", none)) (fdAt K (He.fAd K ("_law_right", none)))
  b_law_right : Binds K (fdAt K (He.fAd K ("_law_right", none))) ["rules", "facts", "named"] []
  F_law : FnQ K "law" "law" s_law (He.fAd K ("law", none)) (fdAt K (He.fAd K ("law", none)))
  b_law : Binds K (fdAt K (He.fAd K ("law", none))) ["script"] []
  F_Reading_init : FnQ K "__init__" "Reading.__init__" s_Reading_init (He.fAd K ("Reading", some "__init__")) (fdAt K (He.fAd K ("Reading", some "__init__")))
  b_Reading_init : Binds K (fdAt K (He.fAd K ("Reading", some "__init__"))) ["self", "reads"] []
  g_is_whole : mg "is_whole" = some (.ref (He.ga K "is_whole"))
  g_is_between : mg "is_between" = some (.ref (He.ga K "is_between"))
  g_kept : mg "kept" = some (.ref (He.ga K "kept"))
  g_is_form_of_expression : mg "is_form_of_expression" = some (.ref (He.ga K "is_form_of_expression"))
  g_measured : mg "measured" = some (.ref (He.ga K "measured"))
  g_parts : mg "_parts" = some (.ref (He.ga K "_parts"))
  g_is_single : mg "_is_single" = some (.ref (He.ga K "_is_single"))
  g_is_sign : mg "is_sign" = some (.ref (He.ga K "is_sign"))
  g_next_seed : mg "next_seed" = some (.ref (He.ga K "next_seed"))
  g_number_in : mg "number_in" = some (.ref (He.ga K "number_in"))
  g_number_made : mg "number_made" = some (.ref (He.ga K "number_made"))
  g_reckoned : mg "_reckoned" = some (.ref (He.ga K "_reckoned"))
  g_read_number : mg "read_number" = some (.ref (He.ga K "read_number"))
  g_number_of_thing : mg "_number_of_thing" = some (.ref (He.ga K "_number_of_thing"))
  g_drawn : mg "_drawn" = some (.ref (He.ga K "_drawn"))
  g_own_of_first_met : mg "_own_of_first_met" = some (.ref (He.ga K "_own_of_first_met"))
  g_do_deed : mg "do_deed" = some (.ref (He.ga K "do_deed"))
  g_told_by : mg "told_by" = some (.ref (He.ga K "told_by"))
  g_is_code : mg "is_code" = some (.ref (He.ga K "is_code"))
  g_has_form : mg "_has_form" = some (.ref (He.ga K "_has_form"))
  g_is_part : mg "_is_part" = some (.ref (He.ga K "_is_part"))
  g_is_reading : mg "_is_reading" = some (.ref (He.ga K "_is_reading"))
  g_led_to : mg "led_to" = some (.ref (He.ga K "led_to"))
  g_places_behind : mg "places_behind" = some (.ref (He.ga K "places_behind"))
  g_taken_by : mg "taken_by" = some (.ref (He.ga K "taken_by"))
  g_has_fitting_rows : mg "_has_fitting_rows" = some (.ref (He.ga K "_has_fitting_rows"))
  g_compiled : mg "compiled" = some (.ref (He.ga K "compiled"))
  g_run_code : mg "run_code" = some (.ref (He.ga K "run_code"))
  g_need_script : mg "_need_script" = some (.ref (He.ga K "_need_script"))
  g_need_code : mg "_need_code" = some (.ref (He.ga K "_need_code"))
  g_code_of_deeds : mg "_code_of_deeds" = some (.ref (He.ga K "_code_of_deeds"))
  g_code_of : mg "_code_of" = some (.ref (He.ga K "_code_of"))
  g_code_of_parts : mg "_code_of_parts" = some (.ref (He.ga K "_code_of_parts"))
  g_fork : mg "_fork" = some (.ref (He.ga K "_fork"))
  g_ran : mg "_ran" = some (.ref (He.ga K "_ran"))
  g_left_out : mg "_left_out" = some (.ref (He.ga K "_left_out"))
  g_law_deck : mg "_law_deck" = some (.ref (He.ga K "_law_deck"))
  g_law_take : mg "_law_take" = some (.ref (He.ga K "_law_take"))
  g_law_any : mg "_law_any" = some (.ref (He.ga K "_law_any"))
  g_law_small : mg "_law_small" = some (.ref (He.ga K "_law_small"))
  g_law_single : mg "_law_single" = some (.ref (He.ga K "_law_single"))
  g_law_parts : mg "_law_parts" = some (.ref (He.ga K "_law_parts"))
  g_law_tree : mg "_law_tree" = some (.ref (He.ga K "_law_tree"))
  g_law_deed : mg "_law_deed" = some (.ref (He.ga K "_law_deed"))
  g_law_rules : mg "_law_rules" = some (.ref (He.ga K "_law_rules"))
  g_law_within : mg "_law_within" = some (.ref (He.ga K "_law_within"))
  g_law_all : mg "_law_all" = some (.ref (He.ga K "_law_all"))
  g_law_wants : mg "_law_wants" = some (.ref (He.ga K "_law_wants"))
  g_law_met : mg "_law_met" = some (.ref (He.ga K "_law_met"))
  g_law_facts : mg "_law_facts" = some (.ref (He.ga K "_law_facts"))
  g_law_kept : mg "_law_kept" = some (.ref (He.ga K "_law_kept"))
  g_law_state : mg "_law_state" = some (.ref (He.ga K "_law_state"))
  g_law_read : mg "_law_read" = some (.ref (He.ga K "_law_read"))
  g_law_made : mg "_law_made" = some (.ref (He.ga K "_law_made"))
  g_law_number : mg "_law_number" = some (.ref (He.ga K "_law_number"))
  g_law_set : mg "_law_set" = some (.ref (He.ga K "_law_set"))
  g_law_done : mg "_law_done" = some (.ref (He.ga K "_law_done"))
  g_law_outcome : mg "_law_outcome" = some (.ref (He.ga K "_law_outcome"))
  g_law_told : mg "_law_told" = some (.ref (He.ga K "_law_told"))
  g_law_tree_code : mg "_law_tree_code" = some (.ref (He.ga K "_law_tree_code"))
  g_law_fork : mg "_law_fork" = some (.ref (He.ga K "_law_fork"))
  g_law_code : mg "_law_code" = some (.ref (He.ga K "_law_code"))
  g_law_alike : mg "_law_alike" = some (.ref (He.ga K "_law_alike"))
  g_law_made_code : mg "_law_made_code" = some (.ref (He.ga K "_law_made_code"))
  g_law_followed : mg "_law_followed" = some (.ref (He.ga K "_law_followed"))
  g_law_right : mg "_law_right" = some (.ref (He.ga K "_law_right"))
  g_law : mg "law" = some (.ref (He.ga K "law"))
  n_len : mg "len" = none
  n_int : mg "int" = none
  n_isinstance : mg "isinstance" = none
  n_range : mg "range" = none
  n_all : mg "all" = none
  n_any : mg "any" = none
  n_min : mg "min" = none
  n_max : mg "max" = none
  n_str : mg "str" = none
  n_bool : mg "bool" = none
  n_tuple : mg "tuple" = none
  n_list : mg "list" = none
  n_sorted : mg "sorted" = none
  n_zip : mg "zip" = none
  n_enumerate : mg "enumerate" = none
  n_ValueError : mg "ValueError" = none
  n_repr : mg "repr" = none
  c_SIGNS : ∃ u, mg "SIGNS" = some u ∧ RelV (.str ".#=<>^wg") u
  c_MOST_TUPLES : ∃ u, mg "MOST_TUPLES" = some u ∧ RelV (.int 60) u
  c_MOST_DEEP : ∃ u, mg "MOST_DEEP" = some u ∧ RelV (.int 8) u
  g_RANGES : mg "RANGES" = some (.ref (He.ga K "RANGES"))
  g_EXPRESSION_FORMS : mg "EXPRESSION_FORMS" = some (.ref (He.ga K "EXPRESSION_FORMS"))
  g_DEED_FORMS : mg "DEED_FORMS" = some (.ref (He.ga K "DEED_FORMS"))
  c_MOST_SET : ∃ u, mg "MOST_SET" = some u ∧ RelV (.int 999) u
  c_MOST_WAY : ∃ u, mg "MOST_WAY" = some u ∧ RelV (.int 7) u
  c_IN_THE_AIR : ∃ u, mg "IN_THE_AIR" = some u ∧ RelV (.int (-2)) u
  c_MOST : ∃ u, mg "MOST" = some u ∧ RelV (.int 999999) u
  c_MOST_AWAY : ∃ u, mg "MOST_AWAY" = some u ∧ RelV (.int 64) u
  c_MOST_BIRTHS : ∃ u, mg "MOST_BIRTHS" = some u ∧ RelV (.int 2) u
  g_TWO_SIDED : mg "TWO_SIDED" = some (.ref (He.ga K "TWO_SIDED"))
  g_FORMS : mg "FORMS" = some (.ref (He.ga K "FORMS"))
  g_TAKEN : mg "TAKEN" = some (.ref (He.ga K "TAKEN"))
  g_GIVEN : mg "GIVEN" = some (.ref (He.ga K "GIVEN"))
  g_Reading : mg "Reading" = some (.ref (He.ga K "Reading"))
  k_Reading : Cls K (He.ga K "Reading")
  m_Reading : Mk K (He.ga K "Reading") (He.fAd K ("Reading", some "__init__"))
  a_Reading_thing : NoAttr K (He.ga K "Reading") "thing"
  a_Reading_dx : NoAttr K (He.ga K "Reading") "dx"
  a_Reading_dy : NoAttr K (He.ga K "Reading") "dy"
  a_Reading_own : NoAttr K (He.ga K "Reading") "own"
  a_Reading_press : NoAttr K (He.ga K "Reading") "press"
  a_Reading_marks : NoAttr K (He.ga K "Reading") "marks"
  a_Reading_seed : NoAttr K (He.ga K "Reading") "seed"
  a_Reading_met : NoAttr K (He.ga K "Reading") "met"
  a_Reading_here : NoAttr K (He.ga K "Reading") "here"
  a_Reading_below : NoAttr K (He.ga K "Reading") "below"
  a_Reading_marks_set : NoAttr K (He.ga K "Reading") "marks_set"
  a_Reading_drawn : NoAttr K (He.ga K "Reading") "drawn"
  a_Reading_births : NoAttr K (He.ga K "Reading") "births"
  a_Reading_gone : NoAttr K (He.ga K "Reading") "gone"
  g_GameError : mg "GameError" = some (.ref (He.ga K "GameError"))
  g_InvalidScript : mg "InvalidScript" = some (.ref (He.ga K "InvalidScript"))
  g_InvalidCode : mg "InvalidCode" = some (.ref (He.ga K "InvalidCode"))
  t_TWO_SIDED : ∀ H, SqT K H (He.ga K "TWO_SIDED") (v_TWO_SIDED.map (He.Dv.v K))
  t_GIVEN : ∀ H, SqT K H (He.ga K "GIVEN") (v_GIVEN.map (He.Dv.v K))
  t_RANGES : ∃ es n, KDict K w (He.ga K "RANGES") es n
  u_RANGES : ∀ q ∈ v_RANGES, PySem.W.nsIn K (He.ga K "RANGES") q.1 = some (some (.ref (dtA K "RANGES" q.1))) ∧ ∀ H, SqT K H (dtA K "RANGES" q.1) (q.2.map (He.Dv.v K))
  t_EXPRESSION_FORMS : ∃ es n, KDict K w (He.ga K "EXPRESSION_FORMS") es n
  u_EXPRESSION_FORMS : ∀ q ∈ v_EXPRESSION_FORMS, PySem.W.nsIn K (He.ga K "EXPRESSION_FORMS") q.1 = some (some (.ref (dtA K "EXPRESSION_FORMS" q.1))) ∧ ∀ H, SqT K H (dtA K "EXPRESSION_FORMS" q.1) (q.2.map (He.Dv.v K))
  t_DEED_FORMS : ∃ es n, KDict K w (He.ga K "DEED_FORMS") es n
  u_DEED_FORMS : ∀ q ∈ v_DEED_FORMS, PySem.W.nsIn K (He.ga K "DEED_FORMS") q.1 = some (some (.ref (dtA K "DEED_FORMS" q.1))) ∧ ∀ H, SqT K H (dtA K "DEED_FORMS" q.1) (q.2.map (He.Dv.v K))
  t_FORMS : ∃ es n, KDict K w (He.ga K "FORMS") es n
  u_FORMS : ∀ q ∈ v_FORMS, PySem.W.nsIn K (He.ga K "FORMS") q.1 = some (some (.ref (dtA K "FORMS" q.1))) ∧ ∀ H, SqT K H (dtA K "FORMS" q.1) (q.2.map (He.Dv.v K))
  t_TAKEN : ∃ es n, KDict K w (He.ga K "TAKEN") es n
  u_TAKEN : ∀ q ∈ v_TAKEN, ∃ t, PySem.W.nsIn K (He.ga K "TAKEN") q.1 = some (some (.int q.2 t))
theorem txt_of {K : PySem.W.Frag} {w : World} {h h0 : Heap} {mg : Str → Option Value} (X : K.In h) (G : h.Ns mainGlobals mg) (c : He.SaysX fa fn tabs [] exs w h0 K) : Txt K w mg := by
  have cd := c.t.d
  have e0 : exs K = true := c.more
  unfold exs at e0
  obtain ⟨x0, e0⟩ := He.ba e0
  obtain ⟨x1, e0⟩ := He.ba e0
  obtain ⟨x2, e0⟩ := He.ba e0
  obtain ⟨x3, e0⟩ := He.ba e0
  obtain ⟨x4, e0⟩ := He.ba e0
  obtain ⟨x5, e0⟩ := He.ba e0
  obtain ⟨x6, e0⟩ := He.ba e0
  obtain ⟨fd_is_whole, f_is_whole⟩ := cd.def_ 0 (d := d_is_whole) rfl
  obtain ⟨fd_is_between, f_is_between⟩ := cd.def_ 1 (d := d_is_between) rfl
  obtain ⟨fd_kept, f_kept⟩ := cd.def_ 2 (d := d_kept) rfl
  obtain ⟨fd_is_form_of_expression, f_is_form_of_expression⟩ := cd.def_ 3 (d := d_is_form_of_expression) rfl
  obtain ⟨fd_measured, f_measured⟩ := cd.def_ 4 (d := d_measured) rfl
  obtain ⟨fd_parts, f_parts⟩ := cd.def_ 5 (d := d_parts) rfl
  obtain ⟨fd_is_single, f_is_single⟩ := cd.def_ 6 (d := d_is_single) rfl
  obtain ⟨fd_is_sign, f_is_sign⟩ := cd.def_ 7 (d := d_is_sign) rfl
  obtain ⟨fd_next_seed, f_next_seed⟩ := cd.def_ 8 (d := d_next_seed) rfl
  obtain ⟨fd_number_in, f_number_in⟩ := cd.def_ 9 (d := d_number_in) rfl
  obtain ⟨fd_number_made, f_number_made⟩ := cd.def_ 10 (d := d_number_made) rfl
  obtain ⟨fd_reckoned, f_reckoned⟩ := cd.def_ 11 (d := d_reckoned) rfl
  obtain ⟨fd_read_number, f_read_number⟩ := cd.def_ 12 (d := d_read_number) rfl
  obtain ⟨fd_number_of_thing, f_number_of_thing⟩ := cd.def_ 13 (d := d_number_of_thing) rfl
  obtain ⟨fd_drawn, f_drawn⟩ := cd.def_ 14 (d := d_drawn) rfl
  obtain ⟨fd_own_of_first_met, f_own_of_first_met⟩ := cd.def_ 15 (d := d_own_of_first_met) rfl
  obtain ⟨fd_do_deed, f_do_deed⟩ := cd.def_ 16 (d := d_do_deed) rfl
  obtain ⟨fd_told_by, f_told_by⟩ := cd.def_ 17 (d := d_told_by) rfl
  obtain ⟨fd_is_code, f_is_code⟩ := cd.def_ 18 (d := d_is_code) rfl
  obtain ⟨fd_has_form, f_has_form⟩ := cd.def_ 19 (d := d_has_form) rfl
  obtain ⟨fd_is_part, f_is_part⟩ := cd.def_ 20 (d := d_is_part) rfl
  obtain ⟨fd_is_reading, f_is_reading⟩ := cd.def_ 21 (d := d_is_reading) rfl
  obtain ⟨fd_led_to, f_led_to⟩ := cd.def_ 22 (d := d_led_to) rfl
  obtain ⟨fd_places_behind, f_places_behind⟩ := cd.def_ 23 (d := d_places_behind) rfl
  obtain ⟨fd_taken_by, f_taken_by⟩ := cd.def_ 24 (d := d_taken_by) rfl
  obtain ⟨fd_has_fitting_rows, f_has_fitting_rows⟩ := cd.def_ 25 (d := d_has_fitting_rows) rfl
  obtain ⟨fd_compiled, f_compiled⟩ := cd.def_ 26 (d := d_compiled) rfl
  obtain ⟨fd_run_code, f_run_code⟩ := cd.def_ 27 (d := d_run_code) rfl
  obtain ⟨fd_need_script, f_need_script⟩ := cd.def_ 28 (d := d_need_script) rfl
  obtain ⟨fd_need_code, f_need_code⟩ := cd.def_ 29 (d := d_need_code) rfl
  obtain ⟨fd_code_of_deeds, f_code_of_deeds⟩ := cd.def_ 30 (d := d_code_of_deeds) rfl
  obtain ⟨fd_code_of, f_code_of⟩ := cd.def_ 31 (d := d_code_of) rfl
  obtain ⟨fd_code_of_parts, f_code_of_parts⟩ := cd.def_ 32 (d := d_code_of_parts) rfl
  obtain ⟨fd_fork, f_fork⟩ := cd.def_ 33 (d := d_fork) rfl
  obtain ⟨fd_ran, f_ran⟩ := cd.def_ 34 (d := d_ran) rfl
  obtain ⟨fd_left_out, f_left_out⟩ := cd.def_ 35 (d := d_left_out) rfl
  obtain ⟨fd_law_deck, f_law_deck⟩ := cd.def_ 36 (d := d_law_deck) rfl
  obtain ⟨fd_law_take, f_law_take⟩ := cd.def_ 37 (d := d_law_take) rfl
  obtain ⟨fd_law_any, f_law_any⟩ := cd.def_ 38 (d := d_law_any) rfl
  obtain ⟨fd_law_small, f_law_small⟩ := cd.def_ 39 (d := d_law_small) rfl
  obtain ⟨fd_law_single, f_law_single⟩ := cd.def_ 40 (d := d_law_single) rfl
  obtain ⟨fd_law_parts, f_law_parts⟩ := cd.def_ 41 (d := d_law_parts) rfl
  obtain ⟨fd_law_tree, f_law_tree⟩ := cd.def_ 42 (d := d_law_tree) rfl
  obtain ⟨fd_law_deed, f_law_deed⟩ := cd.def_ 43 (d := d_law_deed) rfl
  obtain ⟨fd_law_rules, f_law_rules⟩ := cd.def_ 44 (d := d_law_rules) rfl
  obtain ⟨fd_law_within, f_law_within⟩ := cd.def_ 45 (d := d_law_within) rfl
  obtain ⟨fd_law_all, f_law_all⟩ := cd.def_ 46 (d := d_law_all) rfl
  obtain ⟨fd_law_wants, f_law_wants⟩ := cd.def_ 47 (d := d_law_wants) rfl
  obtain ⟨fd_law_met, f_law_met⟩ := cd.def_ 48 (d := d_law_met) rfl
  obtain ⟨fd_law_facts, f_law_facts⟩ := cd.def_ 49 (d := d_law_facts) rfl
  obtain ⟨fd_law_kept, f_law_kept⟩ := cd.def_ 50 (d := d_law_kept) rfl
  obtain ⟨fd_law_state, f_law_state⟩ := cd.def_ 51 (d := d_law_state) rfl
  obtain ⟨fd_law_read, f_law_read⟩ := cd.def_ 52 (d := d_law_read) rfl
  obtain ⟨fd_law_made, f_law_made⟩ := cd.def_ 53 (d := d_law_made) rfl
  obtain ⟨fd_law_number, f_law_number⟩ := cd.def_ 54 (d := d_law_number) rfl
  obtain ⟨fd_law_set, f_law_set⟩ := cd.def_ 55 (d := d_law_set) rfl
  obtain ⟨fd_law_done, f_law_done⟩ := cd.def_ 56 (d := d_law_done) rfl
  obtain ⟨fd_law_outcome, f_law_outcome⟩ := cd.def_ 57 (d := d_law_outcome) rfl
  obtain ⟨fd_law_told, f_law_told⟩ := cd.def_ 58 (d := d_law_told) rfl
  obtain ⟨fd_law_tree_code, f_law_tree_code⟩ := cd.def_ 59 (d := d_law_tree_code) rfl
  obtain ⟨fd_law_fork, f_law_fork⟩ := cd.def_ 60 (d := d_law_fork) rfl
  obtain ⟨fd_law_code, f_law_code⟩ := cd.def_ 61 (d := d_law_code) rfl
  obtain ⟨fd_law_alike, f_law_alike⟩ := cd.def_ 62 (d := d_law_alike) rfl
  obtain ⟨fd_law_made_code, f_law_made_code⟩ := cd.def_ 63 (d := d_law_made_code) rfl
  obtain ⟨fd_law_followed, f_law_followed⟩ := cd.def_ 64 (d := d_law_followed) rfl
  obtain ⟨fd_law_right, f_law_right⟩ := cd.def_ 65 (d := d_law_right) rfl
  obtain ⟨fd_law, f_law⟩ := cd.def_ 66 (d := d_law) rfl
  obtain ⟨fd_Reading_init, f_Reading_init⟩ := cd.def_ 67 (d := d_Reading_init) rfl
  exact {
    F_is_whole := fdAt_eq f_is_whole
    b_is_whole := (fdAt_eq (st := s_is_whole) f_is_whole).bindsN fun _ _ _ _ _ _ us hl => match us, hl with | [_], _ => rfl
    F_is_between := fdAt_eq f_is_between
    b_is_between := (fdAt_eq (st := s_is_between) f_is_between).bindsN fun _ _ _ _ _ _ us hl => match us, hl with | [_, _, _], _ => rfl
    F_kept := fdAt_eq f_kept
    b_kept := (fdAt_eq (st := s_kept) f_kept).bindsN fun _ _ _ _ _ _ us hl => match us, hl with | [_, _, _], _ => rfl
    F_is_form_of_expression := fdAt_eq f_is_form_of_expression
    b_is_form_of_expression := (fdAt_eq (st := s_is_form_of_expression) f_is_form_of_expression).bindsN fun _ _ _ _ _ _ us hl => match us, hl with | [_], _ => rfl
    F_measured := fdAt_eq f_measured
    b_measured := (fdAt_eq (st := s_measured) f_measured).bindsN fun _ _ _ _ _ _ us hl => match us, hl with | [_], _ => rfl
    F_parts := fdAt_eq f_parts
    b_parts := (fdAt_eq (st := s_parts) f_parts).bindsN fun _ _ _ _ _ _ us hl => match us, hl with | [_, _], _ => rfl
    F_is_single := fdAt_eq f_is_single
    b_is_single := (fdAt_eq (st := s_is_single) f_is_single).bindsN fun _ _ _ _ _ _ us hl => match us, hl with | [_, _], _ => rfl
    F_is_sign := fdAt_eq f_is_sign
    b_is_sign := (fdAt_eq (st := s_is_sign) f_is_sign).bindsN fun _ _ _ _ _ _ us hl => match us, hl with | [_], _ => rfl
    F_next_seed := fdAt_eq f_next_seed
    b_next_seed := (fdAt_eq (st := s_next_seed) f_next_seed).bindsN fun _ _ _ _ _ _ us hl => match us, hl with | [_], _ => rfl
    F_number_in := fdAt_eq f_number_in
    b_number_in := (fdAt_eq (st := s_number_in) f_number_in).bindsN fun _ _ _ _ _ _ us hl => match us, hl with | [_, _], _ => rfl
    F_number_made := fdAt_eq f_number_made
    b_number_made := (fdAt_eq (st := s_number_made) f_number_made).bindsN fun _ _ _ _ _ _ us hl => match us, hl with | [_, _], _ => rfl
    F_reckoned := fdAt_eq f_reckoned
    b_reckoned := (fdAt_eq (st := s_reckoned) f_reckoned).bindsN fun _ _ _ _ _ _ us hl => match us, hl with | [_, _, _], _ => rfl
    F_read_number := fdAt_eq f_read_number
    b_read_number := (fdAt_eq (st := s_read_number) f_read_number).bindsN fun _ _ _ _ _ _ us hl => match us, hl with | [_, _], _ => rfl
    F_number_of_thing := fdAt_eq f_number_of_thing
    b_number_of_thing := (fdAt_eq (st := s_number_of_thing) f_number_of_thing).bindsN fun _ _ _ _ _ _ us hl => match us, hl with | [_, _], _ => rfl
    F_drawn := fdAt_eq f_drawn
    b_drawn := (fdAt_eq (st := s_drawn) f_drawn).bindsN fun _ _ _ _ _ _ us hl => match us, hl with | [_, _], _ => rfl
    F_own_of_first_met := fdAt_eq f_own_of_first_met
    b_own_of_first_met := (fdAt_eq (st := s_own_of_first_met) f_own_of_first_met).bindsN fun _ _ _ _ _ _ us hl => match us, hl with | [_, _, _], _ => rfl
    F_do_deed := fdAt_eq f_do_deed
    b_do_deed := (fdAt_eq (st := s_do_deed) f_do_deed).bindsN fun _ _ _ _ _ _ us hl => match us, hl with | [_, _, _], _ => rfl
    F_told_by := fdAt_eq f_told_by
    b_told_by := (fdAt_eq (st := s_told_by) f_told_by).bindsN fun _ _ _ _ _ _ us hl => match us, hl with | [_], _ => rfl
    F_is_code := fdAt_eq f_is_code
    b_is_code := (fdAt_eq (st := s_is_code) f_is_code).bindsN fun _ _ _ _ _ _ us hl => match us, hl with | [_], _ => rfl
    F_has_form := fdAt_eq f_has_form
    b_has_form := (fdAt_eq (st := s_has_form) f_has_form).bindsN fun _ _ _ _ _ _ us hl => match us, hl with | [_], _ => rfl
    F_is_part := fdAt_eq f_is_part
    b_is_part := (fdAt_eq (st := s_is_part) f_is_part).bindsN fun _ _ _ _ _ _ us hl => match us, hl with | [_, _], _ => rfl
    F_is_reading := fdAt_eq f_is_reading
    b_is_reading := (fdAt_eq (st := s_is_reading) f_is_reading).bindsN fun _ _ _ _ _ _ us hl => match us, hl with | [_], _ => rfl
    F_led_to := fdAt_eq f_led_to
    b_led_to := (fdAt_eq (st := s_led_to) f_led_to).bindsN fun _ _ _ _ _ _ us hl => match us, hl with | [_, _], _ => rfl
    F_places_behind := fdAt_eq f_places_behind
    b_places_behind := (fdAt_eq (st := s_places_behind) f_places_behind).bindsN fun _ _ _ _ _ _ us hl => match us, hl with | [_, _], _ => rfl
    F_taken_by := fdAt_eq f_taken_by
    b_taken_by := (fdAt_eq (st := s_taken_by) f_taken_by).bindsN fun _ _ _ _ _ _ us hl => match us, hl with | [_], _ => rfl
    F_has_fitting_rows := fdAt_eq f_has_fitting_rows
    b_has_fitting_rows := (fdAt_eq (st := s_has_fitting_rows) f_has_fitting_rows).bindsN fun _ _ _ _ _ _ us hl => match us, hl with | [_], _ => rfl
    F_compiled := fdAt_eq f_compiled
    b_compiled := (fdAt_eq (st := s_compiled) f_compiled).bindsN fun _ _ _ _ _ _ us hl => match us, hl with | [_], _ => rfl
    F_run_code := fdAt_eq f_run_code
    b_run_code := (fdAt_eq (st := s_run_code) f_run_code).bindsN fun _ _ _ _ _ _ us hl => match us, hl with | [_, _], _ => rfl
    F_need_script := fdAt_eq f_need_script
    b_need_script := (fdAt_eq (st := s_need_script) f_need_script).bindsN fun _ _ _ _ _ _ us hl => match us, hl with | [_], _ => rfl
    F_need_code := fdAt_eq f_need_code
    b_need_code := (fdAt_eq (st := s_need_code) f_need_code).bindsN fun _ _ _ _ _ _ us hl => match us, hl with | [_], _ => rfl
    F_code_of_deeds := fdAt_eq f_code_of_deeds
    b_code_of_deeds := (fdAt_eq (st := s_code_of_deeds) f_code_of_deeds).bindsN fun _ _ _ _ _ _ us hl => match us, hl with | [_], _ => rfl
    F_code_of := fdAt_eq f_code_of
    b_code_of := (fdAt_eq (st := s_code_of) f_code_of).bindsN fun _ _ _ _ _ _ us hl => match us, hl with | [_], _ => rfl
    F_code_of_parts := fdAt_eq f_code_of_parts
    b_code_of_parts := (fdAt_eq (st := s_code_of_parts) f_code_of_parts).bindsN fun _ _ _ _ _ _ us hl => match us, hl with | [_], _ => rfl
    F_fork := fdAt_eq f_fork
    b_fork := (fdAt_eq (st := s_fork) f_fork).bindsN fun _ _ _ _ _ _ us hl => match us, hl with | [_, _], _ => rfl
    F_ran := fdAt_eq f_ran
    b_ran := (fdAt_eq (st := s_ran) f_ran).bindsN fun _ _ _ _ _ _ us hl => match us, hl with | [_, _], _ => rfl
    F_left_out := fdAt_eq f_left_out
    b_left_out := (fdAt_eq (st := s_left_out) f_left_out).bindsN fun _ _ _ _ _ _ us hl => match us, hl with | [_, _, _], _ => rfl
    F_law_deck := fdAt_eq f_law_deck
    b_law_deck := (fdAt_eq (st := s_law_deck) f_law_deck).bindsN fun _ _ _ _ _ _ us hl => match us, hl with | [_, _], _ => rfl
    F_law_take := fdAt_eq f_law_take
    b_law_take := (fdAt_eq (st := s_law_take) f_law_take).bindsN fun _ _ _ _ _ _ us hl => match us, hl with | [_, _], _ => rfl
    F_law_any := fdAt_eq f_law_any
    b_law_any := (fdAt_eq (st := s_law_any) f_law_any).bindsN fun _ _ _ _ _ _ us hl => match us, hl with | [_, _], _ => rfl
    F_law_small := fdAt_eq f_law_small
    b_law_small := (fdAt_eq (st := s_law_small) f_law_small).bindsN fun _ _ _ _ _ _ us hl => match us, hl with | [_], _ => rfl
    F_law_single := fdAt_eq f_law_single
    b_law_single := (fdAt_eq (st := s_law_single) f_law_single).bindsN fun _ _ _ _ _ _ us hl => match us, hl with | [_], _ => rfl
    F_law_parts := fdAt_eq f_law_parts
    b_law_parts := (fdAt_eq (st := s_law_parts) f_law_parts).bindsN fun _ _ _ _ _ _ us hl => match us, hl with | [_, _, _, _], _ => rfl
    F_law_tree := fdAt_eq f_law_tree
    b_law_tree := (fdAt_eq (st := s_law_tree) f_law_tree).bindsN fun _ _ _ _ _ _ us hl => match us, hl with | [_, _, _], _ => rfl
    F_law_deed := fdAt_eq f_law_deed
    b_law_deed := (fdAt_eq (st := s_law_deed) f_law_deed).bindsN fun _ _ _ _ _ _ us hl => match us, hl with | [_, _, _], _ => rfl
    F_law_rules := fdAt_eq f_law_rules
    b_law_rules := (fdAt_eq (st := s_law_rules) f_law_rules).bindsN fun _ _ _ _ _ _ us hl => match us, hl with | [_, _, _], _ => rfl
    F_law_within := fdAt_eq f_law_within
    b_law_within := (fdAt_eq (st := s_law_within) f_law_within).bindsN fun _ _ _ _ _ _ us hl => match us, hl with | [_], _ => rfl
    F_law_all := fdAt_eq f_law_all
    b_law_all := (fdAt_eq (st := s_law_all) f_law_all).bindsN fun _ _ _ _ _ _ us hl => match us, hl with | [_], _ => rfl
    F_law_wants := fdAt_eq f_law_wants
    b_law_wants := (fdAt_eq (st := s_law_wants) f_law_wants).bindsN fun _ _ _ _ _ _ us hl => match us, hl with | [_], _ => rfl
    F_law_met := fdAt_eq f_law_met
    b_law_met := (fdAt_eq (st := s_law_met) f_law_met).bindsN fun _ _ _ _ _ _ us hl => match us, hl with | [_], _ => rfl
    F_law_facts := fdAt_eq f_law_facts
    b_law_facts := (fdAt_eq (st := s_law_facts) f_law_facts).bindsN fun _ _ _ _ _ _ us hl => match us, hl with | [_, _], _ => rfl
    F_law_kept := fdAt_eq f_law_kept
    b_law_kept := (fdAt_eq (st := s_law_kept) f_law_kept).bindsN fun _ _ _ _ _ _ us hl => match us, hl with | [_, _, _], _ => rfl
    F_law_state := fdAt_eq f_law_state
    b_law_state := (fdAt_eq (st := s_law_state) f_law_state).bindsN fun _ _ _ _ _ _ us hl => match us, hl with | [_], _ => rfl
    F_law_read := fdAt_eq f_law_read
    b_law_read := (fdAt_eq (st := s_law_read) f_law_read).bindsN fun _ _ _ _ _ _ us hl => match us, hl with | [_, _], _ => rfl
    F_law_made := fdAt_eq f_law_made
    b_law_made := (fdAt_eq (st := s_law_made) f_law_made).bindsN fun _ _ _ _ _ _ us hl => match us, hl with | [_, _, _], _ => rfl
    F_law_number := fdAt_eq f_law_number
    b_law_number := (fdAt_eq (st := s_law_number) f_law_number).bindsN fun _ _ _ _ _ _ us hl => match us, hl with | [_, _], _ => rfl
    F_law_set := fdAt_eq f_law_set
    b_law_set := (fdAt_eq (st := s_law_set) f_law_set).bindsN fun _ _ _ _ _ _ us hl => match us, hl with | [_, _, _], _ => rfl
    F_law_done := fdAt_eq f_law_done
    b_law_done := (fdAt_eq (st := s_law_done) f_law_done).bindsN fun _ _ _ _ _ _ us hl => match us, hl with | [_, _], _ => rfl
    F_law_outcome := fdAt_eq f_law_outcome
    b_law_outcome := (fdAt_eq (st := s_law_outcome) f_law_outcome).bindsN fun _ _ _ _ _ _ us hl => match us, hl with | [_], _ => rfl
    F_law_told := fdAt_eq f_law_told
    b_law_told := (fdAt_eq (st := s_law_told) f_law_told).bindsN fun _ _ _ _ _ _ us hl => match us, hl with | [_, _], _ => rfl
    F_law_tree_code := fdAt_eq f_law_tree_code
    b_law_tree_code := (fdAt_eq (st := s_law_tree_code) f_law_tree_code).bindsN fun _ _ _ _ _ _ us hl => match us, hl with | [_], _ => rfl
    F_law_fork := fdAt_eq f_law_fork
    b_law_fork := (fdAt_eq (st := s_law_fork) f_law_fork).bindsN fun _ _ _ _ _ _ us hl => match us, hl with | [_, _], _ => rfl
    F_law_code := fdAt_eq f_law_code
    b_law_code := (fdAt_eq (st := s_law_code) f_law_code).bindsN fun _ _ _ _ _ _ us hl => match us, hl with | [_], _ => rfl
    F_law_alike := fdAt_eq f_law_alike
    b_law_alike := (fdAt_eq (st := s_law_alike) f_law_alike).bindsN fun _ _ _ _ _ _ us hl => match us, hl with | [_, _], _ => rfl
    F_law_made_code := fdAt_eq f_law_made_code
    b_law_made_code := (fdAt_eq (st := s_law_made_code) f_law_made_code).bindsN fun _ _ _ _ _ _ us hl => match us, hl with | [_, _], _ => rfl
    F_law_followed := fdAt_eq f_law_followed
    b_law_followed := (fdAt_eq (st := s_law_followed) f_law_followed).bindsN fun _ _ _ _ _ _ us hl => match us, hl with | [_, _, _], _ => rfl
    F_law_right := fdAt_eq f_law_right
    b_law_right := (fdAt_eq (st := s_law_right) f_law_right).bindsN fun _ _ _ _ _ _ us hl => match us, hl with | [_, _, _], _ => rfl
    F_law := fdAt_eq f_law
    b_law := (fdAt_eq (st := s_law) f_law).bindsN fun _ _ _ _ _ _ us hl => match us, hl with | [_], _ => rfl
    F_Reading_init := fdAt_eq f_Reading_init
    b_Reading_init := (fdAt_eq (st := s_Reading_init) f_Reading_init).bindsN fun _ _ _ _ _ _ us hl => match us, hl with | [_, _], _ => rfl
    g_is_whole := He.glo_ok X G (cd.fact 0 (f := .glo "is_whole") rfl)
    g_is_between := He.glo_ok X G (cd.fact 1 (f := .glo "is_between") rfl)
    g_kept := He.glo_ok X G (cd.fact 2 (f := .glo "kept") rfl)
    g_is_form_of_expression := He.glo_ok X G (cd.fact 3 (f := .glo "is_form_of_expression") rfl)
    g_measured := He.glo_ok X G (cd.fact 4 (f := .glo "measured") rfl)
    g_parts := He.glo_ok X G (cd.fact 5 (f := .glo "_parts") rfl)
    g_is_single := He.glo_ok X G (cd.fact 6 (f := .glo "_is_single") rfl)
    g_is_sign := He.glo_ok X G (cd.fact 7 (f := .glo "is_sign") rfl)
    g_next_seed := He.glo_ok X G (cd.fact 8 (f := .glo "next_seed") rfl)
    g_number_in := He.glo_ok X G (cd.fact 9 (f := .glo "number_in") rfl)
    g_number_made := He.glo_ok X G (cd.fact 10 (f := .glo "number_made") rfl)
    g_reckoned := He.glo_ok X G (cd.fact 11 (f := .glo "_reckoned") rfl)
    g_read_number := He.glo_ok X G (cd.fact 12 (f := .glo "read_number") rfl)
    g_number_of_thing := He.glo_ok X G (cd.fact 13 (f := .glo "_number_of_thing") rfl)
    g_drawn := He.glo_ok X G (cd.fact 14 (f := .glo "_drawn") rfl)
    g_own_of_first_met := He.glo_ok X G (cd.fact 15 (f := .glo "_own_of_first_met") rfl)
    g_do_deed := He.glo_ok X G (cd.fact 16 (f := .glo "do_deed") rfl)
    g_told_by := He.glo_ok X G (cd.fact 17 (f := .glo "told_by") rfl)
    g_is_code := He.glo_ok X G (cd.fact 18 (f := .glo "is_code") rfl)
    g_has_form := He.glo_ok X G (cd.fact 19 (f := .glo "_has_form") rfl)
    g_is_part := He.glo_ok X G (cd.fact 20 (f := .glo "_is_part") rfl)
    g_is_reading := He.glo_ok X G (cd.fact 21 (f := .glo "_is_reading") rfl)
    g_led_to := He.glo_ok X G (cd.fact 22 (f := .glo "led_to") rfl)
    g_places_behind := He.glo_ok X G (cd.fact 23 (f := .glo "places_behind") rfl)
    g_taken_by := He.glo_ok X G (cd.fact 24 (f := .glo "taken_by") rfl)
    g_has_fitting_rows := He.glo_ok X G (cd.fact 25 (f := .glo "_has_fitting_rows") rfl)
    g_compiled := He.glo_ok X G (cd.fact 26 (f := .glo "compiled") rfl)
    g_run_code := He.glo_ok X G (cd.fact 27 (f := .glo "run_code") rfl)
    g_need_script := He.glo_ok X G (cd.fact 28 (f := .glo "_need_script") rfl)
    g_need_code := He.glo_ok X G (cd.fact 29 (f := .glo "_need_code") rfl)
    g_code_of_deeds := He.glo_ok X G (cd.fact 30 (f := .glo "_code_of_deeds") rfl)
    g_code_of := He.glo_ok X G (cd.fact 31 (f := .glo "_code_of") rfl)
    g_code_of_parts := He.glo_ok X G (cd.fact 32 (f := .glo "_code_of_parts") rfl)
    g_fork := He.glo_ok X G (cd.fact 33 (f := .glo "_fork") rfl)
    g_ran := He.glo_ok X G (cd.fact 34 (f := .glo "_ran") rfl)
    g_left_out := He.glo_ok X G (cd.fact 35 (f := .glo "_left_out") rfl)
    g_law_deck := He.glo_ok X G (cd.fact 36 (f := .glo "_law_deck") rfl)
    g_law_take := He.glo_ok X G (cd.fact 37 (f := .glo "_law_take") rfl)
    g_law_any := He.glo_ok X G (cd.fact 38 (f := .glo "_law_any") rfl)
    g_law_small := He.glo_ok X G (cd.fact 39 (f := .glo "_law_small") rfl)
    g_law_single := He.glo_ok X G (cd.fact 40 (f := .glo "_law_single") rfl)
    g_law_parts := He.glo_ok X G (cd.fact 41 (f := .glo "_law_parts") rfl)
    g_law_tree := He.glo_ok X G (cd.fact 42 (f := .glo "_law_tree") rfl)
    g_law_deed := He.glo_ok X G (cd.fact 43 (f := .glo "_law_deed") rfl)
    g_law_rules := He.glo_ok X G (cd.fact 44 (f := .glo "_law_rules") rfl)
    g_law_within := He.glo_ok X G (cd.fact 45 (f := .glo "_law_within") rfl)
    g_law_all := He.glo_ok X G (cd.fact 46 (f := .glo "_law_all") rfl)
    g_law_wants := He.glo_ok X G (cd.fact 47 (f := .glo "_law_wants") rfl)
    g_law_met := He.glo_ok X G (cd.fact 48 (f := .glo "_law_met") rfl)
    g_law_facts := He.glo_ok X G (cd.fact 49 (f := .glo "_law_facts") rfl)
    g_law_kept := He.glo_ok X G (cd.fact 50 (f := .glo "_law_kept") rfl)
    g_law_state := He.glo_ok X G (cd.fact 51 (f := .glo "_law_state") rfl)
    g_law_read := He.glo_ok X G (cd.fact 52 (f := .glo "_law_read") rfl)
    g_law_made := He.glo_ok X G (cd.fact 53 (f := .glo "_law_made") rfl)
    g_law_number := He.glo_ok X G (cd.fact 54 (f := .glo "_law_number") rfl)
    g_law_set := He.glo_ok X G (cd.fact 55 (f := .glo "_law_set") rfl)
    g_law_done := He.glo_ok X G (cd.fact 56 (f := .glo "_law_done") rfl)
    g_law_outcome := He.glo_ok X G (cd.fact 57 (f := .glo "_law_outcome") rfl)
    g_law_told := He.glo_ok X G (cd.fact 58 (f := .glo "_law_told") rfl)
    g_law_tree_code := He.glo_ok X G (cd.fact 59 (f := .glo "_law_tree_code") rfl)
    g_law_fork := He.glo_ok X G (cd.fact 60 (f := .glo "_law_fork") rfl)
    g_law_code := He.glo_ok X G (cd.fact 61 (f := .glo "_law_code") rfl)
    g_law_alike := He.glo_ok X G (cd.fact 62 (f := .glo "_law_alike") rfl)
    g_law_made_code := He.glo_ok X G (cd.fact 63 (f := .glo "_law_made_code") rfl)
    g_law_followed := He.glo_ok X G (cd.fact 64 (f := .glo "_law_followed") rfl)
    g_law_right := He.glo_ok X G (cd.fact 65 (f := .glo "_law_right") rfl)
    g_law := He.glo_ok X G (cd.fact 66 (f := .glo "law") rfl)
    n_len := He.free_ok X G (cd.fact 67 (f := .free "len") rfl)
    n_int := He.free_ok X G (cd.fact 68 (f := .free "int") rfl)
    n_isinstance := He.free_ok X G (cd.fact 69 (f := .free "isinstance") rfl)
    n_range := He.free_ok X G (cd.fact 70 (f := .free "range") rfl)
    n_all := He.free_ok X G (cd.fact 71 (f := .free "all") rfl)
    n_any := He.free_ok X G (cd.fact 72 (f := .free "any") rfl)
    n_min := He.free_ok X G (cd.fact 73 (f := .free "min") rfl)
    n_max := He.free_ok X G (cd.fact 74 (f := .free "max") rfl)
    n_str := He.free_ok X G (cd.fact 75 (f := .free "str") rfl)
    n_bool := He.free_ok X G (cd.fact 76 (f := .free "bool") rfl)
    n_tuple := He.free_ok X G (cd.fact 77 (f := .free "tuple") rfl)
    n_list := He.free_ok X G (cd.fact 78 (f := .free "list") rfl)
    n_sorted := He.free_ok X G (cd.fact 79 (f := .free "sorted") rfl)
    n_zip := He.free_ok X G (cd.fact 80 (f := .free "zip") rfl)
    n_enumerate := He.free_ok X G (cd.fact 81 (f := .free "enumerate") rfl)
    n_ValueError := He.free_ok X G (cd.fact 82 (f := .free "ValueError") rfl)
    n_repr := He.free_ok X G (cd.fact 83 (f := .free "repr") rfl)
    c_SIGNS := by
      obtain ⟨t, e⟩ := He.str_ok X G (cd.fact 84 (f := .str "SIGNS" ".#=<>^wg") rfl)
      exact ⟨_, e, ⟨t, rfl⟩⟩
    c_MOST_TUPLES := by
      obtain ⟨t, e⟩ := He.int_ok X G (cd.fact 85 (f := .int "MOST_TUPLES" 60) rfl)
      exact ⟨_, e, ⟨t, rfl⟩⟩
    c_MOST_DEEP := by
      obtain ⟨t, e⟩ := He.int_ok X G (cd.fact 86 (f := .int "MOST_DEEP" 8) rfl)
      exact ⟨_, e, ⟨t, rfl⟩⟩
    g_RANGES := He.glo_ok X G (cd.fact 87 (f := .glo "RANGES") rfl)
    g_EXPRESSION_FORMS := He.glo_ok X G (cd.fact 88 (f := .glo "EXPRESSION_FORMS") rfl)
    g_DEED_FORMS := He.glo_ok X G (cd.fact 89 (f := .glo "DEED_FORMS") rfl)
    c_MOST_SET := by
      obtain ⟨t, e⟩ := He.int_ok X G (cd.fact 90 (f := .int "MOST_SET" 999) rfl)
      exact ⟨_, e, ⟨t, rfl⟩⟩
    c_MOST_WAY := by
      obtain ⟨t, e⟩ := He.int_ok X G (cd.fact 91 (f := .int "MOST_WAY" 7) rfl)
      exact ⟨_, e, ⟨t, rfl⟩⟩
    c_IN_THE_AIR := by
      obtain ⟨t, e⟩ := He.int_ok X G (cd.fact 92 (f := .int "IN_THE_AIR" (-2)) rfl)
      exact ⟨_, e, ⟨t, rfl⟩⟩
    c_MOST := by
      obtain ⟨t, e⟩ := He.int_ok X G (cd.fact 93 (f := .int "MOST" 999999) rfl)
      exact ⟨_, e, ⟨t, rfl⟩⟩
    c_MOST_AWAY := by
      obtain ⟨t, e⟩ := He.int_ok X G (cd.fact 94 (f := .int "MOST_AWAY" 64) rfl)
      exact ⟨_, e, ⟨t, rfl⟩⟩
    c_MOST_BIRTHS := by
      obtain ⟨t, e⟩ := He.int_ok X G (cd.fact 95 (f := .int "MOST_BIRTHS" 2) rfl)
      exact ⟨_, e, ⟨t, rfl⟩⟩
    g_TWO_SIDED := He.glo_ok X G (cd.fact 96 (f := .glo "TWO_SIDED") rfl)
    g_FORMS := He.glo_ok X G (cd.fact 97 (f := .glo "FORMS") rfl)
    g_TAKEN := He.glo_ok X G (cd.fact 98 (f := .glo "TAKEN") rfl)
    g_GIVEN := He.glo_ok X G (cd.fact 99 (f := .glo "GIVEN") rfl)
    g_Reading := He.glo_ok X G (cd.fact 100 (f := .glo "Reading") rfl)
    k_Reading := He.cls_ok (cd.fact 101 (f := .cls "Reading") rfl)
    m_Reading := He.mkr_ok (cd.fact 102 (f := .mkr "Reading") rfl)
    a_Reading_thing := He.noat_ok (cd.fact 103 (f := .noat "Reading" "thing") rfl)
    a_Reading_dx := He.noat_ok (cd.fact 104 (f := .noat "Reading" "dx") rfl)
    a_Reading_dy := He.noat_ok (cd.fact 105 (f := .noat "Reading" "dy") rfl)
    a_Reading_own := He.noat_ok (cd.fact 106 (f := .noat "Reading" "own") rfl)
    a_Reading_press := He.noat_ok (cd.fact 107 (f := .noat "Reading" "press") rfl)
    a_Reading_marks := He.noat_ok (cd.fact 108 (f := .noat "Reading" "marks") rfl)
    a_Reading_seed := He.noat_ok (cd.fact 109 (f := .noat "Reading" "seed") rfl)
    a_Reading_met := He.noat_ok (cd.fact 110 (f := .noat "Reading" "met") rfl)
    a_Reading_here := He.noat_ok (cd.fact 111 (f := .noat "Reading" "here") rfl)
    a_Reading_below := He.noat_ok (cd.fact 112 (f := .noat "Reading" "below") rfl)
    a_Reading_marks_set := He.noat_ok (cd.fact 113 (f := .noat "Reading" "marks_set") rfl)
    a_Reading_drawn := He.noat_ok (cd.fact 114 (f := .noat "Reading" "drawn") rfl)
    a_Reading_births := He.noat_ok (cd.fact 115 (f := .noat "Reading" "births") rfl)
    a_Reading_gone := He.noat_ok (cd.fact 116 (f := .noat "Reading" "gone") rfl)
    g_GameError := He.glo_ok X G (cd.fact 117 (f := .glo "GameError") rfl)
    g_InvalidScript := He.glo_ok X G (cd.fact 118 (f := .glo "InvalidScript") rfl)
    g_InvalidCode := He.glo_ok X G (cd.fact 119 (f := .glo "InvalidCode") rfl)
    t_RANGES := c.t.tab 0 rfl
    u_RANGES := fun q hq => by
      obtain ⟨h1, h2⟩ := He.ba (List.all_eq_true.mp x0 q hq)
      exact ⟨of_decide_eq_true h1, tupA_ok h2⟩
    t_EXPRESSION_FORMS := c.t.tab 1 rfl
    u_EXPRESSION_FORMS := fun q hq => by
      obtain ⟨h1, h2⟩ := He.ba (List.all_eq_true.mp x1 q hq)
      exact ⟨of_decide_eq_true h1, tupA_ok h2⟩
    t_DEED_FORMS := c.t.tab 2 rfl
    u_DEED_FORMS := fun q hq => by
      obtain ⟨h1, h2⟩ := He.ba (List.all_eq_true.mp x2 q hq)
      exact ⟨of_decide_eq_true h1, tupA_ok h2⟩
    t_TWO_SIDED := tupA_ok x3
    t_FORMS := c.t.tab 3 rfl
    u_FORMS := fun q hq => by
      obtain ⟨h1, h2⟩ := He.ba (List.all_eq_true.mp x4 q hq)
      exact ⟨of_decide_eq_true h1, tupA_ok h2⟩
    t_TAKEN := c.t.tab 4 rfl
    u_TAKEN := fun q hq => intB_ok (List.all_eq_true.mp x5 q hq)
    t_GIVEN := tupA_ok x6
  }
end K5
set_option maxRecDepth 100000
set_option maxHeartbeats 4000000
/-! The law's draws. -/
namespace K5
open PySem PySem.Spec PyProof.Rows L2 KF
section
variable {P : Program} {w : World} {K : PySem.W.Frag} {mg : Str → Option Value} {base : Heap}
/-! ### _law_deck -/
def spDeck (K : PySem.W.Frag) : Sp := fun vs H Q _ => ∃ (a : Addr) (ns : List Int) (k : Nat), vs = [.ref a, .int (k : Int)] ∧ SqL K H a (ns.map V.int) ∧ k ≤ 100 ∧ ∀ l H', Same H H' → H l = none → Deck H' l 900000000000 → Q (.ref l) H'
theorem scD : FnScope ["script", "k", "cell", "rest"] ["script", "k"] (defScope s_law_deck) := ⟨rfl, rfl, rfl, by decide +kernel, rfl, by decide +kernel, by decide +kernel⟩
theorem ok_law_deck (T : Txt K w mg) : FnOk P w K mg base CX0 1 (He.fAd K ("_law_deck", none)) (fdAt K (He.fAd K ("_law_deck", none))) ["script", "k"] (spDeck K) := by
  refine T.F_law_deck.ok scD (fun vs H Q E h => ?_) (fun cdv A outer s H vs Q E hr h => ?_)
  · obtain ⟨a, ns, k, rfl, _⟩ := h
    rfl
  · obtain ⟨a, ns, k, rfl, hS, hk, kk⟩ := h
    refine ⟨_, PSs.nox (pss_cons (ps_set (i := 2) scD.nd rfl (Or.inl rfl) pe_int)
      (pss_cons (ps_if (pt_cmpR op_lt (pv 1) (pe_callB (r := Evl.rLenS K) call_len_seq (by rfl) T.n_len PyProof.Rows.Boot.«len» (pa_cons (pv 0) pa_nil)) (nomark _)) (pss_one (ps_set (i := 2) scD.nd rfl (Or.inl rfl) (pe_ix (r := rIxL K) ix_list (pv 0) (pv 1) (fun _ _ => rfl)))) pss_nil)
      (pss_cons (ps_set (i := 3) scD.nd rfl (Or.inl rfl) pe_int)
      (pss_cons (ps_if (pt_cmpR op_ge (pv 2) (pe_op op_pow pe_int pe_int) (nomark _)) (pss_one (ps_set (i := 3) scD.nd rfl (Or.inl rfl) (pv 2))) pss_nil)
      (pss_one (ps_ret (pe_lst (pa_cons (pv 3) (pa_cons (pe_op op_mod (pe_callTy call_int1 (by rfl) T.n_int PyProof.Rows.Boot.«int» (pa_cons (pv 2) pa_nil)) pe_int) (pa_cons (pe_op op_add (pv 1) pe_int) (pa_cons pe_int pa_nil))))))))))), ?_⟩
    have fin : ∀ (r z : Int) (l : Addr), H l = none → Q (.ref l) (upd H l (.lst [.int r, .int (z % 2305843009213693951), .int ((k : Int) + 1), .int 0])) := fun r z l n => by
      have e1 := Int.emod_nonneg z (show (2305843009213693951 : Int) ≠ 0 by decide)
      have e2 := Int.emod_lt_of_pos z (show (0 : Int) < 2305843009213693951 by decide)
      exact kk l _ (fun b o e => by rw [upd_ne (ne_of_none e n)]; exact e) n ⟨r, _, _, _, upd_same, e1, e2, by omega, by omega, by omega, by omega⟩
    refine ⟨_, rfl, _, rfl, a, _, rfl, .inl hS, _, _, rfl, rfl, _, rfl, ite2 (fun z => ?_) (fun z => ?_)⟩
    · have hk2 := of_decide_eq_true z
      have hk3 : k < ns.length := by
        rw [List.length_map] at hk2
        omega
      refine ⟨_, rfl, _, rfl, a, _, _, _, rfl, rfl, hS, atI_nat (v := .int ns[k]) (by rw [List.getElem?_map, List.getElem?_eq_getElem hk3]; rfl), ?_⟩
      refine ⟨_, rfl, _, _, rfl, rfl, ⟨by decide, by decide, by decide⟩, _, _, rfl, rfl, _, rfl, ite2 (fun z2 => ?_) (fun z2 => ?_)⟩
      · exact ⟨_, rfl, _, rfl, _, rfl, .inl ⟨_, rfl, _, _, rfl, rfl, (show (0 : Int) < 2305843009213693951 by decide), _, rfl, _, _, rfl, rfl, (show 4 ≤ sizeLine by decide), fun l n => fin _ _ l n⟩⟩
      · exact ⟨_, rfl, _, rfl, .inl ⟨_, rfl, _, _, rfl, rfl, (show (0 : Int) < 2305843009213693951 by decide), _, rfl, _, _, rfl, rfl, (show 4 ≤ sizeLine by decide), fun l n => fin _ _ l n⟩⟩
    · refine ⟨_, rfl, _, _, rfl, rfl, ⟨by decide, by decide, by decide⟩, _, _, rfl, rfl, _, rfl, ite2 (fun z2 => ?_) (fun z2 => ?_)⟩
      · exact ⟨_, rfl, _, rfl, _, rfl, .inl ⟨_, rfl, _, _, rfl, rfl, (show (0 : Int) < 2305843009213693951 by decide), _, rfl, _, _, rfl, rfl, (show 4 ≤ sizeLine by decide), fun l n => fin _ _ l n⟩⟩
      · exact ⟨_, rfl, _, rfl, .inl ⟨_, rfl, _, _, rfl, rfl, (show (0 : Int) < 2305843009213693951 by decide), _, rfl, _, _, rfl, rfl, (show 4 ≤ sizeLine by decide), fun l n => fin _ _ l n⟩⟩
/-! ### _law_take -/
def spTake : Sp := fun vs H Q _ => ∃ (d : Addr) (m : Int) (n : Nat), vs = [.ref d, .int m] ∧ 0 < m ∧ m < 1000000000000 ∧ Deck H d (n + 1) ∧ ∀ (x : Int) H', 0 ≤ x → x < m → Frm d H H' → Deck H' d n → Q (.int x) H'
theorem scT : FnScope ["deck", "many", "digit", "mixed"] ["deck", "many"] (defScope s_law_take) := ⟨rfl, rfl, rfl, by decide +kernel, rfl, by decide +kernel, by decide +kernel⟩
theorem ok_law_take (T : Txt K w mg) : FnOk P w K mg base CX0 1 (He.fAd K ("_law_take", none)) (fdAt K (He.fAd K ("_law_take", none))) ["deck", "many"] spTake := by
  refine T.F_law_take.ok scT (fun vs H Q E h => ?_) (fun cdv A outer s H vs Q E hr h => ?_)
  · obtain ⟨d, m, n, rfl, _⟩ := h
    rfl
  · obtain ⟨d, m, n, rfl, hm0, hm1, ⟨r, mm, i, c, hd, a1, a2, a3, a4, a5, a6⟩, k⟩ := h
    refine ⟨_, PSs.nox (pss_cons (ps_if (pt_cmpR op_gt (pe_ix (r := rIxL K) ix_list (pv 0) pe_int (fun _ _ => rfl)) pe_int (nomark _)) (pss_cons (ps_set (i := 2) scT.nd rfl (Or.inl rfl) (pe_op op_mod (pe_callTy call_int1 (by rfl) T.n_int PyProof.Rows.Boot.«int» (pa_cons (pe_ix (r := rIxL K) ix_list (pv 0) pe_int (fun _ _ => rfl)) pa_nil)) (pv 1)))
      (pss_cons (ps_asg (pe_op op_fdivW (pe_ix (r := rIxL K) ix_list (pv 0) pe_int (fun _ _ => rfl)) (pv 1)) (pg_sub (pv 0) pe_int set_list))
      (pss_one (ps_ret (pv 2))))) pss_nil)
      (pss_cons (ps_asg (pe_op op_add (pe_ix (r := rIxL K) ix_list (pv 0) pe_int (fun _ _ => rfl)) pe_int) (pg_sub (pv 0) pe_int set_list))
      (pss_cons (ps_set (i := 3) scT.nd rfl (Or.inl rfl) (pe_op op_add (pe_op op_add (pe_op op_add (pe_ix (r := rIxL K) ix_list (pv 0) pe_int (fun _ _ => rfl)) (pe_op op_mulW (pe_ix (r := rIxL K) ix_list (pv 0) pe_int (fun _ _ => rfl)) pe_int)) (pe_op op_mulW (pe_ix (r := rIxL K) ix_list (pv 0) pe_int (fun _ _ => rfl)) pe_int)) pe_int))
      (pss_cons (ps_set (i := 3) scT.nd rfl (Or.inl rfl) (pe_op op_mod (pe_callTy call_int1 (by rfl) T.n_int PyProof.Rows.Boot.«int» (pa_cons (pe_op op_mulW (pv 3) (pv 3)) pa_nil)) pe_int))
      (pss_cons (ps_set (i := 3) scT.nd rfl (Or.inl rfl) (pe_op op_mod (pe_callTy call_int1 (by rfl) T.n_int PyProof.Rows.Boot.«int» (pa_cons (pe_op op_mulW (pe_op op_add (pe_op op_add (pv 3) (pe_ix (r := rIxL K) ix_list (pv 0) pe_int (fun _ _ => rfl))) (pe_op op_mulW (pe_op op_mulW (pe_ix (r := rIxL K) ix_list (pv 0) pe_int (fun _ _ => rfl)) (pe_ix (r := rIxL K) ix_list (pv 0) pe_int (fun _ _ => rfl))) (pe_ix (r := rIxL K) ix_list (pv 0) pe_int (fun _ _ => rfl)))) pe_int) pa_nil)) pe_int))
      (pss_cons (ps_set (i := 3) scT.nd rfl (Or.inl rfl) (pe_op op_mod (pe_callTy call_int1 (by rfl) T.n_int PyProof.Rows.Boot.«int» (pa_cons (pe_op op_mulW (pv 3) (pv 3)) pa_nil)) pe_int))
      (pss_one (ps_ret (pe_op op_mod (pe_callTy call_int1 (by rfl) T.n_int PyProof.Rows.Boot.«int» (pa_cons (pe_op op_fdivW (pv 3) pe_int) pa_nil)) (pv 1)))))))))), ?_⟩
    have hW : CDivW 0 m := wide_div hm0 (small_ab (n := 40) (by omega) (by rw [pow40]; omega)) (by decide) (by decide)
    refine ⟨_, rfl, _, _, _, _, rfl, rfl, SqL.of hd, at_of (j := 0) rfl rfl, _, _, rfl, rfl, _, rfl, ite2 (fun z => ?_) (fun z => ?_)⟩
    · refine ⟨_, rfl, _, _, _, _, rfl, rfl, SqL.of hd, at_of (j := 0) rfl rfl, .inl ⟨_, rfl, _, rfl, _, _, rfl, rfl, hm0, ?_⟩⟩
      refine ⟨_, rfl, _, _, _, _, rfl, rfl, SqL.of hd, at_of (j := 0) rfl rfl, _, rfl, _, _, rfl, rfl, hW, _, rfl, _, _, _, 0, rfl, rfl, hd, rfl, _, rfl, ?_⟩
      exact k _ _ (Int.emod_nonneg _ (by omega)) (Int.emod_lt_of_pos _ hm0) Frm.of_upd ⟨_, mm, i, c, upd_same, a1, a2, a3, a4, a5, by omega⟩
    · have hd1 : (upd H d (.lst [.int r, .int mm, .int i, .int (c + 1)])) d = some (.lst [.int r, .int mm, .int i, .int (c + 1)]) := upd_same
      refine ⟨_, rfl, _, _, _, _, rfl, rfl, SqL.of hd, at_of (j := 3) rfl rfl, _, _, rfl, rfl, _, rfl, _, _, _, 3, rfl, rfl, hd, rfl, ?_⟩
      have b1 : CMulW i 1000003 := wide_mul (a := 20) (b := 20) (small_ab (by omega) (by rw [pow20]; omega)) (by decide) (by decide) (by decide) (by decide)
      have b2 : CMulW (c + 1) 10007 := wide_mul (a := 40) (b := 20) (small_ab (by omega) (by rw [pow40]; omega)) (by decide) (by decide) (by decide) (by decide)
      refine ⟨_, rfl, _, _, _, _, rfl, rfl, SqL.of hd1, at_of (j := 1) rfl rfl, _, rfl, _, _, _, _, rfl, rfl, SqL.of hd1, at_of (j := 2) rfl rfl, _, _, rfl, rfl, b1, _, _, rfl, rfl, _, rfl, _, _, _, _, rfl, rfl, SqL.of hd1, at_of (j := 3) rfl rfl, _, _, rfl, rfl, b2, _, _, rfl, rfl, _, _, rfl, rfl, ?_⟩
      obtain ⟨x0, hx0⟩ : ∃ x0, x0 = mm + i * 1000003 + (c + 1) * 10007 + 123456789012 := ⟨_, rfl⟩
      have x0a : x0.natAbs < 2 ^ 63 := small_ab (by omega) (by rw [pow63]; omega)
      show L2.tSeq _ _ _ (List.set _ 3 (some (V.int (mm + i * 1000003 + (c + 1) * 10007 + 123456789012)))) _
      rw [← hx0]
      refine ⟨_, rfl, _, rfl, _, _, rfl, rfl, wide_mul x0a x0a (by decide) (by decide) (by decide), .inl ⟨_, rfl, _, _, rfl, rfl, (show (0 : Int) < 2305843009213693921 by decide), ?_⟩⟩
      have y1 := Int.emod_nonneg (x0 * x0) (show (2305843009213693921 : Int) ≠ 0 by decide)
      have y2 := Int.emod_lt_of_pos (x0 * x0) (show (0 : Int) < 2305843009213693921 by decide)
      obtain ⟨x1, hx1⟩ : ∃ x1, x1 = (x0 * x0) % 2305843009213693921 := ⟨_, rfl⟩
      show L2.tSeq _ _ _ (List.set _ 3 (some (V.int ((x0 * x0) % 2305843009213693921)))) _
      rw [← hx1] at y1 y2 ⊢
      have c40 : (c + 1).natAbs < 2 ^ 40 := small_ab (by omega) (by rw [pow40]; omega)
      have b3 : CMulW (c + 1) (c + 1) := wide_mul c40 c40 (by decide) (by decide) (by decide)
      have b4 : CMulW ((c + 1) * (c + 1)) (c + 1) := wide_mul (wide_lt c40 c40) c40 (by decide) (by decide) (by decide)
      have b5 := wide_lt (wide_lt c40 c40) c40
      obtain ⟨q, hq⟩ : ∃ q, q = (c + 1) * (c + 1) * (c + 1) := ⟨_, rfl⟩
      have b6 : CMulW (x1 + mm + (c + 1) * (c + 1) * (c + 1)) 48271 := by
        rw [pow120] at b5
        rw [← hq] at b5 ⊢
        refine wide_mul (a := 122) (b := 20) ?_ (by decide) (by decide) (by decide) (by decide)
        rw [pow122]
        omega
      refine ⟨_, rfl, _, rfl, _, _, _, _, rfl, rfl, SqL.of hd1, at_of (j := 1) rfl rfl, _, _, rfl, rfl, _, rfl, _, _, _, _, rfl, rfl, SqL.of hd1, at_of (j := 3) rfl rfl, _, rfl, _, _, _, _, rfl, rfl, SqL.of hd1, at_of (j := 3) rfl rfl, _, _, rfl, rfl, b3, _, rfl, _, _, _, _, rfl, rfl, SqL.of hd1, at_of (j := 3) rfl rfl, _, _, rfl, rfl, b4, _, _, rfl, rfl, _, _, rfl, rfl, b6, .inl ⟨_, rfl, _, _, rfl, rfl, (show (0 : Int) < 2305843009213693951 by decide), ?_⟩⟩
      obtain ⟨x2, hx2⟩ : ∃ x2, x2 = ((x1 + mm + (c + 1) * (c + 1) * (c + 1)) * 48271) % 2305843009213693951 := ⟨_, rfl⟩
      have y3 := Int.emod_nonneg ((x1 + mm + (c + 1) * (c + 1) * (c + 1)) * 48271) (show (2305843009213693951 : Int) ≠ 0 by decide)
      have y4 := Int.emod_lt_of_pos ((x1 + mm + (c + 1) * (c + 1) * (c + 1)) * 48271) (show (0 : Int) < 2305843009213693951 by decide)
      show L2.tSeq _ _ _ (List.set _ 3 (some (V.int (((x1 + mm + (c + 1) * (c + 1) * (c + 1)) * 48271) % 2305843009213693951)))) _
      rw [← hx2] at y3 y4 ⊢
      have x2a : x2.natAbs < 2 ^ 63 := small_ab (by omega) (by rw [pow63]; omega)
      refine ⟨_, rfl, _, rfl, _, _, rfl, rfl, wide_mul x2a x2a (by decide) (by decide) (by decide), .inl ⟨_, rfl, _, _, rfl, rfl, (show (0 : Int) < 2305843009213693921 by decide), ?_⟩⟩
      refine ⟨_, rfl, _, _, rfl, rfl, wide_div (b := 10) (by decide) (by decide) (by decide) (by decide), .inl ⟨_, rfl, _, rfl, _, _, rfl, rfl, hm0, ?_⟩⟩
      exact k _ _ (Int.emod_nonneg _ (by omega)) (Int.emod_lt_of_pos _ hm0) Frm.of_upd ⟨r, mm, i, c + 1, upd_same, a1, a2, a3, a4, by omega, by omega⟩
/-! ### _law_any -/
def spAny : Sp := fun vs H Q _ => ∃ (d p : Addr) (xs : List V) (n : Nat), vs = [.ref d, .ref p] ∧ H p = some (.lst xs) ∧ p ≠ d ∧ 0 < xs.length ∧ xs.length ≤ 1000 ∧ Deck H d (n + 1) ∧ ∀ (j : Nat) v H', xs[j]? = some v → Frm d H H' → Deck H' d n → Q v H'
theorem scA : FnScope ["deck", "menu"] ["deck", "menu"] (defScope s_law_any) := ⟨rfl, rfl, rfl, by decide +kernel, rfl, by decide +kernel, by decide +kernel⟩
theorem ok_law_any (T : Txt K w mg) : FnOk P w K mg base CX0 2 (He.fAd K ("_law_any", none)) (fdAt K (He.fAd K ("_law_any", none))) ["deck", "menu"] spAny := by
  refine T.F_law_any.ok scA (fun vs H Q E h => ?_) (fun cdv A outer s H vs Q E hr h => ?_)
  · obtain ⟨d, p, xs, n, rfl, _⟩ := h
    rfl
  · obtain ⟨d, p, xs, n, rfl, hp, hne, h0, h1, hD, k⟩ := h
    refine ⟨_, PSs.nox (pss_one (ps_ret (pe_ix (r := rIxL K) ix_list (pv 1) (pe_call (ok_law_take T) (hr.mono (by decide)) (by rfl) T.g_law_take (T.F_law_take).kp T.b_law_take .nil pass0 (pa_cons (pv 0) (pa_cons (pe_callB (r := Evl.rLenS K) call_len_seq (by rfl) T.n_len PyProof.Rows.Boot.«len» (pa_cons (pv 1) pa_nil)) pa_nil))) (fun _ _ => rfl)))), ?_⟩
    refine ⟨_, rfl, _, rfl, _, rfl, p, xs, rfl, .inl (SqL.of hp), d, _, n, rfl, by omega, by omega, hD, fun x H' g0 g1 fr hD' => ?_⟩
    obtain ⟨j, rfl⟩ : ∃ j : Nat, x = (j : Int) := ⟨x.toNat, by omega⟩
    have hj : j < xs.length := by omega
    exact ⟨p, xs, _, xs[j], rfl, rfl, SqL.of (fr p _ hne hp), atI_nat (List.getElem?_eq_getElem hj), k j _ H' (List.getElem?_eq_getElem hj) fr hD'⟩
/-! ### _law_small -/
def spSmall : Sp := fun vs H Q _ => ∃ (d : Addr) (n : Nat), vs = [.ref d] ∧ Deck H d (n + 2) ∧ ∀ (x : Int) H', -999 ≤ x → x ≤ 999 → Frm d H H' → Deck H' d n → Q (.int x) H'
theorem scS : FnScope ["deck"] ["deck"] (defScope s_law_small) := ⟨rfl, rfl, rfl, by decide +kernel, rfl, by decide +kernel, by decide +kernel⟩
theorem ok_law_small (T : Txt K w mg) : FnOk P w K mg base CX0 2 (He.fAd K ("_law_small", none)) (fdAt K (He.fAd K ("_law_small", none))) ["deck"] spSmall := by
  refine T.F_law_small.ok scS (fun vs H Q E h => ?_) (fun cdv A outer s H vs Q E hr h => ?_)
  · obtain ⟨d, n, rfl, _⟩ := h
    rfl
  · obtain ⟨d, n, rfl, hD, k⟩ := h
    refine ⟨_, PSs.nox (pss_cons (ps_if (pt_cmpR op_eq (pe_call (ok_law_take T) (hr.mono (by decide)) (by rfl) T.g_law_take (T.F_law_take).kp T.b_law_take .nil pass0 (pa_cons (pv 0) (pa_cons pe_int pa_nil))) pe_int (nomark _)) (pss_one (ps_ret (pe_op op_sub (pe_call (ok_law_take T) (hr.mono (by decide)) (by rfl) T.g_law_take (T.F_law_take).kp T.b_law_take .nil pass0 (pa_cons (pv 0) (pa_cons pe_int pa_nil))) pe_int))) pss_nil)
      (pss_one (ps_ret (pe_op op_sub (pe_call (ok_law_take T) (hr.mono (by decide)) (by rfl) T.g_law_take (T.F_law_take).kp T.b_law_take .nil pass0 (pa_cons (pv 0) (pa_cons pe_int pa_nil))) pe_int)))), ?_⟩
    refine ⟨_, rfl, d, _, n + 1, rfl, by decide, by decide, hD, fun x H1 _ _ f1 D1 => ⟨rfl, _, rfl, ite2 (fun z => ?_) (fun z => ?_)⟩⟩
    · exact ⟨_, rfl, d, _, n, rfl, by decide, by decide, D1, fun y H2 _ _ f2 D2 => ⟨_, _, rfl, rfl, k _ _ (by omega) (by omega) (f1.trans f2) D2⟩⟩
    · exact ⟨_, rfl, d, _, n, rfl, by decide, by decide, D1, fun y H2 _ _ f2 D2 => ⟨_, _, rfl, rfl, k _ _ (by omega) (by omega) (f1.trans f2) D2⟩⟩
end
end K5
set_option maxRecDepth 100000
set_option maxHeartbeats 4000000
/-! Expressions, and the law's ways to make them. -/
namespace K5
open PySem PySem.Spec PyProof.Rows L2 KF
def words : List Str := ["x", "y", "dx", "dy", "rests"]
def signs : List Str := [".", "#", "=", "<", ">", "^", "w", "g"]
def twos : List Str := ["sum", "less", "times", "part", "rest", "least", "most", "same", "below", "both", "either"]
inductive Lf where
  | number (n : Int)
  | own (i : Int)
  | mark (i : Int)
  | word (w : Str)
  | held (b : Int)
  | met (k : Int)
  | metOwn (k i : Int)
  | here (c : Str)
  | under (c : Str)
  | drawn (n : Int)
def Lf.ds : Lf → List PyData
  | .number n => [.str "number", .int n]
  | .own i => [.str "own", .int i]
  | .mark i => [.str "mark", .int i]
  | .word w => [.str w]
  | .held b => [.str "held", .int b]
  | .met k => [.str "met", .int k]
  | .metOwn k i => [.str "met own", .int k, .int i]
  | .here c => [.str "here", .str c]
  | .under c => [.str "under", .str c]
  | .drawn n => [.str "drawn", .int n]
def Lf.ok : Lf → Prop
  | .number n => -9999 ≤ n ∧ n ≤ 9999
  | .own i => 0 ≤ i ∧ i ≤ 3
  | .mark i => 0 ≤ i ∧ i ≤ 15
  | .word w => w ∈ words
  | .held b => 0 ≤ b ∧ b ≤ 5
  | .met k => 0 ≤ k ∧ k ≤ 7
  | .metOwn k i => 0 ≤ k ∧ k ≤ 7 ∧ 0 ≤ i ∧ i ≤ 3
  | .here c => c ∈ signs
  | .under c => c ∈ signs
  | .drawn n => 1 ≤ n ∧ n ≤ 99
inductive Ex where
  | leaf (l : Lf)
  | neg (a : Ex)
  | two (k : Str) (a b : Ex)
  | pick (a b c : Ex)
mutual
def Ex.ds : Ex → List PyData
  | .leaf l => l.ds
  | .neg a => [.str "not", a.py]
  | .two k a b => [.str k, a.py, b.py]
  | .pick a b c => [.str "pick", a.py, b.py, c.py]
def Ex.py : Ex → PyData
  | .leaf l => .tuple l.ds
  | .neg a => .tuple [.str "not", a.py]
  | .two k a b => .tuple [.str k, a.py, b.py]
  | .pick a b c => .tuple [.str "pick", a.py, b.py, c.py]
end
def Ex.ok : Ex → Prop
  | .leaf l => l.ok
  | .neg a => a.ok
  | .two k a b => k ∈ twos ∧ a.ok ∧ b.ok
  | .pick a b c => a.ok ∧ b.ok ∧ c.ok
def Ex.dep : Ex → Nat
  | .leaf _ => 1
  | .neg a => a.dep + 1
  | .two _ a b => Nat.max a.dep b.dep + 1
  | .pick a b c => Nat.max a.dep (Nat.max b.dep c.dep) + 1
def Ex.size : Ex → Nat
  | .leaf _ => 1
  | .neg a => a.size + 1
  | .two _ a b => a.size + b.size + 1
  | .pick a b c => a.size + (b.size + c.size) + 1
theorem Lf.nl (l : Lf) : NLs l.ds := by
  cases l <;> simp [Lf.ds, NLs, NL]
theorem Ex.nl : ∀ (e : Ex), NL e.py
  | .leaf l => by
    rw [Ex.py, NL]
    exact l.nl
  | .neg a => by
    have := a.nl
    simp [Ex.py, NLs, NL, this]
  | .two _ a b => by
    have := a.nl
    have := b.nl
    simp [Ex.py, NLs, NL, *]
  | .pick a b c => by
    have := a.nl
    have := b.nl
    have := c.nl
    simp [Ex.py, NLs, NL, *]
section
variable {P : Program} {w : World} {K : PySem.W.Frag} {mg : Str → Option Value} {base : Heap}
theorem mul2 {m : Int} (h0 : 0 ≤ m) (h1 : m ≤ 1000000) : CMulW 2 m := wide_mul (a := 20) (b := 20) (by decide) (small_ab h0 (by rw [pow20]; omega)) (by decide) (by decide) (by decide)
/-! ### _law_single -/
def spSingle (K : PySem.W.Frag) : Sp := fun vs H Q _ => ∃ (d : Addr) (n : Nat), vs = [.ref d] ∧ Deck H d (n + 5) ∧ ∀ (l : Lf) v H', l.ok → Dp K H' v (.tuple l.ds) → Frm d H H' → Deck H' d n → Q v H'
theorem scG : FnScope ["deck", "way", "most"] ["deck"] (defScope s_law_single) := ⟨rfl, rfl, rfl, by decide +kernel, rfl, by decide +kernel, by decide +kernel⟩
theorem ok_law_single (T : Txt K w mg) : FnOk P w K mg base CX0 3 (He.fAd K ("_law_single", none)) (fdAt K (He.fAd K ("_law_single", none))) ["deck"] (spSingle K) := by
  refine T.F_law_single.ok scG (fun vs H Q E h => ?_) (fun cdv A outer s H vs Q E hr h => ?_)
  · obtain ⟨d, n, rfl, _⟩ := h
    rfl
  · obtain ⟨d, n, rfl, hD, k⟩ := h
    refine ⟨_, PSs.nox (pss_cons (ps_set (i := 1) scG.nd rfl (Or.inl rfl) (pe_call (ok_law_take T) (hr.mono (by decide)) (by rfl) T.g_law_take (T.F_law_take).kp T.b_law_take .nil pass0 (pa_cons (pv 0) (pa_cons pe_int pa_nil))))
      (pss_cons (ps_if (pt_cmpR op_lt (pv 1) pe_int (nomark _)) (pss_cons (ps_set (i := 2) scG.nd rfl (Or.inl rfl) (pe_ix (r := rIxL K) ix_list (pe_lst (pa_cons pe_int (pa_cons pe_int (pa_cons pe_int (pa_cons pe_int pa_nil))))) (pv 1) (fun _ _ => rfl)))
      (pss_one (ps_ret (pe_tup (pa_cons pe_str (pa_cons (pe_op op_sub (pe_call (ok_law_take T) (hr.mono (by decide)) (by rfl) T.g_law_take (T.F_law_take).kp T.b_law_take .nil pass0 (pa_cons (pv 0) (pa_cons (pe_op op_add (pe_op op_mulW pe_int (pv 2)) pe_int) pa_nil))) (pv 2)) pa_nil)))))) pss_nil)
      (pss_cons (ps_if (pt_cmpR op_lt (pv 1) pe_int (nomark _)) (pss_one (ps_ret (pe_tup (pa_cons pe_str (pa_cons (pe_call (ok_law_take T) (hr.mono (by decide)) (by rfl) T.g_law_take (T.F_law_take).kp T.b_law_take .nil pass0 (pa_cons (pv 0) (pa_cons pe_int pa_nil))) pa_nil))))) pss_nil)
      (pss_cons (ps_if (pt_cmpR op_eq (pv 1) pe_int (nomark _)) (pss_one (ps_ret (pe_tup (pa_cons pe_str (pa_cons (pe_call (ok_law_take T) (hr.mono (by decide)) (by rfl) T.g_law_take (T.F_law_take).kp T.b_law_take .nil pass0 (pa_cons (pv 0) (pa_cons pe_int pa_nil))) pa_nil))))) pss_nil)
      (pss_cons (ps_if (pt_cmpR op_eq (pv 1) pe_int (nomark _)) (pss_one (ps_ret (pe_tup (pa_cons (pe_ix (r := rIxL K) ix_list (pe_lst (pa_cons pe_str (pa_cons pe_str (pa_cons pe_str (pa_cons pe_str (pa_cons pe_str pa_nil)))))) (pe_call (ok_law_take T) (hr.mono (by decide)) (by rfl) T.g_law_take (T.F_law_take).kp T.b_law_take .nil pass0 (pa_cons (pv 0) (pa_cons pe_int pa_nil))) (fun _ _ => rfl)) pa_nil)))) pss_nil)
      (pss_cons (ps_if (pt_cmpR op_lt (pv 1) pe_int (nomark _)) (pss_one (ps_ret (pe_tup (pa_cons pe_str (pa_cons (pe_call (ok_law_take T) (hr.mono (by decide)) (by rfl) T.g_law_take (T.F_law_take).kp T.b_law_take .nil pass0 (pa_cons (pv 0) (pa_cons pe_int pa_nil))) pa_nil))))) pss_nil)
      (pss_cons (ps_if (pt_cmpR op_eq (pv 1) pe_int (nomark _)) (pss_one (ps_ret (pe_tup (pa_cons pe_str (pa_cons (pe_call (ok_law_take T) (hr.mono (by decide)) (by rfl) T.g_law_take (T.F_law_take).kp T.b_law_take .nil pass0 (pa_cons (pv 0) (pa_cons pe_int pa_nil))) pa_nil))))) pss_nil)
      (pss_cons (ps_if (pt_cmpR op_eq (pv 1) pe_int (nomark _)) (pss_one (ps_ret (pe_tup (pa_cons pe_str (pa_cons (pe_call (ok_law_take T) (hr.mono (by decide)) (by rfl) T.g_law_take (T.F_law_take).kp T.b_law_take .nil pass0 (pa_cons (pv 0) (pa_cons pe_int pa_nil))) pa_nil))))) pss_nil)
      (pss_cons (ps_if (pt_cmpR op_eq (pv 1) pe_int (nomark _)) (pss_one (ps_ret (pe_tup (pa_cons pe_str (pa_cons (pe_op op_fdivW (pe_call (ok_law_take T) (hr.mono (by decide)) (by rfl) T.g_law_take (T.F_law_take).kp T.b_law_take .nil pass0 (pa_cons (pv 0) (pa_cons pe_int pa_nil))) (pe_op op_add pe_int (pe_call (ok_law_take T) (hr.mono (by decide)) (by rfl) T.g_law_take (T.F_law_take).kp T.b_law_take .nil pass0 (pa_cons (pv 0) (pa_cons pe_int pa_nil))))) (pa_cons (pe_call (ok_law_take T) (hr.mono (by decide)) (by rfl) T.g_law_take (T.F_law_take).kp T.b_law_take .nil pass0 (pa_cons (pv 0) (pa_cons pe_int pa_nil))) pa_nil)))))) pss_nil)
      (pss_cons (ps_if (pt_cmpR op_lt (pv 1) pe_int (nomark _)) (pss_one (ps_ret (pe_tup (pa_cons (pe_ix (r := rIxL K) ix_list (pe_lst (pa_cons pe_str (pa_cons pe_str pa_nil))) (pe_op op_sub (pv 1) pe_int) (fun _ _ => rfl)) (pa_cons (pe_call (ok_law_any T) (hr.mono (by decide)) (by rfl) T.g_law_any (T.F_law_any).kp T.b_law_any .nil pass0 (pa_cons (pv 0) (pa_cons (pe_lst (pa_cons pe_str (pa_cons pe_str (pa_cons pe_str (pa_cons pe_str (pa_cons pe_str (pa_cons pe_str (pa_cons pe_str (pa_cons pe_str pa_nil))))))))) pa_nil))) pa_nil))))) pss_nil)
      (pss_one (ps_ret (pe_tup (pa_cons pe_str (pa_cons (pe_op op_add pe_int (pe_call (ok_law_take T) (hr.mono (by decide)) (by rfl) T.g_law_take (T.F_law_take).kp T.b_law_take .nil pass0 (pa_cons (pv 0) (pa_cons pe_int pa_nil)))) pa_nil))))))))))))))), ?_⟩
    have fin : ∀ (l : Lf) (vs : List V), l.ok → (∀ H2 : Hp, DpAll K H2 vs l.ds) → ∀ (H2 : Hp) (p : Addr) (m : Nat), Frm d H H2 → Deck H2 d (n + m) → H2 p = none → Q (.ref p) (upd H2 p (.tup vs)) := fun l vs ok hv H2 p m fr D np => by
      exact k l (.ref p) _ ok (.tup (SqT.of upd_same) (hv _)) (fr.trans (Frm.of_new np)) ((D.same (new_same np)).le (by omega))
    refine ⟨_, rfl, d, _, n + 4, rfl, by decide, by decide, hD, fun x H1 x0 x1 f1 D1 => ?_⟩
    have s1 : ∀ {y : Int} {p : Addr} {o : HO}, H1 p = none → Deck (upd H1 p o) d (n + 4) := fun np => D1.same (new_same np)
    refine ⟨_, rfl, _, _, rfl, rfl, _, rfl, ite2 (fun z => ?_) (fun z => ?_)⟩
    · have hx := of_decide_eq_true z
      refine ⟨(show 4 ≤ sizeLine by decide), fun p np => ⟨_, rfl, ?_⟩⟩
      have D2 : Deck (upd H1 p (.lst [.int 1, .int 10, .int 120, .int 9999])) d (n + 4) := D1.same (new_same np)
      have g : ∀ most : Int, 1 ≤ most → most ≤ 9999 → ∀ q H3, 0 ≤ q → q < 2 * most + 1 → Frm d (upd H1 p (.lst [.int 1, .int 10, .int 120, .int 9999])) H3 → Deck H3 d (n + 3) → ∀ r, H3 r = none → Q (.ref r) (upd H3 r (.tup [.str "number", .int (q - most)])) := fun most m0 m1 q H3 q0 q1 f3 D3 r nr =>
        fin (.number (q - most)) _ ⟨by omega, by omega⟩ (fun _ => .cons (.str _) (.cons (.int _) .nil)) H3 r 3 (f1.trans ((Frm.of_new np).trans f3)) D3 nr
      obtain ⟨j, rfl⟩ : ∃ j : Nat, x = (j : Int) := ⟨x.toNat, by omega⟩
      match j, hx with
      | 0, _ => exact ⟨p, _, _, .int 1, rfl, rfl, SqL.of upd_same, atI_nat rfl, ⟨_, rfl, _, rfl, _, _, rfl, rfl, mul2 (by decide) (by decide), _, _, rfl, rfl, d, _, n + 3, rfl, by decide, by decide, D2, fun q H3 q0 q1 f3 D3 => ⟨_, rfl, _, _, rfl, rfl, (show 2 ≤ sizeLine by decide), g 1 (by decide) (by decide) q H3 q0 q1 f3 D3⟩⟩⟩
      | 1, _ => exact ⟨p, _, _, .int 10, rfl, rfl, SqL.of upd_same, atI_nat rfl, ⟨_, rfl, _, rfl, _, _, rfl, rfl, mul2 (by decide) (by decide), _, _, rfl, rfl, d, _, n + 3, rfl, by decide, by decide, D2, fun q H3 q0 q1 f3 D3 => ⟨_, rfl, _, _, rfl, rfl, (show 2 ≤ sizeLine by decide), g 10 (by decide) (by decide) q H3 q0 q1 f3 D3⟩⟩⟩
      | 2, _ => exact ⟨p, _, _, .int 120, rfl, rfl, SqL.of upd_same, atI_nat rfl, ⟨_, rfl, _, rfl, _, _, rfl, rfl, mul2 (by decide) (by decide), _, _, rfl, rfl, d, _, n + 3, rfl, by decide, by decide, D2, fun q H3 q0 q1 f3 D3 => ⟨_, rfl, _, _, rfl, rfl, (show 2 ≤ sizeLine by decide), g 120 (by decide) (by decide) q H3 q0 q1 f3 D3⟩⟩⟩
      | 3, _ => exact ⟨p, _, _, .int 9999, rfl, rfl, SqL.of upd_same, atI_nat rfl, ⟨_, rfl, _, rfl, _, _, rfl, rfl, mul2 (by decide) (by decide), _, _, rfl, rfl, d, _, n + 3, rfl, by decide, by decide, D2, fun q H3 q0 q1 f3 D3 => ⟨_, rfl, _, _, rfl, rfl, (show 2 ≤ sizeLine by decide), g 9999 (by decide) (by decide) q H3 q0 q1 f3 D3⟩⟩⟩
      | j + 4, hx => omega
    refine ⟨_, rfl, _, _, rfl, rfl, _, rfl, ite2 (fun z => ?_) (fun z => ?_)⟩
    · exact ⟨_, rfl, d, _, n + 3, rfl, by decide, by decide, D1, fun q H3 q0 q1 f3 D3 => ⟨(show 2 ≤ sizeLine by decide), fun p np => fin (.own q) _ ⟨q0, by omega⟩ (fun _ => .cons (.str _) (.cons (.int _) .nil)) H3 p 3 (f1.trans f3) D3 np⟩⟩
    refine ⟨_, rfl, rfl, _, rfl, ite2 (fun z => ?_) (fun z => ?_)⟩
    · exact ⟨_, rfl, d, _, n + 3, rfl, by decide, by decide, D1, fun q H3 q0 q1 f3 D3 => ⟨(show 2 ≤ sizeLine by decide), fun p np => fin (.mark q) _ ⟨q0, by omega⟩ (fun _ => .cons (.str _) (.cons (.int _) .nil)) H3 p 3 (f1.trans f3) D3 np⟩⟩
    refine ⟨_, rfl, rfl, _, rfl, ite2 (fun z => ?_) (fun z => ?_)⟩
    · refine ⟨(show 5 ≤ sizeLine by decide), fun p np => ⟨_, rfl, d, _, n + 3, rfl, by decide, by decide, D1.same (new_same np), fun q H3 q0 q1 f3 D3 => ?_⟩⟩
      obtain ⟨j, rfl⟩ : ∃ j : Nat, q = (j : Int) := ⟨q.toNat, by omega⟩
      obtain ⟨ds, hds⟩ := D1.lst
      have hne : p ≠ d := (ne_of_none hds np).symm
      have hj : j < words.length := by
        show j < 5
        omega
      refine ⟨p, _, _, .str words[j], rfl, rfl, SqL.of (f3 p _ hne upd_same), atI_nat (?_ : (words.map V.str)[j]? = _), (show 1 ≤ sizeLine by decide), fun r nr => fin (.word words[j]) _ (List.getElem_mem hj) (fun _ => .cons (.str _) .nil) H3 r 3 (f1.trans ((Frm.of_new np).trans f3)) D3 nr⟩
      rw [List.getElem?_map, List.getElem?_eq_getElem hj]
      rfl
    refine ⟨_, rfl, _, _, rfl, rfl, _, rfl, ite2 (fun z => ?_) (fun z10 => ?_)⟩
    · exact ⟨_, rfl, d, _, n + 3, rfl, by decide, by decide, D1, fun q H3 q0 q1 f3 D3 => ⟨(show 2 ≤ sizeLine by decide), fun p np => fin (.held q) _ ⟨q0, by omega⟩ (fun _ => .cons (.str _) (.cons (.int _) .nil)) H3 p 3 (f1.trans f3) D3 np⟩⟩
    refine ⟨_, rfl, rfl, _, rfl, ite2 (fun z => ?_) (fun z11 => ?_)⟩
    · exact ⟨_, rfl, d, _, n + 3, rfl, by decide, by decide, D1, fun q H3 q0 q1 f3 D3 => ⟨(show 2 ≤ sizeLine by decide), fun p np => fin (.met q) _ ⟨q0, by omega⟩ (fun _ => .cons (.str _) (.cons (.int _) .nil)) H3 p 3 (f1.trans f3) D3 np⟩⟩
    refine ⟨_, rfl, rfl, _, rfl, ite2 (fun z => ?_) (fun z12 => ?_)⟩
    · exact ⟨_, rfl, d, _, n + 3, rfl, by decide, by decide, D1, fun q H3 q0 q1 f3 D3 => ⟨(show 2 ≤ sizeLine by decide), fun p np => fin (.met q) _ ⟨q0, by omega⟩ (fun _ => .cons (.str _) (.cons (.int _) .nil)) H3 p 3 (f1.trans f3) D3 np⟩⟩
    refine ⟨_, rfl, rfl, _, rfl, ite2 (fun z => ?_) (fun z13 => ?_)⟩
    · refine ⟨_, rfl, d, _, n + 3, rfl, by decide, by decide, D1, fun a H2 a0 a1 f2 D2 => ⟨_, rfl, d, _, n + 2, rfl, by decide, by decide, D2, fun b H3 b0 b1 f3 D3 => ?_⟩⟩
      have hW : CDivW a (1 + b) := wide_div (b := 10) (by omega) (small_ab (by omega) (by omega)) (by decide) (by decide)
      have e1 : 0 ≤ a / (1 + b) := Int.ediv_nonneg a0 (by omega)
      have e2 : a / (1 + b) ≤ 7 := Int.le_trans (Int.ediv_le_self _ a0) (by omega)
      exact ⟨_, _, rfl, rfl, _, _, rfl, rfl, hW, _, rfl, d, _, n + 1, rfl, by decide, by decide, D3, fun c H4 c0 c1 f4 D4 => ⟨(show 3 ≤ sizeLine by decide), fun p np => fin (.metOwn (a / (1 + b)) c) _ ⟨e1, e2, c0, by omega⟩ (fun _ => .cons (.str _) (.cons (.int _) (.cons (.int _) .nil))) H4 p 1 (f1.trans (f2.trans (f3.trans f4))) D4 np⟩⟩
    refine ⟨_, rfl, _, _, rfl, rfl, _, rfl, ite2 (fun z => ?_) (fun z => ?_)⟩
    · have hx := of_decide_eq_true z
      have h10 : ¬ x < 10 := fun u => z10 (decide_eq_true u)
      have h11 : x ≠ 10 := ne_int fun u => z11 (decide_eq_true u)
      have h12 : x ≠ 11 := ne_int fun u => z12 (decide_eq_true u)
      have h13 : x ≠ 12 := ne_int fun u => z13 (decide_eq_true u)
      obtain ⟨ds, hds⟩ := D1.lst
      have go : ∀ (s : Str) (f : Str → Lf), (∀ c, c ∈ signs → (f c).ok) → (∀ c, (f c).ds = [.str s, .str c]) → ∀ p q, H1 p = none → (upd H1 p (.lst [.str "here", .str "under"])) q = none → ∀ (j : Nat) v H', (signs.map V.str)[j]? = some v → Frm d (upd (upd H1 p (.lst [.str "here", .str "under"])) q (.lst (signs.map V.str))) H' → Deck H' d (n + 3) → 2 ≤ sizeLine ∧ ∀ r, H' r = none → Q (.ref r) (upd H' r (.tup [.str s, v])) := fun s f h1 h2 p q np nq j v H' hj fr D => by
        rw [List.getElem?_map] at hj
        cases hg : signs[j]? with
        | none => rw [hg] at hj; cases hj
        | some c =>
          rw [hg] at hj
          cases hj
          exact ⟨by decide, fun r nr => fin (f c) _ (h1 c (List.mem_of_getElem? hg)) (fun _ => by rw [h2]; exact .cons (.str _) (.cons (.str _) .nil)) H' r 3 (f1.trans ((Frm.of_new np).trans ((Frm.of_new nq).trans fr))) D nr⟩
      refine ⟨(show 2 ≤ sizeLine by decide), fun p np => ⟨_, rfl, _, _, rfl, rfl, ?_⟩⟩
      obtain ⟨y, hy⟩ : ∃ y, y = x - 13 := ⟨_, rfl⟩
      have hy2 : y = 0 ∨ y = 1 := by omega
      have D2 : ∀ {o : HO}, Deck (upd H1 p o) d (n + 4) := D1.same (new_same np)
      have ne : ∀ {q : Addr} {o : HO}, (upd H1 p o) q = none → q ≠ d := fun nq e => by
        rw [e, upd_ne (ne_of_none hds np), hds] at nq
        cases nq
      show rIxL K (V.ref p) (V.int (x - 13)) _ _
      rw [← hy]
      rcases hy2 with rfl | rfl
      · exact ⟨p, _, _, .str "here", rfl, rfl, SqL.of upd_same, atI_nat (j := 0) rfl, ⟨_, rfl, (show 8 ≤ sizeLine by decide), fun q nq => ⟨d, q, _, n + 3, rfl, upd_same, ne nq, (show 0 < 8 by decide), (show 8 ≤ 1000 by decide), D2.same (new_same nq), fun j v H' hj fr D => go "here" .here (fun _ h => h) (fun _ => rfl) p q np nq j v H' hj fr D⟩⟩⟩
      · exact ⟨p, _, _, .str "under", rfl, rfl, SqL.of upd_same, atI_nat (j := 1) rfl, ⟨_, rfl, (show 8 ≤ sizeLine by decide), fun q nq => ⟨d, q, _, n + 3, rfl, upd_same, ne nq, (show 0 < 8 by decide), (show 8 ≤ 1000 by decide), D2.same (new_same nq), fun j v H' hj fr D => go "under" .under (fun _ h => h) (fun _ => rfl) p q np nq j v H' hj fr D⟩⟩⟩
    · exact ⟨_, rfl, d, _, n + 3, rfl, by decide, by decide, D1, fun q H3 q0 q1 f3 D3 => ⟨_, _, rfl, rfl, (show 2 ≤ sizeLine by decide), fun p np => fin (.drawn (1 + q)) _ ⟨by omega, by omega⟩ (fun _ => .cons (.str _) (.cons (.int _) .nil)) H3 p 3 (f1.trans f3) D3 np⟩⟩
end
end K5
set_option maxRecDepth 100000
set_option maxHeartbeats 4000000
/-! Trees of expressions. -/
namespace K5
open PySem PySem.Spec PyProof.Rows L2 KF
theorem dpa_snoc {K : PySem.W.Frag} {H : Hp} {v : V} {d : PyData} : ∀ {vs : List V} {ds : List PyData}, DpAll K H vs ds → Dp K H v d → DpAll K H (vs ++ [v]) (ds ++ [d])
  | [], _, h, g => by
    cases h
    exact .cons g .nil
  | x :: vs, _, h, g => by
    cases h with
    | cons a b => exact .cons a (dpa_snoc b g)
theorem Frm.fresh {d p : Addr} {H H' : Hp} {o : HO} (f : Frm d H H') (n : H p = none) : Frm d H (upd H' p o) := fun b u hb z => by
  rw [upd_ne (fun e => by rw [e, n] at z; cases z)]
  exact f b u hb z
theorem Frm.none {d p : Addr} {H H' : Hp} (f : Frm d H H') (n : H' p = none) : H p = none ∨ p = d := by
  by_cases e : p = d
  · exact .inr e
  · cases h : H p with
    | none => exact .inl rfl
    | some o => rw [f p o e h] at n; cases n
theorem TF.of_lst {H : Hp} {p : Addr} {o : HO} {xs : List V} (h : H p = some (.lst xs)) : TF H (upd H p o) := fun c ys z => by
  rcases z with z | ⟨u, z⟩
  · exact .inl (by rw [upd_ne (fun q => by rw [q, h] at z; cases z)]; exact z)
  · exact .inr ⟨u, by rw [upd_ne (fun q => by rw [q, h] at z; cases z)]; exact z⟩
def sizes : List Ex → Nat
  | [] => 0
  | e :: es => e.size + sizes es
theorem sizes_snoc (e : Ex) : ∀ es : List Ex, sizes (es ++ [e]) = sizes es + e.size
  | [] => by simp [sizes]
  | x :: es => by simp [sizes, sizes_snoc e es]; omega
theorem nls_py : ∀ es : List Ex, NLs (es.map Ex.py)
  | [] => trivial
  | e :: es => ⟨e.nl, nls_py es⟩
section
variable {P : Program} {w : World} {K : PySem.W.Frag} {mg : Str → Option Value} {base : Heap}
def spTr (K : PySem.W.Frag) : Nat → Sp
  | 0 => fun _ _ _ _ => False
  | n + 1 => fun vs H Q _ => ∃ (d : Addr) (room deep : Int) (m : Nat), vs = [.ref d, .int room, .int deep] ∧ 1 ≤ room ∧ room ≤ 1000 ∧ deep ≤ ((n + 1 : Nat) : Int) ∧ Deck H d (m + 10 * 4 ^ (n + 1)) ∧
    ∀ (e : Ex) v H', e.ok → (e.size : Int) ≤ room → e.dep ≤ n + 1 → Dp K H' v e.py → Frm d H H' → Deck H' d m → Q v H'
def spPa (K : PySem.W.Frag) (n : Nat) : Sp := fun vs H Q _ => ∃ (d : Addr) (many : Nat) (room deep : Int) (m : Nat), vs = [.ref d, .int (many : Int), .int room, .int deep] ∧ 1 ≤ n ∧ 1 ≤ many ∧ many ≤ 4 ∧ (many : Int) ≤ room ∧ room ≤ 1000 ∧ deep ≤ (n : Int) ∧ Deck H d (m + many * (1 + 10 * 4 ^ n)) ∧
    ∀ (p : Addr) (es : List Ex) xs H', es.length = many → (∀ e ∈ es, e.ok ∧ e.dep ≤ n) → (sizes es : Int) ≤ room → H' p = some (.lst xs) → DpAll K H' xs (es.map Ex.py) → Frm d H H' → H p = none → Deck H' d m → Q (.ref p) H'
theorem scP : FnScope ["deck", "many", "room", "deep", "spare", "parts", "k", "more"] ["deck", "many", "room", "deep"] (defScope s_law_parts) := ⟨rfl, rfl, rfl, by decide +kernel, rfl, by decide +kernel, by decide +kernel⟩
theorem ok_law_parts (T : Txt K w mg) (n : Nat) (G : FnOk P w K mg base CX0 (2 * n + 2) (He.fAd K ("_law_tree", none)) (fdAt K (He.fAd K ("_law_tree", none))) ["deck", "room", "deep"] (spTr K n)) : FnOk P w K mg base CX0 (2 * n + 3) (He.fAd K ("_law_parts", none)) (fdAt K (He.fAd K ("_law_parts", none))) ["deck", "many", "room", "deep"] (spPa K n) := by
  refine T.F_law_parts.ok scP (fun vs H Q E h => ?_) (fun cdv A outer s H vs Q E hr h => ?_)
  · obtain ⟨d, many, room, deep, m, rfl, _⟩ := h
    rfl
  · obtain ⟨d, many, room, deep, m, rfl, n1, hm0, hm4, hmr, hr2, hdeep, hD, k⟩ := h
    obtain ⟨n, rfl⟩ : ∃ q, n = q + 1 := ⟨n - 1, by omega⟩
    refine ⟨_, PSs.nox (pss_cons (ps_set (i := 4) scP.nd rfl (Or.inl rfl) (pe_op op_sub (pv 2) (pv 1)))
      (pss_cons (ps_set (i := 5) scP.nd rfl (Or.inl rfl) (pe_lst pa_nil))
      (pss_cons (ps_for PassesOwn.never rfl (pi_range1 (by rfl) T.n_range (pa_cons (pv 1) pa_nil)) (pg_name (i := 6) scP.nd rfl (Or.inl rfl)) (pss_cons (ps_set (i := 7) scP.nd rfl (Or.inl rfl) (pe_call (ok_law_take T) (hr.mono (by omega)) (by rfl) T.g_law_take (T.F_law_take).kp T.b_law_take .nil pass0 (pa_cons (pv 0) (pa_cons (pe_op op_add (pv 4) pe_int) pa_nil))))
      (pss_cons (ps_if (pt_cmpR op_eq (pe_op op_add (pv 6) pe_int) (pv 1) (nomark _)) (pss_one (ps_set (i := 7) scP.nd rfl (Or.inl rfl) (pv 4))) pss_nil)
      (pss_cons (ps_set (i := 4) scP.nd rfl (Or.inl rfl) (pe_op op_sub (pv 4) (pv 7)))
      (pss_one (ps_expr (pe_bm PySem.F.plainAttrs_list PySem.F.slot_list_append PySem.F.type_list_append mt_append (pv 5) (pa_cons (pe_call G (hr.mono (by omega)) (by rfl) T.g_law_tree (T.F_law_tree).kp T.b_law_tree .nil pass0 (pa_cons (pv 0) (pa_cons (pe_op op_add pe_int (pv 7)) (pa_cons (pv 3) pa_nil)))) pa_nil))))))))
      (pss_one (ps_ret (pv 5)))))), ?_⟩
    refine ⟨_, rfl, _, rfl, _, _, rfl, rfl, (show 0 ≤ sizeLine by decide), fun p np => ?_⟩
    have fp : Frm d H (upd H p (.lst [])) := Frm.of_new np
    have Dp0 : Deck (upd H p (.lst [])) d (m + many * (1 + 10 * 4 ^ (n + 1))) := hD.same (new_same np)
    obtain ⟨ds, hds⟩ := hD.lst
    have hpd : p ≠ d := (ne_of_none hds np).symm
    refine ⟨_, rfl, _, rfl, by omega, by omega, ?_⟩
    refine for_range (lo := 0) (n := ((many : Int)).toNat) (fun i σ H' => ∃ (spare : Int) (v6 v7 : Option V) (es : List Ex) (xs : List V), σ = [some (.ref d), some (.int many), some (.int room), some (.int deep), some (.int spare), some (.ref p), v6, v7] ∧ 0 ≤ spare ∧ es.length = i ∧ (sizes es : Int) ≤ room - many - spare + i ∧ (∀ e ∈ es, e.ok ∧ e.dep ≤ n + 1) ∧ H' p = some (.lst xs) ∧ DpAll K H' xs (es.map Ex.py) ∧ Frm d H H' ∧ Deck H' d (m + (many - i) * (1 + 10 * 4 ^ (n + 1)))) ⟨_, none, none, [], [], rfl, by omega, rfl, by simp [sizes], (fun _ he => (List.not_mem_nil he).elim), upd_same, DpAll.nil, fp, by simpa using Dp0⟩ (fun i σ H1 hi hPv => ?_) (fun σ H1 hPv => ?_)
    · obtain ⟨spare, v6, v7, es, xs, rfl, s0, hlen, hsz, hok, hp, hdp, fr, D⟩ := hPv
      have hi2 : i < many := by omega
      obtain ⟨q, hq⟩ : ∃ q, many - i = q + 1 := ⟨many - i - 1, by omega⟩
      have hq2 : many - (i + 1) = q := by omega
      rw [hq] at D
      obtain ⟨c, hc⟩ : ∃ c : Nat, c = 10 * 4 ^ (n + 1) := ⟨_, rfl⟩
      have D' : Deck H1 d ((m + q * (1 + c) + c) + 1) := D.le (by rw [← hc, Nat.succ_mul]; omega)
      refine ⟨_, rfl, _, rfl, _, _, rfl, rfl, d, _, _, rfl, by omega, by omega, D', fun more H2 g0 g1 f2 D2 => ?_⟩
      have hp2 : H2 p = some (.lst xs) := f2 _ _ hpd hp
      have hx : xs.length = i := by rw [dpa_len hdp, List.length_map, hlen]
      have lt : xs.length < sizeLine := Nat.lt_of_lt_of_le (show xs.length < 1000 by omega) (by decide)
      obtain ⟨ds1, hds1⟩ := D.lst
      have fin : ∀ (mm : Int) (e : Ex) v H3, 0 ≤ mm → mm ≤ spare → e.ok → (e.size : Int) ≤ 1 + mm → e.dep ≤ n + 1 → Dp K H3 v e.py → Frm d H2 H3 → Deck H3 d (m + q * (1 + c)) → ∃ l zs y, V.ref p = .ref l ∧ [v] = [y] ∧ H3 l = some (.lst zs) ∧ zs.length < sizeLine ∧ ∃ (spare' : Int) (v6' v7' : Option V) (es : List Ex) (xs : List V), [some (V.ref d), some (.int many), some (.int room), some (.int deep), some (.int (spare - mm)), some (.ref p), some (.int (0 + (i : Int))), some (.int mm)] = [some (V.ref d), some (.int many), some (.int room), some (.int deep), some (.int spare'), some (.ref p), v6', v7'] ∧ 0 ≤ spare' ∧ es.length = i + 1 ∧ (sizes es : Int) ≤ room - many - spare' + ((i + 1 : Nat) : Int) ∧ (∀ e ∈ es, e.ok ∧ e.dep ≤ n + 1) ∧ (upd H3 l (.lst (zs ++ [y]))) p = some (.lst xs) ∧ DpAll K (upd H3 l (.lst (zs ++ [y]))) xs (es.map Ex.py) ∧ Frm d H (upd H3 l (.lst (zs ++ [y]))) ∧ Deck (upd H3 l (.lst (zs ++ [y]))) d (m + (many - (i + 1)) * (1 + 10 * 4 ^ (n + 1))) := fun mm e v H3 m0 m1 ok hs hd dv f3 D3 => by
        have hp3 : H3 p = some (.lst xs) := f3 _ _ hpd hp2
        have tf : TF H3 (upd H3 p (.lst (xs ++ [v]))) := TF.of_lst hp3
        refine ⟨p, xs, v, rfl, rfl, hp3, lt, spare - mm, _, _, es ++ [e], xs ++ [v], rfl, by omega, by simp [hlen], by rw [sizes_snoc]; omega, fun x hx => ?_, upd_same, ?_, Frm.fresh ((fr.trans f2).trans f3) np, ?_⟩
        · rcases List.mem_append.mp hx with hx | hx
          · exact hok x hx
          · rw [List.mem_singleton] at hx
            subst hx
            exact ⟨ok, hd⟩
        · rw [List.map_append]
          exact dpa_snoc (dpa_nl (((f2.trans f3).tf hds1).trans tf) _ _ (nls_py es) hdp) (dp_nl tf _ _ e.nl dv)
        · rw [hq2, ← hc]
          exact D3.keep (upd_ne hpd.symm)
      have tr : Deck H2 d ((m + q * (1 + c)) + 10 * 4 ^ (n + 1)) := by
        rw [← hc]
        exact D2
      have ty : ∀ {H3 : Hp} (T0 : PySem.W.Frag), H3 p = some (.lst xs) → tyV T0 "list" (.ref p) H3 := fun _ h => .inl ⟨rfl, _, SqL.of h⟩
      refine ⟨_, rfl, _, _, rfl, rfl, _, rfl, rfl, _, rfl, ite2 (fun z => ?_) (fun z => ?_)⟩
      · refine ⟨_, rfl, _, rfl, _, rfl, _, _, rfl, rfl, _, rfl, ty _ hp2, _, rfl, _, rfl, _, _, rfl, rfl, _, rfl, d, _, _, _, rfl, by omega, by omega, hdeep, tr, fun e v H3 ok hs hd dv f3 D3 => fin spare e v H3 s0 (Int.le_refl _) ok hs hd dv f3 D3⟩
      · refine ⟨_, rfl, _, rfl, _, _, rfl, rfl, _, rfl, ty _ hp2, _, rfl, _, rfl, _, _, rfl, rfl, _, rfl, d, _, _, _, rfl, by omega, by omega, hdeep, tr, fun e v H3 ok hs hd dv f3 D3 => fin more e v H3 g0 (by omega) ok hs hd dv f3 D3⟩
    · obtain ⟨spare, v6, v7, es, xs, rfl, s0, hlen, hsz, hok, hp, hdp, fr, D⟩ := hPv
      have e : many - ((many : Int)).toNat = 0 := by omega
      rw [e] at D
      exact ⟨_, rfl, k p es xs H1 (by omega) hok (by omega) hp hdp fr np (D.le (by omega))⟩
theorem scTr : FnScope ["deck", "room", "deep", "many", "name"] ["deck", "room", "deep"] (defScope s_law_tree) := ⟨rfl, rfl, rfl, by decide +kernel, rfl, by decide +kernel, by decide +kernel⟩
theorem ok_law_tree (T : Txt K w mg) : ∀ n : Nat, FnOk P w K mg base CX0 (2 * n + 2) (He.fAd K ("_law_tree", none)) (fdAt K (He.fAd K ("_law_tree", none))) ["deck", "room", "deep"] (spTr K n)
  | 0 => ⟨fun _ _ _ _ z => z.elim, fun _ _ _ _ _ _ _ _ _ _ _ _ _ z => z.elim⟩
  | n + 1 => by
    have GP := ok_law_parts (P := P) (base := base) T n (ok_law_tree T n)
    refine T.F_law_tree.ok scTr (fun vs H Q E h => ?_) (fun cdv A outer s H vs Q E hr h => ?_)
    · obtain ⟨d, room, deep, m, rfl, _⟩ := h
      rfl
    · obtain ⟨d, room, deep, m, rfl, h1, h2, hdeep, hD, k⟩ := h
      refine ⟨_, PSs.nox (pss_cons (ps_if (PW.pt (pw_or (pt_cmpR op_lt (pv 1) pe_int (nomark _)) (pw_or (pt_cmpR op_lt (pv 2) pe_int (nomark _)) (pw_or1 (pt_cmpR op_eq (pe_call (ok_law_take T) (hr.mono (by omega)) (by rfl) T.g_law_take (T.F_law_take).kp T.b_law_take .nil pass0 (pa_cons (pv 0) (pa_cons pe_int pa_nil))) pe_int (nomark _)))))) (pss_one (ps_ret (pe_call (ok_law_single T) (hr.mono (by omega)) (by rfl) T.g_law_single (T.F_law_single).kp T.b_law_single .nil pass0 (pa_cons (pv 0) pa_nil)))) pss_nil)
      (pss_cons (ps_set (i := 3) scTr.nd rfl (Or.inl rfl) (pe_callB (call_min2 rfl) (by rfl) T.n_min PyProof.Rows.Boot.«min» (pa_cons (pe_ix (r := rIxL K) ix_list (pe_lst (pa_cons pe_int (pa_cons pe_int (pa_cons pe_int (pa_cons pe_int (pa_cons pe_int pa_nil)))))) (pe_call (ok_law_take T) (hr.mono (by omega)) (by rfl) T.g_law_take (T.F_law_take).kp T.b_law_take .nil pass0 (pa_cons (pv 0) (pa_cons pe_int pa_nil))) (fun _ _ => rfl)) (pa_cons (pe_op op_sub (pv 1) pe_int) pa_nil))))
      (pss_cons (ps_set (i := 4) scTr.nd rfl (Or.inl rfl) (pe_ix (r := rIxL K) ix_list (pe_lst (pa_cons pe_str (pa_cons pe_str pa_nil))) (pe_callTy call_int1 (by rfl) T.n_int PyProof.Rows.Boot.«int» (pa_cons (pe_cmpR op_eq (pv 3) pe_int (nomark _)) pa_nil)) (fun _ _ => rfl)))
      (pss_cons (ps_if (pt_cmpR op_eq (pv 3) pe_int (nomark _)) (pss_one (ps_set (i := 4) scTr.nd rfl (Or.inl rfl) (pe_call (ok_law_any T) (hr.mono (by omega)) (by rfl) T.g_law_any (T.F_law_any).kp T.b_law_any .nil pass0 (pa_cons (pv 0) (pa_cons (pe_lst (pa_cons pe_str (pa_cons pe_str (pa_cons pe_str (pa_cons pe_str (pa_cons pe_str (pa_cons pe_str (pa_cons pe_str (pa_cons pe_str (pa_cons pe_str (pa_cons pe_str (pa_cons pe_str pa_nil)))))))))))) pa_nil))))) pss_nil)
      (pss_one (ps_ret (pe_callTy call_tuple_of (by rfl) T.n_tuple PyProof.Rows.Boot.«tuple» (pa_cons (pe_op op_cat (pe_lst (pa_cons (pv 4) pa_nil)) (pe_call GP (hr.mono (by omega)) (by rfl) T.g_law_parts (T.F_law_parts).kp T.b_law_parts .nil pass0 (pa_cons (pv 0) (pa_cons (pv 3) (pa_cons (pe_op op_sub (pv 1) pe_int) (pa_cons (pe_op op_sub (pv 2) pe_int) pa_nil)))))) pa_nil)))))))), ?_⟩
      have p1 : 1 ≤ 4 ^ n := Nat.one_le_pow n 4 (by decide)
      have p2 : 4 ^ (n + 1) = 4 ^ n * 4 := Nat.pow_succ 4 n
      obtain ⟨c, hc⟩ : ∃ c : Nat, c = 4 ^ n := ⟨_, rfl⟩
      rw [← hc] at p1 p2
      have single : ∀ H1, Frm d H H1 → Deck H1 d (m + 5) → ∃ (d' : Addr) (n' : Nat), [V.ref d] = [.ref d'] ∧ Deck H1 d' (n' + 5) ∧ ∀ (l : Lf) v H', l.ok → Dp K H' v (.tuple l.ds) → Frm d' H1 H' → Deck H' d' n' → Q v H' := fun H1 f1 D1 =>
        ⟨d, m, rfl, D1, fun l v H2 ok dv f2 D2 => k (.leaf l) v H2 ok (by simp [Ex.size]; omega) (by simp [Ex.dep]) (by rw [Ex.py]; exact dv) (f1.trans f2) D2⟩
      refine ⟨_, rfl, _, _, rfl, rfl, _, rfl, ite2 (fun z => iteT ⟨_, rfl, single H (Frm.refl _ _) (hD.le (by omega))⟩) (fun z1 => ?_)⟩
      have r1 : ¬ room < 2 := fun u => z1 (decide_eq_true u)
      refine ⟨_, rfl, _, _, rfl, rfl, _, rfl, ite2 (fun z => iteT ⟨_, rfl, single H (Frm.refl _ _) (hD.le (by omega))⟩) (fun z2 => ?_)⟩
      have r2 : ¬ deep < 2 := fun u => z2 (decide_eq_true u)
      refine ⟨_, rfl, d, _, m + 40 * c - 1, rfl, by decide, by decide, hD.le (by omega), fun x H1 x0 x1 f1 D1 => ⟨rfl, _, rfl, ite2 (fun z => ⟨_, rfl, single H1 f1 (D1.le (by omega))⟩) (fun z3 => ?_)⟩⟩
      refine ⟨(show 5 ≤ sizeLine by decide), fun p np => ⟨_, rfl, d, _, m + 40 * c - 2, rfl, by decide, by decide, (D1.same (new_same np)).le (by omega), fun y H2 y0 y1 f2 D2 => ?_⟩⟩
      obtain ⟨j, rfl⟩ : ∃ j : Nat, y = (j : Int) := ⟨y.toNat, by omega⟩
      have hw : ∃ w : Int, ([.int 2, .int 2, .int 3, .int 1, .int 2] : List V)[j]? = some (.int w) ∧ 1 ≤ w ∧ w ≤ 3 := by
        have hj : j < 5 := by omega
        match j, hj with
        | 0, _ => exact ⟨2, rfl, by decide, by decide⟩
        | 1, _ => exact ⟨2, rfl, by decide, by decide⟩
        | 2, _ => exact ⟨3, rfl, by decide, by decide⟩
        | 3, _ => exact ⟨1, rfl, by decide, by decide⟩
        | 4, _ => exact ⟨2, rfl, by decide, by decide⟩
      obtain ⟨ww, hw, w1, w3⟩ := hw
      obtain ⟨ds1, hds1⟩ := D1.lst
      have hpd : p ≠ d := (ne_of_none hds1 np).symm
      refine ⟨p, _, _, .int ww, rfl, rfl, SqL.of (f2 p _ hpd upd_same), atI_nat hw, ⟨_, rfl, _, _, rfl, rfl, _, _, rfl, ?_⟩⟩
      obtain ⟨mm, hmm, m1, m3, mr⟩ : ∃ mm : Nat, (if room - 1 < ww then room - 1 else ww) = (mm : Int) ∧ 1 ≤ mm ∧ mm ≤ 3 ∧ (mm : Int) ≤ room - 1 := by
        by_cases u : room - 1 < ww
        · rw [if_pos u]
          exact ⟨(room - 1).toNat, by omega, by omega, by omega, by omega⟩
        · rw [if_neg u]
          exact ⟨ww.toNat, by omega, by omega, by omega, by omega⟩
      rw [hmm]
      have fr2 : Frm d H H2 := f1.trans ((Frm.of_new np).trans f2)
      have last : ∀ (nm : Str) (es : List Ex) (xs : List V) (H3 : Hp) (t : Addr) (e : Ex), e.ds = .str nm :: es.map Ex.py → e.py = .tuple e.ds → e.ok → e.size ≤ sizes es + 1 → e.dep ≤ n + 1 → (sizes es : Int) ≤ room - 1 → DpAll K H3 xs (es.map Ex.py) → Frm d H H3 → H3 t = none → Deck H3 d m → Q (.ref t) (upd H3 t (.tup (.str nm :: xs))) := fun nm es xs H3 t e h1 h2 ok hs hd hsz dp fr nt D => by
        refine k e _ _ ok (by omega) hd ?_ (fr.trans (Frm.of_new nt)) (D.same (new_same nt))
        rw [h2, h1]
        exact .tup (SqT.of upd_same) (.cons (.str _) (dpa_nl (TF.of_new nt) _ _ (nls_py es) dp))
      have n1 : 1 ≤ n := by omega
      have close : ∀ (nm : Str) (mm : Nat), (∀ es : List Ex, es.length = mm → (∀ e ∈ es, e.ok ∧ e.dep ≤ n) → ∃ e : Ex, e.ds = .str nm :: es.map Ex.py ∧ e.py = .tuple e.ds ∧ e.ok ∧ e.size ≤ sizes es + 1 ∧ e.dep ≤ n + 1) → ∀ (H0 : Hp) (q2 : Addr), Frm d H H0 → H0 q2 = some (.lst [.str nm]) → q2 ≠ d → ∀ (p : Addr) (es : List Ex) (xs : List V) (H' : Hp), mm ≤ 3 → es.length = mm → (∀ e ∈ es, e.ok ∧ e.dep ≤ n) → (sizes es : Int) ≤ room - 1 → H' p = some (.lst xs) → DpAll K H' xs (es.map Ex.py) → Frm d H0 H' → Deck H' d m →
          ∃ l b ys zs, V.ref q2 = .ref l ∧ V.ref p = .ref b ∧ H' l = some (.lst ys) ∧ H' b = some (.lst zs) ∧ ys.length + zs.length ≤ sizeLine ∧ ∀ r, H' r = none → ∃ p ts, [V.ref r] = [.ref p] ∧ ((SqL K (upd H' r (.lst (ys ++ zs))) p ts ∧ ∀ l, (upd H' r (.lst (ys ++ zs))) l = none → Q (.ref l) (upd (upd H' r (.lst (ys ++ zs))) l (.tup ts))) ∨ (SqT K (upd H' r (.lst (ys ++ zs))) p ts ∧ Q (.ref p) (upd H' r (.lst (ys ++ zs))))) := fun nm mm comb H0 q2 f0 hq2 hne p es xs H' m3 hl hok hsz hp hdp fr D => by
        have hx : xs.length = mm := by rw [dpa_len hdp, List.length_map, hl]
        refine ⟨q2, p, _, xs, rfl, rfl, fr _ _ hne hq2, hp, Nat.le_trans (show 1 + xs.length ≤ 100 by omega) (by decide), fun r nr => ⟨r, _, rfl, .inl ⟨SqL.of upd_same, fun t nt => ?_⟩⟩⟩
        obtain ⟨e, g1, g2, g3, g4, g5⟩ := comb es hl hok
        exact last nm es xs _ t e g1 g2 g3 g4 g5 hsz (dpa_nl (TF.of_new nr) _ _ (nls_py es) hdp) ((f0.trans fr).trans (Frm.of_new nr)) nt (D.same (new_same nr))
      have ne : ∀ {H1 : Hp} {q : Addr}, Frm d H H1 → Deck H1 d 0 → H1 q = none → q ≠ d := fun f D nq => by
        obtain ⟨ds3, h3⟩ := D.lst
        exact (ne_of_none h3 nq).symm
      have hm : mm = 1 ∨ mm = 2 ∨ mm = 3 := by omega
      rcases hm with rfl | rfl | rfl
      · refine ⟨(show 2 ≤ sizeLine by decide), fun q nq => ⟨_, rfl, rfl, .inr ⟨_, rfl, ?_⟩⟩⟩
        show rIxL K _ (V.int 0) _ _
        refine ⟨q, _, _, .str "not", rfl, rfl, SqL.of upd_same, atI_nat (j := 0) rfl, _, rfl, rfl, _, rfl, ite2 (fun z => absurd z (by decide)) (fun _ => ?_)⟩
        have fq := fr2.trans (Frm.of_new (o := .lst [.str "not", .str "pick"]) nq)
        have Dq : Deck _ d _ := D2.same (new_same (o := .lst [.str "not", .str "pick"]) nq)
        refine ⟨_, rfl, (show 1 ≤ sizeLine by decide), fun q2 nq2 => ⟨_, rfl, _, rfl, _, rfl, _, _, rfl, rfl, _, rfl, _, _, rfl, rfl, d, 1, _, _, m, rfl, n1, by decide, by decide, mr, by omega, by omega, (Dq.same (new_same nq2)).le (by omega), fun p es xs H' hl hok hsz hp hdp fr np D => ?_⟩⟩
        refine close "not" 1 (fun es hl hok => ?_) _ q2 (fq.trans (Frm.of_new nq2)) upd_same (ne fq (Dq.le (Nat.zero_le _)) nq2) p es xs H' (by decide) hl hok hsz hp hdp fr D
        match es, hl with
        | [a], _ =>
          obtain ⟨o1, o2⟩ := hok a (List.mem_singleton.mpr rfl)
          exact ⟨.neg a, by simp [Ex.ds], by simp [Ex.ds, Ex.py], o1, by simp [Ex.size, sizes], by simp [Ex.dep]; omega⟩
      · refine ⟨(show 2 ≤ sizeLine by decide), fun q nq => ⟨_, rfl, rfl, .inr ⟨_, rfl, ?_⟩⟩⟩
        show rIxL K _ (V.int 0) _ _
        refine ⟨q, _, _, .str "not", rfl, rfl, SqL.of upd_same, atI_nat (j := 0) rfl, _, rfl, rfl, _, rfl, ite2 (fun _ => ?_) (fun z => absurd (by decide) z)⟩
        have fq := fr2.trans (Frm.of_new (o := .lst [.str "not", .str "pick"]) nq)
        have Dq : Deck _ d _ := D2.same (new_same (o := .lst [.str "not", .str "pick"]) nq)
        refine ⟨_, rfl, (show 11 ≤ sizeLine by decide), fun q1 nq1 => ⟨d, q1, twos.map V.str, m + 40 * c - 3, rfl, upd_same, ne fq (Dq.le (Nat.zero_le _)) nq1, (show 0 < 11 by decide), (show 11 ≤ 1000 by decide), (Dq.same (new_same nq1)).le (by omega), fun j v H3 hj f3 D3 => ?_⟩⟩
        rw [List.getElem?_map] at hj
        cases hg : twos[j]? with
        | none => rw [hg] at hj; cases hj
        | some nm =>
          rw [hg] at hj
          cases hj
          have hin := List.mem_of_getElem? hg
          have f4 := (fq.trans (Frm.of_new nq1)).trans f3
          refine ⟨_, rfl, (show 1 ≤ sizeLine by decide), fun q2 nq2 => ⟨_, rfl, _, rfl, _, rfl, _, _, rfl, rfl, _, rfl, _, _, rfl, rfl, d, 2, _, _, m, rfl, n1, by decide, by decide, mr, by omega, by omega, (D3.same (new_same nq2)).le (by omega), fun p es xs H' hl hok hsz hp hdp fr np D => ?_⟩⟩
          refine close nm 2 (fun es hl hok => ?_) _ q2 (f4.trans (Frm.of_new nq2)) upd_same (ne f4 (D3.le (Nat.zero_le _)) nq2) p es xs H' (by decide) hl hok hsz hp hdp fr D
          match es, hl with
          | [a, b], _ =>
            obtain ⟨o1, o2⟩ := hok a (by simp)
            obtain ⟨o3, o4⟩ := hok b (by simp)
            exact ⟨.two nm a b, by simp [Ex.ds], by simp [Ex.ds, Ex.py], ⟨hin, o1, o3⟩, by simp only [Ex.size, sizes]; omega, Nat.succ_le_succ (Nat.max_le.mpr ⟨o2, o4⟩)⟩
      · refine ⟨(show 2 ≤ sizeLine by decide), fun q nq => ⟨_, rfl, rfl, .inr ⟨_, rfl, ?_⟩⟩⟩
        show rIxL K _ (V.int 1) _ _
        refine ⟨q, _, _, .str "pick", rfl, rfl, SqL.of upd_same, atI_nat (j := 1) rfl, _, rfl, rfl, _, rfl, ite2 (fun z => absurd z (by decide)) (fun _ => ?_)⟩
        have fq := fr2.trans (Frm.of_new (o := .lst [.str "not", .str "pick"]) nq)
        have Dq : Deck _ d _ := D2.same (new_same (o := .lst [.str "not", .str "pick"]) nq)
        refine ⟨_, rfl, (show 1 ≤ sizeLine by decide), fun q2 nq2 => ⟨_, rfl, _, rfl, _, rfl, _, _, rfl, rfl, _, rfl, _, _, rfl, rfl, d, 3, _, _, m, rfl, n1, by decide, by decide, mr, by omega, by omega, (Dq.same (new_same nq2)).le (by omega), fun p es xs H' hl hok hsz hp hdp fr np D => ?_⟩⟩
        refine close "pick" 3 (fun es hl hok => ?_) _ q2 (fq.trans (Frm.of_new nq2)) upd_same (ne fq (Dq.le (Nat.zero_le _)) nq2) p es xs H' (by decide) hl hok hsz hp hdp fr D
        match es, hl with
        | [a, b, c], _ =>
          obtain ⟨o1, o2⟩ := hok a (by simp)
          obtain ⟨o3, o4⟩ := hok b (by simp)
          obtain ⟨o5, o6⟩ := hok c (by simp)
          exact ⟨.pick a b c, by simp [Ex.ds], by simp [Ex.ds, Ex.py], ⟨o1, o3, o5⟩, by simp only [Ex.size, sizes]; omega, Nat.succ_le_succ (Nat.max_le.mpr ⟨o2, Nat.max_le.mpr ⟨o4, o6⟩⟩)⟩
end
end K5
set_option maxRecDepth 100000
set_option maxHeartbeats 4000000
/-! Deeds, and what stands in them. -/
namespace K5
open PySem PySem.Spec PyProof.Rows L2 KF
def Ex.leaves : Ex → List Lf
  | .leaf l => [l]
  | .neg a => a.leaves
  | .two _ a b => a.leaves ++ b.leaves
  | .pick a b c => a.leaves ++ (b.leaves ++ c.leaves)
def Lf.nm : Lf → Str
  | .number _ => "number"
  | .own _ => "own"
  | .mark _ => "mark"
  | .word w => w
  | .held _ => "held"
  | .met _ => "met"
  | .metOwn _ _ => "met own"
  | .here _ => "here"
  | .under _ => "under"
  | .drawn _ => "drawn"
/-- the parts of a single one, each with the word of its form -/
def Lf.sg : Lf → List (Str × PyData)
  | .number n => [("number", .int n)]
  | .own i => [("own", .int i)]
  | .mark i => [("mark", .int i)]
  | .word _ => []
  | .held b => [("key", .int b)]
  | .met k => [("kind", .int k)]
  | .metOwn k i => [("kind", .int k), ("own", .int i)]
  | .here c => [("sign", .str c)]
  | .under c => [("sign", .str c)]
  | .drawn n => [("draw", .int n)]
def Lf.args (l : Lf) : List PyData := match l with
  | .number n => [.int n]
  | .own i => [.int i]
  | .mark i => [.int i]
  | .word w => []
  | .held b => [.int b]
  | .met k => [.int k]
  | .metOwn k i => [.int k, .int i]
  | .here c => [.str c]
  | .under c => [.str c]
  | .drawn n => [.int n]
theorem Lf.ds_eq (l : Lf) : l.ds = .str l.nm :: l.args := by cases l <;> rfl
theorem Lf.args_sg (l : Lf) : l.args = l.sg.map (·.2) := by cases l <;> rfl
def Ex.nm : Ex → Str
  | .leaf l => l.nm
  | .neg _ => "not"
  | .two k _ _ => k
  | .pick _ _ _ => "pick"
def Ex.args : Ex → List PyData
  | .leaf l => l.args
  | .neg a => [a.py]
  | .two _ a b => [a.py, b.py]
  | .pick a b c => [a.py, b.py, c.py]
theorem Ex.py_eq (e : Ex) : e.py = .tuple (.str e.nm :: e.args) := by
  cases e with
  | leaf l => rw [Ex.py, Lf.ds_eq]; rfl
  | _ => simp [Ex.py, Ex.nm, Ex.args]
inductive De where
  | own (i : Int) (a : Ex)
  | mark (i : Int) (a : Ex)
  | go (a b : Ex)
  | born (k : Int) (a b c d : Ex)
  | gone
  | when (a : Ex) (ds es : List De)
mutual
def De.py : De → PyData
  | .own i a => .tuple [.str "own", .int i, a.py]
  | .mark i a => .tuple [.str "mark", .int i, a.py]
  | .go a b => .tuple [.str "go", a.py, b.py]
  | .born k a b c d => .tuple [.str "born", .int k, a.py, b.py, c.py, d.py]
  | .gone => .tuple [.str "gone"]
  | .when a ds es => .tuple [.str "when", a.py, .tuple (pys ds), .tuple (pys es)]
def pys : List De → List PyData
  | [] => []
  | d :: ds => d.py :: pys ds
end
mutual
def De.ok : De → Prop
  | .own i a => 0 ≤ i ∧ i ≤ 3 ∧ a.ok
  | .mark i a => 0 ≤ i ∧ i ≤ 15 ∧ a.ok
  | .go a b => a.ok ∧ b.ok
  | .born k a b c d => 0 ≤ k ∧ k ≤ 7 ∧ a.ok ∧ b.ok ∧ c.ok ∧ d.ok
  | .gone => True
  | .when a ds es => a.ok ∧ oks ds ∧ oks es
def oks : List De → Prop
  | [] => True
  | d :: ds => d.ok ∧ oks ds
end
mutual
def De.size : De → Nat
  | .own _ a => a.size + 1
  | .mark _ a => a.size + 1
  | .go a b => a.size + b.size + 1
  | .born _ a b c d => a.size + (b.size + (c.size + d.size)) + 1
  | .gone => 1
  | .when a ds es => a.size + (szs ds + szs es) + 1
def szs : List De → Nat
  | [] => 0
  | d :: ds => d.size + szs ds
end
mutual
def De.dep : De → Nat
  | .own _ a => a.dep + 1
  | .mark _ a => a.dep + 1
  | .go a b => Nat.max a.dep b.dep + 1
  | .born _ a b c d => Nat.max a.dep (Nat.max b.dep (Nat.max c.dep d.dep)) + 1
  | .gone => 1
  | .when a ds es => Nat.max a.dep (Nat.max (deps ds) (deps es)) + 1
def deps : List De → Nat
  | [] => 0
  | d :: ds => Nat.max d.dep (deps ds)
end
mutual
def De.leaves : De → List Lf
  | .own _ a => a.leaves
  | .mark _ a => a.leaves
  | .go a b => a.leaves ++ b.leaves
  | .born _ a b c d => a.leaves ++ (b.leaves ++ (c.leaves ++ d.leaves))
  | .gone => []
  | .when a ds es => a.leaves ++ (lvs ds ++ lvs es)
def lvs : List De → List Lf
  | [] => []
  | d :: ds => d.leaves ++ lvs ds
end
theorem pys_eq : ∀ ds : List De, pys ds = ds.map De.py
  | [] => by simp [pys]
  | d :: ds => by simp [pys, pys_eq ds]
theorem oks_iff : ∀ ds : List De, oks ds ↔ ∀ d ∈ ds, d.ok
  | [] => by simp [oks]
  | d :: ds => by simp [oks, oks_iff ds]
theorem szs_snoc (d : De) : ∀ ds : List De, szs (ds ++ [d]) = szs ds + d.size
  | [] => by simp [szs]
  | x :: ds => by simp [szs, szs_snoc d ds]; omega
theorem deps_le {n : Nat} : ∀ ds : List De, deps ds ≤ n ↔ ∀ d ∈ ds, d.dep ≤ n
  | [] => by simp [deps]
  | d :: ds => by
    rw [deps, List.forall_mem_cons, ← deps_le ds]
    exact Nat.max_le
theorem lvs_iff (l : Lf) : ∀ ds : List De, l ∈ lvs ds ↔ ∃ d ∈ ds, l ∈ d.leaves
  | [] => by simp [lvs]
  | d :: ds => by simp [lvs, lvs_iff l ds]
mutual
theorem De.nl : ∀ d : De, NL d.py
  | .own i a => ⟨trivial, trivial, a.nl, trivial⟩
  | .mark i a => ⟨trivial, trivial, a.nl, trivial⟩
  | .go a b => ⟨trivial, a.nl, b.nl, trivial⟩
  | .born k a b c d => ⟨trivial, trivial, a.nl, b.nl, c.nl, d.nl, trivial⟩
  | .gone => ⟨trivial, trivial⟩
  | .when a ds es => ⟨trivial, a.nl, nl_pys ds, nl_pys es, trivial⟩
theorem nl_pys : ∀ ds : List De, NLs (pys ds)
  | [] => trivial
  | d :: ds => ⟨d.nl, nl_pys ds⟩
end
theorem nl_des (ds : List De) : NLs (ds.map De.py) := by
  rw [← pys_eq]
  exact nl_pys ds
/-- what stands in a script: a deed, or an expression -/
inductive Nd where
  | deed (d : De)
  | tree (e : Ex)
inductive Ch where
  | pt (e : Ex)
  | ds (l : List De)
def Ch.py : Ch → PyData
  | .pt e => e.py
  | .ds l => .tuple (l.map De.py)
def Ch.word : Ch → Str
  | .pt _ => "part"
  | .ds _ => "deeds"
def Ch.kids : Ch → List Nd
  | .pt e => [.tree e]
  | .ds l => l.map .deed
def Nd.nm : Nd → Str
  | .deed (.own _ _) => "own"
  | .deed (.mark _ _) => "mark"
  | .deed (.go _ _) => "go"
  | .deed (.born _ _ _ _ _) => "born"
  | .deed .gone => "gone"
  | .deed (.when _ _ _) => "when"
  | .tree e => e.nm
def Nd.sg : Nd → List (Str × PyData)
  | .deed (.own i _) => [("own", .int i)]
  | .deed (.mark i _) => [("mark", .int i)]
  | .deed (.go _ _) => []
  | .deed (.born k _ _ _ _) => [("kind", .int k)]
  | .deed .gone => []
  | .deed (.when _ _ _) => []
  | .tree (.leaf l) => l.sg
  | .tree _ => []
def Nd.ch : Nd → List Ch
  | .deed (.own _ a) => [.pt a]
  | .deed (.mark _ a) => [.pt a]
  | .deed (.go a b) => [.pt a, .pt b]
  | .deed (.born _ a b c d) => [.pt a, .pt b, .pt c, .pt d]
  | .deed .gone => []
  | .deed (.when a ds es) => [.pt a, .ds ds, .ds es]
  | .tree (.leaf _) => []
  | .tree (.neg a) => [.pt a]
  | .tree (.two _ a b) => [.pt a, .pt b]
  | .tree (.pick a b c) => [.pt a, .pt b, .pt c]
def Nd.py : Nd → PyData
  | .deed d => d.py
  | .tree e => e.py
def Nd.args (x : Nd) : List PyData := x.sg.map (·.2) ++ x.ch.map Ch.py
theorem Nd.py_eq (x : Nd) : x.py = .tuple (.str x.nm :: x.args) := by
  cases x with
  | deed d =>
    cases d <;> simp [Nd.py, De.py, Nd.nm, Nd.args, Nd.sg, Nd.ch, Ch.py, pys_eq]
  | tree e =>
    cases e with
    | leaf l =>
      rw [Nd.py, Ex.py_eq]
      simp [Nd.nm, Nd.args, Nd.sg, Nd.ch, Ex.args, Lf.args_sg, Ex.nm]
    | _ => simp [Nd.py, Ex.py, Nd.nm, Ex.nm, Nd.args, Nd.sg, Nd.ch, Ch.py]
def Nd.ok : Nd → Prop
  | .deed d => d.ok
  | .tree e => e.ok
def Nd.size : Nd → Nat
  | .deed d => d.size
  | .tree e => e.size
def Nd.dep : Nd → Nat
  | .deed d => d.dep
  | .tree e => e.dep
def Nd.leaves : Nd → List Lf
  | .deed d => d.leaves
  | .tree e => e.leaves
theorem Nd.nl : ∀ x : Nd, NL x.py
  | .deed d => d.nl
  | .tree e => e.nl
def Nd.kids (x : Nd) : List Nd := x.ch.flatMap Ch.kids
def nsz : List Nd → Nat
  | [] => 0
  | x :: xs => x.size + nsz xs
theorem nsz_app (bs : List Nd) : ∀ as : List Nd, nsz (as ++ bs) = nsz as + nsz bs
  | [] => by simp [nsz]
  | x :: as => by simp [nsz, nsz_app bs as]; omega
theorem nsz_deeds : ∀ ds : List De, nsz (ds.map .deed) = szs ds
  | [] => by simp [nsz, szs]
  | d :: ds => by simp [nsz, szs, Nd.size, nsz_deeds ds]
theorem Nd.size_pos : ∀ x : Nd, 1 ≤ x.size
  | .deed d => by cases d <;> simp [Nd.size, De.size]
  | .tree e => by cases e <;> simp [Nd.size, Ex.size]
theorem len_nsz : ∀ xs : List Nd, xs.length ≤ nsz xs
  | [] => Nat.le_refl _
  | x :: xs => by
    have := len_nsz xs
    have := x.size_pos
    simp only [nsz, List.length_cons]
    omega
theorem Nd.kids_size (x : Nd) : nsz x.kids + 1 = x.size := by
  cases x with
  | deed d => cases d <;> simp [Nd.kids, Nd.ch, Ch.kids, nsz, nsz_app, nsz_deeds, Nd.size, De.size]
  | tree e => cases e <;> simp [Nd.kids, Nd.ch, Ch.kids, nsz, Nd.size, Ex.size] <;> omega
theorem Nd.kids_ok (x : Nd) (h : x.ok) : ∀ y ∈ x.kids, y.ok := by
  cases x with
  | deed d =>
    cases d with
    | when a ds es =>
      obtain ⟨h1, h2, h3⟩ := (show a.ok ∧ oks ds ∧ oks es by simpa [Nd.ok, De.ok] using h)
      rw [oks_iff] at h2 h3
      intro y hy
      simp only [Nd.kids, Nd.ch, List.flatMap_cons, List.flatMap_nil, Ch.kids, List.append_nil, List.mem_append, List.mem_map, List.mem_singleton] at hy
      rcases hy with rfl | ⟨d, hd, rfl⟩ | ⟨d, hd, rfl⟩
      · exact h1
      · exact h2 d hd
      · exact h3 d hd
    | _ => simp [Nd.ok, De.ok] at h; simp [Nd.kids, Nd.ch, Ch.kids, Nd.ok, h]
  | tree e =>
    cases e <;> (simp [Nd.ok, Ex.ok] at h; simp [Nd.kids, Nd.ch, Ch.kids, Nd.ok, h])
theorem Nd.kids_dep (x : Nd) : ∀ y ∈ x.kids, y.dep + 1 ≤ x.dep := by
  have L : ∀ a b : Nat, a ≤ Nat.max a b := Nat.le_max_left
  have R : ∀ a b : Nat, b ≤ Nat.max a b := Nat.le_max_right
  intro y hy
  refine Nat.le_trans (Nat.le_refl _) ?_
  cases x with
  | deed d =>
    cases d with
    | when a ds es =>
      simp only [Nd.kids, Nd.ch, List.flatMap_cons, List.flatMap_nil, Ch.kids, List.append_nil, List.mem_append, List.mem_map, List.mem_singleton] at hy
      show y.dep + 1 ≤ (De.when a ds es).dep
      rw [De.dep]
      refine Nat.succ_le_succ ?_
      rcases hy with rfl | ⟨d, hd, rfl⟩ | ⟨d, hd, rfl⟩
      · exact L _ _
      · exact Nat.le_trans (Nat.le_trans ((deps_le ds).mp (Nat.le_refl _) d hd) (L _ _)) (R _ _)
      · exact Nat.le_trans (Nat.le_trans ((deps_le es).mp (Nat.le_refl _) d hd) (R _ _)) (R _ _)
    | own i a =>
      simp [Nd.kids, Nd.ch, Ch.kids] at hy
      subst hy
      simp [Nd.dep, De.dep]
    | mark i a =>
      simp [Nd.kids, Nd.ch, Ch.kids] at hy
      subst hy
      simp [Nd.dep, De.dep]
    | gone => simp [Nd.kids, Nd.ch] at hy
    | go a b =>
      simp [Nd.kids, Nd.ch, Ch.kids] at hy
      show y.dep + 1 ≤ (De.go a b).dep
      rw [De.dep]
      refine Nat.succ_le_succ ?_
      rcases hy with rfl | rfl
      · exact L _ _
      · exact R _ _
    | born k a b c d =>
      simp [Nd.kids, Nd.ch, Ch.kids] at hy
      show y.dep + 1 ≤ (De.born k a b c d).dep
      rw [De.dep]
      refine Nat.succ_le_succ ?_
      rcases hy with rfl | rfl | rfl | rfl
      · exact L _ _
      · exact Nat.le_trans (L _ _) (R _ _)
      · exact Nat.le_trans (Nat.le_trans (L _ _) (R _ _)) (R _ _)
      · exact Nat.le_trans (Nat.le_trans (R _ _) (R _ _)) (R _ _)
  | tree e =>
    cases e with
    | leaf l => simp [Nd.kids, Nd.ch] at hy
    | neg a =>
      simp [Nd.kids, Nd.ch, Ch.kids] at hy
      subst hy
      simp [Nd.dep, Ex.dep]
    | two k a b =>
      simp [Nd.kids, Nd.ch, Ch.kids] at hy
      refine Nat.succ_le_succ ?_
      rcases hy with rfl | rfl
      · exact L _ _
      · exact R _ _
    | pick a b c =>
      simp [Nd.kids, Nd.ch, Ch.kids] at hy
      refine Nat.succ_le_succ ?_
      rcases hy with rfl | rfl | rfl
      · exact L _ _
      · exact Nat.le_trans (L _ _) (R _ _)
      · exact Nat.le_trans (R _ _) (R _ _)
theorem Nd.kids_leaves (x : Nd) (l : Lf) (h : l ∈ x.leaves) : (∃ y ∈ x.kids, l ∈ y.leaves) ∨ x = .tree (.leaf l) := by
  cases x with
  | deed d =>
    refine .inl ?_
    cases d with
    | when a ds es =>
      rw [Nd.leaves, De.leaves] at h
      rcases List.mem_append.mp h with h | h
      · exact ⟨.tree a, by simp [Nd.kids, Nd.ch, Ch.kids], h⟩
      rcases List.mem_append.mp h with h | h
      · obtain ⟨d, hd, hl⟩ := (lvs_iff l ds).mp h
        exact ⟨.deed d, by simp [Nd.kids, Nd.ch, Ch.kids, hd], hl⟩
      · obtain ⟨d, hd, hl⟩ := (lvs_iff l es).mp h
        exact ⟨.deed d, by simp [Nd.kids, Nd.ch, Ch.kids, hd], hl⟩
    | own i a =>
      rw [Nd.leaves, De.leaves] at h
      exact ⟨.tree a, by simp [Nd.kids, Nd.ch, Ch.kids], h⟩
    | mark i a =>
      rw [Nd.leaves, De.leaves] at h
      exact ⟨.tree a, by simp [Nd.kids, Nd.ch, Ch.kids], h⟩
    | gone =>
      rw [Nd.leaves, De.leaves] at h
      cases h
    | go a b =>
      rw [Nd.leaves, De.leaves] at h
      rcases List.mem_append.mp h with h | h
      · exact ⟨.tree a, by simp [Nd.kids, Nd.ch, Ch.kids], h⟩
      · exact ⟨.tree b, by simp [Nd.kids, Nd.ch, Ch.kids], h⟩
    | born k a b c d =>
      rw [Nd.leaves, De.leaves] at h
      rcases List.mem_append.mp h with h | h
      · exact ⟨.tree a, by simp [Nd.kids, Nd.ch, Ch.kids], h⟩
      rcases List.mem_append.mp h with h | h
      · exact ⟨.tree b, by simp [Nd.kids, Nd.ch, Ch.kids], h⟩
      rcases List.mem_append.mp h with h | h
      · exact ⟨.tree c, by simp [Nd.kids, Nd.ch, Ch.kids], h⟩
      · exact ⟨.tree d, by simp [Nd.kids, Nd.ch, Ch.kids], h⟩
  | tree e =>
    cases e with
    | leaf k =>
      simp [Nd.leaves, Ex.leaves] at h
      subst h
      exact .inr rfl
    | neg a => exact .inl ⟨.tree a, by simp [Nd.kids, Nd.ch, Ch.kids], h⟩
    | two k a b =>
      rcases List.mem_append.mp h with h | h
      · exact .inl ⟨.tree a, by simp [Nd.kids, Nd.ch, Ch.kids], h⟩
      · exact .inl ⟨.tree b, by simp [Nd.kids, Nd.ch, Ch.kids], h⟩
    | pick a b c =>
      rcases List.mem_append.mp h with h | h
      · exact .inl ⟨.tree a, by simp [Nd.kids, Nd.ch, Ch.kids], h⟩
      rcases List.mem_append.mp h with h | h
      · exact .inl ⟨.tree b, by simp [Nd.kids, Nd.ch, Ch.kids], h⟩
      · exact .inl ⟨.tree c, by simp [Nd.kids, Nd.ch, Ch.kids], h⟩
/-! ### as data that compares -/
theorem words_ok : ∀ s ∈ words, PyData.strOk s = true := by decide +kernel
theorem signs_ok : ∀ s ∈ signs, PyData.strOk s = true := by decide +kernel
theorem twos_ok : ∀ s ∈ twos, PyData.strOk s = true := by decide +kernel
theorem Lf.lay (l : Lf) (ok : l.ok) : PyData.canLayAll0 l.ds = true := by
  have h1 : PyData.strOk ("here" : Str) = true := by decide +kernel
  have h2 : PyData.strOk ("under" : Str) = true := by decide +kernel
  cases l with
  | word w => simp only [Lf.ds, PyData.canLayAll0, PyData.canLay0, words_ok w ok]; rfl
  | here c => simp only [Lf.ds, PyData.canLayAll0, PyData.canLay0, signs_ok c ok, h1]; rfl
  | under c => simp only [Lf.ds, PyData.canLayAll0, PyData.canLay0, signs_ok c ok, h2]; rfl
  | _ => simp only [Lf.ds, PyData.canLayAll0, PyData.canLay0]; decide +kernel
theorem Ex.lay : ∀ (e : Ex), e.ok → e.py.canLay0 = true
  | .leaf l, ok => by
    rw [Ex.py, PyData.canLay0]
    exact l.lay ok
  | .neg a, ok => by
    have := a.lay ok
    simp only [Ex.py, PyData.canLayAll0, PyData.canLay0, this]; decide +kernel
  | .two k a b, ok => by
    have := a.lay ok.2.1
    have := b.lay ok.2.2
    have := twos_ok k ok.1
    simp [Ex.py, PyData.canLayAll0, PyData.canLay0, *]
  | .pick a b c, ok => by
    have := a.lay ok.1
    have := b.lay ok.2.1
    have := c.lay ok.2.2
    simp only [Ex.py, PyData.canLayAll0, PyData.canLay0, *]; decide +kernel
theorem six_ok : PyData.strOk ("own" : Str) = true ∧ PyData.strOk ("mark" : Str) = true ∧ PyData.strOk ("go" : Str) = true ∧ PyData.strOk ("born" : Str) = true ∧ PyData.strOk ("gone" : Str) = true ∧ PyData.strOk ("when" : Str) = true := by decide +kernel
mutual
theorem De.lay : ∀ (d : De), d.ok → d.py.canLay0 = true
  | .own i a, ok => by
    have := a.lay (by rw [De.ok] at ok; exact ok.2.2)
    simp [De.py, PyData.canLayAll0, PyData.canLay0, six_ok, this]
  | .mark i a, ok => by
    have := a.lay (by rw [De.ok] at ok; exact ok.2.2)
    simp [De.py, PyData.canLayAll0, PyData.canLay0, six_ok, this]
  | .go a b, ok => by
    rw [De.ok] at ok
    have := a.lay ok.1
    have := b.lay ok.2
    simp [De.py, PyData.canLayAll0, PyData.canLay0, six_ok, *]
  | .born k a b c d, ok => by
    rw [De.ok] at ok
    have := a.lay ok.2.2.1
    have := b.lay ok.2.2.2.1
    have := c.lay ok.2.2.2.2.1
    have := d.lay ok.2.2.2.2.2
    simp [De.py, PyData.canLayAll0, PyData.canLay0, six_ok, *]
  | .gone, ok => by simp [De.py, PyData.canLayAll0, PyData.canLay0, six_ok]
  | .when a ds es, ok => by
    rw [De.ok] at ok
    have := a.lay ok.1
    have := lay_pys ds ok.2.1
    have := lay_pys es ok.2.2
    simp [De.py, PyData.canLayAll0, PyData.canLay0, six_ok, *]
theorem lay_pys : ∀ (ds : List De), oks ds → PyData.canLayAll0 (pys ds) = true
  | [], _ => by simp [pys, PyData.canLayAll0]
  | d :: ds, ok => by
    rw [oks] at ok
    have := d.lay ok.1
    have := lay_pys ds ok.2
    simp [pys, PyData.canLayAll0, *]
end
theorem Nd.lay : ∀ x : Nd, x.ok → x.py.canLay0 = true
  | .deed d, h => d.lay h
  | .tree e, h => e.lay h
/-! ### what waits -/
structure Wt where
  x : Nd
  n : Int
def Wt.sort (i : Wt) : Str := match i.x with
  | .deed _ => "deed"
  | .tree _ => "tree"
def Wt.py (i : Wt) : PyData := .tuple [.str i.sort, i.x.py, .int i.n]
theorem Wt.lay (i : Wt) (ok : i.x.ok) : i.py.canLay0 = true := by
  have h := i.x.lay ok
  have s2 : PyData.strOk ("deed" : Str) = true := by decide +kernel
  have s3 : PyData.strOk ("tree" : Str) = true := by decide +kernel
  obtain ⟨x, n⟩ := i
  cases x <;> simp_all [Wt.py, Wt.sort, PyData.canLayAll0, PyData.canLay0]
theorem lays : ∀ is : List Wt, (∀ i ∈ is, i.x.ok) → PyData.canLayAll0 (is.map Wt.py) = true
  | [], _ => by simp [PyData.canLayAll0]
  | i :: is, h => by
    simp only [List.map_cons, PyData.canLayAll0, Bool.and_eq_true]
    exact ⟨i.lay (h i (by simp)), lays is fun x hx => h x (by simp [hx])⟩
theorem layis : ∀ is : List Wt, (∀ i ∈ is, i.x.ok) → PyData.canLayAll0 (is.map fun i => i.x.py) = true
  | [], _ => by simp [PyData.canLayAll0]
  | i :: is, h => by
    simp only [List.map_cons, PyData.canLayAll0, Bool.and_eq_true]
    exact ⟨i.x.lay (h i (by simp)), layis is fun x hx => h x (by simp [hx])⟩
theorem Wt.nl (i : Wt) : NL i.py := ⟨trivial, i.x.nl, trivial, trivial⟩
theorem nls_wt : ∀ is : List Wt, NLs (is.map Wt.py)
  | [] => trivial
  | i :: is => ⟨i.nl, nls_wt is⟩
theorem nls_inn : ∀ is : List Wt, NLs (is.map fun i => i.x.py)
  | [] => trivial
  | i :: is => ⟨i.x.nl, nls_inn is⟩
theorem nls_nd : ∀ xs : List Nd, NLs (xs.map Nd.py)
  | [] => trivial
  | x :: xs => ⟨x.nl, nls_nd xs⟩
def isz (is : List Wt) : Nat := nsz (is.map (·.x))
theorem isz_app (is js : List Wt) : isz (is ++ js) = isz is + isz js := by
  rw [isz, List.map_append, nsz_app]
  rfl
theorem isz_one (i : Wt) : isz [i] = i.x.size := by simp [isz, nsz]
theorem len_isz (is : List Wt) : is.length ≤ isz is := by
  have := len_nsz (is.map (·.x))
  rw [List.length_map] at this
  exact this
/-- the things of some parts, as they wait -/
def kw (cs : List Ch) (n : Int) : List Wt := (cs.flatMap Ch.kids).map fun x => ⟨x, n⟩
theorem isz_kw (x : Nd) (n : Int) : isz (kw x.ch n) + 1 = x.size := by
  rw [← x.kids_size, isz, kw, List.map_map]
  have : ((fun i : Wt => i.x) ∘ fun x => (⟨x, n⟩ : Wt)) = id := rfl
  rw [this, List.map_id]
  rfl
theorem kw_take (cs : List Ch) (n : Int) (j : Nat) (h : j < cs.length) : kw (cs.take (j + 1)) n = kw (cs.take j) n ++ (cs[j].kids.map fun x => ⟨x, n⟩) := by
  rw [kw, kw, List.take_add_one, List.getElem?_eq_getElem h, List.flatMap_append, List.map_append]
  simp
theorem dpa_split {K : PySem.W.Frag} {H : Hp} {d : PyData} : ∀ {ds : List PyData} {vs : List V}, DpAll K H vs (ds ++ [d]) → ∃ vs1 v, vs = vs1 ++ [v] ∧ DpAll K H vs1 ds ∧ Dp K H v d
  | [], vs, h => by
    cases h with
    | cons a b =>
      cases b
      exact ⟨[], _, rfl, .nil, a⟩
  | x :: ds, vs, h => by
    cases h with
    | cons a b =>
      obtain ⟨vs1, v, rfl, h1, h2⟩ := dpa_split b
      exact ⟨_ :: vs1, v, rfl, .cons a h1, h2⟩
theorem dpa_app {K : PySem.W.Frag} {H : Hp} {bs : List V} {bd : List PyData} (hb : DpAll K H bs bd) : ∀ {as : List V} {ad : List PyData}, DpAll K H as ad → DpAll K H (as ++ bs) (ad ++ bd)
  | [], _, h => by
    cases h
    exact hb
  | x :: as, _, h => by
    cases h with
    | cons a b => exact .cons a (dpa_app hb b)
theorem dp_tup {K : PySem.W.Frag} {H : Hp} {v : V} {ds : List PyData} (h : Dp K H v (.tuple ds)) : ∃ c xs, v = .ref c ∧ SqT K H c xs ∧ DpAll K H xs ds := by
  cases h with
  | tup a b => exact ⟨_, _, rfl, a, b⟩
theorem dpa_str0 {K : PySem.W.Frag} {H : Hp} {xs : List V} {s : Str} {ds : List PyData} (h : DpAll K H xs (.str s :: ds)) : xs[0]? = some (.str s) := by
  cases h with
  | cons a b =>
    cases a
    rfl
theorem take_map {α β : Type} (f : α → β) (l : List α) (i : Nat) (h : i < l.length) : (l.take (i + 1)).map f = (l.take i).map f ++ [f l[i]] := by
  rw [List.take_add_one, List.getElem?_eq_getElem h, List.map_append]
  rfl
/-! ### where the parts begin -/
def nine : List V := [.str "number", .str "own", .str "mark", .str "held", .str "met", .str "met own", .str "here", .str "under", .str "drawn"]
def three : List V := [.str "own", .str "mark", .str "born"]
theorem words_nine : ∀ s ∈ words, inV (.str s) nine = false ∧ decide (V.str s = V.str "when") = false := by decide
theorem twos_nine : ∀ s ∈ twos, inV (.str s) nine = false ∧ decide (V.str s = V.str "when") = false := by decide
theorem De.begin (d : De) : (inV (.str (Nd.deed d).nm) three = true ∧ (Nd.deed d).sg.length = 1) ∨ (inV (.str (Nd.deed d).nm) three = false ∧ (Nd.deed d).sg.length = 0) := by
  cases d
  · exact .inl ⟨by rfl, rfl⟩
  · exact .inl ⟨by rfl, rfl⟩
  · exact .inr ⟨by rfl, rfl⟩
  · exact .inl ⟨by rfl, rfl⟩
  · exact .inr ⟨by rfl, rfl⟩
  · exact .inr ⟨by rfl, rfl⟩
theorem Ex.begin (e : Ex) (ok : e.ok) : (inV (.str (Nd.tree e).nm) nine = true ∧ (Nd.tree e).ch = []) ∨ (inV (.str (Nd.tree e).nm) nine = false ∧ (Nd.tree e).sg.length = 0) := by
  cases e with
  | leaf l =>
    cases l with
    | word w => exact .inr ⟨(words_nine w ok).1, rfl⟩
    | _ => exact .inl ⟨by rfl, rfl⟩
  | neg a => exact .inr ⟨by rfl, rfl⟩
  | two k a b => exact .inr ⟨(twos_nine k ok.1).1, rfl⟩
  | pick a b c => exact .inr ⟨by rfl, rfl⟩
/-- a part is a row of deeds just in a "when", behind the first one -/
theorem Nd.when (x : Nd) (ok : x.ok) (j : Nat) (c : Ch) (h : x.ch[j]? = some c) : (∃ e, c = .pt e ∧ (decide (V.str x.nm = V.str "when") = false ∨ x.sg.length + j = 0)) ∨ (∃ l, c = .ds l ∧ decide (V.str x.nm = V.str "when") = true ∧ 1 ≤ j) := by
  have pt : ∀ es : List Ex, x.ch = es.map Ch.pt → decide (V.str x.nm = V.str "when") = false → (∃ e, c = .pt e ∧ (decide (V.str x.nm = V.str "when") = false ∨ x.sg.length + j = 0)) ∨ (∃ l, c = .ds l ∧ decide (V.str x.nm = V.str "when") = true ∧ 1 ≤ j) := fun es h1 h2 => by
    refine Or.inl ?_
    rw [h1, List.getElem?_map] at h
    cases hg : es[j]? with
    | none => rw [hg] at h; cases h
    | some e =>
      rw [hg] at h
      cases h
      exact ⟨e, rfl, .inl h2⟩
  cases x with
  | deed d =>
    cases d with
    | own i a => exact pt [a] rfl (by rfl)
    | mark i a => exact pt [a] rfl (by rfl)
    | go a b => exact pt [a, b] rfl (by rfl)
    | born k a b c d => exact pt [a, b, c, d] rfl (by rfl)
    | gone => exact pt [] rfl (by rfl)
    | when a ds es =>
      match j, h with
      | 0, h => cases h; exact .inl ⟨a, rfl, .inr rfl⟩
      | 1, h => cases h; exact .inr ⟨ds, rfl, by rfl, Nat.le_refl _⟩
      | 2, h => cases h; exact .inr ⟨es, rfl, by rfl, by decide⟩
      | n + 3, h => cases h
  | tree e =>
    cases e with
    | leaf l => cases h
    | neg a => exact pt [a] rfl (by rfl)
    | two k a b => exact pt [a, b] rfl (twos_nine k ok.1).2
    | pick a b c => exact pt [a, b, c] rfl (by rfl)
theorem Nd.ch_len (x : Nd) : x.ch.length ≤ 4 := by
  cases x with
  | deed d => cases d <;> simp [Nd.ch]
  | tree e => cases e <;> simp [Nd.ch]
theorem Nd.sg_len (x : Nd) : x.sg.length ≤ 2 := by
  cases x with
  | deed d => cases d <;> simp [Nd.sg]
  | tree e =>
    cases e with
    | leaf l => cases l <;> simp [Nd.sg, Lf.sg]
    | _ => simp [Nd.sg]
theorem Nd.args_len (x : Nd) : x.args.length = x.sg.length + x.ch.length := by
  rw [Nd.args, List.length_append, List.length_map, List.length_map]
theorem Nd.args_ch (x : Nd) (j : Nat) (h : j < x.ch.length) : x.args[x.sg.length + j]? = some x.ch[j].py := by
  rw [Nd.args, List.getElem?_append_right (by rw [List.length_map]; omega), List.length_map, Nat.add_sub_cancel_left, List.getElem?_map, List.getElem?_eq_getElem h]
  rfl
theorem Nd.args_nl (x : Nd) : NLs x.args := by
  have h := x.nl
  rw [Nd.py_eq] at h
  exact h.2
/-! ### all that stands in it -/
def Ex.nodes : Ex → List Nd
  | .leaf l => [.tree (.leaf l)]
  | .neg a => .tree (.neg a) :: a.nodes
  | .two k a b => .tree (.two k a b) :: (a.nodes ++ b.nodes)
  | .pick a b c => .tree (.pick a b c) :: (a.nodes ++ (b.nodes ++ c.nodes))
mutual
def De.nodes : De → List Nd
  | .own i a => .deed (.own i a) :: a.nodes
  | .mark i a => .deed (.mark i a) :: a.nodes
  | .go a b => .deed (.go a b) :: (a.nodes ++ b.nodes)
  | .born k a b c d => .deed (.born k a b c d) :: (a.nodes ++ (b.nodes ++ (c.nodes ++ d.nodes)))
  | .gone => [.deed .gone]
  | .when a ds es => .deed (.when a ds es) :: (a.nodes ++ (ndsOf ds ++ ndsOf es))
def ndsOf : List De → List Nd
  | [] => []
  | d :: ds => d.nodes ++ ndsOf ds
end
def Nd.nodes : Nd → List Nd
  | .deed d => d.nodes
  | .tree e => e.nodes
theorem nds_eq : ∀ ds : List De, ndsOf ds = ds.flatMap De.nodes
  | [] => by simp [ndsOf]
  | d :: ds => by simp [ndsOf, nds_eq ds]
theorem nds_kids : ∀ ds : List De, (ds.map Nd.deed).flatMap Nd.nodes = ndsOf ds
  | [] => by simp [ndsOf]
  | d :: ds => by simp [ndsOf, Nd.nodes, nds_kids ds]
theorem Nd.nodes_eq (x : Nd) : x.nodes = x :: x.kids.flatMap Nd.nodes := by
  cases x with
  | deed d =>
    cases d with
    | when a ds es =>
      simp only [Nd.nodes, De.nodes, Nd.kids, Nd.ch, List.flatMap_cons, List.flatMap_nil, Ch.kids, List.append_nil, List.flatMap_append, nds_kids, List.singleton_append, List.cons_append, List.nil_append]
    | _ => simp [Nd.nodes, De.nodes, Nd.kids, Nd.ch, Ch.kids]
  | tree e =>
    cases e <;> simp [Nd.nodes, Ex.nodes, Nd.kids, Nd.ch, Ch.kids]
theorem Ex.leaf_node : ∀ (e : Ex) (l : Lf), l ∈ e.leaves → Nd.tree (.leaf l) ∈ e.nodes
  | .leaf k, l, h => by
    rw [Ex.leaves, List.mem_singleton] at h
    rw [h, Ex.nodes]
    simp
  | .neg a, l, h => by
    rw [Ex.nodes]
    exact List.mem_cons_of_mem _ (a.leaf_node l h)
  | .two k a b, l, h => by
    rw [Ex.nodes]
    refine List.mem_cons_of_mem _ ?_
    rcases List.mem_append.mp h with h | h
    · exact List.mem_append_left _ (a.leaf_node l h)
    · exact List.mem_append_right _ (b.leaf_node l h)
  | .pick a b c, l, h => by
    rw [Ex.nodes]
    refine List.mem_cons_of_mem _ ?_
    rcases List.mem_append.mp h with h | h
    · exact List.mem_append_left _ (a.leaf_node l h)
    rcases List.mem_append.mp h with h | h
    · exact List.mem_append_right _ (List.mem_append_left _ (b.leaf_node l h))
    · exact List.mem_append_right _ (List.mem_append_right _ (c.leaf_node l h))
mutual
theorem De.leaf_node : ∀ (d : De) (l : Lf), l ∈ d.leaves → Nd.tree (.leaf l) ∈ d.nodes
  | .own i a, l, h => by
    rw [De.leaves] at h
    rw [De.nodes]
    exact List.mem_cons_of_mem _ (a.leaf_node l h)
  | .mark i a, l, h => by
    rw [De.leaves] at h
    rw [De.nodes]
    exact List.mem_cons_of_mem _ (a.leaf_node l h)
  | .go a b, l, h => by
    rw [De.leaves] at h
    rw [De.nodes]
    refine List.mem_cons_of_mem _ ?_
    rcases List.mem_append.mp h with h | h
    · exact List.mem_append_left _ (a.leaf_node l h)
    · exact List.mem_append_right _ (b.leaf_node l h)
  | .born k a b c d, l, h => by
    rw [De.leaves] at h
    rw [De.nodes]
    refine List.mem_cons_of_mem _ ?_
    rcases List.mem_append.mp h with h | h
    · exact List.mem_append_left _ (a.leaf_node l h)
    rcases List.mem_append.mp h with h | h
    · exact List.mem_append_right _ (List.mem_append_left _ (b.leaf_node l h))
    rcases List.mem_append.mp h with h | h
    · exact List.mem_append_right _ (List.mem_append_right _ (List.mem_append_left _ (c.leaf_node l h)))
    · exact List.mem_append_right _ (List.mem_append_right _ (List.mem_append_right _ (d.leaf_node l h)))
  | .gone, l, h => by
    rw [De.leaves] at h
    cases h
  | .when a ds es, l, h => by
    rw [De.leaves] at h
    rw [De.nodes]
    refine List.mem_cons_of_mem _ ?_
    rcases List.mem_append.mp h with h | h
    · exact List.mem_append_left _ (a.leaf_node l h)
    rcases List.mem_append.mp h with h | h
    · exact List.mem_append_right _ (List.mem_append_left _ (leaf_nodes ds l h))
    · exact List.mem_append_right _ (List.mem_append_right _ (leaf_nodes es l h))
theorem leaf_nodes : ∀ (ds : List De) (l : Lf), l ∈ lvs ds → Nd.tree (.leaf l) ∈ ndsOf ds
  | [], l, h => by
    rw [lvs] at h
    cases h
  | d :: ds, l, h => by
    rw [lvs] at h
    rw [ndsOf]
    rcases List.mem_append.mp h with h | h
    · exact List.mem_append_left _ (d.leaf_node l h)
    · exact List.mem_append_right _ (leaf_nodes ds l h)
end
end K5
set_option maxRecDepth 100000
set_option maxHeartbeats 4000000
/-! What stands within. -/
namespace KF
open PySem PySem.Spec PyProof.Rows L2
section
variable {X : Cx}
def rNeNil (K : PySem.W.Frag) (c : Bool) : R2 := fun x y H Q => ∃ ds, Dp K H x (.list ds) ∧ Dp K H y (.list []) ∧ PyData.canLayAll0 ds = true ∧ Q (.bl (c == ds.isEmpty)) H
theorem eqv_nil (ds : List PyData) : PyData.eqv (.list ds) (.list []) = ds.isEmpty := by
  cases ds <;> simp [PyData.eqv, PyData.eqvAll]
theorem op_neNil (hu : X.A.units + 64 < cLine) : OpR X (compareOp .NotEq) (rNeNil X.K false) := by
  intro pins s σ H x y v u Q I rx ry h
  obtain ⟨ds, hd, he, hc, q⟩ := h
  obtain ⟨as, r1⟩ := Dp.reads I _ x v hd rx
  obtain ⟨bs, r2⟩ := Dp.reads I _ y u he ry
  have e : (PyData.list []).depth = 1 := by simp [PyData.depth, PyData.depthAll]
  refine SeqAt.compareNe_reads r1 r2 (by simpa [PyData.canLay0] using hc) (by simp [PyData.canLay0, PyData.canLayAll0]) (by rw [e]; have := Nat.min_le_right (PyData.list ds).depth 1; omega) ⟨.bl _, H, I, rfl, ?_⟩
  rw [eqv_nil]
  simpa using q
theorem op_eqNil (hu : X.A.units + 64 < cLine) : OpR X (compareOp .Eq) (rNeNil X.K true) := by
  intro pins s σ H x y v u Q I rx ry h
  obtain ⟨ds, hd, he, hc, q⟩ := h
  obtain ⟨as, r1⟩ := Dp.reads I _ x v hd rx
  obtain ⟨bs, r2⟩ := Dp.reads I _ y u he ry
  have e : (PyData.list []).depth = 1 := by simp [PyData.depth, PyData.depthAll]
  refine SeqAt.compareEq_reads r1 r2 (by simpa [PyData.canLay0] using hc) (by simp [PyData.canLay0, PyData.canLayAll0]) (by rw [e]; have := Nat.min_le_right (PyData.list ds).depth 1; omega) ⟨.bl _, H, I, rfl, ?_⟩
  rw [eqv_nil]
  simpa using q
end
end KF
namespace K5
open PySem PySem.Spec PyProof.Rows L2 KF
def WInv (K : PySem.W.Frag) (a p : Addr) (ls : List Nd) (N : Nat) (H0 : Hp) (m : Nat) (σ : L2.St) (H' : Hp) : Prop := ∃ (v2 v3 v4 v5 v6 v7 : Option V) (ws fs : List Wt) (wv fv : List V), σ = [some (.ref a), some (.ref p), v2, v3, v4, v5, v6, v7] ∧ H' a = some (.lst wv) ∧ DpAll K H' wv (ws.map Wt.py) ∧ H' p = some (.lst fv) ∧ DpAll K H' fv (fs.map Wt.py) ∧ (∀ i ∈ ws, i.x.ok) ∧ (∀ i ∈ fs, i.x.ok) ∧ m = isz ws ∧ isz ws + fs.length = N ∧
  (∀ x, x ∈ ls ↔ (∃ i ∈ ws, x ∈ i.x.nodes) ∨ ∃ i ∈ fs, i.x = x) ∧ Frm a H0 H'
section
variable {P : Program} {w : World} {K : PySem.W.Frag} {mg : Str → Option Value} {base : Heap}
def spWi (K : PySem.W.Frag) : Sp := fun vs H Q _ => ∃ (a : Addr) (xs : List V) (ws : List Wt), vs = [.ref a] ∧ H a = some (.lst xs) ∧ DpAll K H xs (ws.map Wt.py) ∧ (∀ i ∈ ws, i.x.ok) ∧ isz ws ≤ 600 ∧
    ∀ (p : Addr) (is : List Wt) xs H', H' p = some (.lst xs) → DpAll K H' xs (is.map Wt.py) → (∀ i ∈ is, i.x.ok) → is.length = isz ws → (∀ x, (∃ j ∈ is, j.x = x) ↔ ∃ i ∈ ws, x ∈ i.x.nodes) → Frm a H H' → H p = none → Q (.ref p) H'
theorem scW : FnScope ["waiting", "found", "sort", "item", "deep", "begin", "k", "deed"] ["waiting"] (defScope s_law_within) := ⟨rfl, rfl, rfl, by decide +kernel, rfl, by decide +kernel, by decide +kernel⟩
theorem ok_law_within (T : Txt K w mg) : FnOk P w K mg base CX0 1 (He.fAd K ("_law_within", none)) (fdAt K (He.fAd K ("_law_within", none))) ["waiting"] (spWi K) := by
  refine T.F_law_within.ok scW (fun vs H Q E h => ?_) (fun cdv A outer s H vs Q E hr h => ?_)
  · obtain ⟨a, xs, ws, rfl, _⟩ := h
    rfl
  · obtain ⟨a, xs0, wq, rfl, ha, hdp, ok, hs, k⟩ := h
    refine ⟨_, PSs.nox (pss_cons (ps_set (i := 1) scW.nd rfl (Or.inl rfl) (pe_lst pa_nil))
      (pss_cons (ps_while PassesOwn.never (pt_cmpR (r := rNeNil K false) (op_neNil hr.units) (pv 0) (pe_lst pa_nil) (nomark _)) (pss_cons (ps_asg (pe_bm0 PySem.F.plainAttrs_list PySem.F.slot_list_pop PySem.F.type_list_pop mt_pop (pv 0)) (pg_tup (by rfl) (pgs_cons (pg_name (i := 2) scW.nd rfl (Or.inl rfl)) (pgs_cons (pg_name (i := 3) scW.nd rfl (Or.inl rfl)) (pgs_cons (pg_name (i := 4) scW.nd rfl (Or.inr rfl)) pgs_nil)))))
      (pss_cons (ps_expr (pe_bm PySem.F.plainAttrs_list PySem.F.slot_list_append PySem.F.type_list_append mt_append (pv 1) (pa_cons (pe_tup (pa_cons (pv 2) (pa_cons (pv 3) (pa_cons (pv 4) pa_nil)))) pa_nil)))
      (pss_cons (ps_set (i := 5) scW.nd rfl (Or.inl rfl) pe_int)
      (pss_cons (ps_if (PW.pt (pw_and (pt_cmpR op_eq (pv 2) pe_str (nomark _)) (pw_and1 (pt_cmpR (r := rIn K false) op_in_seq (pe_ix (r := rIxT K) ix_tup (pv 3) pe_int (fun _ _ => rfl)) (pe_lst (pa_cons pe_str (pa_cons pe_str (pa_cons pe_str pa_nil)))) rfl)))) (pss_one (ps_set (i := 5) scW.nd rfl (Or.inl rfl) pe_int)) pss_nil)
      (pss_cons (ps_if (PW.pt (pw_and (pt_cmpR op_eq (pv 2) pe_str (nomark _)) (pw_and1 (pt_cmpR (r := rIn K false) op_in_seq (pe_ix (r := rIxT K) ix_tup (pv 3) pe_int (fun _ _ => rfl)) (pe_lst (pa_cons pe_str (pa_cons pe_str (pa_cons pe_str (pa_cons pe_str (pa_cons pe_str (pa_cons pe_str (pa_cons pe_str (pa_cons pe_str (pa_cons pe_str pa_nil)))))))))) rfl)))) (pss_one (ps_set (i := 5) scW.nd rfl (Or.inl rfl) (pe_callB (r := Evl.rLenS K) call_len_seq (by rfl) T.n_len PyProof.Rows.Boot.«len» (pa_cons (pv 3) pa_nil)))) pss_nil)
      (pss_one (ps_for PassesOwn.never rfl (pi_range2 (by rfl) T.n_range (pa_cons (pv 5) (pa_cons (pe_callB (r := Evl.rLenS K) call_len_seq (by rfl) T.n_len PyProof.Rows.Boot.«len» (pa_cons (pv 3) pa_nil)) pa_nil))) (pg_name (i := 6) scW.nd rfl (Or.inl rfl)) (pss_one (ps_if (PW.pt (pw_and (pt_cmpR op_eq (pe_ix (r := rIxT K) ix_tup (pv 3) pe_int (fun _ _ => rfl)) pe_str (nomark _)) (pw_and1 (pt_cmpR op_gt (pv 6) pe_int (nomark _))))) (pss_one (ps_expr (pe_bm PySem.F.plainAttrs_list PySem.F.slot_list_extend PySem.F.type_list_extend mt_extend (pv 0) (pa_cons (pe_lc (own := [("deed", 7)]) (g := gName 7) (tt := tYes) (by rfl) scW.nd (pi_tup (pe_ix (r := rIxT K) ix_tup (pv 3) (pv 6) (fun _ _ => rfl))) (blkOk_by (own := [("deed", 7)]) (N := ["waiting", "found", "sort", "item", "deep", "begin", "k", "deed"]) (sc := defScope s_law_within) (by decide +kernel)) (fun _ _ _ _ _ => pg_name (i := 7) scW.nd rfl (Or.inl rfl)) (fun _ _ _ _ _ => pts_nil) (fun _ _ _ _ _ => (pe_tup (pa_cons pe_str (pa_cons (pv 7) (pa_cons (pe_op op_add (pv 4) pe_int) pa_nil)))))) pa_nil)))) (pss_one (ps_expr (pe_bm PySem.F.plainAttrs_list PySem.F.slot_list_append PySem.F.type_list_append mt_append (pv 0) (pa_cons (pe_tup (pa_cons pe_str (pa_cons (pe_ix (r := rIxT K) ix_tup (pv 3) (pv 6) (fun _ _ => rfl)) (pa_cons (pe_op op_add (pv 4) pe_int) pa_nil)))) pa_nil))))))))))))))
      (pss_one (ps_ret (pv 1))))), ?_⟩
    refine ⟨(show 0 ≤ sizeLine by decide), fun p np => ?_⟩
    have hap : a ≠ p := ne_of_none ha np
    obtain ⟨ls, hls⟩ : ∃ ls : List Nd, ls = wq.flatMap fun i => i.x.nodes := ⟨_, rfl⟩
    refine ⟨WInv K a p ls (isz wq) H, ⟨isz wq, none, none, none, none, none, none, wq, [], xs0, [], rfl, by rw [upd_ne hap]; exact ha, dpa_nl (TF.of_new np) _ _ (nls_wt _) hdp, upd_same, .nil, ok, fun i hi => (List.not_mem_nil hi).elim, rfl, rfl, fun l => ?_, Frm.of_new np⟩, fun m σ H1 hW => ?_⟩
    · rw [hls, List.mem_flatMap]
      exact ⟨fun h => .inl h, fun h => h.elim id (fun ⟨i, hi, _⟩ => (List.not_mem_nil hi).elim)⟩
    · obtain ⟨v2, v3, v4, v5, v6, v7, ws, fs, wv, fv, rfl, ha1, hw1, hp1, hf1, okw, okf, hm, hsz, hcov, fr⟩ := hW
      refine ⟨_, rfl, (show 0 ≤ sizeLine by decide), fun q nq => ?_⟩
      have sq := new_same (o := .lst []) nq
      have hw2 := dpa_nl (same_tf sq) _ _ (nls_wt ws) hw1
      have hf2 := dpa_nl (same_tf sq) _ _ (nls_wt fs) hf1
      refine ⟨_, .lst (SqL.of (sq _ _ ha1)) hw2, .lst (SqL.of upd_same) .nil, lays ws okw, ⟨_, rfl, ite2 (fun z => ?_) (fun z => ?_)⟩⟩
      · refine ⟨fun σ' H' => ∃ m', m' < m ∧ WInv K a p ls (isz wq) H m' σ' H', fun _ _ h => h, ?_⟩
        obtain ⟨ws0, i, rfl⟩ : ∃ ws0 i, ws = ws0 ++ [i] := by
          rcases List.eq_nil_or_concat ws with h | ⟨l, b, h⟩
          · subst h
            simp at z
          · exact ⟨l, b, by simpa using h⟩
        obtain ⟨N, hN⟩ : ∃ N, N = isz wq := ⟨_, rfl⟩
        rw [← hN] at hsz hs ⊢
        rw [List.map_append] at hw2
        obtain ⟨wv0, y, rfl, hw3, hy⟩ := dpa_split hw2
        have ha2 := sq _ _ ha1
        refine ⟨_, rfl, .inl ⟨rfl, _, SqL.of ha2⟩, a, _, y, rfl, rfl, ha2, by simp, ?_⟩
        rw [List.dropLast_concat]
        have tfa : TF (upd H1 q (.lst [])) (upd (upd H1 q (.lst [])) a (.lst wv0)) := TF.of_lst ha2
        have hy2 := dp_nl tfa _ _ i.nl hy
        have hw4 := dpa_nl tfa _ _ (nls_wt ws0) hw3
        have hf3 := dpa_nl tfa _ _ (nls_wt fs) hf2
        have hp3 : (upd (upd H1 q (.lst [])) a (.lst wv0)) p = some (.lst fv) := by
          rw [upd_ne hap.symm]
          exact sq _ _ hp1
        have fr3 : Frm a H (upd (upd H1 q (.lst [])) a (.lst wv0)) := (fr.trans (Frm.of_same sq)).trans Frm.of_upd
        have ha3 : (upd (upd H1 q (.lst [])) a (.lst wv0)) a = some (.lst wv0) := upd_same
        have oki := okw i (by simp)
        have okw0 : ∀ j ∈ ws0, j.x.ok := fun j hj => okw j (by simp [hj])
        rw [isz_app, isz_one] at hm hsz
        obtain ⟨H2, hH2⟩ : ∃ H2, H2 = upd (upd H1 q (.lst [])) a (.lst wv0) := ⟨_, rfl⟩
        rw [← hH2] at hy2 hw4 hf3 hp3 fr3 ha3 ⊢
        cases hy2 with
        | @tup b ys _ hsq hall =>
          cases hall with
          | cons hs1 hr1 =>
            cases hr1 with
            | @cons iv _ _ _ hiv hr2 =>
              cases hr2 with
              | cons hn hr3 =>
                cases hr3
                cases hs1
                cases hn
                refine ⟨b, _, rfl, hsq, rfl, ?_⟩
                refine ⟨_, _, rfl, _, _, rfl, _, _, rfl, rfl, ?_⟩
                refine ⟨_, rfl, .inl ⟨rfl, _, SqL.of hp3⟩, _, rfl, _, rfl, _, rfl, (show 3 ≤ sizeLine by decide), fun t nt => ?_⟩
                have st := new_same (o := .tup [.str i.sort, iv, .int i.n]) nt
                have hfl : fv.length < 100000 := by
                  rw [dpa_len hf3, List.length_map]
                  omega
                refine ⟨p, fv, .ref t, rfl, rfl, st _ _ hp3, Nat.lt_of_lt_of_le hfl (by decide), ?_⟩
                have st' := st _ _ hp3
                have tf6 := (same_tf st).trans (TF.of_lst (o := .lst (fv ++ [.ref t])) st')
                have hw6 := dpa_nl tf6 _ _ (nls_wt ws0) hw4
                have hiv6 := dp_nl tf6 _ _ i.x.nl hiv
                have hf6 := dpa_snoc (dpa_nl tf6 _ _ (nls_wt fs) hf3) (d := i.py) (v := .ref t) (.tup ((TF.of_lst (o := .lst (fv ++ [.ref t])) st').sq (SqT.of upd_same)) (.cons (.str _) (.cons hiv6 (.cons (.int _) .nil))))
                have e6 : fs.map Wt.py ++ [i.py] = (fs ++ [i]).map Wt.py := by simp
                rw [e6] at hf6
                have ha6 : (upd (upd H2 t (.tup [.str i.sort, iv, .int i.n])) p (.lst (fv ++ [.ref t]))) a = some (.lst wv0) := by
                  rw [upd_ne hap]
                  exact st _ _ ha3
                have hp6 : (upd (upd H2 t (.tup [.str i.sort, iv, .int i.n])) p (.lst (fv ++ [.ref t]))) p = some (.lst (fv ++ [.ref t])) := upd_same
                have fr6 : Frm a H (upd (upd H2 t (.tup [.str i.sort, iv, .int i.n])) p (.lst (fv ++ [.ref t]))) := Frm.fresh (fr3.trans (Frm.of_same st)) np
                obtain ⟨H6, hH6⟩ : ∃ H6, H6 = upd (upd H2 t (.tup [.str i.sort, iv, .int i.n])) p (.lst (fv ++ [.ref t])) := ⟨_, rfl⟩
                rw [← hH6] at hw6 hiv6 hf6 ha6 hp6 fr6 ⊢
                obtain ⟨ix, n'⟩ := i
                dsimp only at hiv6 oki hm hsz ⊢
                rw [Nd.py_eq] at hiv6
                obtain ⟨c, xs, rfl, hsq6, dall6⟩ := dp_tup hiv6
                have hnm := dpa_str0 dall6
                have hxl : xs.length = ix.sg.length + ix.ch.length + 1 := by rw [dpa_len dall6, List.length_cons, Nd.args_len]
                have hcl := ix.ch_len
                have hnls : NLs (.str ix.nm :: ix.args) := ⟨trivial, ix.args_nl⟩
                have hgl := ix.sg_len
                cases ix with
                | deed d =>
                  refine ⟨_, rfl, rfl, _, rfl, ite2 (fun _ => ?_) (fun z => absurd (by show decide (V.str "deed" = V.str "deed") = true; decide) z)⟩
                  refine ⟨_, rfl, c, xs, _, _, rfl, rfl, hsq6, atI_nat (j := 0) hnm, (show 3 ≤ sizeLine by decide), fun q2 nq2 => ⟨q2, _, rfl, .inl (SqL.of upd_same), rfl, rfl, _, rfl, ?_⟩⟩
                  have sx := new_same (o := .lst [.str "own", .str "mark", .str "born"]) nq2
                  have ha6 := sx _ _ ha6
                  have hp6 := sx _ _ hp6
                  have hw6 := dpa_nl (same_tf sx) _ _ (nls_wt _) hw6
                  have hf6 := dpa_nl (same_tf sx) _ _ (nls_wt _) hf6
                  have hsq6 := (same_tf sx).sq hsq6
                  have dall6 := dpa_nl (same_tf sx) _ _ hnls dall6
                  have fr6 := fr6.trans (Frm.of_same sx)
                  rcases d.begin with ⟨hb1, hb2⟩ | ⟨hb1, hb2⟩
                  · refine ite2 (fun _ => ?_) (fun z => absurd hb1 z)
                    refine ⟨_, rfl, rfl, _, rfl, ite2 (fun z => absurd z (by show ¬ decide (V.str "deed" = V.str "tree") = true; decide)) (fun _ => iteF ?_)⟩
                    refine ⟨_, rfl, _, rfl, c, xs, rfl, .inr hsq6, _, _, rfl, ⟨by omega, by omega, by omega, by omega⟩, ?_⟩
                    refine for_range (lo := 2) (fun j σ' H' => ∃ (v6 : Option V) (wv : List V), σ' = [some (.ref a), some (.ref p), some (.str "deed"), some (.ref c), some (.int n'), some (.int 2), v6, v7] ∧ H' a = some (.lst wv) ∧ DpAll K H' wv ((ws0 ++ kw ((Nd.deed d).ch.take j) (n' + 1)).map Wt.py) ∧ H' p = some (.lst (fv ++ [.ref t])) ∧ DpAll K H' (fv ++ [.ref t]) ((fs ++ [Wt.mk (Nd.deed d) n']).map Wt.py) ∧ SqT K H' c xs ∧ DpAll K H' xs (.str (Nd.deed d).nm :: (Nd.deed d).args) ∧ Frm a H H') ⟨_, _, rfl, ha6, by simpa [kw] using hw6, hp6, hf6, hsq6, dall6, fr6⟩ (fun j σ' H7 hj hPv => ?_) (fun σ' H7 hPv => ?_)
                    · obtain ⟨v6', wv, rfl, ha7, hw7, hp7, hf7, hsq7, hall7, fr7⟩ := hPv
                      have hj2 : j < (Nd.deed d).ch.length := by omega
                      have hk : (2 : Int) + (j : Int) = (((Nd.deed d).sg.length + 1 + j : Nat) : Int) := by omega
                      rw [hk]
                      obtain ⟨vk, hvk, dvk⟩ := dpa_get hall7 (show (PyData.str (Nd.deed d).nm :: (Nd.deed d).args)[(Nd.deed d).sg.length + 1 + j]? = some (Nd.deed d).ch[j].py by rw [show (Nd.deed d).sg.length + 1 + j = ((Nd.deed d).sg.length + j) + 1 by omega, List.getElem?_cons_succ]; exact (Nd.deed d).args_ch j hj2)
                      have hwl : wv.length < 100000 := by
                        have h1 := len_isz (ws0 ++ kw ((Nd.deed d).ch.take j) (n' + 1))
                        have h2 : isz (kw ((Nd.deed d).ch.take j) (n' + 1)) ≤ isz (kw (Nd.deed d).ch (n' + 1)) := by
                          have e : kw (Nd.deed d).ch (n' + 1) = kw ((Nd.deed d).ch.take j) (n' + 1) ++ kw ((Nd.deed d).ch.drop j) (n' + 1) := by
                            rw [kw, kw, kw, ← List.map_append, ← List.flatMap_append, List.take_append_drop]
                          rw [e, isz_app]
                          omega
                        have h3 := isz_kw (Nd.deed d) (n' + 1)
                        rw [isz_app] at h1
                        rw [dpa_len hw7, List.length_map]
                        omega
                      have hnm := dpa_str0 hall7
                      refine ⟨_, rfl, c, xs, _, _, rfl, rfl, hsq7, atI_nat (j := 0) hnm, rfl, _, rfl, ?_⟩
                      have hkw := kw_take (Nd.deed d).ch (n' + 1) j hj2
                      have hcj := List.getElem?_eq_getElem hj2
                      rcases (Nd.deed d).when oki j _ hcj with ⟨e, hc, hw⟩ | ⟨l, hc, hw1, hw2⟩
                      · rw [hc] at dvk hkw
                        refine ite2 (fun z => ?_) (fun _ => iteF ?_)
                        · have hk1 : ¬ (1 < (Nd.deed d).sg.length + 1 + j) := by
                            rcases hw with hw | hw
                            · rw [hw] at z
                              cases z
                            · omega
                          refine ⟨_, rfl, _, _, rfl, rfl, _, rfl, ite2 (fun z => absurd (of_decide_eq_true z) (by omega)) (fun _ => ?_)⟩
                          refine ⟨_, rfl, .inl ⟨rfl, _, SqL.of ha7⟩, _, rfl, _, rfl, c, xs, _, vk, rfl, rfl, hsq7, atI_nat hvk, _, rfl, _, _, rfl, rfl, (show 3 ≤ sizeLine by decide), fun t2 nt2 => ?_⟩
                          have st2 := new_same (o := .tup [.str "tree", vk, .int (n' + 1)]) nt2
                          have ha8 := st2 _ _ ha7
                          have tf := (same_tf st2).trans (TF.of_lst (o := .lst (wv ++ [.ref t2])) ha8)
                          refine ⟨a, wv, .ref t2, rfl, rfl, ha8, Nat.lt_of_lt_of_le hwl (by decide), _, _, rfl, upd_same, ?_, ?_, dpa_nl tf _ _ (nls_wt _) hf7, tf.sq hsq7, dpa_nl tf _ _ hnls hall7, (fr7.trans (Frm.of_same st2)).trans Frm.of_upd⟩
                          · rw [hkw, ← List.append_assoc, List.map_append]
                            refine dpa_snoc (dpa_nl tf _ _ (nls_wt _) hw7) ?_
                            exact .tup ((TF.of_lst (o := .lst (wv ++ [.ref t2])) ha8).sq (SqT.of upd_same)) (.cons (.str _) (.cons (dp_nl tf _ _ (Ex.nl _) dvk) (.cons (.int _) .nil)))
                          · rw [upd_ne hap.symm]
                            exact st2 _ _ hp7
                        · refine ⟨_, rfl, .inl ⟨rfl, _, SqL.of ha7⟩, _, rfl, _, rfl, c, xs, _, vk, rfl, rfl, hsq7, atI_nat hvk, _, rfl, _, _, rfl, rfl, (show 3 ≤ sizeLine by decide), fun t2 nt2 => ?_⟩
                          have st2 := new_same (o := .tup [.str "tree", vk, .int (n' + 1)]) nt2
                          have ha8 := st2 _ _ ha7
                          have tf := (same_tf st2).trans (TF.of_lst (o := .lst (wv ++ [.ref t2])) ha8)
                          refine ⟨a, wv, .ref t2, rfl, rfl, ha8, Nat.lt_of_lt_of_le hwl (by decide), _, _, rfl, upd_same, ?_, ?_, dpa_nl tf _ _ (nls_wt _) hf7, tf.sq hsq7, dpa_nl tf _ _ hnls hall7, (fr7.trans (Frm.of_same st2)).trans Frm.of_upd⟩
                          · rw [hkw, ← List.append_assoc, List.map_append]
                            refine dpa_snoc (dpa_nl tf _ _ (nls_wt _) hw7) ?_
                            exact .tup ((TF.of_lst (o := .lst (wv ++ [.ref t2])) ha8).sq (SqT.of upd_same)) (.cons (.str _) (.cons (dp_nl tf _ _ (Ex.nl _) dvk) (.cons (.int _) .nil)))
                          · rw [upd_ne hap.symm]
                            exact st2 _ _ hp7
                      · rw [hc] at dvk hkw
                        refine ite2 (fun _ => ?_) (fun z => absurd hw1 z)
                        refine ⟨_, rfl, _, _, rfl, rfl, _, rfl, ite2 (fun _ => ?_) (fun z => absurd (decide_eq_true (by omega)) z)⟩
                        obtain ⟨lr, lv, rfl, lsq, lall⟩ := dp_tup dvk
                        refine ⟨_, rfl, .inl ⟨rfl, _, SqL.of ha7⟩, _, rfl, _, rfl, c, xs, _, .ref lr, rfl, rfl, hsq7, atI_nat hvk, lr, rfl, ⟨_, lsq⟩, fun D hD => ?_⟩
                        have hlv : lv.length = l.length := by rw [dpa_len lall, List.length_map]
                        have hll : l.length < 100000 := by
                          have h1 := len_isz ((Ch.ds l).kids.map fun x => (⟨x, n' + 1⟩ : Wt))
                          have h2 : isz ((Ch.ds l).kids.map fun x => (⟨x, n' + 1⟩ : Wt)) ≤ isz (kw (Nd.deed d).ch (n' + 1)) := by
                            have e : kw (Nd.deed d).ch (n' + 1) = kw ((Nd.deed d).ch.take (j + 1)) (n' + 1) ++ kw ((Nd.deed d).ch.drop (j + 1)) (n' + 1) := by
                              rw [kw, kw, kw, ← List.map_append, ← List.flatMap_append, List.take_append_drop]
                            rw [e, isz_app, hkw, isz_app]
                            omega
                          have h3 := isz_kw (Nd.deed d) (n' + 1)
                          have h4 : ((Ch.ds l).kids.map fun x => (⟨x, n' + 1⟩ : Wt)).length = l.length := by rw [List.length_map, Ch.kids, List.length_map]
                          omega
                        have tD := TF.of_new (o := .lst []) hD
                        refine lc_tup (xs := lv) (fun i H' => ∃ acc, H' D = some (.lst acc) ∧ DpAll K H' acc (((l.take i).map fun d => (⟨.deed d, n' + 1⟩ : Wt)).map Wt.py) ∧ Same H7 H') ⟨[], upd_same, .nil, new_same hD⟩ (fun i H' _ h => (same_tf h.choose_spec.2.2).sq lsq) (fun i y H' hy hPv => ?_) (fun H8 hPv => ?_)
                        · obtain ⟨acc, hacc, hda, sm⟩ := hPv
                          have hi : i < l.length := by
                            rw [← hlv]
                            exact (List.getElem?_eq_some_iff.mp hy).1
                          obtain ⟨v, hv, dv⟩ := dpa_get lall (show (l.map De.py)[i]? = some l[i].py by rw [List.getElem?_map, List.getElem?_eq_getElem hi]; rfl)
                          rw [hy] at hv
                          cases hv
                          refine ⟨rfl, ?_⟩
                          dsimp only [tYes]
                          rw [if_pos rfl]
                          refine ⟨_, rfl, _, rfl, _, _, rfl, rfl, (show 3 ≤ sizeLine by decide), fun t2 nt2 => ?_⟩
                          have st2 := new_same (o := .tup [.str "deed", y, .int (n' + 1)]) nt2
                          have hacc2 := st2 _ _ hacc
                          have tfx := TF.of_lst (o := .lst (acc ++ [.ref t2])) hacc2
                          refine ⟨acc, hacc2, ?_, acc ++ [.ref t2], upd_same, ?_, fun b o z => ?_⟩
                          · rw [dpa_len hda, List.length_map, List.length_map, List.length_take]
                            exact Nat.lt_of_lt_of_le (show min i l.length < 100000 by omega) (by decide)
                          · rw [List.map_map, take_map _ _ _ hi, ← List.map_map]
                            refine dpa_snoc (dpa_nl ((same_tf st2).trans tfx) _ _ (nls_wt _) hda) ?_
                            exact .tup (tfx.sq (SqT.of upd_same)) (.cons (.str _) (.cons (dp_nl (((same_tf sm).trans (same_tf st2)).trans tfx) _ _ (De.nl _) dv) (.cons (.int _) .nil)))
                          · rw [upd_ne (ne_of_none z hD)]
                            exact st2 _ _ (sm _ _ z)
                        obtain ⟨acc, hacc, hda, sm⟩ := hPv
                        rw [List.take_of_length_le (by omega)] at hda
                        have ha8 := sm _ _ ha7
                        have tf := (same_tf sm).trans (TF.of_lst (o := .lst (wv ++ acc)) ha8)
                        refine ⟨a, D, wv, acc, rfl, rfl, ha8, hacc, ?_, _, _, rfl, upd_same, ?_, ?_, ?_, tf.sq hsq7, dpa_nl tf _ _ hnls hall7, (fr7.trans (Frm.of_same sm)).trans Frm.of_upd⟩
                        · have e : acc.length = l.length := by rw [dpa_len hda, List.length_map, List.length_map]
                          exact Nat.le_trans (show wv.length + acc.length ≤ 200000 by omega) (by decide)
                        · have ek : (Ch.ds l).kids.map (fun x => (⟨x, n' + 1⟩ : Wt)) = l.map fun d => (⟨.deed d, n' + 1⟩ : Wt) := by
                            rw [Ch.kids, List.map_map]
                            rfl
                          rw [hkw, ← List.append_assoc, List.map_append, ek]
                          exact dpa_app (dpa_nl (TF.of_lst (o := .lst (wv ++ acc)) ha8) _ _ (nls_wt _) hda) (dpa_nl tf _ _ (nls_wt _) hw7)
                        · rw [upd_ne hap.symm]
                          exact sm _ _ hp7
                        · exact dpa_nl tf _ _ (nls_wt _) hf7
                    · obtain ⟨v6', wv, rfl, ha7, hw7, hp7, hf7, hsq7, hall7, fr7⟩ := hPv
                      have hn : ((xs.length : Int) - 2).toNat = (Nd.deed d).ch.length := by omega
                      rw [hn, List.take_length] at hw7
                      have hks := isz_kw (Nd.deed d) (n' + 1)
                      refine ⟨isz (ws0 ++ kw (Nd.deed d).ch (n' + 1)), by rw [isz_app]; omega, _, _, _, _, _, _, _, _, _, _, rfl, ha7, hw7, hp7, hf7, fun x hx => ?_, fun x hx => ?_, rfl, by rw [isz_app, List.length_append, List.length_singleton]; omega, fun l => ?_, fr7⟩
                      · rcases List.mem_append.mp hx with hx | hx
                        · exact okw0 x hx
                        · rw [kw] at hx
                          obtain ⟨y, hy, rfl⟩ := List.mem_map.mp hx
                          exact (Nd.deed d).kids_ok oki y hy
                      · rcases List.mem_append.mp hx with hx | hx
                        · exact okf x hx
                        · rw [List.mem_singleton.mp hx]
                          exact oki
                      · rw [hcov]
                        constructor
                        · rintro (⟨x, hx, hxl⟩ | ⟨x, hx, hxd⟩)
                          · rcases List.mem_append.mp hx with hx | hx
                            · exact .inl ⟨x, List.mem_append_left _ hx, hxl⟩
                            · rw [List.mem_singleton.mp hx] at hxl
                              rw [show (Wt.mk (Nd.deed d) n').x = (Nd.deed d) from rfl, Nd.nodes_eq] at hxl
                              rcases List.mem_cons.mp hxl with hxl | hxl
                              · exact .inr ⟨⟨(Nd.deed d), n'⟩, by simp, hxl.symm⟩
                              · obtain ⟨e1, he1, hl1⟩ := List.mem_flatMap.mp hxl
                                refine .inl ⟨⟨e1, n' + 1⟩, List.mem_append_right _ ?_, hl1⟩
                                rw [kw]
                                exact List.mem_map.mpr ⟨e1, he1, rfl⟩
                          · exact .inr ⟨x, List.mem_append_left _ hx, hxd⟩
                        · rintro (⟨x, hx, hxl⟩ | ⟨x, hx, hxd⟩)
                          · rcases List.mem_append.mp hx with hx | hx
                            · exact .inl ⟨x, List.mem_append_left _ hx, hxl⟩
                            · rw [kw] at hx
                              obtain ⟨y, hy, rfl⟩ := List.mem_map.mp hx
                              refine .inl ⟨⟨(Nd.deed d), n'⟩, by simp, ?_⟩
                              show l ∈ ((Nd.deed d)).nodes
                              rw [Nd.nodes_eq]
                              exact List.mem_cons_of_mem _ (List.mem_flatMap.mpr ⟨y, hy, hxl⟩)
                          · rcases List.mem_append.mp hx with hx | hx
                            · exact .inr ⟨x, hx, hxd⟩
                            · rw [List.mem_singleton.mp hx] at hxd
                              refine .inl ⟨⟨(Nd.deed d), n'⟩, by simp, ?_⟩
                              show l ∈ ((Nd.deed d)).nodes
                              rw [Nd.nodes_eq, ← show (Wt.mk (Nd.deed d) n').x = l from hxd]
                              exact List.mem_cons_self
                  · refine ite2 (fun z => absurd z (by show ¬ inV (V.str (Nd.deed d).nm) three = true; rw [hb1]; decide)) (fun _ => ?_)
                    refine ⟨_, rfl, rfl, _, rfl, ite2 (fun z => absurd z (by show ¬ decide (V.str "deed" = V.str "tree") = true; decide)) (fun _ => iteF ?_)⟩
                    refine ⟨_, rfl, _, rfl, c, xs, rfl, .inr hsq6, _, _, rfl, ⟨by omega, by omega, by omega, by omega⟩, ?_⟩
                    refine for_range (lo := 1) (fun j σ' H' => ∃ (v6 : Option V) (wv : List V), σ' = [some (.ref a), some (.ref p), some (.str "deed"), some (.ref c), some (.int n'), some (.int 1), v6, v7] ∧ H' a = some (.lst wv) ∧ DpAll K H' wv ((ws0 ++ kw ((Nd.deed d).ch.take j) (n' + 1)).map Wt.py) ∧ H' p = some (.lst (fv ++ [.ref t])) ∧ DpAll K H' (fv ++ [.ref t]) ((fs ++ [Wt.mk (Nd.deed d) n']).map Wt.py) ∧ SqT K H' c xs ∧ DpAll K H' xs (.str (Nd.deed d).nm :: (Nd.deed d).args) ∧ Frm a H H') ⟨_, _, rfl, ha6, by simpa [kw] using hw6, hp6, hf6, hsq6, dall6, fr6⟩ (fun j σ' H7 hj hPv => ?_) (fun σ' H7 hPv => ?_)
                    · obtain ⟨v6', wv, rfl, ha7, hw7, hp7, hf7, hsq7, hall7, fr7⟩ := hPv
                      have hj2 : j < (Nd.deed d).ch.length := by omega
                      have hk : (1 : Int) + (j : Int) = (((Nd.deed d).sg.length + 1 + j : Nat) : Int) := by omega
                      rw [hk]
                      obtain ⟨vk, hvk, dvk⟩ := dpa_get hall7 (show (PyData.str (Nd.deed d).nm :: (Nd.deed d).args)[(Nd.deed d).sg.length + 1 + j]? = some (Nd.deed d).ch[j].py by rw [show (Nd.deed d).sg.length + 1 + j = ((Nd.deed d).sg.length + j) + 1 by omega, List.getElem?_cons_succ]; exact (Nd.deed d).args_ch j hj2)
                      have hwl : wv.length < 100000 := by
                        have h1 := len_isz (ws0 ++ kw ((Nd.deed d).ch.take j) (n' + 1))
                        have h2 : isz (kw ((Nd.deed d).ch.take j) (n' + 1)) ≤ isz (kw (Nd.deed d).ch (n' + 1)) := by
                          have e : kw (Nd.deed d).ch (n' + 1) = kw ((Nd.deed d).ch.take j) (n' + 1) ++ kw ((Nd.deed d).ch.drop j) (n' + 1) := by
                            rw [kw, kw, kw, ← List.map_append, ← List.flatMap_append, List.take_append_drop]
                          rw [e, isz_app]
                          omega
                        have h3 := isz_kw (Nd.deed d) (n' + 1)
                        rw [isz_app] at h1
                        rw [dpa_len hw7, List.length_map]
                        omega
                      have hnm := dpa_str0 hall7
                      refine ⟨_, rfl, c, xs, _, _, rfl, rfl, hsq7, atI_nat (j := 0) hnm, rfl, _, rfl, ?_⟩
                      have hkw := kw_take (Nd.deed d).ch (n' + 1) j hj2
                      have hcj := List.getElem?_eq_getElem hj2
                      rcases (Nd.deed d).when oki j _ hcj with ⟨e, hc, hw⟩ | ⟨l, hc, hw1, hw2⟩
                      · rw [hc] at dvk hkw
                        refine ite2 (fun z => ?_) (fun _ => iteF ?_)
                        · have hk1 : ¬ (1 < (Nd.deed d).sg.length + 1 + j) := by
                            rcases hw with hw | hw
                            · rw [hw] at z
                              cases z
                            · omega
                          refine ⟨_, rfl, _, _, rfl, rfl, _, rfl, ite2 (fun z => absurd (of_decide_eq_true z) (by omega)) (fun _ => ?_)⟩
                          refine ⟨_, rfl, .inl ⟨rfl, _, SqL.of ha7⟩, _, rfl, _, rfl, c, xs, _, vk, rfl, rfl, hsq7, atI_nat hvk, _, rfl, _, _, rfl, rfl, (show 3 ≤ sizeLine by decide), fun t2 nt2 => ?_⟩
                          have st2 := new_same (o := .tup [.str "tree", vk, .int (n' + 1)]) nt2
                          have ha8 := st2 _ _ ha7
                          have tf := (same_tf st2).trans (TF.of_lst (o := .lst (wv ++ [.ref t2])) ha8)
                          refine ⟨a, wv, .ref t2, rfl, rfl, ha8, Nat.lt_of_lt_of_le hwl (by decide), _, _, rfl, upd_same, ?_, ?_, dpa_nl tf _ _ (nls_wt _) hf7, tf.sq hsq7, dpa_nl tf _ _ hnls hall7, (fr7.trans (Frm.of_same st2)).trans Frm.of_upd⟩
                          · rw [hkw, ← List.append_assoc, List.map_append]
                            refine dpa_snoc (dpa_nl tf _ _ (nls_wt _) hw7) ?_
                            exact .tup ((TF.of_lst (o := .lst (wv ++ [.ref t2])) ha8).sq (SqT.of upd_same)) (.cons (.str _) (.cons (dp_nl tf _ _ (Ex.nl _) dvk) (.cons (.int _) .nil)))
                          · rw [upd_ne hap.symm]
                            exact st2 _ _ hp7
                        · refine ⟨_, rfl, .inl ⟨rfl, _, SqL.of ha7⟩, _, rfl, _, rfl, c, xs, _, vk, rfl, rfl, hsq7, atI_nat hvk, _, rfl, _, _, rfl, rfl, (show 3 ≤ sizeLine by decide), fun t2 nt2 => ?_⟩
                          have st2 := new_same (o := .tup [.str "tree", vk, .int (n' + 1)]) nt2
                          have ha8 := st2 _ _ ha7
                          have tf := (same_tf st2).trans (TF.of_lst (o := .lst (wv ++ [.ref t2])) ha8)
                          refine ⟨a, wv, .ref t2, rfl, rfl, ha8, Nat.lt_of_lt_of_le hwl (by decide), _, _, rfl, upd_same, ?_, ?_, dpa_nl tf _ _ (nls_wt _) hf7, tf.sq hsq7, dpa_nl tf _ _ hnls hall7, (fr7.trans (Frm.of_same st2)).trans Frm.of_upd⟩
                          · rw [hkw, ← List.append_assoc, List.map_append]
                            refine dpa_snoc (dpa_nl tf _ _ (nls_wt _) hw7) ?_
                            exact .tup ((TF.of_lst (o := .lst (wv ++ [.ref t2])) ha8).sq (SqT.of upd_same)) (.cons (.str _) (.cons (dp_nl tf _ _ (Ex.nl _) dvk) (.cons (.int _) .nil)))
                          · rw [upd_ne hap.symm]
                            exact st2 _ _ hp7
                      · rw [hc] at dvk hkw
                        refine ite2 (fun _ => ?_) (fun z => absurd hw1 z)
                        refine ⟨_, rfl, _, _, rfl, rfl, _, rfl, ite2 (fun _ => ?_) (fun z => absurd (decide_eq_true (by omega)) z)⟩
                        obtain ⟨lr, lv, rfl, lsq, lall⟩ := dp_tup dvk
                        refine ⟨_, rfl, .inl ⟨rfl, _, SqL.of ha7⟩, _, rfl, _, rfl, c, xs, _, .ref lr, rfl, rfl, hsq7, atI_nat hvk, lr, rfl, ⟨_, lsq⟩, fun D hD => ?_⟩
                        have hlv : lv.length = l.length := by rw [dpa_len lall, List.length_map]
                        have hll : l.length < 100000 := by
                          have h1 := len_isz ((Ch.ds l).kids.map fun x => (⟨x, n' + 1⟩ : Wt))
                          have h2 : isz ((Ch.ds l).kids.map fun x => (⟨x, n' + 1⟩ : Wt)) ≤ isz (kw (Nd.deed d).ch (n' + 1)) := by
                            have e : kw (Nd.deed d).ch (n' + 1) = kw ((Nd.deed d).ch.take (j + 1)) (n' + 1) ++ kw ((Nd.deed d).ch.drop (j + 1)) (n' + 1) := by
                              rw [kw, kw, kw, ← List.map_append, ← List.flatMap_append, List.take_append_drop]
                            rw [e, isz_app, hkw, isz_app]
                            omega
                          have h3 := isz_kw (Nd.deed d) (n' + 1)
                          have h4 : ((Ch.ds l).kids.map fun x => (⟨x, n' + 1⟩ : Wt)).length = l.length := by rw [List.length_map, Ch.kids, List.length_map]
                          omega
                        have tD := TF.of_new (o := .lst []) hD
                        refine lc_tup (xs := lv) (fun i H' => ∃ acc, H' D = some (.lst acc) ∧ DpAll K H' acc (((l.take i).map fun d => (⟨.deed d, n' + 1⟩ : Wt)).map Wt.py) ∧ Same H7 H') ⟨[], upd_same, .nil, new_same hD⟩ (fun i H' _ h => (same_tf h.choose_spec.2.2).sq lsq) (fun i y H' hy hPv => ?_) (fun H8 hPv => ?_)
                        · obtain ⟨acc, hacc, hda, sm⟩ := hPv
                          have hi : i < l.length := by
                            rw [← hlv]
                            exact (List.getElem?_eq_some_iff.mp hy).1
                          obtain ⟨v, hv, dv⟩ := dpa_get lall (show (l.map De.py)[i]? = some l[i].py by rw [List.getElem?_map, List.getElem?_eq_getElem hi]; rfl)
                          rw [hy] at hv
                          cases hv
                          refine ⟨rfl, ?_⟩
                          dsimp only [tYes]
                          rw [if_pos rfl]
                          refine ⟨_, rfl, _, rfl, _, _, rfl, rfl, (show 3 ≤ sizeLine by decide), fun t2 nt2 => ?_⟩
                          have st2 := new_same (o := .tup [.str "deed", y, .int (n' + 1)]) nt2
                          have hacc2 := st2 _ _ hacc
                          have tfx := TF.of_lst (o := .lst (acc ++ [.ref t2])) hacc2
                          refine ⟨acc, hacc2, ?_, acc ++ [.ref t2], upd_same, ?_, fun b o z => ?_⟩
                          · rw [dpa_len hda, List.length_map, List.length_map, List.length_take]
                            exact Nat.lt_of_lt_of_le (show min i l.length < 100000 by omega) (by decide)
                          · rw [List.map_map, take_map _ _ _ hi, ← List.map_map]
                            refine dpa_snoc (dpa_nl ((same_tf st2).trans tfx) _ _ (nls_wt _) hda) ?_
                            exact .tup (tfx.sq (SqT.of upd_same)) (.cons (.str _) (.cons (dp_nl (((same_tf sm).trans (same_tf st2)).trans tfx) _ _ (De.nl _) dv) (.cons (.int _) .nil)))
                          · rw [upd_ne (ne_of_none z hD)]
                            exact st2 _ _ (sm _ _ z)
                        obtain ⟨acc, hacc, hda, sm⟩ := hPv
                        rw [List.take_of_length_le (by omega)] at hda
                        have ha8 := sm _ _ ha7
                        have tf := (same_tf sm).trans (TF.of_lst (o := .lst (wv ++ acc)) ha8)
                        refine ⟨a, D, wv, acc, rfl, rfl, ha8, hacc, ?_, _, _, rfl, upd_same, ?_, ?_, ?_, tf.sq hsq7, dpa_nl tf _ _ hnls hall7, (fr7.trans (Frm.of_same sm)).trans Frm.of_upd⟩
                        · have e : acc.length = l.length := by rw [dpa_len hda, List.length_map, List.length_map]
                          exact Nat.le_trans (show wv.length + acc.length ≤ 200000 by omega) (by decide)
                        · have ek : (Ch.ds l).kids.map (fun x => (⟨x, n' + 1⟩ : Wt)) = l.map fun d => (⟨.deed d, n' + 1⟩ : Wt) := by
                            rw [Ch.kids, List.map_map]
                            rfl
                          rw [hkw, ← List.append_assoc, List.map_append, ek]
                          exact dpa_app (dpa_nl (TF.of_lst (o := .lst (wv ++ acc)) ha8) _ _ (nls_wt _) hda) (dpa_nl tf _ _ (nls_wt _) hw7)
                        · rw [upd_ne hap.symm]
                          exact sm _ _ hp7
                        · exact dpa_nl tf _ _ (nls_wt _) hf7
                    · obtain ⟨v6', wv, rfl, ha7, hw7, hp7, hf7, hsq7, hall7, fr7⟩ := hPv
                      have hn : ((xs.length : Int) - 1).toNat = (Nd.deed d).ch.length := by omega
                      rw [hn, List.take_length] at hw7
                      have hks := isz_kw (Nd.deed d) (n' + 1)
                      refine ⟨isz (ws0 ++ kw (Nd.deed d).ch (n' + 1)), by rw [isz_app]; omega, _, _, _, _, _, _, _, _, _, _, rfl, ha7, hw7, hp7, hf7, fun x hx => ?_, fun x hx => ?_, rfl, by rw [isz_app, List.length_append, List.length_singleton]; omega, fun l => ?_, fr7⟩
                      · rcases List.mem_append.mp hx with hx | hx
                        · exact okw0 x hx
                        · rw [kw] at hx
                          obtain ⟨y, hy, rfl⟩ := List.mem_map.mp hx
                          exact (Nd.deed d).kids_ok oki y hy
                      · rcases List.mem_append.mp hx with hx | hx
                        · exact okf x hx
                        · rw [List.mem_singleton.mp hx]
                          exact oki
                      · rw [hcov]
                        constructor
                        · rintro (⟨x, hx, hxl⟩ | ⟨x, hx, hxd⟩)
                          · rcases List.mem_append.mp hx with hx | hx
                            · exact .inl ⟨x, List.mem_append_left _ hx, hxl⟩
                            · rw [List.mem_singleton.mp hx] at hxl
                              rw [show (Wt.mk (Nd.deed d) n').x = (Nd.deed d) from rfl, Nd.nodes_eq] at hxl
                              rcases List.mem_cons.mp hxl with hxl | hxl
                              · exact .inr ⟨⟨(Nd.deed d), n'⟩, by simp, hxl.symm⟩
                              · obtain ⟨e1, he1, hl1⟩ := List.mem_flatMap.mp hxl
                                refine .inl ⟨⟨e1, n' + 1⟩, List.mem_append_right _ ?_, hl1⟩
                                rw [kw]
                                exact List.mem_map.mpr ⟨e1, he1, rfl⟩
                          · exact .inr ⟨x, List.mem_append_left _ hx, hxd⟩
                        · rintro (⟨x, hx, hxl⟩ | ⟨x, hx, hxd⟩)
                          · rcases List.mem_append.mp hx with hx | hx
                            · exact .inl ⟨x, List.mem_append_left _ hx, hxl⟩
                            · rw [kw] at hx
                              obtain ⟨y, hy, rfl⟩ := List.mem_map.mp hx
                              refine .inl ⟨⟨(Nd.deed d), n'⟩, by simp, ?_⟩
                              show l ∈ ((Nd.deed d)).nodes
                              rw [Nd.nodes_eq]
                              exact List.mem_cons_of_mem _ (List.mem_flatMap.mpr ⟨y, hy, hxl⟩)
                          · rcases List.mem_append.mp hx with hx | hx
                            · exact .inr ⟨x, hx, hxd⟩
                            · rw [List.mem_singleton.mp hx] at hxd
                              refine .inl ⟨⟨(Nd.deed d), n'⟩, by simp, ?_⟩
                              show l ∈ ((Nd.deed d)).nodes
                              rw [Nd.nodes_eq, ← show (Wt.mk (Nd.deed d) n').x = l from hxd]
                              exact List.mem_cons_self
                | tree e' =>
                  refine ⟨_, rfl, rfl, _, rfl, ite2 (fun z => absurd z (by show ¬ decide (V.str "tree" = V.str "deed") = true; decide)) (fun _ => iteF ?_)⟩
                  refine ⟨_, rfl, rfl, _, rfl, ite2 (fun _ => ?_) (fun z => absurd (by show decide (V.str "tree" = V.str "tree") = true; decide) z)⟩
                  refine ⟨_, rfl, c, xs, _, _, rfl, rfl, hsq6, atI_nat (j := 0) hnm, (show 9 ≤ sizeLine by decide), fun q2 nq2 => ⟨q2, nine, rfl, .inl (SqL.of upd_same), rfl, rfl, _, rfl, ?_⟩⟩
                  have sx := new_same (o := .lst [.str "number", .str "own", .str "mark", .str "held", .str "met", .str "met own", .str "here", .str "under", .str "drawn"]) nq2
                  have ha6 := sx _ _ ha6
                  have hp6 := sx _ _ hp6
                  have hw6 := dpa_nl (same_tf sx) _ _ (nls_wt _) hw6
                  have hf6 := dpa_nl (same_tf sx) _ _ (nls_wt _) hf6
                  have hsq6 := (same_tf sx).sq hsq6
                  have dall6 := dpa_nl (same_tf sx) _ _ hnls dall6
                  have fr6 := fr6.trans (Frm.of_same sx)
                  rcases e'.begin oki with ⟨hb1, hb2⟩ | ⟨hb1, hb2⟩
                  · refine ite2 (fun _ => ?_) (fun z => absurd hb1 z)
                    refine ⟨_, rfl, c, xs, rfl, .inr hsq6, ?_⟩
                    obtain ⟨bb, hbb⟩ : ∃ bb, bb = xs.length := ⟨_, rfl⟩
                    rw [← hbb]
                    have hcl0 : (Nd.tree e').ch.length = 0 := by rw [hb2]; rfl
                    refine ⟨_, rfl, _, rfl, c, xs, rfl, .inr hsq6, _, _, rfl, ⟨by omega, by omega, by omega, by omega⟩, ?_⟩
                    refine for_range (lo := bb) (fun j σ' H' => ∃ (v6 : Option V) (wv : List V), σ' = [some (.ref a), some (.ref p), some (.str "tree"), some (.ref c), some (.int n'), some (.int bb), v6, v7] ∧ H' a = some (.lst wv) ∧ DpAll K H' wv ((ws0 ++ kw ((Nd.tree e').ch.take j) (n' + 1)).map Wt.py) ∧ H' p = some (.lst (fv ++ [.ref t])) ∧ DpAll K H' (fv ++ [.ref t]) ((fs ++ [Wt.mk (Nd.tree e') n']).map Wt.py) ∧ SqT K H' c xs ∧ DpAll K H' xs (.str (Nd.tree e').nm :: (Nd.tree e').args) ∧ Frm a H H') ⟨_, _, rfl, ha6, by simpa [kw] using hw6, hp6, hf6, hsq6, dall6, fr6⟩ (fun j σ' H7 hj hPv => ?_) (fun σ' H7 hPv => ?_)
                    · obtain ⟨v6', wv, rfl, ha7, hw7, hp7, hf7, hsq7, hall7, fr7⟩ := hPv
                      have hj2 : j < (Nd.tree e').ch.length := by omega
                      have hk : (bb : Int) + (j : Int) = (((Nd.tree e').sg.length + 1 + j : Nat) : Int) := by omega
                      rw [hk]
                      obtain ⟨vk, hvk, dvk⟩ := dpa_get hall7 (show (PyData.str (Nd.tree e').nm :: (Nd.tree e').args)[(Nd.tree e').sg.length + 1 + j]? = some (Nd.tree e').ch[j].py by rw [show (Nd.tree e').sg.length + 1 + j = ((Nd.tree e').sg.length + j) + 1 by omega, List.getElem?_cons_succ]; exact (Nd.tree e').args_ch j hj2)
                      have hwl : wv.length < 100000 := by
                        have h1 := len_isz (ws0 ++ kw ((Nd.tree e').ch.take j) (n' + 1))
                        have h2 : isz (kw ((Nd.tree e').ch.take j) (n' + 1)) ≤ isz (kw (Nd.tree e').ch (n' + 1)) := by
                          have e : kw (Nd.tree e').ch (n' + 1) = kw ((Nd.tree e').ch.take j) (n' + 1) ++ kw ((Nd.tree e').ch.drop j) (n' + 1) := by
                            rw [kw, kw, kw, ← List.map_append, ← List.flatMap_append, List.take_append_drop]
                          rw [e, isz_app]
                          omega
                        have h3 := isz_kw (Nd.tree e') (n' + 1)
                        rw [isz_app] at h1
                        rw [dpa_len hw7, List.length_map]
                        omega
                      have hnm := dpa_str0 hall7
                      refine ⟨_, rfl, c, xs, _, _, rfl, rfl, hsq7, atI_nat (j := 0) hnm, rfl, _, rfl, ?_⟩
                      have hkw := kw_take (Nd.tree e').ch (n' + 1) j hj2
                      have hcj := List.getElem?_eq_getElem hj2
                      rcases (Nd.tree e').when oki j _ hcj with ⟨e, hc, hw⟩ | ⟨l, hc, hw1, hw2⟩
                      · rw [hc] at dvk hkw
                        refine ite2 (fun z => ?_) (fun _ => iteF ?_)
                        · have hk1 : ¬ (1 < (Nd.tree e').sg.length + 1 + j) := by
                            rcases hw with hw | hw
                            · rw [hw] at z
                              cases z
                            · omega
                          refine ⟨_, rfl, _, _, rfl, rfl, _, rfl, ite2 (fun z => absurd (of_decide_eq_true z) (by omega)) (fun _ => ?_)⟩
                          refine ⟨_, rfl, .inl ⟨rfl, _, SqL.of ha7⟩, _, rfl, _, rfl, c, xs, _, vk, rfl, rfl, hsq7, atI_nat hvk, _, rfl, _, _, rfl, rfl, (show 3 ≤ sizeLine by decide), fun t2 nt2 => ?_⟩
                          have st2 := new_same (o := .tup [.str "tree", vk, .int (n' + 1)]) nt2
                          have ha8 := st2 _ _ ha7
                          have tf := (same_tf st2).trans (TF.of_lst (o := .lst (wv ++ [.ref t2])) ha8)
                          refine ⟨a, wv, .ref t2, rfl, rfl, ha8, Nat.lt_of_lt_of_le hwl (by decide), _, _, rfl, upd_same, ?_, ?_, dpa_nl tf _ _ (nls_wt _) hf7, tf.sq hsq7, dpa_nl tf _ _ hnls hall7, (fr7.trans (Frm.of_same st2)).trans Frm.of_upd⟩
                          · rw [hkw, ← List.append_assoc, List.map_append]
                            refine dpa_snoc (dpa_nl tf _ _ (nls_wt _) hw7) ?_
                            exact .tup ((TF.of_lst (o := .lst (wv ++ [.ref t2])) ha8).sq (SqT.of upd_same)) (.cons (.str _) (.cons (dp_nl tf _ _ (Ex.nl _) dvk) (.cons (.int _) .nil)))
                          · rw [upd_ne hap.symm]
                            exact st2 _ _ hp7
                        · refine ⟨_, rfl, .inl ⟨rfl, _, SqL.of ha7⟩, _, rfl, _, rfl, c, xs, _, vk, rfl, rfl, hsq7, atI_nat hvk, _, rfl, _, _, rfl, rfl, (show 3 ≤ sizeLine by decide), fun t2 nt2 => ?_⟩
                          have st2 := new_same (o := .tup [.str "tree", vk, .int (n' + 1)]) nt2
                          have ha8 := st2 _ _ ha7
                          have tf := (same_tf st2).trans (TF.of_lst (o := .lst (wv ++ [.ref t2])) ha8)
                          refine ⟨a, wv, .ref t2, rfl, rfl, ha8, Nat.lt_of_lt_of_le hwl (by decide), _, _, rfl, upd_same, ?_, ?_, dpa_nl tf _ _ (nls_wt _) hf7, tf.sq hsq7, dpa_nl tf _ _ hnls hall7, (fr7.trans (Frm.of_same st2)).trans Frm.of_upd⟩
                          · rw [hkw, ← List.append_assoc, List.map_append]
                            refine dpa_snoc (dpa_nl tf _ _ (nls_wt _) hw7) ?_
                            exact .tup ((TF.of_lst (o := .lst (wv ++ [.ref t2])) ha8).sq (SqT.of upd_same)) (.cons (.str _) (.cons (dp_nl tf _ _ (Ex.nl _) dvk) (.cons (.int _) .nil)))
                          · rw [upd_ne hap.symm]
                            exact st2 _ _ hp7
                      · rw [hc] at dvk hkw
                        refine ite2 (fun _ => ?_) (fun z => absurd hw1 z)
                        refine ⟨_, rfl, _, _, rfl, rfl, _, rfl, ite2 (fun _ => ?_) (fun z => absurd (decide_eq_true (by omega)) z)⟩
                        obtain ⟨lr, lv, rfl, lsq, lall⟩ := dp_tup dvk
                        refine ⟨_, rfl, .inl ⟨rfl, _, SqL.of ha7⟩, _, rfl, _, rfl, c, xs, _, .ref lr, rfl, rfl, hsq7, atI_nat hvk, lr, rfl, ⟨_, lsq⟩, fun D hD => ?_⟩
                        have hlv : lv.length = l.length := by rw [dpa_len lall, List.length_map]
                        have hll : l.length < 100000 := by
                          have h1 := len_isz ((Ch.ds l).kids.map fun x => (⟨x, n' + 1⟩ : Wt))
                          have h2 : isz ((Ch.ds l).kids.map fun x => (⟨x, n' + 1⟩ : Wt)) ≤ isz (kw (Nd.tree e').ch (n' + 1)) := by
                            have e : kw (Nd.tree e').ch (n' + 1) = kw ((Nd.tree e').ch.take (j + 1)) (n' + 1) ++ kw ((Nd.tree e').ch.drop (j + 1)) (n' + 1) := by
                              rw [kw, kw, kw, ← List.map_append, ← List.flatMap_append, List.take_append_drop]
                            rw [e, isz_app, hkw, isz_app]
                            omega
                          have h3 := isz_kw (Nd.tree e') (n' + 1)
                          have h4 : ((Ch.ds l).kids.map fun x => (⟨x, n' + 1⟩ : Wt)).length = l.length := by rw [List.length_map, Ch.kids, List.length_map]
                          omega
                        have tD := TF.of_new (o := .lst []) hD
                        refine lc_tup (xs := lv) (fun i H' => ∃ acc, H' D = some (.lst acc) ∧ DpAll K H' acc (((l.take i).map fun d => (⟨.deed d, n' + 1⟩ : Wt)).map Wt.py) ∧ Same H7 H') ⟨[], upd_same, .nil, new_same hD⟩ (fun i H' _ h => (same_tf h.choose_spec.2.2).sq lsq) (fun i y H' hy hPv => ?_) (fun H8 hPv => ?_)
                        · obtain ⟨acc, hacc, hda, sm⟩ := hPv
                          have hi : i < l.length := by
                            rw [← hlv]
                            exact (List.getElem?_eq_some_iff.mp hy).1
                          obtain ⟨v, hv, dv⟩ := dpa_get lall (show (l.map De.py)[i]? = some l[i].py by rw [List.getElem?_map, List.getElem?_eq_getElem hi]; rfl)
                          rw [hy] at hv
                          cases hv
                          refine ⟨rfl, ?_⟩
                          dsimp only [tYes]
                          rw [if_pos rfl]
                          refine ⟨_, rfl, _, rfl, _, _, rfl, rfl, (show 3 ≤ sizeLine by decide), fun t2 nt2 => ?_⟩
                          have st2 := new_same (o := .tup [.str "deed", y, .int (n' + 1)]) nt2
                          have hacc2 := st2 _ _ hacc
                          have tfx := TF.of_lst (o := .lst (acc ++ [.ref t2])) hacc2
                          refine ⟨acc, hacc2, ?_, acc ++ [.ref t2], upd_same, ?_, fun b o z => ?_⟩
                          · rw [dpa_len hda, List.length_map, List.length_map, List.length_take]
                            exact Nat.lt_of_lt_of_le (show min i l.length < 100000 by omega) (by decide)
                          · rw [List.map_map, take_map _ _ _ hi, ← List.map_map]
                            refine dpa_snoc (dpa_nl ((same_tf st2).trans tfx) _ _ (nls_wt _) hda) ?_
                            exact .tup (tfx.sq (SqT.of upd_same)) (.cons (.str _) (.cons (dp_nl (((same_tf sm).trans (same_tf st2)).trans tfx) _ _ (De.nl _) dv) (.cons (.int _) .nil)))
                          · rw [upd_ne (ne_of_none z hD)]
                            exact st2 _ _ (sm _ _ z)
                        obtain ⟨acc, hacc, hda, sm⟩ := hPv
                        rw [List.take_of_length_le (by omega)] at hda
                        have ha8 := sm _ _ ha7
                        have tf := (same_tf sm).trans (TF.of_lst (o := .lst (wv ++ acc)) ha8)
                        refine ⟨a, D, wv, acc, rfl, rfl, ha8, hacc, ?_, _, _, rfl, upd_same, ?_, ?_, ?_, tf.sq hsq7, dpa_nl tf _ _ hnls hall7, (fr7.trans (Frm.of_same sm)).trans Frm.of_upd⟩
                        · have e : acc.length = l.length := by rw [dpa_len hda, List.length_map, List.length_map]
                          exact Nat.le_trans (show wv.length + acc.length ≤ 200000 by omega) (by decide)
                        · have ek : (Ch.ds l).kids.map (fun x => (⟨x, n' + 1⟩ : Wt)) = l.map fun d => (⟨.deed d, n' + 1⟩ : Wt) := by
                            rw [Ch.kids, List.map_map]
                            rfl
                          rw [hkw, ← List.append_assoc, List.map_append, ek]
                          exact dpa_app (dpa_nl (TF.of_lst (o := .lst (wv ++ acc)) ha8) _ _ (nls_wt _) hda) (dpa_nl tf _ _ (nls_wt _) hw7)
                        · rw [upd_ne hap.symm]
                          exact sm _ _ hp7
                        · exact dpa_nl tf _ _ (nls_wt _) hf7
                    · obtain ⟨v6', wv, rfl, ha7, hw7, hp7, hf7, hsq7, hall7, fr7⟩ := hPv
                      have hn : ((xs.length : Int) - bb).toNat = (Nd.tree e').ch.length := by omega
                      rw [hn, List.take_length] at hw7
                      have hks := isz_kw (Nd.tree e') (n' + 1)
                      refine ⟨isz (ws0 ++ kw (Nd.tree e').ch (n' + 1)), by rw [isz_app]; omega, _, _, _, _, _, _, _, _, _, _, rfl, ha7, hw7, hp7, hf7, fun x hx => ?_, fun x hx => ?_, rfl, by rw [isz_app, List.length_append, List.length_singleton]; omega, fun l => ?_, fr7⟩
                      · rcases List.mem_append.mp hx with hx | hx
                        · exact okw0 x hx
                        · rw [kw] at hx
                          obtain ⟨y, hy, rfl⟩ := List.mem_map.mp hx
                          exact (Nd.tree e').kids_ok oki y hy
                      · rcases List.mem_append.mp hx with hx | hx
                        · exact okf x hx
                        · rw [List.mem_singleton.mp hx]
                          exact oki
                      · rw [hcov]
                        constructor
                        · rintro (⟨x, hx, hxl⟩ | ⟨x, hx, hxd⟩)
                          · rcases List.mem_append.mp hx with hx | hx
                            · exact .inl ⟨x, List.mem_append_left _ hx, hxl⟩
                            · rw [List.mem_singleton.mp hx] at hxl
                              rw [show (Wt.mk (Nd.tree e') n').x = (Nd.tree e') from rfl, Nd.nodes_eq] at hxl
                              rcases List.mem_cons.mp hxl with hxl | hxl
                              · exact .inr ⟨⟨(Nd.tree e'), n'⟩, by simp, hxl.symm⟩
                              · obtain ⟨e1, he1, hl1⟩ := List.mem_flatMap.mp hxl
                                refine .inl ⟨⟨e1, n' + 1⟩, List.mem_append_right _ ?_, hl1⟩
                                rw [kw]
                                exact List.mem_map.mpr ⟨e1, he1, rfl⟩
                          · exact .inr ⟨x, List.mem_append_left _ hx, hxd⟩
                        · rintro (⟨x, hx, hxl⟩ | ⟨x, hx, hxd⟩)
                          · rcases List.mem_append.mp hx with hx | hx
                            · exact .inl ⟨x, List.mem_append_left _ hx, hxl⟩
                            · rw [kw] at hx
                              obtain ⟨y, hy, rfl⟩ := List.mem_map.mp hx
                              refine .inl ⟨⟨(Nd.tree e'), n'⟩, by simp, ?_⟩
                              show l ∈ ((Nd.tree e')).nodes
                              rw [Nd.nodes_eq]
                              exact List.mem_cons_of_mem _ (List.mem_flatMap.mpr ⟨y, hy, hxl⟩)
                          · rcases List.mem_append.mp hx with hx | hx
                            · exact .inr ⟨x, hx, hxd⟩
                            · rw [List.mem_singleton.mp hx] at hxd
                              refine .inl ⟨⟨(Nd.tree e'), n'⟩, by simp, ?_⟩
                              show l ∈ ((Nd.tree e')).nodes
                              rw [Nd.nodes_eq, ← show (Wt.mk (Nd.tree e') n').x = l from hxd]
                              exact List.mem_cons_self
                  · refine ite2 (fun z => absurd z (by show ¬ inV (V.str (Nd.tree e').nm) nine = true; rw [hb1]; decide)) (fun _ => ?_)
                    refine ⟨_, rfl, _, rfl, c, xs, rfl, .inr hsq6, _, _, rfl, ⟨by omega, by omega, by omega, by omega⟩, ?_⟩
                    refine for_range (lo := 1) (fun j σ' H' => ∃ (v6 : Option V) (wv : List V), σ' = [some (.ref a), some (.ref p), some (.str "tree"), some (.ref c), some (.int n'), some (.int 1), v6, v7] ∧ H' a = some (.lst wv) ∧ DpAll K H' wv ((ws0 ++ kw ((Nd.tree e').ch.take j) (n' + 1)).map Wt.py) ∧ H' p = some (.lst (fv ++ [.ref t])) ∧ DpAll K H' (fv ++ [.ref t]) ((fs ++ [Wt.mk (Nd.tree e') n']).map Wt.py) ∧ SqT K H' c xs ∧ DpAll K H' xs (.str (Nd.tree e').nm :: (Nd.tree e').args) ∧ Frm a H H') ⟨_, _, rfl, ha6, by simpa [kw] using hw6, hp6, hf6, hsq6, dall6, fr6⟩ (fun j σ' H7 hj hPv => ?_) (fun σ' H7 hPv => ?_)
                    · obtain ⟨v6', wv, rfl, ha7, hw7, hp7, hf7, hsq7, hall7, fr7⟩ := hPv
                      have hj2 : j < (Nd.tree e').ch.length := by omega
                      have hk : (1 : Int) + (j : Int) = (((Nd.tree e').sg.length + 1 + j : Nat) : Int) := by omega
                      rw [hk]
                      obtain ⟨vk, hvk, dvk⟩ := dpa_get hall7 (show (PyData.str (Nd.tree e').nm :: (Nd.tree e').args)[(Nd.tree e').sg.length + 1 + j]? = some (Nd.tree e').ch[j].py by rw [show (Nd.tree e').sg.length + 1 + j = ((Nd.tree e').sg.length + j) + 1 by omega, List.getElem?_cons_succ]; exact (Nd.tree e').args_ch j hj2)
                      have hwl : wv.length < 100000 := by
                        have h1 := len_isz (ws0 ++ kw ((Nd.tree e').ch.take j) (n' + 1))
                        have h2 : isz (kw ((Nd.tree e').ch.take j) (n' + 1)) ≤ isz (kw (Nd.tree e').ch (n' + 1)) := by
                          have e : kw (Nd.tree e').ch (n' + 1) = kw ((Nd.tree e').ch.take j) (n' + 1) ++ kw ((Nd.tree e').ch.drop j) (n' + 1) := by
                            rw [kw, kw, kw, ← List.map_append, ← List.flatMap_append, List.take_append_drop]
                          rw [e, isz_app]
                          omega
                        have h3 := isz_kw (Nd.tree e') (n' + 1)
                        rw [isz_app] at h1
                        rw [dpa_len hw7, List.length_map]
                        omega
                      have hnm := dpa_str0 hall7
                      refine ⟨_, rfl, c, xs, _, _, rfl, rfl, hsq7, atI_nat (j := 0) hnm, rfl, _, rfl, ?_⟩
                      have hkw := kw_take (Nd.tree e').ch (n' + 1) j hj2
                      have hcj := List.getElem?_eq_getElem hj2
                      rcases (Nd.tree e').when oki j _ hcj with ⟨e, hc, hw⟩ | ⟨l, hc, hw1, hw2⟩
                      · rw [hc] at dvk hkw
                        refine ite2 (fun z => ?_) (fun _ => iteF ?_)
                        · have hk1 : ¬ (1 < (Nd.tree e').sg.length + 1 + j) := by
                            rcases hw with hw | hw
                            · rw [hw] at z
                              cases z
                            · omega
                          refine ⟨_, rfl, _, _, rfl, rfl, _, rfl, ite2 (fun z => absurd (of_decide_eq_true z) (by omega)) (fun _ => ?_)⟩
                          refine ⟨_, rfl, .inl ⟨rfl, _, SqL.of ha7⟩, _, rfl, _, rfl, c, xs, _, vk, rfl, rfl, hsq7, atI_nat hvk, _, rfl, _, _, rfl, rfl, (show 3 ≤ sizeLine by decide), fun t2 nt2 => ?_⟩
                          have st2 := new_same (o := .tup [.str "tree", vk, .int (n' + 1)]) nt2
                          have ha8 := st2 _ _ ha7
                          have tf := (same_tf st2).trans (TF.of_lst (o := .lst (wv ++ [.ref t2])) ha8)
                          refine ⟨a, wv, .ref t2, rfl, rfl, ha8, Nat.lt_of_lt_of_le hwl (by decide), _, _, rfl, upd_same, ?_, ?_, dpa_nl tf _ _ (nls_wt _) hf7, tf.sq hsq7, dpa_nl tf _ _ hnls hall7, (fr7.trans (Frm.of_same st2)).trans Frm.of_upd⟩
                          · rw [hkw, ← List.append_assoc, List.map_append]
                            refine dpa_snoc (dpa_nl tf _ _ (nls_wt _) hw7) ?_
                            exact .tup ((TF.of_lst (o := .lst (wv ++ [.ref t2])) ha8).sq (SqT.of upd_same)) (.cons (.str _) (.cons (dp_nl tf _ _ (Ex.nl _) dvk) (.cons (.int _) .nil)))
                          · rw [upd_ne hap.symm]
                            exact st2 _ _ hp7
                        · refine ⟨_, rfl, .inl ⟨rfl, _, SqL.of ha7⟩, _, rfl, _, rfl, c, xs, _, vk, rfl, rfl, hsq7, atI_nat hvk, _, rfl, _, _, rfl, rfl, (show 3 ≤ sizeLine by decide), fun t2 nt2 => ?_⟩
                          have st2 := new_same (o := .tup [.str "tree", vk, .int (n' + 1)]) nt2
                          have ha8 := st2 _ _ ha7
                          have tf := (same_tf st2).trans (TF.of_lst (o := .lst (wv ++ [.ref t2])) ha8)
                          refine ⟨a, wv, .ref t2, rfl, rfl, ha8, Nat.lt_of_lt_of_le hwl (by decide), _, _, rfl, upd_same, ?_, ?_, dpa_nl tf _ _ (nls_wt _) hf7, tf.sq hsq7, dpa_nl tf _ _ hnls hall7, (fr7.trans (Frm.of_same st2)).trans Frm.of_upd⟩
                          · rw [hkw, ← List.append_assoc, List.map_append]
                            refine dpa_snoc (dpa_nl tf _ _ (nls_wt _) hw7) ?_
                            exact .tup ((TF.of_lst (o := .lst (wv ++ [.ref t2])) ha8).sq (SqT.of upd_same)) (.cons (.str _) (.cons (dp_nl tf _ _ (Ex.nl _) dvk) (.cons (.int _) .nil)))
                          · rw [upd_ne hap.symm]
                            exact st2 _ _ hp7
                      · rw [hc] at dvk hkw
                        refine ite2 (fun _ => ?_) (fun z => absurd hw1 z)
                        refine ⟨_, rfl, _, _, rfl, rfl, _, rfl, ite2 (fun _ => ?_) (fun z => absurd (decide_eq_true (by omega)) z)⟩
                        obtain ⟨lr, lv, rfl, lsq, lall⟩ := dp_tup dvk
                        refine ⟨_, rfl, .inl ⟨rfl, _, SqL.of ha7⟩, _, rfl, _, rfl, c, xs, _, .ref lr, rfl, rfl, hsq7, atI_nat hvk, lr, rfl, ⟨_, lsq⟩, fun D hD => ?_⟩
                        have hlv : lv.length = l.length := by rw [dpa_len lall, List.length_map]
                        have hll : l.length < 100000 := by
                          have h1 := len_isz ((Ch.ds l).kids.map fun x => (⟨x, n' + 1⟩ : Wt))
                          have h2 : isz ((Ch.ds l).kids.map fun x => (⟨x, n' + 1⟩ : Wt)) ≤ isz (kw (Nd.tree e').ch (n' + 1)) := by
                            have e : kw (Nd.tree e').ch (n' + 1) = kw ((Nd.tree e').ch.take (j + 1)) (n' + 1) ++ kw ((Nd.tree e').ch.drop (j + 1)) (n' + 1) := by
                              rw [kw, kw, kw, ← List.map_append, ← List.flatMap_append, List.take_append_drop]
                            rw [e, isz_app, hkw, isz_app]
                            omega
                          have h3 := isz_kw (Nd.tree e') (n' + 1)
                          have h4 : ((Ch.ds l).kids.map fun x => (⟨x, n' + 1⟩ : Wt)).length = l.length := by rw [List.length_map, Ch.kids, List.length_map]
                          omega
                        have tD := TF.of_new (o := .lst []) hD
                        refine lc_tup (xs := lv) (fun i H' => ∃ acc, H' D = some (.lst acc) ∧ DpAll K H' acc (((l.take i).map fun d => (⟨.deed d, n' + 1⟩ : Wt)).map Wt.py) ∧ Same H7 H') ⟨[], upd_same, .nil, new_same hD⟩ (fun i H' _ h => (same_tf h.choose_spec.2.2).sq lsq) (fun i y H' hy hPv => ?_) (fun H8 hPv => ?_)
                        · obtain ⟨acc, hacc, hda, sm⟩ := hPv
                          have hi : i < l.length := by
                            rw [← hlv]
                            exact (List.getElem?_eq_some_iff.mp hy).1
                          obtain ⟨v, hv, dv⟩ := dpa_get lall (show (l.map De.py)[i]? = some l[i].py by rw [List.getElem?_map, List.getElem?_eq_getElem hi]; rfl)
                          rw [hy] at hv
                          cases hv
                          refine ⟨rfl, ?_⟩
                          dsimp only [tYes]
                          rw [if_pos rfl]
                          refine ⟨_, rfl, _, rfl, _, _, rfl, rfl, (show 3 ≤ sizeLine by decide), fun t2 nt2 => ?_⟩
                          have st2 := new_same (o := .tup [.str "deed", y, .int (n' + 1)]) nt2
                          have hacc2 := st2 _ _ hacc
                          have tfx := TF.of_lst (o := .lst (acc ++ [.ref t2])) hacc2
                          refine ⟨acc, hacc2, ?_, acc ++ [.ref t2], upd_same, ?_, fun b o z => ?_⟩
                          · rw [dpa_len hda, List.length_map, List.length_map, List.length_take]
                            exact Nat.lt_of_lt_of_le (show min i l.length < 100000 by omega) (by decide)
                          · rw [List.map_map, take_map _ _ _ hi, ← List.map_map]
                            refine dpa_snoc (dpa_nl ((same_tf st2).trans tfx) _ _ (nls_wt _) hda) ?_
                            exact .tup (tfx.sq (SqT.of upd_same)) (.cons (.str _) (.cons (dp_nl (((same_tf sm).trans (same_tf st2)).trans tfx) _ _ (De.nl _) dv) (.cons (.int _) .nil)))
                          · rw [upd_ne (ne_of_none z hD)]
                            exact st2 _ _ (sm _ _ z)
                        obtain ⟨acc, hacc, hda, sm⟩ := hPv
                        rw [List.take_of_length_le (by omega)] at hda
                        have ha8 := sm _ _ ha7
                        have tf := (same_tf sm).trans (TF.of_lst (o := .lst (wv ++ acc)) ha8)
                        refine ⟨a, D, wv, acc, rfl, rfl, ha8, hacc, ?_, _, _, rfl, upd_same, ?_, ?_, ?_, tf.sq hsq7, dpa_nl tf _ _ hnls hall7, (fr7.trans (Frm.of_same sm)).trans Frm.of_upd⟩
                        · have e : acc.length = l.length := by rw [dpa_len hda, List.length_map, List.length_map]
                          exact Nat.le_trans (show wv.length + acc.length ≤ 200000 by omega) (by decide)
                        · have ek : (Ch.ds l).kids.map (fun x => (⟨x, n' + 1⟩ : Wt)) = l.map fun d => (⟨.deed d, n' + 1⟩ : Wt) := by
                            rw [Ch.kids, List.map_map]
                            rfl
                          rw [hkw, ← List.append_assoc, List.map_append, ek]
                          exact dpa_app (dpa_nl (TF.of_lst (o := .lst (wv ++ acc)) ha8) _ _ (nls_wt _) hda) (dpa_nl tf _ _ (nls_wt _) hw7)
                        · rw [upd_ne hap.symm]
                          exact sm _ _ hp7
                        · exact dpa_nl tf _ _ (nls_wt _) hf7
                    · obtain ⟨v6', wv, rfl, ha7, hw7, hp7, hf7, hsq7, hall7, fr7⟩ := hPv
                      have hn : ((xs.length : Int) - 1).toNat = (Nd.tree e').ch.length := by omega
                      rw [hn, List.take_length] at hw7
                      have hks := isz_kw (Nd.tree e') (n' + 1)
                      refine ⟨isz (ws0 ++ kw (Nd.tree e').ch (n' + 1)), by rw [isz_app]; omega, _, _, _, _, _, _, _, _, _, _, rfl, ha7, hw7, hp7, hf7, fun x hx => ?_, fun x hx => ?_, rfl, by rw [isz_app, List.length_append, List.length_singleton]; omega, fun l => ?_, fr7⟩
                      · rcases List.mem_append.mp hx with hx | hx
                        · exact okw0 x hx
                        · rw [kw] at hx
                          obtain ⟨y, hy, rfl⟩ := List.mem_map.mp hx
                          exact (Nd.tree e').kids_ok oki y hy
                      · rcases List.mem_append.mp hx with hx | hx
                        · exact okf x hx
                        · rw [List.mem_singleton.mp hx]
                          exact oki
                      · rw [hcov]
                        constructor
                        · rintro (⟨x, hx, hxl⟩ | ⟨x, hx, hxd⟩)
                          · rcases List.mem_append.mp hx with hx | hx
                            · exact .inl ⟨x, List.mem_append_left _ hx, hxl⟩
                            · rw [List.mem_singleton.mp hx] at hxl
                              rw [show (Wt.mk (Nd.tree e') n').x = (Nd.tree e') from rfl, Nd.nodes_eq] at hxl
                              rcases List.mem_cons.mp hxl with hxl | hxl
                              · exact .inr ⟨⟨(Nd.tree e'), n'⟩, by simp, hxl.symm⟩
                              · obtain ⟨e1, he1, hl1⟩ := List.mem_flatMap.mp hxl
                                refine .inl ⟨⟨e1, n' + 1⟩, List.mem_append_right _ ?_, hl1⟩
                                rw [kw]
                                exact List.mem_map.mpr ⟨e1, he1, rfl⟩
                          · exact .inr ⟨x, List.mem_append_left _ hx, hxd⟩
                        · rintro (⟨x, hx, hxl⟩ | ⟨x, hx, hxd⟩)
                          · rcases List.mem_append.mp hx with hx | hx
                            · exact .inl ⟨x, List.mem_append_left _ hx, hxl⟩
                            · rw [kw] at hx
                              obtain ⟨y, hy, rfl⟩ := List.mem_map.mp hx
                              refine .inl ⟨⟨(Nd.tree e'), n'⟩, by simp, ?_⟩
                              show l ∈ ((Nd.tree e')).nodes
                              rw [Nd.nodes_eq]
                              exact List.mem_cons_of_mem _ (List.mem_flatMap.mpr ⟨y, hy, hxl⟩)
                          · rcases List.mem_append.mp hx with hx | hx
                            · exact .inr ⟨x, hx, hxd⟩
                            · rw [List.mem_singleton.mp hx] at hxd
                              refine .inl ⟨⟨(Nd.tree e'), n'⟩, by simp, ?_⟩
                              show l ∈ ((Nd.tree e')).nodes
                              rw [Nd.nodes_eq, ← show (Wt.mk (Nd.tree e') n').x = l from hxd]
                              exact List.mem_cons_self
      · have e0 : ws = [] := by
          cases ws with
          | nil => rfl
          | cons x y => exact absurd rfl z
        subst e0
        refine ⟨_, rfl, k p fs fv _ (sq _ _ hp1) hf2 okf (by simpa [isz, nsz] using hsz) (fun l => ?_) (fr.trans (Frm.of_same sq)) np⟩
        rw [← List.mem_flatMap, ← hls, hcov]
        exact ⟨fun h => .inr h, fun h => h.elim (fun ⟨i, hi, _⟩ => (List.not_mem_nil hi).elim) id⟩
end
end K5
set_option maxRecDepth 100000
set_option maxHeartbeats 4000000
/-! The law's deeds. -/
namespace K5
open PySem PySem.Spec PyProof.Rows L2 KF
section
variable {P : Program} {w : World} {K : PySem.W.Frag} {mg : Str → Option Value} {base : Heap}
def spDe (K : PySem.W.Frag) : Nat → Sp
  | 0 => fun _ _ _ _ => False
  | n + 1 => fun vs H Q _ => ∃ (d : Addr) (room : Nat) (deep : Int) (m : Nat), vs = [.ref d, .int (room : Int), .int deep] ∧ 1 ≤ room ∧ room ≤ 60 ∧ 1 ≤ deep ∧ deep ≤ ((n + 1 : Nat) : Int) ∧ n ≤ 7 ∧ Deck H d (m + 1000000 * room) ∧
    ∀ (e : De) v H', e.ok → e.size ≤ room → e.dep ≤ n + 1 → Dp K H' v e.py → Frm d H H' → Deck H' d (m + 1000000 * (room - e.size)) → Q v H'
def spRu (K : PySem.W.Frag) (n : Nat) : Sp := fun vs H Q _ => ∃ (d : Addr) (room : Nat) (deep : Int) (m : Nat), vs = [.ref d, .int (room : Int), .int deep] ∧ room ≤ 60 ∧ 1 ≤ n ∧ n ≤ 8 ∧ 1 ≤ deep ∧ deep ≤ (n : Int) ∧ Deck H d (m + 300 + 1000000 * room) ∧
    ∀ (t : Addr) (ds : List De) xs H', (∀ e ∈ ds, e.ok) → szs ds ≤ room → (∀ e ∈ ds, e.dep ≤ n) → SqT K H' t xs → DpAll K H' xs (ds.map De.py) → Frm d H H' → Deck H' d (m + 1000000 * (room - szs ds)) → Q (.ref t) H'
theorem scRu : FnScope ["deck", "room", "deep", "deeds", "long", "k", "most", "deed"] ["deck", "room", "deep"] (defScope s_law_rules) := ⟨rfl, rfl, rfl, by decide +kernel, rfl, by decide +kernel, by decide +kernel⟩
theorem ok_law_rules (T : Txt K w mg) (n : Nat) (G : FnOk P w K mg base CX0 (2 * n + 2) (He.fAd K ("_law_deed", none)) (fdAt K (He.fAd K ("_law_deed", none))) ["deck", "room", "deep"] (spDe K n)) : FnOk P w K mg base CX0 (2 * n + 3) (He.fAd K ("_law_rules", none)) (fdAt K (He.fAd K ("_law_rules", none))) ["deck", "room", "deep"] (spRu K n) := by
  refine T.F_law_rules.ok scRu (fun vs H Q E h => ?_) (fun cdv A outer s H vs Q E hr h => ?_)
  · obtain ⟨d, room, deep, m, rfl, _⟩ := h
    rfl
  · obtain ⟨d, room, deep, m, rfl, hr60, n1, n8, hd1, hdeep, hD, k⟩ := h
    obtain ⟨n, rfl⟩ : ∃ q, n = q + 1 := ⟨n - 1, by omega⟩
    refine ⟨_, PSs.nox (pss_cons (ps_set (i := 3) scRu.nd rfl (Or.inl rfl) (pe_lst pa_nil))
      (pss_cons (ps_set (i := 4) scRu.nd rfl (Or.inl rfl) (pe_cmpR op_eq (pe_call (ok_law_take T) (hr.mono (by omega)) (by rfl) T.g_law_take (T.F_law_take).kp T.b_law_take .nil pass0 (pa_cons (pv 0) (pa_cons pe_int pa_nil))) pe_int (nomark _)))
      (pss_cons (ps_for PassesOwn.never rfl (pi_range1 (by rfl) T.n_range (pa_cons (pe_op op_add pe_int (pe_op op_mulW pe_int (pe_callTy call_int1 (by rfl) T.n_int PyProof.Rows.Boot.«int» (pa_cons (pv 4) pa_nil)))) pa_nil)) (pg_name (i := 5) scRu.nd rfl (Or.inl rfl)) (pss_one (ps_if (PW.pt (pw_and (pt_cmpR op_gt (pv 1) pe_int (nomark _)) (pw_and1 (pt_cmpR op_gt (pe_call (ok_law_take T) (hr.mono (by omega)) (by rfl) T.g_law_take (T.F_law_take).kp T.b_law_take .nil pass0 (pa_cons (pv 0) (pa_cons pe_int pa_nil))) pe_int (nomark _))))) (pss_cons (ps_set (i := 6) scRu.nd rfl (Or.inl rfl) (pv 1))
      (pss_cons (ps_if (PW.pt (pw_and (pt_val (pv 4)) (pw_and1 (pt_cmpR op_gt (pe_call (ok_law_take T) (hr.mono (by omega)) (by rfl) T.g_law_take (T.F_law_take).kp T.b_law_take .nil pass0 (pa_cons (pv 0) (pa_cons pe_int pa_nil))) pe_int (nomark _))))) (pss_one (ps_set (i := 6) scRu.nd rfl (Or.inl rfl) (pe_callB (call_min2 rfl) (by rfl) T.n_min PyProof.Rows.Boot.«min» (pa_cons (pv 1) (pa_cons pe_int pa_nil))))) pss_nil)
      (pss_cons (ps_set (i := 7) scRu.nd rfl (Or.inl rfl) (pe_call G (hr.mono (by omega)) (by rfl) T.g_law_deed (T.F_law_deed).kp T.b_law_deed .nil pass0 (pa_cons (pv 0) (pa_cons (pe_op op_add pe_int (pe_call (ok_law_take T) (hr.mono (by omega)) (by rfl) T.g_law_take (T.F_law_take).kp T.b_law_take .nil pass0 (pa_cons (pv 0) (pa_cons (pv 6) pa_nil)))) (pa_cons (pv 2) pa_nil)))))
      (pss_cons (ps_expr (pe_bm PySem.F.plainAttrs_list PySem.F.slot_list_append PySem.F.type_list_append mt_append (pv 3) (pa_cons (pv 7) pa_nil)))
      (pss_one (ps_set (i := 1) scRu.nd rfl (Or.inl rfl) (pe_op op_sub (pv 1) (pe_callB (r := Evl.rLenS K) call_len_seq (by rfl) T.n_len PyProof.Rows.Boot.«len» (pa_cons (pe_call (ok_law_within T) (hr.mono (by omega)) (by rfl) T.g_law_within (T.F_law_within).kp T.b_law_within .nil pass0 (pa_cons (pe_lst (pa_cons (pe_tup (pa_cons pe_str (pa_cons (pv 7) (pa_cons pe_int pa_nil)))) pa_nil)) pa_nil)) pa_nil))))))))) pss_nil)))
      (pss_one (ps_ret (pe_callTy call_tuple_of (by rfl) T.n_tuple PyProof.Rows.Boot.«tuple» (pa_cons (pv 3) pa_nil))))))), ?_⟩
    refine ⟨(show 0 ≤ sizeLine by decide), fun p np => ?_⟩
    have hpd : p ≠ d := (ne_of_none hD.lst.choose_spec np).symm
    refine ⟨_, rfl, d, _, m + 299 + 1000000 * room, rfl, by decide, by decide, (hD.same (new_same np)).le (by omega), fun x H1 x0 x1 f1 D1 => ⟨rfl, ?_⟩⟩
    obtain ⟨lg, hlg⟩ : ∃ lg, lg = decide (V.int x = V.int 0) := ⟨_, rfl⟩
    rw [← hlg]
    have hW : CMulW 53 (if lg = true then 1 else 0) := by cases lg <;> exact wide_mul (a := 20) (b := 20) (by decide) (by decide) (by decide) (by decide) (by decide)
    obtain ⟨M, hM, hM0, hM1⟩ : ∃ M : Int, M = 7 + 53 * (if lg = true then 1 else 0) ∧ 0 ≤ M ∧ M ≤ 60 := ⟨_, rfl, by split <;> omega, by split <;> omega⟩
    refine ⟨_, rfl, .inr ⟨_, rfl, _, _, rfl, rfl, hW, _, _, rfl, rfl, M, by rw [hM], by omega, by omega, ?_⟩⟩
    have F1 : Frm d H H1 := (Frm.of_new np).trans f1
    refine for_range (lo := 0) (n := M.toNat) (fun i σ H' => ∃ (v5 v6 v7 : Option V) (rm : Nat) (ds : List De) (xs : List V), σ = [some (.ref d), some (.int (rm : Int)), some (.int deep), some (.ref p), some (.bl lg), v5, v6, v7] ∧ rm + szs ds = room ∧ ds.length ≤ i ∧ (∀ e ∈ ds, e.ok) ∧ (∀ e ∈ ds, e.dep ≤ n + 1) ∧ H' p = some (.lst xs) ∧ DpAll K H' xs (ds.map De.py) ∧ Frm d H H' ∧ Deck H' d (m + 4 * (60 - i) + 1000000 * rm)) ⟨none, none, none, room, [], [], rfl, rfl, Nat.le_refl _, fun e h => (List.not_mem_nil h).elim, fun e h => (List.not_mem_nil h).elim, f1 _ _ hpd upd_same, .nil, F1, D1.le (by omega)⟩ (fun i σ H2 hi hPv => ?_) (fun σ H2 hPv => ?_)
    · obtain ⟨v5, v6, v7, rm, ds, xs, rfl, hrm, hln, hok, hdp, hp, hxs, F2, D2⟩ := hPv
      have hi60 : i < 60 := by omega
      obtain ⟨dd2, hdd2⟩ := D2.lst
      have skip : ∀ (v6' v7' : Option V) H3, Frm d H2 H3 → Deck H3 d (m + 4 * (60 - (i + 1)) + 1000000 * rm) → ∃ (v5 v6 v7 : Option V) (rm' : Nat) (ds : List De) (xs : List V), [some (V.ref d), some (.int (rm : Int)), some (.int deep), some (.ref p), some (.bl lg), some (.int (0 + (i : Int))), v6', v7'] = [some (.ref d), some (.int (rm' : Int)), some (.int deep), some (.ref p), some (.bl lg), v5, v6, v7] ∧ rm' + szs ds = room ∧ ds.length ≤ i + 1 ∧ (∀ e ∈ ds, e.ok) ∧ (∀ e ∈ ds, e.dep ≤ n + 1) ∧ H3 p = some (.lst xs) ∧ DpAll K H3 xs (ds.map De.py) ∧ Frm d H H3 ∧ Deck H3 d (m + 4 * (60 - (i + 1)) + 1000000 * rm') := fun v6' v7' H3 f3 D3 => ⟨_, v6', v7', rm, ds, xs, rfl, hrm, by omega, hok, hdp, f3 _ _ hpd hp, dpa_nl (f3.tf hdd2) _ _ (nl_des ds) hxs, F2.trans f3, D3⟩
      refine ⟨_, rfl, _, _, rfl, rfl, _, rfl, ite2 (fun z0 => ?_) (fun z => iteF ?_)⟩
      · have hrm0 : 0 < rm := by
          have := of_decide_eq_true z0
          omega
        refine ⟨_, rfl, d, _, m + 4 * (60 - (i + 1)) + 3 + 1000000 * rm, rfl, by decide, by decide, D2.le (by omega), fun y H3 y0 y1 f3 D3 => ⟨_, _, rfl, rfl, _, rfl, ite2 (fun z => ?_) (fun z => ?_)⟩⟩
        · refine ⟨_, rfl, ?_⟩
          refine ⟨_, rfl, lg, rfl, ?_⟩
          have hrm60 : rm ≤ 60 := by omega
          cases hlgc : lg with
          | true =>
            subst hlgc
            refine iteT ?_
            refine ⟨_, rfl, d, _, m + 4 * (60 - (i + 1)) + 2 + 1000000 * rm, rfl, by decide, by decide, D3.le (by omega), fun y2 H4 _ _ f4 D4 => ⟨_, _, rfl, rfl, _, rfl, ite2 (fun z => ?_) (fun z => ?_)⟩⟩
            · refine ⟨_, rfl, _, _, rfl, ?_⟩
              obtain ⟨ms, hms, ms0, ms1⟩ : ∃ ms : Nat, (if (3 : Int) < (rm : Int) then 3 else (rm : Int)) = (ms : Int) ∧ 1 ≤ ms ∧ ms ≤ rm := by
                by_cases u : (3 : Int) < (rm : Int)
                · exact ⟨3, by rw [if_pos u]; rfl, by omega, by omega⟩
                · exact ⟨rm, by rw [if_neg u], by omega, by omega⟩
              rw [hms]
              refine ⟨_, rfl, _, rfl, _, rfl, d, _, m + 4 * (60 - (i + 1)) + 1 + 1000000 * rm, rfl, by omega, by omega, D4.le (by omega), fun y3 H5 u0 u1 f5 D5 => ⟨_, _, rfl, rfl, _, rfl, ?_⟩⟩
              obtain ⟨q, rfl⟩ : ∃ q : Nat, y3 = (q : Int) := ⟨y3.toNat, by omega⟩
              refine ⟨d, 1 + q, deep, m + 4 * (60 - (i + 1)) + 1000000 * (rm - (1 + q)), by rw [Int.natCast_add]; rfl, by omega, by omega, hd1, hdeep, by omega, D5.le (by omega), fun e v H6 eok esz edp dv f6 D6 => ?_⟩
              have F6 := (f3.trans f4).trans (f5.trans f6)
              have hp6 := F6 _ _ hpd hp
              have hx6 := dpa_nl (F6.tf hdd2) _ _ (nl_des ds) hxs
              have hxl : xs.length = ds.length := by rw [dpa_len hx6, List.length_map]
              refine ⟨_, rfl, .inl ⟨rfl, _, SqL.of hp6⟩, _, rfl, p, xs, v, rfl, rfl, hp6, Nat.lt_of_lt_of_le (show xs.length < 1000 by omega) (by decide), ?_⟩
              have tp := TF.of_lst (o := .lst (xs ++ [v])) hp6
              have hp7 : (upd H6 p (.lst (xs ++ [v]))) p = some (.lst (xs ++ [v])) := upd_same
              have hx7 : DpAll K (upd H6 p (.lst (xs ++ [v]))) (xs ++ [v]) ((ds ++ [e]).map De.py) := by
                rw [List.map_append]
                exact dpa_snoc (dpa_nl tp _ _ (nl_des ds) hx6) (dp_nl tp _ _ e.nl dv)
              have dv7 := dp_nl tp _ _ e.nl dv
              have F7 : Frm d H (upd H6 p (.lst (xs ++ [v]))) := Frm.fresh (F2.trans F6) np
              have D7 : Deck (upd H6 p (.lst (xs ++ [v]))) d _ := D6.keep (upd_ne hpd.symm)
              obtain ⟨H7, hH7⟩ : ∃ H7, H7 = upd H6 p (.lst (xs ++ [v])) := ⟨_, rfl⟩
              rw [← hH7] at hp7 hx7 dv7 F7 D7 ⊢
              refine ⟨_, rfl, _, rfl, (show 3 ≤ sizeLine by decide), fun t nt => ⟨(show 1 ≤ sizeLine by decide), fun a na => ?_⟩⟩
              have st := new_same (o := .tup [.str "deed", v, .int 1]) nt
              have sa := new_same (o := .lst [.ref t]) na
              have sta := st.trans sa
              have had : a ≠ d := (ne_of_none (st _ _ D7.lst.choose_spec) na).symm
              have hap : a ≠ p := (ne_of_none (st _ _ hp7) na).symm
              have hszp : e.size ≤ 60 := by omega
              refine ⟨a, [.ref t], [⟨.deed e, 1⟩], rfl, upd_same, .cons (.tup ((same_tf sa).sq (SqT.of upd_same)) (.cons (.str _) (.cons (dp_nl (same_tf sta) _ _ e.nl dv7) (.cons (.int _) .nil)))) .nil, fun j hj => by rw [List.mem_singleton.mp hj]; exact eok, by rw [isz_one]; show e.size ≤ 600; omega, fun g is ys H8 hg hgd _ hgl _ f8 ng => ?_⟩
              rw [isz_one] at hgl
              have hgl : is.length = e.size := hgl
              have S8 : ∀ b o, H7 b = some o → b ≠ a → H8 b = some o := fun b o z na' => f8 b o na' (sta _ _ z)
              have t8 : TF H7 H8 := (same_tf sta).trans (Frm.tf f8 (xs := [.ref t]) upd_same)
              refine ⟨g, ys, rfl, .inl (SqL.of hg), _, _, rfl, rfl, ?_⟩
              have hyl : ys.length = e.size := by rw [dpa_len hgd, List.length_map, hgl]
              have eroom : (rm : Int) - ((ys.length : Nat) : Int) = ((rm - e.size : Nat) : Int) := by rw [hyl]; omega
              refine ⟨some (.int (0 + (i : Int))), some (.int (ms : Int)), some v, rm - e.size, ds ++ [e], xs ++ [v], by rw [← eroom]; rfl, by rw [szs_snoc]; omega, by simp; omega, fun x hx => ?_, fun x hx => ?_, S8 _ _ hp7 hap.symm, dpa_nl t8 _ _ (nl_des _) hx7, fun b o hb z => ?_, ?_⟩
              · rcases List.mem_append.mp hx with hx | hx
                · exact hok x hx
                · rw [List.mem_singleton.mp hx]
                  exact eok
              · rcases List.mem_append.mp hx with hx | hx
                · exact hdp x hx
                · rw [List.mem_singleton.mp hx]
                  exact edp
              · have h7 := F7 b o hb z
                refine S8 b o h7 (ne_of_none (st _ _ h7) na)
              · obtain ⟨r0, m0, i0, c0, hd7, hrest⟩ := D7.le (k := m + 4 * (60 - (i + 1)) + 1000000 * (rm - e.size)) (by omega)
                exact ⟨r0, m0, i0, c0, S8 _ _ hd7 had.symm, hrest⟩
            · obtain ⟨ms, hms, ms0, ms1⟩ : ∃ ms : Nat, ((rm : Nat) : Int) = (ms : Int) ∧ 1 ≤ ms ∧ ms ≤ rm := ⟨rm, rfl, by omega, by omega⟩
              refine ⟨_, rfl, _, rfl, _, rfl, d, _, m + 4 * (60 - (i + 1)) + 1 + 1000000 * rm, rfl, by omega, by omega, D4.le (by omega), fun y3 H5 u0 u1 f5 D5 => ⟨_, _, rfl, rfl, _, rfl, ?_⟩⟩
              obtain ⟨q, rfl⟩ : ∃ q : Nat, y3 = (q : Int) := ⟨y3.toNat, by omega⟩
              refine ⟨d, 1 + q, deep, m + 4 * (60 - (i + 1)) + 1000000 * (rm - (1 + q)), by rw [Int.natCast_add]; rfl, by omega, by omega, hd1, hdeep, by omega, D5.le (by omega), fun e v H6 eok esz edp dv f6 D6 => ?_⟩
              have F6 := (f3.trans f4).trans (f5.trans f6)
              have hp6 := F6 _ _ hpd hp
              have hx6 := dpa_nl (F6.tf hdd2) _ _ (nl_des ds) hxs
              have hxl : xs.length = ds.length := by rw [dpa_len hx6, List.length_map]
              refine ⟨_, rfl, .inl ⟨rfl, _, SqL.of hp6⟩, _, rfl, p, xs, v, rfl, rfl, hp6, Nat.lt_of_lt_of_le (show xs.length < 1000 by omega) (by decide), ?_⟩
              have tp := TF.of_lst (o := .lst (xs ++ [v])) hp6
              have hp7 : (upd H6 p (.lst (xs ++ [v]))) p = some (.lst (xs ++ [v])) := upd_same
              have hx7 : DpAll K (upd H6 p (.lst (xs ++ [v]))) (xs ++ [v]) ((ds ++ [e]).map De.py) := by
                rw [List.map_append]
                exact dpa_snoc (dpa_nl tp _ _ (nl_des ds) hx6) (dp_nl tp _ _ e.nl dv)
              have dv7 := dp_nl tp _ _ e.nl dv
              have F7 : Frm d H (upd H6 p (.lst (xs ++ [v]))) := Frm.fresh (F2.trans F6) np
              have D7 : Deck (upd H6 p (.lst (xs ++ [v]))) d _ := D6.keep (upd_ne hpd.symm)
              obtain ⟨H7, hH7⟩ : ∃ H7, H7 = upd H6 p (.lst (xs ++ [v])) := ⟨_, rfl⟩
              rw [← hH7] at hp7 hx7 dv7 F7 D7 ⊢
              refine ⟨_, rfl, _, rfl, (show 3 ≤ sizeLine by decide), fun t nt => ⟨(show 1 ≤ sizeLine by decide), fun a na => ?_⟩⟩
              have st := new_same (o := .tup [.str "deed", v, .int 1]) nt
              have sa := new_same (o := .lst [.ref t]) na
              have sta := st.trans sa
              have had : a ≠ d := (ne_of_none (st _ _ D7.lst.choose_spec) na).symm
              have hap : a ≠ p := (ne_of_none (st _ _ hp7) na).symm
              have hszp : e.size ≤ 60 := by omega
              refine ⟨a, [.ref t], [⟨.deed e, 1⟩], rfl, upd_same, .cons (.tup ((same_tf sa).sq (SqT.of upd_same)) (.cons (.str _) (.cons (dp_nl (same_tf sta) _ _ e.nl dv7) (.cons (.int _) .nil)))) .nil, fun j hj => by rw [List.mem_singleton.mp hj]; exact eok, by rw [isz_one]; show e.size ≤ 600; omega, fun g is ys H8 hg hgd _ hgl _ f8 ng => ?_⟩
              rw [isz_one] at hgl
              have hgl : is.length = e.size := hgl
              have S8 : ∀ b o, H7 b = some o → b ≠ a → H8 b = some o := fun b o z na' => f8 b o na' (sta _ _ z)
              have t8 : TF H7 H8 := (same_tf sta).trans (Frm.tf f8 (xs := [.ref t]) upd_same)
              refine ⟨g, ys, rfl, .inl (SqL.of hg), _, _, rfl, rfl, ?_⟩
              have hyl : ys.length = e.size := by rw [dpa_len hgd, List.length_map, hgl]
              have eroom : (rm : Int) - ((ys.length : Nat) : Int) = ((rm - e.size : Nat) : Int) := by rw [hyl]; omega
              refine ⟨some (.int (0 + (i : Int))), some (.int (rm : Int)), some v, rm - e.size, ds ++ [e], xs ++ [v], by rw [← eroom]; rfl, by rw [szs_snoc]; omega, by simp; omega, fun x hx => ?_, fun x hx => ?_, S8 _ _ hp7 hap.symm, dpa_nl t8 _ _ (nl_des _) hx7, fun b o hb z => ?_, ?_⟩
              · rcases List.mem_append.mp hx with hx | hx
                · exact hok x hx
                · rw [List.mem_singleton.mp hx]
                  exact eok
              · rcases List.mem_append.mp hx with hx | hx
                · exact hdp x hx
                · rw [List.mem_singleton.mp hx]
                  exact edp
              · have h7 := F7 b o hb z
                refine S8 b o h7 (ne_of_none (st _ _ h7) na)
              · obtain ⟨r0, m0, i0, c0, hd7, hrest⟩ := D7.le (k := m + 4 * (60 - (i + 1)) + 1000000 * (rm - e.size)) (by omega)
                exact ⟨r0, m0, i0, c0, S8 _ _ hd7 had.symm, hrest⟩
          | false =>
            subst hlgc
            refine iteF ?_
            obtain ⟨ms, hms, ms0, ms1⟩ : ∃ ms : Nat, ((rm : Nat) : Int) = (ms : Int) ∧ 1 ≤ ms ∧ ms ≤ rm := ⟨rm, rfl, by omega, by omega⟩
            refine ⟨_, rfl, _, rfl, _, rfl, d, _, m + 4 * (60 - (i + 1)) + 1 + 1000000 * rm, rfl, by omega, by omega, D3.le (by omega), fun y3 H5 u0 u1 f5 D5 => ⟨_, _, rfl, rfl, _, rfl, ?_⟩⟩
            obtain ⟨q, rfl⟩ : ∃ q : Nat, y3 = (q : Int) := ⟨y3.toNat, by omega⟩
            refine ⟨d, 1 + q, deep, m + 4 * (60 - (i + 1)) + 1000000 * (rm - (1 + q)), by rw [Int.natCast_add]; rfl, by omega, by omega, hd1, hdeep, by omega, D5.le (by omega), fun e v H6 eok esz edp dv f6 D6 => ?_⟩
            have F6 := f3.trans (f5.trans f6)
            have hp6 := F6 _ _ hpd hp
            have hx6 := dpa_nl (F6.tf hdd2) _ _ (nl_des ds) hxs
            have hxl : xs.length = ds.length := by rw [dpa_len hx6, List.length_map]
            refine ⟨_, rfl, .inl ⟨rfl, _, SqL.of hp6⟩, _, rfl, p, xs, v, rfl, rfl, hp6, Nat.lt_of_lt_of_le (show xs.length < 1000 by omega) (by decide), ?_⟩
            have tp := TF.of_lst (o := .lst (xs ++ [v])) hp6
            have hp7 : (upd H6 p (.lst (xs ++ [v]))) p = some (.lst (xs ++ [v])) := upd_same
            have hx7 : DpAll K (upd H6 p (.lst (xs ++ [v]))) (xs ++ [v]) ((ds ++ [e]).map De.py) := by
              rw [List.map_append]
              exact dpa_snoc (dpa_nl tp _ _ (nl_des ds) hx6) (dp_nl tp _ _ e.nl dv)
            have dv7 := dp_nl tp _ _ e.nl dv
            have F7 : Frm d H (upd H6 p (.lst (xs ++ [v]))) := Frm.fresh (F2.trans F6) np
            have D7 : Deck (upd H6 p (.lst (xs ++ [v]))) d _ := D6.keep (upd_ne hpd.symm)
            obtain ⟨H7, hH7⟩ : ∃ H7, H7 = upd H6 p (.lst (xs ++ [v])) := ⟨_, rfl⟩
            rw [← hH7] at hp7 hx7 dv7 F7 D7 ⊢
            refine ⟨_, rfl, _, rfl, (show 3 ≤ sizeLine by decide), fun t nt => ⟨(show 1 ≤ sizeLine by decide), fun a na => ?_⟩⟩
            have st := new_same (o := .tup [.str "deed", v, .int 1]) nt
            have sa := new_same (o := .lst [.ref t]) na
            have sta := st.trans sa
            have had : a ≠ d := (ne_of_none (st _ _ D7.lst.choose_spec) na).symm
            have hap : a ≠ p := (ne_of_none (st _ _ hp7) na).symm
            have hszp : e.size ≤ 60 := by omega
            refine ⟨a, [.ref t], [⟨.deed e, 1⟩], rfl, upd_same, .cons (.tup ((same_tf sa).sq (SqT.of upd_same)) (.cons (.str _) (.cons (dp_nl (same_tf sta) _ _ e.nl dv7) (.cons (.int _) .nil)))) .nil, fun j hj => by rw [List.mem_singleton.mp hj]; exact eok, by rw [isz_one]; show e.size ≤ 600; omega, fun g is ys H8 hg hgd _ hgl _ f8 ng => ?_⟩
            rw [isz_one] at hgl
            have hgl : is.length = e.size := hgl
            have S8 : ∀ b o, H7 b = some o → b ≠ a → H8 b = some o := fun b o z na' => f8 b o na' (sta _ _ z)
            have t8 : TF H7 H8 := (same_tf sta).trans (Frm.tf f8 (xs := [.ref t]) upd_same)
            refine ⟨g, ys, rfl, .inl (SqL.of hg), _, _, rfl, rfl, ?_⟩
            have hyl : ys.length = e.size := by rw [dpa_len hgd, List.length_map, hgl]
            have eroom : (rm : Int) - ((ys.length : Nat) : Int) = ((rm - e.size : Nat) : Int) := by rw [hyl]; omega
            refine ⟨some (.int (0 + (i : Int))), some (.int (rm : Int)), some v, rm - e.size, ds ++ [e], xs ++ [v], by rw [← eroom]; rfl, by rw [szs_snoc]; omega, by simp; omega, fun x hx => ?_, fun x hx => ?_, S8 _ _ hp7 hap.symm, dpa_nl t8 _ _ (nl_des _) hx7, fun b o hb z => ?_, ?_⟩
            · rcases List.mem_append.mp hx with hx | hx
              · exact hok x hx
              · rw [List.mem_singleton.mp hx]
                exact eok
            · rcases List.mem_append.mp hx with hx | hx
              · exact hdp x hx
              · rw [List.mem_singleton.mp hx]
                exact edp
            · have h7 := F7 b o hb z
              refine S8 b o h7 (ne_of_none (st _ _ h7) na)
            · obtain ⟨r0, m0, i0, c0, hd7, hrest⟩ := D7.le (k := m + 4 * (60 - (i + 1)) + 1000000 * (rm - e.size)) (by omega)
              exact ⟨r0, m0, i0, c0, S8 _ _ hd7 had.symm, hrest⟩
        · exact skip _ _ H3 f3 (D3.le (by omega))
      · exact skip _ _ H2 (Frm.refl _ _) (D2.le (by omega))
    · obtain ⟨v5, v6, v7, rm, ds, xs, rfl, hrm, hln, hok, hdp, hp, hxs, F2, D2⟩ := hPv
      refine ⟨_, rfl, p, _, rfl, .inl ⟨SqL.of hp, fun l nl => k l ds xs _ hok (by omega) hdp (SqT.of upd_same) (dpa_nl (TF.of_new nl) _ _ (nl_des ds) hxs) (F2.trans (Frm.of_new nl)) ((D2.same (new_same nl)).le (by omega))⟩⟩
theorem scDe : FnScope ["deck", "room", "deep", "way", "name", "asked", "first", "asked_tree", "one"] ["deck", "room", "deep"] (defScope s_law_deed) := ⟨rfl, rfl, rfl, by decide +kernel, rfl, by decide +kernel, by decide +kernel⟩
theorem ok_law_deed (T : Txt K w mg) : ∀ n : Nat, FnOk P w K mg base CX0 (2 * n + 2) (He.fAd K ("_law_deed", none)) (fdAt K (He.fAd K ("_law_deed", none))) ["deck", "room", "deep"] (spDe K n)
  | 0 => ⟨fun _ _ _ _ z => z.elim, fun _ _ _ _ _ _ _ _ _ _ _ _ _ z => z.elim⟩
  | n + 1 => by
    have GR := ok_law_rules (P := P) (base := base) T n (ok_law_deed T n)
    have GP := ok_law_parts (P := P) (base := base) T n (ok_law_tree T n)
    have GT := ok_law_tree (P := P) (base := base) T n
    refine T.F_law_deed.ok scDe (fun vs H Q E h => ?_) (fun cdv A outer s H vs Q E hr h => ?_)
    · obtain ⟨d, room, deep, m, rfl, _⟩ := h
      rfl
    · obtain ⟨d, room, deep, m, rfl, hr1, hr60, hd1, hdeep, n7, hD, k⟩ := h
      refine ⟨_, PSs.nox (pss_cons (ps_set (i := 3) scDe.nd rfl (Or.inl rfl) (pe_call (ok_law_take T) (hr.mono (by omega)) (by rfl) T.g_law_take (T.F_law_take).kp T.b_law_take .nil pass0 (pa_cons (pv 0) (pa_cons pe_int pa_nil))))
      (pss_cons (ps_if (PW.pt (pw_or (pt_cmpR op_eq (pv 3) pe_int (nomark _)) (pw_or (pt_cmpR op_lt (pv 1) pe_int (nomark _)) (pw_or1 (pt_cmpR op_lt (pv 2) pe_int (nomark _)))))) (pss_one (ps_ret (pe_tup (pa_cons pe_str pa_nil)))) pss_nil)
      (pss_cons (ps_if (PW.pt (pw_and (pt_cmpR op_eq (pv 3) pe_int (nomark _)) (pw_and1 (pt_cmpR op_gt (pv 1) pe_int (nomark _))))) (pss_one (ps_ret (pe_callTy call_tuple_of (by rfl) T.n_tuple PyProof.Rows.Boot.«tuple» (pa_cons (pe_op op_cat (pe_lst (pa_cons pe_str (pa_cons (pe_call (ok_law_take T) (hr.mono (by omega)) (by rfl) T.g_law_take (T.F_law_take).kp T.b_law_take .nil pass0 (pa_cons (pv 0) (pa_cons pe_int pa_nil))) pa_nil))) (pe_call GP (hr.mono (by omega)) (by rfl) T.g_law_parts (T.F_law_parts).kp T.b_law_parts .nil pass0 (pa_cons (pv 0) (pa_cons pe_int (pa_cons (pe_op op_sub (pv 1) pe_int) (pa_cons (pe_op op_sub (pv 2) pe_int) pa_nil)))))) pa_nil)))) pss_nil)
      (pss_cons (ps_if (PW.pt (pw_and (pt_cmpR op_lt (pv 3) pe_int (nomark _)) (pw_and1 (pt_cmpR op_gt (pv 1) pe_int (nomark _))))) (pss_one (ps_ret (pe_callTy call_tuple_of (by rfl) T.n_tuple PyProof.Rows.Boot.«tuple» (pa_cons (pe_op op_cat (pe_lst (pa_cons pe_str pa_nil)) (pe_call GP (hr.mono (by omega)) (by rfl) T.g_law_parts (T.F_law_parts).kp T.b_law_parts .nil pass0 (pa_cons (pv 0) (pa_cons pe_int (pa_cons (pe_op op_sub (pv 1) pe_int) (pa_cons (pe_op op_sub (pv 2) pe_int) pa_nil)))))) pa_nil)))) pss_nil)
      (pss_cons (ps_if (pt_cmpR op_lt (pv 3) pe_int (nomark _)) (pss_cons (ps_set (i := 4) scDe.nd rfl (Or.inl rfl) (pe_ix (r := rIxL K) ix_list (pe_lst (pa_cons pe_str (pa_cons pe_str pa_nil))) (pe_call (ok_law_take T) (hr.mono (by omega)) (by rfl) T.g_law_take (T.F_law_take).kp T.b_law_take .nil pass0 (pa_cons (pv 0) (pa_cons pe_int pa_nil))) (fun _ _ => rfl)))
      (pss_one (ps_ret (pe_tup (pa_cons (pv 4) (pa_cons (pe_call (ok_law_take T) (hr.mono (by omega)) (by rfl) T.g_law_take (T.F_law_take).kp T.b_law_take .nil pass0 (pa_cons (pv 0) (pa_cons (pe_ix (r := rIxL K) ix_list (pe_lst (pa_cons pe_int (pa_cons pe_int pa_nil))) (pe_callTy call_int1 (by rfl) T.n_int PyProof.Rows.Boot.«int» (pa_cons (pe_cmpR op_eq (pv 4) pe_str (nomark _)) pa_nil)) (fun _ _ => rfl)) pa_nil))) (pa_cons (pe_call GT (hr.mono (by omega)) (by rfl) T.g_law_tree (T.F_law_tree).kp T.b_law_tree .nil pass0 (pa_cons (pv 0) (pa_cons (pe_op op_sub (pv 1) pe_int) (pa_cons (pe_op op_sub (pv 2) pe_int) pa_nil)))) pa_nil))))))) pss_nil)
      (pss_cons (ps_set (i := 5) scDe.nd rfl (Or.inl rfl) (pe_op op_add pe_int (pe_call (ok_law_take T) (hr.mono (by omega)) (by rfl) T.g_law_take (T.F_law_take).kp T.b_law_take .nil pass0 (pa_cons (pv 0) (pa_cons (pe_callB (call_min2 rfl) (by rfl) T.n_min PyProof.Rows.Boot.«min» (pa_cons (pe_op op_sub (pv 1) pe_int) (pa_cons (pe_ix (r := rIxL K) ix_list (pe_lst (pa_cons pe_int (pa_cons pe_int (pa_cons pe_int pa_nil)))) (pe_call (ok_law_take T) (hr.mono (by omega)) (by rfl) T.g_law_take (T.F_law_take).kp T.b_law_take .nil pass0 (pa_cons (pv 0) (pa_cons pe_int pa_nil))) (fun _ _ => rfl)) pa_nil))) pa_nil)))))
      (pss_cons (ps_set (i := 6) scDe.nd rfl (Or.inl rfl) (pe_call (ok_law_take T) (hr.mono (by omega)) (by rfl) T.g_law_take (T.F_law_take).kp T.b_law_take .nil pass0 (pa_cons (pv 0) (pa_cons (pe_op op_sub (pv 1) (pv 5)) pa_nil))))
      (pss_cons (ps_set (i := 7) scDe.nd rfl (Or.inl rfl) (pe_call GT (hr.mono (by omega)) (by rfl) T.g_law_tree (T.F_law_tree).kp T.b_law_tree .nil pass0 (pa_cons (pv 0) (pa_cons (pv 5) (pa_cons (pe_op op_sub (pv 2) pe_int) pa_nil)))))
      (pss_cons (ps_set (i := 8) scDe.nd rfl (Or.inl rfl) (pe_call GR (hr.mono (by omega)) (by rfl) T.g_law_rules (T.F_law_rules).kp T.b_law_rules .nil pass0 (pa_cons (pv 0) (pa_cons (pv 6) (pa_cons (pe_op op_sub (pv 2) pe_int) pa_nil)))))
      (pss_one (ps_ret (pe_tup (pa_cons pe_str (pa_cons (pv 7) (pa_cons (pv 8) (pa_cons (pe_call GR (hr.mono (by omega)) (by rfl) T.g_law_rules (T.F_law_rules).kp T.b_law_rules .nil pass0 (pa_cons (pv 0) (pa_cons (pe_op op_sub (pe_op op_sub (pe_op op_sub (pv 1) pe_int) (pv 5)) (pv 6)) (pa_cons (pe_op op_sub (pv 2) pe_int) pa_nil)))) pa_nil)))))))))))))))), ?_⟩
      have p4 : 4 ^ n ≤ 4 ^ 7 := Nat.pow_le_pow_right (by decide) n7
      have p4 : 4 ^ n ≤ 16384 := p4
      obtain ⟨c, hc⟩ : ∃ c : Nat, c = 4 ^ n := ⟨_, rfl⟩
      rw [← hc] at p4
      refine ⟨_, rfl, d, _, m + 1000000 * room - 1, rfl, by decide, by decide, hD.le (by omega), fun x H1 x0 x1 f1 D1 => ?_⟩
      have fgone : ∀ H2, Frm d H H2 → Deck H2 d (m + 1000000 * (room - 1)) → ∀ p, H2 p = none → Q (.ref p) (upd H2 p (.tup [.str "gone"])) := fun H2 f2 D2 p np =>
        k .gone _ _ trivial (by rw [De.size]; omega) (by rw [De.dep]; omega) (by rw [De.py]; exact .tup (SqT.of upd_same) (.cons (.str _) .nil)) (f2.trans (Frm.of_new np)) (by rw [De.size]; exact D2.same (new_same np))
      have tr : ∀ {H0 : Hp} {rm dp : Int} {mm : Nat} {Q1 : VK} {E1 : XK}, 1 ≤ n → 1 ≤ rm → rm ≤ 1000 → dp ≤ (n : Int) → Deck H0 d (mm + 10 * c) → (∀ (e : Ex) v H', e.ok → (e.size : Int) ≤ rm → e.dep ≤ n → Dp K H' v e.py → Frm d H0 H' → Deck H' d mm → Q1 v H') → spTr K n [.ref d, .int rm, .int dp] H0 Q1 E1 := fun {H0 rm dp mm Q1 E1} g1 g2 g3 g4 g5 g6 => by
        rw [hc] at g5
        cases n with
        | zero => omega
        | succ n => exact ⟨d, rm, dp, mm, rfl, g2, g3, g4, g5, g6⟩
      have close : ∀ (hd : List V) (hdd : List PyData) (many : Nat), (∀ Hx, DpAll K Hx hd hdd) → NLs hdd → hd.length ≤ 2 → many ≤ 4 → (∀ es : List Ex, es.length = many → (∀ e ∈ es, e.ok ∧ e.dep ≤ n) → ∃ e : De, e.py = .tuple (hdd ++ es.map Ex.py) ∧ e.ok ∧ e.size = sizes es + 1 ∧ e.dep ≤ n + 1) → ∀ (H0 : Hp) (q : Addr), Frm d H H0 → H0 q = some (.lst hd) → q ≠ d → ∀ (p : Addr) (es : List Ex) (xs : List V) (H' : Hp), es.length = many → (∀ e ∈ es, e.ok ∧ e.dep ≤ n) → (sizes es : Int) ≤ (room : Int) - 1 → H' p = some (.lst xs) → DpAll K H' xs (es.map Ex.py) → Frm d H0 H' → Deck H' d (m + 1000000 * (room - 1)) →
          ∃ l b ys zs, V.ref q = .ref l ∧ V.ref p = .ref b ∧ H' l = some (.lst ys) ∧ H' b = some (.lst zs) ∧ ys.length + zs.length ≤ sizeLine ∧ ∀ r, H' r = none → ∃ p ts, [V.ref r] = [.ref p] ∧ ((SqL K (upd H' r (.lst (ys ++ zs))) p ts ∧ ∀ l, (upd H' r (.lst (ys ++ zs))) l = none → Q (.ref l) (upd (upd H' r (.lst (ys ++ zs))) l (.tup ts))) ∨ (SqT K (upd H' r (.lst (ys ++ zs))) p ts ∧ Q (.ref p) (upd H' r (.lst (ys ++ zs))))) := fun hd hdd many dh nh lh m4 comb H0 q f0 hq hne p es xs H' hl hok hsz hp hdp fr D => by
        have hx : xs.length = many := by rw [dpa_len hdp, List.length_map, hl]
        refine ⟨q, p, hd, xs, rfl, rfl, fr _ _ hne hq, hp, Nat.le_trans (show hd.length + xs.length ≤ 100 by omega) (by decide), fun r nr => ⟨r, _, rfl, .inl ⟨SqL.of upd_same, fun t nt => ?_⟩⟩⟩
        obtain ⟨e, g1, g2, g3, g4⟩ := comb es hl hok
        refine k e _ _ g2 (by omega) g4 ?_ (((f0.trans fr).trans (Frm.of_new nr)).trans (Frm.of_new nt)) (((D.same (new_same nr)).same (new_same nt)).le (by omega))
        rw [g1]
        exact .tup (SqT.of upd_same) (dpa_app (dpa_nl ((TF.of_new nr).trans (TF.of_new nt)) _ _ (nls_py es) hdp) (dh _))
      have maxL : ∀ {a b k : Nat}, a ≤ k → b ≤ k → Nat.max a b ≤ k := fun h1 h2 => Nat.max_le.mpr ⟨h1, h2⟩
      refine ⟨_, rfl, rfl, _, rfl, ite2 (fun z => iteT ⟨(show 1 ≤ sizeLine by decide), fun p np => fgone H1 f1 (D1.le (by omega)) p np⟩) (fun _ => ?_)⟩
      refine ⟨_, rfl, _, _, rfl, rfl, _, rfl, ite2 (fun z => iteT ⟨(show 1 ≤ sizeLine by decide), fun p np => fgone H1 f1 (D1.le (by omega)) p np⟩) (fun z1 => ?_)⟩
      have r2 : ¬ (room : Int) < 2 := fun u => z1 (decide_eq_true u)
      refine ⟨_, rfl, _, _, rfl, rfl, _, rfl, ite2 (fun z => ⟨(show 1 ≤ sizeLine by decide), fun p np => fgone H1 f1 (D1.le (by omega)) p np⟩) (fun z2 => ?_)⟩
      have d2 : ¬ deep < 2 := fun u => z2 (decide_eq_true u)
      have n1 : 1 ≤ n := by omega
      have cut : ∀ {D : Ends} {a b : TS} {σ : L2.St}, b D σ H1 → (∀ R : L2.St → Hp → Prop, R σ H1 → a { D with nx := R } σ H1) → tSeq a b D σ H1 := fun hb ha => ha _ hb
      dsimp only [tNext]
      refine cut ?_ (fun R hR => ?_)
      rotate_left
      · refine ⟨_, rfl, rfl, _, rfl, ite2 (fun z => ?_) (fun _ => iteF hR)⟩
        refine ⟨_, rfl, _, _, rfl, rfl, _, rfl, ite2 (fun z => ?_) (fun _ => hR)⟩
        have r4 := of_decide_eq_true z
        refine ⟨_, rfl, d, _, m + 1000000 * room - 2, rfl, by decide, by decide, D1.le (by omega), fun kd H2 k0 k1 f2 D2 => ⟨(show 2 ≤ sizeLine by decide), fun q nq => ?_⟩⟩
        have F2 := (f1.trans f2).trans (Frm.of_new (o := .lst [.str "born", .int kd]) nq)
        have hqd : q ≠ d := (ne_of_none D2.lst.choose_spec nq).symm
        refine ⟨_, rfl, _, rfl, _, _, rfl, rfl, _, rfl, _, _, rfl, rfl, d, 4, _, _, m + 1000000 * (room - 1), rfl, n1, by decide, by decide, by omega, by omega, by omega, (D2.same (new_same nq)).le (by rw [← hc]; omega), fun p es xs H' hl hok hsz hp hdp fr np D => ?_⟩
        refine close [.str "born", .int kd] [.str "born", .int kd] 4 (fun _ => .cons (.str _) (.cons (.int _) .nil)) ⟨trivial, trivial, trivial⟩ (Nat.le_refl 2) (by decide) (fun es hl hok => ?_) _ q F2 upd_same hqd p es xs H' hl hok hsz hp hdp fr D
        match es, hl with
        | [a, b, c, e], _ =>
          have ha := hok a (by simp)
          have hb := hok b (by simp)
          have hc := hok c (by simp)
          have he := hok e (by simp)
          refine ⟨.born kd a b c e, by simp [De.py], by rw [De.ok]; exact ⟨k0, by omega, ha.1, hb.1, hc.1, he.1⟩, by simp [De.size, sizes], ?_⟩
          rw [De.dep]
          exact Nat.succ_le_succ (maxL ha.2 (maxL hb.2 (maxL hc.2 he.2)))
      refine cut ?_ (fun R hR => ?_)
      rotate_left
      · refine ⟨_, rfl, _, _, rfl, rfl, _, rfl, ite2 (fun z => ?_) (fun _ => iteF hR)⟩
        refine ⟨_, rfl, _, _, rfl, rfl, _, rfl, ite2 (fun z => ?_) (fun _ => hR)⟩
        have r3 := of_decide_eq_true z
        refine ⟨(show 1 ≤ sizeLine by decide), fun q nq => ?_⟩
        have F2 := f1.trans (Frm.of_new (o := .lst [.str "go"]) nq)
        have hqd : q ≠ d := (ne_of_none D1.lst.choose_spec nq).symm
        refine ⟨_, rfl, _, rfl, _, _, rfl, rfl, _, rfl, _, _, rfl, rfl, d, 2, _, _, m + 1000000 * (room - 1), rfl, n1, by decide, by decide, by omega, by omega, by omega, (D1.same (new_same nq)).le (by rw [← hc]; omega), fun p es xs H' hl hok hsz hp hdp fr np D => ?_⟩
        refine close [.str "go"] [.str "go"] 2 (fun _ => .cons (.str _) .nil) ⟨trivial, trivial⟩ (by decide) (by decide) (fun es hl hok => ?_) _ q F2 upd_same hqd p es xs H' hl hok hsz hp hdp fr D
        match es, hl with
        | [a, b], _ =>
          have ha := hok a (by simp)
          have hb := hok b (by simp)
          refine ⟨.go a b, by simp [De.py], by rw [De.ok]; exact ⟨ha.1, hb.1⟩, by simp [De.size, sizes], ?_⟩
          rw [De.dep]
          exact Nat.succ_le_succ (maxL ha.2 hb.2)
      refine ⟨_, rfl, _, _, rfl, rfl, _, rfl, ite2 (fun z => ?_) (fun _ => ?_)⟩
      · refine ⟨(show 2 ≤ sizeLine by decide), fun q nq => ⟨_, rfl, d, _, m + 1000000 * room - 2, rfl, by decide, by decide, (D1.same (new_same nq)).le (by omega), fun y H2 y0 y1 f2 D2 => ?_⟩⟩
        have hqd : q ≠ d := (ne_of_none D1.lst.choose_spec nq).symm
        have hq2 := f2 _ _ hqd (upd_same (H := H1) (a := q) (o := .lst [.str "own", .str "mark"]))
        have F2 := (f1.trans (Frm.of_new nq)).trans f2
        have hy : y = 0 ∨ y = 1 := by omega
        rcases hy with rfl | rfl
        · refine ⟨q, _, _, .str "own", rfl, rfl, SqL.of hq2, atI_nat (j := 0) rfl, ?_⟩
          refine ⟨_, rfl, _, rfl, (show 2 ≤ sizeLine by decide), fun q2 nq2 => ⟨_, rfl, rfl, .inr ⟨_, rfl, ?_⟩⟩⟩
          show rIxL K _ (V.int 0) _ _
          refine ⟨q2, _, _, .int 4, rfl, rfl, SqL.of upd_same, atI_nat (j := 0) rfl, ?_⟩
          refine ⟨d, _, m + 1000000 * room - 3, rfl, by decide, by decide, (D2.same (new_same nq2)).le (by omega), fun i H3 i0 i1 f3 D3 => ?_⟩
          refine ⟨_, rfl, _, rfl, _, _, rfl, rfl, _, rfl, _, _, rfl, rfl, tr (mm := m + 1000000 * (room - 1)) n1 (by omega) (by omega) (by omega) (D3.le (by omega)) (fun e v H4 eok esz edp dv f4 D4 => ⟨(show 3 ≤ sizeLine by decide), fun p np => ?_⟩)⟩
          refine k (De.own i e) _ _ (by rw [De.ok]; exact ⟨i0, by omega, eok⟩) (by rw [De.size]; omega) (by rw [De.dep]; omega) ?_ ((((F2.trans (Frm.of_new nq2)).trans f3).trans f4).trans (Frm.of_new np)) (by rw [De.size]; exact (D4.same (new_same np)).le (by omega))
          rw [De.py]
          exact .tup (SqT.of upd_same) (.cons (.str _) (.cons (.int _) (.cons (dp_nl (TF.of_new np) _ _ e.nl dv) .nil)))
        · refine ⟨q, _, _, .str "mark", rfl, rfl, SqL.of hq2, atI_nat (j := 1) rfl, ?_⟩
          refine ⟨_, rfl, _, rfl, (show 2 ≤ sizeLine by decide), fun q2 nq2 => ⟨_, rfl, rfl, .inr ⟨_, rfl, ?_⟩⟩⟩
          show rIxL K _ (V.int 1) _ _
          refine ⟨q2, _, _, .int 16, rfl, rfl, SqL.of upd_same, atI_nat (j := 1) rfl, ?_⟩
          refine ⟨d, _, m + 1000000 * room - 3, rfl, by decide, by decide, (D2.same (new_same nq2)).le (by omega), fun i H3 i0 i1 f3 D3 => ?_⟩
          refine ⟨_, rfl, _, rfl, _, _, rfl, rfl, _, rfl, _, _, rfl, rfl, tr (mm := m + 1000000 * (room - 1)) n1 (by omega) (by omega) (by omega) (D3.le (by omega)) (fun e v H4 eok esz edp dv f4 D4 => ⟨(show 3 ≤ sizeLine by decide), fun p np => ?_⟩)⟩
          refine k (De.mark i e) _ _ (by rw [De.ok]; exact ⟨i0, by omega, eok⟩) (by rw [De.size]; omega) (by rw [De.dep]; omega) ?_ ((((F2.trans (Frm.of_new nq2)).trans f3).trans f4).trans (Frm.of_new np)) (by rw [De.size]; exact (D4.same (new_same np)).le (by omega))
          rw [De.py]
          exact .tup (SqT.of upd_same) (.cons (.str _) (.cons (.int _) (.cons (dp_nl (TF.of_new np) _ _ e.nl dv) .nil)))
      -- when
      refine ⟨_, rfl, _, rfl, _, _, rfl, rfl, (show 3 ≤ sizeLine by decide), fun q nq => ⟨_, rfl, d, _, m + 1000000 * room - 2, rfl, by decide, by decide, (D1.same (new_same nq)).le (by omega), fun y H2 y0 y1 f2 D2 => ?_⟩⟩
      obtain ⟨j, rfl⟩ : ∃ j : Nat, y = (j : Int) := ⟨y.toNat, by omega⟩
      have hw : ∃ w : Int, ([.int 6, .int 6, .int 60] : List V)[j]? = some (.int w) ∧ 6 ≤ w ∧ w ≤ 60 := by
        have hj : j < 3 := by omega
        match j, hj with
        | 0, _ => exact ⟨6, rfl, by decide, by decide⟩
        | 1, _ => exact ⟨6, rfl, by decide, by decide⟩
        | 2, _ => exact ⟨60, rfl, by decide, by decide⟩
      obtain ⟨ww, hw, w6, w60⟩ := hw
      have hqd : q ≠ d := (ne_of_none D1.lst.choose_spec nq).symm
      have hq2 := f2 _ _ hqd (upd_same (H := H1) (a := q) (o := .lst [.int 6, .int 6, .int 60]))
      have F2 := (f1.trans (Frm.of_new nq)).trans f2
      refine ⟨q, _, _, .int ww, rfl, rfl, SqL.of hq2, atI_nat hw, _, _, rfl, d, _, m + 1000000 * room - 3, rfl, ?_, ?_, D2.le (by omega), fun as H3 a0 a1 f3 D3 => ⟨_, _, rfl, rfl, ?_⟩⟩
      · split <;> omega
      · split <;> omega
      obtain ⟨sa, rfl⟩ : ∃ j : Nat, as = (j : Int) := ⟨as.toNat, by omega⟩
      have hsa : sa + 1 < room := by
        split at a1 <;> omega
      refine ⟨_, rfl, _, rfl, _, rfl, _, _, rfl, rfl, d, _, m + 1000000 * room - 4, rfl, by omega, by omega, D3.le (by omega), fun fs H4 s0 s1 f4 D4 => ?_⟩
      obtain ⟨sf, rfl⟩ : ∃ j : Nat, fs = (j : Int) := ⟨fs.toNat, by omega⟩
      have hsf : sf + sa + 1 < room := by omega
      refine ⟨_, rfl, _, rfl, _, rfl, _, _, rfl, rfl, tr (mm := m + 1000000 * room - 700000) n1 (by omega) (by omega) (by omega) (D4.le (by omega)) (fun e v H5 eok esz edp dv f5 D5 => ?_)⟩
      have F4 := (F2.trans f3).trans f4
      refine ⟨_, rfl, _, rfl, _, rfl, _, _, rfl, rfl, d, sf, _, m + 1000000 * (room - sf) - 700300, rfl, by omega, n1, by omega, by omega, by omega, D5.le (by omega), fun t1 ds1 xs1 H6 ok1 sz1 dp1 sq1 da1 f6 D6 => ?_⟩
      have dv6 := dp_nl (f6.tf D5.lst.choose_spec) _ _ e.nl dv
      have hroom : (room : Int) - 1 - (1 + (sa : Int)) - (sf : Int) = ((room - 2 - sa - sf : Nat) : Int) := by omega
      refine ⟨_, rfl, _, rfl, _, rfl, _, rfl, _, _, rfl, rfl, _, rfl, _, _, rfl, rfl, _, rfl, _, _, rfl, rfl, _, rfl, _, _, rfl, rfl, d, room - 2 - sa - sf, deep - 1, m + 1000000 * (room - szs ds1 - (room - 2 - sa - sf)) - 700600, congrArg (fun z => [V.ref d, V.int z, V.int (deep - 1)]) hroom, by omega, n1, by omega, by omega, by omega, D6.le (by omega), fun t2 ds2 xs2 H7 ok2 sz2 dp2 sq2 da2 f7 D7 => ?_⟩
      refine ⟨(show 4 ≤ sizeLine by decide), fun p np => ?_⟩
      have t67 := f7.tf D6.lst.choose_spec
      have tp := TF.of_new (o := .tup [.str "when", v, .ref t1, .ref t2]) np
      have esz' : e.size ≤ sa + 1 := by omega
      refine k (.when e ds1 ds2) _ _ (by rw [De.ok, oks_iff, oks_iff]; exact ⟨eok, ok1, ok2⟩) (by rw [De.size]; omega) ?_ ?_ ((((F4.trans f5).trans f6).trans f7).trans (Frm.of_new np)) ?_
      · rw [De.dep]
        exact Nat.succ_le_succ (maxL edp (maxL ((deps_le ds1).mpr dp1) ((deps_le ds2).mpr dp2)))
      · rw [De.py, pys_eq, pys_eq]
        exact .tup (SqT.of upd_same) (.cons (.str _) (.cons (dp_nl (t67.trans tp) _ _ e.nl dv6) (.cons (.tup ((t67.trans tp).sq sq1) (dpa_nl (t67.trans tp) _ _ (nl_des _) da1)) (.cons (.tup (tp.sq sq2) (dpa_nl tp _ _ (nl_des _) da2)) .nil))))
      · rw [De.size]
        exact (D7.same (new_same np)).le (by omega)
end
end K5
set_option maxRecDepth 100000
set_option maxHeartbeats 4000000
/-! What an expression wants. -/
namespace K5
open PySem PySem.Spec PyProof.Rows L2 KF
theorem words_mark : ∀ s ∈ words, decide (V.str s = V.str "mark") = false := by decide
theorem twos_mark : ∀ s ∈ twos, decide (V.str s = V.str "mark") = false := by decide
theorem Nd.markOld (x : Nd) (ok : x.ok) : (decide (V.str x.nm = V.str "mark") = false ∧ ∀ j, x ≠ .tree (.leaf (.mark j))) ∨ ∃ q rest, x.nm = "mark" ∧ x.args = .int q :: rest ∧ ∀ j, x = .tree (.leaf (.mark j)) → j = q := by
  cases x with
  | deed d =>
    cases d with
    | mark i a => exact .inr ⟨i, _, rfl, rfl, fun j h => nomatch h⟩
    | own i a => exact .inl ⟨by rfl, fun j h => nomatch h⟩
    | go a b => exact .inl ⟨by rfl, fun j h => nomatch h⟩
    | born k a b c d => exact .inl ⟨by rfl, fun j h => nomatch h⟩
    | gone => exact .inl ⟨by rfl, fun j h => nomatch h⟩
    | when a ds es => exact .inl ⟨by rfl, fun j h => nomatch h⟩
  | tree e =>
    cases e with
    | leaf l =>
      cases l with
      | mark j => exact .inr ⟨j, _, rfl, rfl, fun j h => by injection h with h; injection h with h; injection h with h; exact h.symm⟩
      | word w => exact .inl ⟨words_mark w ok, fun j h => by injection h with h; injection h with h; cases h⟩
      | _ => exact .inl ⟨by rfl, fun j h => by injection h with h; injection h with h; cases h⟩
    | neg a => exact .inl ⟨by rfl, fun j h => by injection h with h; cases h⟩
    | two k a b => exact .inl ⟨twos_mark k ok.1, fun j h => by injection h with h; cases h⟩
    | pick a b c => exact .inl ⟨by rfl, fun j h => by injection h with h; cases h⟩
def Nd.isMark : Nd → Option Int
  | .deed (.mark i _) => some i
  | .tree (.leaf (.mark i)) => some i
  | _ => none
def Nd.isDrawn : Nd → Bool
  | .tree (.leaf (.drawn _)) => true
  | _ => false
def Nd.isMet : Nd → Bool
  | .tree (.leaf (.met _)) => true
  | .tree (.leaf (.metOwn _ _)) => true
  | _ => false
theorem words_dm : ∀ s ∈ words, decide (s = "drawn") = false ∧ decide (s = "met") = false ∧ decide (s = "met own") = false := by decide
theorem twos_dm : ∀ s ∈ twos, decide (s = "drawn") = false ∧ decide (s = "met") = false ∧ decide (s = "met own") = false := by decide
theorem Nd.drawn_nm (x : Nd) (ok : x.ok) : decide (x.nm = "drawn") = x.isDrawn := by
  cases x with
  | deed d => cases d <;> rfl
  | tree e =>
    cases e with
    | leaf l =>
      cases l with
      | word w => exact (words_dm w ok).1
      | _ => rfl
    | neg a => rfl
    | two k a b => exact (twos_dm k ok.1).1
    | pick a b c => rfl
theorem Nd.met_nm (x : Nd) (ok : x.ok) : (decide (x.nm = "met") || decide (x.nm = "met own")) = x.isMet := by
  cases x with
  | deed d => cases d <;> rfl
  | tree e =>
    cases e with
    | leaf l =>
      cases l with
      | word w =>
        show (decide (w = "met") || decide (w = "met own")) = false
        rw [(words_dm w ok).2.1, (words_dm w ok).2.2]
        rfl
      | _ => rfl
    | neg a => rfl
    | two k a b =>
      show (decide (k = "met") || decide (k = "met own")) = false
      rw [(twos_dm k ok.1).2.1, (twos_dm k ok.1).2.2]
      rfl
    | pick a b c => rfl
/-- the marks, the seed, the met things that a script wants -/
def wantsM (ds : List De) : List Nat := (List.range 16).filter fun i => (ndsOf ds).any fun x => decide (x.isMark = some (i : Int))
def wantsS (ds : List De) : Bool := (ndsOf ds).any Nd.isDrawn
def wantsT (ds : List De) : Bool := (ndsOf ds).any Nd.isMet
def wantsPy (ds : List De) : PyData := .tuple [.tuple ((wantsM ds).map fun m : Nat => .int (m : Int)), .bool (wantsS ds), .bool (wantsT ds)]
theorem any_iff {α β : Type} {l : List α} {m : List β} {g : α → β} {p : β → Bool} (h : ∀ x, (∃ i ∈ l, g i = x) ↔ x ∈ m) : (l.any fun i => p (g i)) = m.any p := by
  rw [Bool.eq_iff_iff, List.any_eq_true, List.any_eq_true]
  constructor
  · rintro ⟨i, hi, hp⟩
    exact ⟨g i, (h _).mp ⟨i, hi, rfl⟩, hp⟩
  · rintro ⟨x, hx, hp⟩
    obtain ⟨i, hi, rfl⟩ := (h x).mpr hx
    exact ⟨i, hi, hp⟩
theorem any_congr {α : Type} {l : List α} {p q : α → Bool} (h : ∀ x ∈ l, p x = q x) : l.any p = l.any q := by
  induction l with
  | nil => rfl
  | cons x l ih =>
    rw [List.any_cons, List.any_cons, h x (by simp), ih fun y hy => h y (by simp [hy])]
theorem any_or {α : Type} {p q : α → Bool} : ∀ l : List α, (l.any p || l.any q) = l.any fun x => p x || q x
  | [] => rfl
  | x :: l => by
    rw [List.any_cons, List.any_cons, List.any_cons, ← any_or l]
    cases p x <;> cases q x <;> simp
theorem inV_any (s : Str) : ∀ is : List Wt, inV (.str s) (is.map fun i => V.str i.x.nm) = is.any fun i => decide (i.x.nm = s)
  | [] => rfl
  | i :: is => by
    have ih := inV_any s is
    simp only [inV, List.map_cons, List.any_cons] at ih ⊢
    rw [ih]
    refine congrArg (fun b => b || _) ?_
    rw [Bool.eq_iff_iff]
    simp [eqV]
theorem leaf_ok : ∀ (e : Ex), e.ok → ∀ l ∈ e.leaves, l.ok
  | .leaf l, h, x, hx => by
    rw [Ex.leaves, List.mem_singleton] at hx
    rw [hx]
    exact h
  | .neg a, h, x, hx => leaf_ok a h x hx
  | .two _ a b, h, x, hx => by
    rcases List.mem_append.mp hx with hx | hx
    · exact leaf_ok a h.2.1 x hx
    · exact leaf_ok b h.2.2 x hx
  | .pick a b c, h, x, hx => by
    rcases List.mem_append.mp hx with hx | hx
    · exact leaf_ok a h.1 x hx
    rcases List.mem_append.mp hx with hx | hx
    · exact leaf_ok b h.2.1 x hx
    · exact leaf_ok c h.2.2 x hx
mutual
theorem De.leaf_ok : ∀ (d : De), d.ok → ∀ l ∈ d.leaves, l.ok
  | .own i a, h, x, hx => by
    rw [De.ok] at h; rw [De.leaves] at hx
    exact K5.leaf_ok a h.2.2 x hx
  | .mark i a, h, x, hx => by
    rw [De.ok] at h; rw [De.leaves] at hx
    exact K5.leaf_ok a h.2.2 x hx
  | .go a b, h, x, hx => by
    rw [De.ok] at h; rw [De.leaves] at hx
    rcases List.mem_append.mp hx with hx | hx
    · exact K5.leaf_ok a h.1 x hx
    · exact K5.leaf_ok b h.2 x hx
  | .born k a b c d, h, x, hx => by
    rw [De.ok] at h; rw [De.leaves] at hx
    rcases List.mem_append.mp hx with hx | hx
    · exact K5.leaf_ok a h.2.2.1 x hx
    rcases List.mem_append.mp hx with hx | hx
    · exact K5.leaf_ok b h.2.2.2.1 x hx
    rcases List.mem_append.mp hx with hx | hx
    · exact K5.leaf_ok c h.2.2.2.2.1 x hx
    · exact K5.leaf_ok d h.2.2.2.2.2 x hx
  | .gone, h, x, hx => by
    rw [De.leaves] at hx
    cases hx
  | .when a ds es, h, x, hx => by
    rw [De.ok] at h; rw [De.leaves] at hx
    rcases List.mem_append.mp hx with hx | hx
    · exact K5.leaf_ok a h.1 x hx
    rcases List.mem_append.mp hx with hx | hx
    · exact lvs_ok ds h.2.1 x hx
    · exact lvs_ok es h.2.2 x hx
theorem lvs_ok : ∀ (ds : List De), oks ds → ∀ l ∈ lvs ds, l.ok
  | [], h, x, hx => by
    rw [lvs] at hx
    cases hx
  | d :: ds, h, x, hx => by
    rw [oks] at h; rw [lvs] at hx
    rcases List.mem_append.mp hx with hx | hx
    · exact d.leaf_ok h.1 x hx
    · exact lvs_ok ds h.2 x hx
end
abbrev Wt.inn (i : Wt) : PyData := i.x.py
abbrev Wt.nm (i : Wt) : Str := i.x.nm
abbrev Wt.args (i : Wt) : List PyData := i.x.args
theorem Wt.nl' (i : Wt) : NL i.inn := i.x.nl
theorem Wt.inn_eq (i : Wt) : i.inn = .tuple (.str i.nm :: i.args) := i.x.py_eq
theorem flat_nm : ∀ is : List Wt, (is.map fun i => V.str i.nm).all flatV = true
  | [] => rfl
  | i :: is => by simp [flatV, flat_nm is]
theorem in_nm {s : Str} : ∀ {is : List Wt} {i : Wt}, i ∈ is → i.nm = s → inV (.str s) (is.map fun i => V.str i.nm) = true := fun {is i} h e => by
  refine List.any_eq_true.mpr ⟨V.str i.nm, List.mem_map.mpr ⟨i, h, rfl⟩, ?_⟩
  rw [e]
  simp [eqV]
section
variable {P : Program} {w : World} {K : PySem.W.Frag} {mg : Str → Option Value} {base : Heap}
theorem Nd.mark (x : Nd) (ok : x.ok) : (decide (V.str x.nm = V.str "mark") = false ∧ x.isMark = none) ∨ ∃ q rest, x.nm = "mark" ∧ x.args = .int q :: rest ∧ x.isMark = some q := by
  cases x with
  | deed d =>
    cases d with
    | mark i a => exact .inr ⟨i, _, rfl, rfl, rfl⟩
    | _ => exact .inl ⟨by rfl, rfl⟩
  | tree e =>
    cases e with
    | leaf l =>
      cases l with
      | mark j => exact .inr ⟨j, _, rfl, rfl, rfl⟩
      | word w => exact .inl ⟨words_mark w ok, rfl⟩
      | _ => exact .inl ⟨by rfl, rfl⟩
    | neg a => exact .inl ⟨by rfl, rfl⟩
    | two k a b => exact .inl ⟨twos_mark k ok.1, rfl⟩
    | pick a b c => exact .inl ⟨by rfl, rfl⟩
/-! ### _law_all -/
def spAll (K : PySem.W.Frag) : Sp := fun vs H Q _ => ∃ (r : Addr) (rv : List V) (rs : List De), vs = [.ref r] ∧ SqT K H r rv ∧ DpAll K H rv (rs.map De.py) ∧ (∀ d ∈ rs, d.ok) ∧ szs rs ≤ 60 ∧
    ∀ (p : Addr) (is : List Wt) xs H', H' p = some (.lst xs) → DpAll K H' xs (is.map Wt.py) → (∀ i ∈ is, i.x.ok) → is.length = szs rs → (∀ x, (∃ i ∈ is, i.x = x) ↔ x ∈ ndsOf rs) → Same H H' → Q (.ref p) H'
theorem scL : FnScope ["rules", "deed"] ["rules"] (defScope s_law_all) := ⟨rfl, rfl, rfl, by decide +kernel, rfl, by decide +kernel, by decide +kernel⟩
theorem ok_law_all (T : Txt K w mg) : FnOk P w K mg base CX0 2 (He.fAd K ("_law_all", none)) (fdAt K (He.fAd K ("_law_all", none))) ["rules"] (spAll K) := by
  refine T.F_law_all.ok scL (fun vs H Q E h => ?_) (fun cdv A outer s H vs Q E hr h => ?_)
  · obtain ⟨r, rv, rs, rfl, _⟩ := h
    rfl
  · obtain ⟨r, rv, rs, rfl, hs, hd, ok, hz, k⟩ := h
    refine ⟨_, PSs.nox (pss_one (ps_ret (pe_call (ok_law_within T) (hr.mono (by decide)) (by rfl) T.g_law_within (T.F_law_within).kp T.b_law_within .nil pass0 (pa_cons (pe_lc (own := [("deed", 1)]) (g := gName 1) (tt := tYes) (by rfl) scL.nd (pi_tup (pv 0)) (blkOk_by (own := [("deed", 1)]) (N := ["rules", "deed"]) (sc := defScope s_law_all) (by decide +kernel)) (fun _ _ _ _ _ => pg_name (i := 1) scL.nd rfl (Or.inl rfl)) (fun _ _ _ _ _ => pts_nil) (fun _ _ _ _ _ => (pe_tup (pa_cons pe_str (pa_cons (pv 1) (pa_cons pe_int pa_nil)))))) pa_nil)))), ?_⟩
    refine ⟨_, rfl, r, rfl, ⟨_, hs⟩, fun D hD => ?_⟩
    have hlv : rv.length = rs.length := by rw [dpa_len hd, List.length_map]
    have hll : rs.length ≤ 60 := by
      have h1 := len_nsz (rs.map Nd.deed)
      rw [List.length_map, nsz_deeds] at h1
      omega
    refine lc_tup (xs := rv) (fun i H' => ∃ acc, H' D = some (.lst acc) ∧ DpAll K H' acc (((rs.take i).map fun d => (⟨.deed d, 1⟩ : Wt)).map Wt.py) ∧ Same H H') ⟨[], upd_same, .nil, new_same hD⟩ (fun i H' _ h => (same_tf h.choose_spec.2.2).sq hs) (fun i y H' hy hPv => ?_) (fun H' hPv => ?_)
    · obtain ⟨acc, hacc, hda, sm⟩ := hPv
      have hi : i < rs.length := by
        rw [← hlv]
        exact (List.getElem?_eq_some_iff.mp hy).1
      obtain ⟨v, hv, dv⟩ := dpa_get hd (show (rs.map De.py)[i]? = some rs[i].py by rw [List.getElem?_map, List.getElem?_eq_getElem hi]; rfl)
      rw [hy] at hv
      cases hv
      refine ⟨rfl, ?_⟩
      dsimp only [tYes]
      rw [if_pos rfl]
      refine ⟨_, rfl, (show 3 ≤ sizeLine by decide), fun t nt => ?_⟩
      have st := new_same (o := .tup [.str "deed", y, .int 1]) nt
      have hacc2 := st _ _ hacc
      have tfx := TF.of_lst (o := .lst (acc ++ [.ref t])) hacc2
      refine ⟨acc, hacc2, ?_, acc ++ [.ref t], upd_same, ?_, fun b o z => ?_⟩
      · rw [dpa_len hda, List.length_map, List.length_map, List.length_take]
        exact Nat.lt_of_lt_of_le (show min i rs.length < 100000 by omega) (by decide)
      · rw [List.map_map, take_map _ _ _ hi, ← List.map_map]
        refine dpa_snoc (dpa_nl ((same_tf st).trans tfx) _ _ (nls_wt _) hda) ?_
        exact .tup (tfx.sq (SqT.of upd_same)) (.cons (.str _) (.cons (dp_nl (((same_tf sm).trans (same_tf st)).trans tfx) _ _ (De.nl _) dv) (.cons (.int _) .nil)))
      · rw [upd_ne (ne_of_none z hD)]
        exact st _ _ (sm _ _ z)
    · obtain ⟨acc, hacc, hda, sm⟩ := hPv
      rw [List.take_of_length_le (by omega)] at hda
      have hz2 : isz (rs.map fun d => (⟨.deed d, 1⟩ : Wt)) = szs rs := by
        rw [isz, List.map_map, ← nsz_deeds]
        rfl
      refine ⟨D, acc, _, rfl, hacc, hda, fun i hi => ?_, by omega, fun p is xs H2 hp hdp oks hl hc fr np => k p is xs H2 hp hdp oks (by omega) (fun l => ?_) (fun b o z => fr b o (ne_of_none z hD) (sm b o z))⟩
      · obtain ⟨d, hd, rfl⟩ := List.mem_map.mp hi
        exact ok d hd
      · rw [hc, nds_eq, List.mem_flatMap]
        constructor
        · rintro ⟨i, hi, hx⟩
          obtain ⟨d, hd, rfl⟩ := List.mem_map.mp hi
          exact ⟨d, hd, hx⟩
        · rintro ⟨d, hd, hx⟩
          exact ⟨⟨.deed d, 1⟩, List.mem_map.mpr ⟨d, hd, rfl⟩, hx⟩
/-! ### _law_wants -/
def spWants (K : PySem.W.Frag) : Sp := fun vs H Q _ => ∃ (r : Addr) (rv : List V) (rs : List De), vs = [.ref r] ∧ SqT K H r rv ∧ DpAll K H rv (rs.map De.py) ∧ (∀ d ∈ rs, d.ok) ∧ szs rs ≤ 60 ∧
    ∀ (t mt : Addr) H', SqT K H' t [.ref mt, .bl (wantsS rs), .bl (wantsT rs)] → SqT K H' mt ((wantsM rs).map fun m : Nat => V.int (m : Int)) → Same H H' → Q (.ref t) H'
theorem scN : FnScope ["rules", "items", "names", "marks", "row", "item", "i"] ["rules"] (defScope s_law_wants) := ⟨rfl, rfl, rfl, by decide +kernel, rfl, by decide +kernel, by decide +kernel⟩
def wantsSc : Scope := { kind := ScopeKind.function, names := [(".0", NameKind.local), ("i", NameKind.cell), ("items", NameKind.cell)], isGenerator := false, isCoroutine := false }
theorem ok_law_wants (T : Txt K w mg) : FnOk P w K mg base CX0 3 (He.fAd K ("_law_wants", none)) (fdAt K (He.fAd K ("_law_wants", none))) ["rules"] (spWants K) := by
  refine T.F_law_wants.ok scN (fun vs H Q E h => ?_) (fun cdv A outer s H vs Q E hr h => ?_)
  · obtain ⟨r, rv, rs, rfl, _⟩ := h
    rfl
  · obtain ⟨r, rv, rs, rfl, hs, hd, ok, hz, k⟩ := h
    refine ⟨_, PSs.nox (pss_cons (ps_set (i := 1) scN.nd rfl (Or.inr rfl) (pe_lc (own := [("row", 4)]) (g := gName 4) (tt := tYes) (by rfl) scN.nd (pi_list (pe_call (ok_law_all T) (hr.mono (by decide)) (by rfl) T.g_law_all (T.F_law_all).kp T.b_law_all .nil pass0 (pa_cons (pv 0) pa_nil))) (blkOk_by (own := [("row", 4)]) (N := ["rules", "items", "names", "marks", "row", "item", "i"]) (sc := defScope s_law_wants) (by decide +kernel)) (fun _ _ _ _ _ => pg_name (i := 4) scN.nd rfl (Or.inl rfl)) (fun _ _ _ _ _ => pts_nil) (fun _ _ _ _ _ => (pe_ix (r := rIxT K) ix_tup (pv 4) pe_int (fun _ _ => rfl)))))
      (pss_cons (ps_setLc (i := 2) (own := [("item", 5)]) (g := gName 5) (tt := tYes) (by rfl) scN.nd rfl rfl (sw_true rfl rfl rfl (by decide +kernel)) (pi_list (pv 1)) (blkOk_by (own := [("item", 5)]) (N := ["rules", "items", "names", "marks", "row", "item", "i"]) (sc := defScope s_law_wants) (by decide +kernel)) (fun _ _ _ _ _ => pg_name (i := 5) scN.nd rfl (Or.inl rfl)) (fun _ _ _ _ _ => pts_nil) (fun _ _ _ _ _ => (pe_ix (r := rIxT K) ix_tup (pv 5) pe_int (fun _ _ => rfl))))
      (pss_cons (ps_setLc (i := 3) (own := [("i", 6)]) (g := gName 6) (by rfl) scN.nd rfl rfl (sw_true rfl rfl rfl (by decide +kernel)) (pi_range1 (by rfl) T.n_range (pa_cons pe_int pa_nil)) (blkOk_by (own := [("i", 6)]) (N := ["rules", "items", "names", "marks", "row", "item", "i"]) (sc := defScope s_law_wants) (by decide +kernel)) (fun _ _ _ _ _ => pg_name (i := 6) scN.nd rfl (Or.inr rfl)) (fun _ _ _ _ _ => pts_one (pt_cmpR (r := rNeNil K false) (op_neNil hr.units) (pe_lc (own := [("item", 5)]) (g := gName 5) (by rfl) scN.nd (show PI _ _ _ (iList K (tVar 1)) from pi_list (pv 1)) (blkOk_by (own := [("item", 5)]) (N := ["rules", "items", "names", "marks", "row", "item", "i"]) (sc := wantsSc) (by decide +kernel)) (fun _ _ _ _ _ => pg_name (i := 5) scN.nd rfl (Or.inl rfl)) (fun _ _ _ _ _ => pts_one (PW.pt (pw_and (pt_cmpR op_eq (pe_ix (r := rIxT K) ix_tup (pv 5) pe_int (fun _ _ => rfl)) pe_str (nomark _)) (pw_and1 (pt_cmpR op_eq (pe_ix (r := rIxT K) ix_tup (pv 5) pe_int (fun _ _ => rfl)) (pv 6) (nomark _)))))) (fun _ _ _ _ _ => (pv 5))) (pe_lst pa_nil) (nomark _))) (fun _ _ _ _ _ => (pv 6)))
      (pss_one (ps_ret (pe_tup (pa_cons (pe_callTy call_tuple_of (by rfl) T.n_tuple PyProof.Rows.Boot.«tuple» (pa_cons (pv 3) pa_nil)) (pa_cons (pe_cmpR (r := rIn K false) op_in_seq pe_str (pv 2) rfl) (pa_cons (pe_or (pe_cmpR (r := rIn K false) op_in_seq pe_str (pv 2) rfl) (pe_one (pe_cmpR (r := rIn K false) op_in_seq pe_str (pv 2) rfl))) pa_nil))))))))), ?_⟩
    refine ⟨_, rfl, r, rv, rs, rfl, hs, hd, ok, hz, fun p is xs H1 hp hdp oks hlen0 hcov s1 => ?_⟩
    have hlen : is.length ≤ 60 := by omega
    refine ⟨p, rfl, ⟨_, SqL.of hp⟩, fun D1 hD1 => ?_⟩
    have hxl : xs.length = is.length := by rw [dpa_len hdp, List.length_map]
    refine lc_list (xs := xs) (fun i H' => ∃ acc, H' D1 = some (.lst acc) ∧ acc.length = i ∧ DpAll K H' acc ((is.take i).map Wt.inn) ∧ Same H1 H') ⟨[], upd_same, rfl, .nil, new_same hD1⟩ (fun i H' _ h => SqL.of (h.choose_spec.2.2.2 _ _ hp)) (fun i y H' hy hPv => ?_) (fun H2 hPv => ?_)
    · obtain ⟨acc, hacc, hal, hda, sm⟩ := hPv
      have hi : i < is.length := by
        rw [← hxl]
        exact (List.getElem?_eq_some_iff.mp hy).1
      obtain ⟨v, hv, dv⟩ := dpa_get hdp (show (is.map Wt.py)[i]? = some is[i].py by rw [List.getElem?_map, List.getElem?_eq_getElem hi]; rfl)
      rw [hy] at hv
      cases hv
      obtain ⟨c, ys, rfl, sq, all⟩ := dp_tup dv
      cases all with
      | cons ha1 hr1 =>
        cases hr1 with
        | @cons iv _ _ _ hiv hr2 =>
          refine ⟨rfl, ?_⟩
          dsimp only [tYes]
          rw [if_pos rfl]
          have tf : TF H' (upd H' D1 (.lst (acc ++ [iv]))) := TF.of_lst hacc
          refine ⟨_, rfl, c, _, _, iv, rfl, rfl, (same_tf sm).sq sq, atI_nat (j := 1) rfl, acc, hacc, Nat.lt_of_lt_of_le (show acc.length < 1000 by omega) (by decide), _, upd_same, by simp [hal], ?_, fun b o z => ?_⟩
          · rw [take_map _ _ _ hi]
            exact dpa_snoc (dpa_nl tf _ _ (nls_inn _) hda) (dp_nl ((same_tf sm).trans tf) _ _ (Wt.nl' _) hiv)
          · rw [upd_ne (ne_of_none z hD1)]
            exact sm _ _ z
    obtain ⟨vs, hvs, hvl, hdi, sm2⟩ := hPv
    rw [List.take_of_length_le (by omega)] at hdi
    refine ⟨_, rfl, D1, rfl, ⟨_, SqL.of hvs⟩, fun D2 hD2 => ?_⟩
    have hD21 : D2 ≠ D1 := (ne_of_none hvs hD2).symm
    refine lc_list (xs := vs) (fun i H' => H' D2 = some (.lst ((is.take i).map fun i => V.str i.nm)) ∧ Same H2 H') ⟨upd_same, new_same hD2⟩ (fun i H' _ h => SqL.of (h.2 _ _ hvs)) (fun i y H' hy hPv => ?_) (fun H3 hPv => ?_)
    · obtain ⟨hacc, sm⟩ := hPv
      have hi : i < is.length := by
        have := (List.getElem?_eq_some_iff.mp hy).1
        omega
      obtain ⟨v, hv, dv⟩ := dpa_get hdi (show (is.map Wt.inn)[i]? = some is[i].inn by rw [List.getElem?_map, List.getElem?_eq_getElem hi]; rfl)
      rw [hy] at hv
      cases hv
      rw [Wt.inn_eq] at dv
      obtain ⟨c, ys, rfl, sq, all⟩ := dp_tup dv
      have h0 := dpa_str0 all
      refine ⟨rfl, ?_⟩
      dsimp only [tYes]
      rw [if_pos rfl]
      refine ⟨_, rfl, c, _, _, _, rfl, rfl, (same_tf sm).sq sq, atI_nat (j := 0) h0, _, hacc, ?_, ?_, fun b o z => ?_⟩
      · rw [List.length_map, List.length_take]
        exact Nat.lt_of_lt_of_le (show min i is.length < 1000 by omega) (by decide)
      · rw [upd_same, take_map _ _ _ hi]
      · rw [upd_ne (ne_of_none z hD2)]
        exact sm _ _ z
    obtain ⟨hnames, sm3⟩ := hPv
    rw [List.take_of_length_le (by omega)] at hnames
    have hdi3 := dpa_nl (same_tf sm3) _ _ (nls_inn _) hdi
    have hvs3 := sm3 _ _ hvs
    refine ⟨16, rfl, by decide, by decide, fun D3 hD3 => ?_⟩
    refine lc_range (lo := 0) (n := Int.toNat 16) (fun i H' => H' D3 = some (.lst (((List.range i).filter fun m : Nat => is.any fun t => decide (t.x.isMark = some (m : Int))).map fun m : Nat => V.int (m : Int))) ∧ Same H3 H') ⟨upd_same, new_same hD3⟩ (fun i H4 hi hPv => ?_) (fun H4 hPv => ?_)
    · obtain ⟨hms, sm4⟩ := hPv
      refine ⟨rfl, ?_⟩
      refine ⟨_, rfl, D1, rfl, ⟨_, SqL.of (sm4 _ _ hvs3)⟩, fun D4 hD4 => ?_⟩
      have hvs4 := sm4 _ _ hvs3
      have hdi4 := dpa_nl (same_tf sm4) _ _ (nls_inn _) hdi3
      refine lc_list (xs := vs) (fun j H' => ∃ (fs : List Wt) (acc : List V), H' D4 = some (.lst acc) ∧ DpAll K H' acc (fs.map Wt.inn) ∧ (∀ f ∈ fs, f.x.ok) ∧ fs.length ≤ j ∧ (fs.isEmpty = !((is.take j).any fun t => decide (t.x.isMark = some (i : Int)))) ∧ Same H4 H') ⟨[], [], upd_same, .nil, fun f h => (List.not_mem_nil h).elim, Nat.le_refl _, by simp, new_same hD4⟩ (fun j H' _ h => SqL.of (h.choose_spec.choose_spec.2.2.2.2.2 _ _ hvs4)) (fun j y H5 hy hPv => ?_) (fun H5 hPv => ?_)
      · obtain ⟨fs, acc, hacc, hda, hfo, hfl, hfn, sm5⟩ := hPv
        have hj : j < is.length := by
          have := (List.getElem?_eq_some_iff.mp hy).1
          omega
        obtain ⟨v, hv, dv⟩ := dpa_get hdi4 (show (is.map Wt.inn)[j]? = some is[j].inn by rw [List.getElem?_map, List.getElem?_eq_getElem hj]; rfl)
        rw [hy] at hv
        cases hv
        have dv5 := dp_nl (same_tf sm5) _ _ (Wt.nl' _) dv
        have dv' := dv
        rw [Wt.inn_eq] at dv
        obtain ⟨c, ys, rfl, sq, all⟩ := dp_tup dv
        have h0 := dpa_str0 all
        have okj := oks _ (List.getElem_mem hj)
        have etk : (is.take (j + 1)).any (fun t => decide (t.x.isMark = some (i : Int))) = ((is.take j).any (fun t => decide (t.x.isMark = some (i : Int))) || decide (is[j].x.isMark = some (i : Int))) := by
          rw [List.take_add_one, List.getElem?_eq_getElem hj, List.any_append]
          simp
        have skip : ¬ (is[j].x.isMark = some (i : Int)) → ∃ (fs : List Wt) (acc : List V), H5 D4 = some (.lst acc) ∧ DpAll K H5 acc (fs.map Wt.inn) ∧ (∀ f ∈ fs, f.x.ok) ∧ fs.length ≤ j + 1 ∧ (fs.isEmpty = !((is.take (j + 1)).any fun t => decide (t.x.isMark = some (i : Int)))) ∧ Same H4 H5 := fun hno => by
          refine ⟨fs, acc, hacc, hda, hfo, by omega, ?_, sm5⟩
          rw [etk, decide_eq_false hno, Bool.or_false]
          exact hfn
        refine ⟨rfl, ?_⟩
        refine ⟨_, rfl, c, _, _, _, rfl, rfl, (same_tf sm5).sq sq, atI_nat (j := 0) h0, rfl, _, rfl, ?_⟩
        rcases Nd.mark is[j].x okj with ⟨hm, hno⟩ | ⟨q, qr, hnm, hargs, hm2⟩
        · rw [show decide (V.str is[j].nm = V.str "mark") = false from hm]
          exact skip (by rw [hno]; exact fun e => nomatch e)
        · have hnm : is[j].nm = "mark" := hnm
          have hargs : is[j].args = .int q :: qr := hargs
          rw [hnm]
          rw [hargs] at all
          cases all with
          | cons ha1 hr1 =>
            cases hr1 with
            | cons hb1 hr2 =>
              cases hb1
              refine ite2 (fun _ => ?_) (fun z => absurd (by decide) z)
              refine ⟨_, rfl, c, _, _, _, rfl, rfl, (same_tf sm5).sq sq, atI_nat (j := 1) rfl, _, rfl, rfl, _, rfl, ite2 (fun z => ?_) (fun z => ?_)⟩
              · have tf : TF H5 (upd H5 D4 (.lst (acc ++ [.ref c]))) := TF.of_lst hacc
                refine ⟨_, rfl, acc, hacc, ?_, fs ++ [is[j]], _, upd_same, ?_, fun f hf => ?_, by simp; omega, ?_, fun b o z => ?_⟩
                · rw [dpa_len hda, List.length_map]
                  exact Nat.lt_of_lt_of_le (show fs.length < 1000 by omega) (by decide)
                · rw [List.map_append]
                  exact dpa_snoc (dpa_nl tf _ _ (nls_inn _) hda) (dp_nl tf _ _ (Wt.nl' _) dv5)
                · rcases List.mem_append.mp hf with hf | hf
                  · exact hfo f hf
                  · rw [List.mem_singleton.mp hf]
                    exact okj
                · have e : q = (i : Int) := by
                    have := of_decide_eq_true z
                    injection this with this
                    omega
                  rw [etk, decide_eq_true (show is[j].x.isMark = some (i : Int) by rw [hm2, e]), Bool.or_true]
                  simp
                · rw [upd_ne (ne_of_none z hD4)]
                  exact sm5 _ _ z
              · refine skip fun h => z ?_
                rw [hm2] at h
                injection h with h
                rw [h]
                exact decide_eq_true (by rw [Int.zero_add])
      · obtain ⟨fs, acc, hacc, hda, hfo, hfl, hfn, sm5⟩ := hPv
        rw [List.take_of_length_le (by omega)] at hfn
        refine ⟨(show 0 ≤ sizeLine by decide), fun q nq => ?_⟩
        have sq := new_same (o := .lst []) nq
        have s45 := sm5.trans sq
        refine ⟨_, .lst (SqL.of (sq _ _ hacc)) (dpa_nl (same_tf sq) _ _ (nls_inn _) hda), .lst (SqL.of upd_same) .nil, layis fs hfo, ⟨_, rfl, ite2 (fun z => ?_) (fun z => ?_)⟩⟩
        · have hyes : (is.any fun t => decide (t.x.isMark = some (i : Int))) = true := by
            cases h : is.any fun t => decide (t.x.isMark = some (i : Int)) with
            | true => rfl
            | false =>
              rw [h] at hfn
              rw [List.isEmpty_iff.mp hfn] at z
              exact absurd z (by simp)
          refine ⟨_, rfl, _, s45 _ _ hms, ?_, ?_, fun b o z => ?_⟩
          · rw [List.length_map]
            exact Nat.lt_of_le_of_lt (Nat.le_trans (List.length_filter_le _ _) (by rw [List.length_range]; exact Nat.le_of_lt hi)) (show Int.toNat 16 < sizeLine by decide)
          · rw [upd_same, List.range_succ, List.filter_append, List.filter_cons_of_pos (p := fun m : Nat => is.any fun t => decide (t.x.isMark = some (m : Int))) hyes, List.map_append, Int.zero_add]
            rfl
          · rw [upd_ne (ne_of_none z hD3)]
            exact s45 _ _ (sm4 _ _ z)
        · have hno : ¬ (is.any fun t => decide (t.x.isMark = some (i : Int))) = true := fun h => by
            rw [h] at hfn
            cases fs with
            | nil => exact absurd hfn (by decide)
            | cons x y => exact absurd rfl z
          refine ⟨?_, sm4.trans s45⟩
          rw [List.range_succ, List.filter_append, List.filter_cons_of_neg (p := fun m : Nat => is.any fun t => decide (t.x.isMark = some (m : Int))) hno, List.filter_nil, List.append_nil]
          exact s45 _ _ hms
    obtain ⟨hms, sm4⟩ := hPv
    have eM : ((List.range (Int.toNat 16)).filter fun m : Nat => is.any fun t => decide (t.x.isMark = some (m : Int))) = wantsM rs := by
      unfold wantsM
      refine List.filter_congr fun m _ => ?_
      exact any_iff (g := fun i : Wt => i.x) (p := fun x => decide (x.isMark = some (m : Int))) hcov
    rw [eM] at hms
    have eS : inV (.str "drawn") (is.map fun i => V.str i.nm) = wantsS rs := by
      rw [inV_any, wantsS, ← any_iff (g := fun i : Wt => i.x) (p := Nd.isDrawn) hcov]
      exact any_congr fun i hi => i.x.drawn_nm (oks i hi)
    have eT : (inV (.str "met") (is.map fun i => V.str i.nm) || inV (.str "met own") (is.map fun i => V.str i.nm)) = wantsT rs := by
      rw [inV_any, inV_any, wantsT, ← any_iff (g := fun i : Wt => i.x) (p := Nd.isMet) hcov, any_or]
      exact any_congr fun i hi => i.x.met_nm (oks i hi)
    have hnm4 := sm4 _ _ hnames
    have fin : ∀ b2 : Bool, b2 = wantsT rs → ∀ l, H4 l = none → ∀ t, (upd H4 l (.tup ((wantsM rs).map fun m : Nat => V.int (m : Int)))) t = none → Q (.ref t) (upd (upd H4 l (.tup ((wantsM rs).map fun m : Nat => V.int (m : Int)))) t (.tup [.ref l, .bl (inV (.str "drawn") (is.map fun i => V.str i.nm)), .bl b2])) := fun b2 hb l nl t nt => by
      have s5 := new_same (o := .tup ((wantsM rs).map fun m : Nat => V.int (m : Int))) nl
      have s6 := new_same (o := .tup [.ref l, .bl (inV (.str "drawn") (is.map fun i => V.str i.nm)), .bl b2]) nt
      refine k t l _ ?_ (SqT.of (s6 _ _ upd_same)) ((s1.trans (sm2.trans (sm3.trans sm4))).trans (s5.trans s6))
      rw [hb, eS]
      exact SqT.of upd_same
    refine ⟨_, rfl, D3, _, rfl, .inl ⟨SqL.of hms, fun l nl => ?_⟩⟩
    have hnm5 := (new_same (o := .tup ((wantsM rs).map fun m : Nat => V.int (m : Int))) nl) _ _ hnm4
    refine ⟨_, rfl, D2, _, rfl, .inl (SqL.of hnm5), rfl, flat_nm is, ?_⟩
    refine ⟨_, rfl, D2, _, rfl, .inl (SqL.of hnm5), rfl, flat_nm is, _, rfl, ite2 (fun z => ?_) (fun z => ?_)⟩
    · have z' : inV (.str "met") (is.map fun i => V.str i.nm) = true := z
      exact ⟨(show 3 ≤ sizeLine by decide), fun t nt => fin _ (by rw [← eT, z']; rfl) l nl t nt⟩
    · have z' : inV (.str "met") (is.map fun i => V.str i.nm) = false := by
        cases h : inV (.str "met") (is.map fun i => V.str i.nm) with
        | true => exact absurd h z
        | false => rfl
      exact ⟨_, rfl, D2, _, rfl, .inl (SqL.of hnm5), rfl, flat_nm is, (show 3 ≤ sizeLine by decide), fun t nt => fin _ (by rw [← eT, z']; rfl) l nl t nt⟩
end
end K5
set_option maxRecDepth 100000
set_option maxHeartbeats 4000000
/-! The law's readings. -/
namespace K5
open PySem PySem.Spec PyProof.Rows L2 KF
def intTs (ns : List Int) : PyData := .tuple (ns.map .int)
structure Mt where
  slot : Int
  kind : Int
  house : Int
  own : List Int
def Mt.py (m : Mt) : PyData := .tuple [.int m.slot, .int m.kind, .int m.house, intTs m.own]
def smalls (ns : List Int) : Prop := ∀ n ∈ ns, -999 ≤ n ∧ n ≤ 999
def Mt.ok (m : Mt) : Prop := m.own.length = 4 ∧ smalls m.own
def oint : Option Int → PyData
  | none => .none
  | some i => .int i
structure Fx where
  kind : Int
  house : Int
  x : Int
  y : Int
  dx : Int
  dy : Int
  rest : Int
  own : List Int
  press : Int
  marks : List (Option Int)
  seed : Option Int
  met : List Mt
  here : Str
  below : Str
def Fx.thing (f : Fx) : PyData := .tuple [.int f.kind, .int f.house, .int f.x, .int f.y, .int f.dx, .int f.dy, .int f.rest, intTs f.own]
def Fx.ds (f : Fx) : List PyData := [f.thing, .int f.press, .tuple (f.marks.map oint), oint f.seed, .tuple (f.met.map Mt.py), .str f.here, .str f.below]
def Fx.py (f : Fx) : PyData := .tuple f.ds
structure Fx.ok (f : Fx) : Prop where
  own : f.own.length = 4 ∧ smalls f.own
  x : 0 ≤ f.x ∧ f.x ≤ 999
  y : 0 ≤ f.y ∧ f.y ≤ 999
  dx : -7 ≤ f.dx ∧ f.dx ≤ 7
  dy : -7 ≤ f.dy ∧ f.dy ≤ 7
  press : 0 ≤ f.press ∧ f.press ≤ 63
  marks : f.marks.length = 16 ∧ ∀ n, some n ∈ f.marks → -999 ≤ n ∧ n ≤ 999
  seed : ∀ s, f.seed = some s → 0 ≤ s ∧ s ≤ 65536
  met : f.met.length ≤ 15 ∧ ∀ m ∈ f.met, m.ok
theorem nl_ints (ns : List Int) : NLs (ns.map PyData.int) := by
  induction ns with
  | nil => trivial
  | cons n ns ih => exact ⟨trivial, ih⟩
theorem nl_oints (ns : List (Option Int)) : NLs (ns.map oint) := by
  induction ns with
  | nil => trivial
  | cons n ns ih =>
    refine ⟨?_, ih⟩
    cases n <;> trivial
theorem nl_mets (ms : List Mt) : NLs (ms.map Mt.py) := by
  induction ms with
  | nil => trivial
  | cons m ms ih => exact ⟨⟨trivial, trivial, trivial, nl_ints _, trivial⟩, ih⟩
theorem Fx.nl (f : Fx) : NL f.py := by
  refine ⟨⟨trivial, trivial, trivial, trivial, trivial, trivial, trivial, nl_ints _, trivial⟩, trivial, nl_oints _, ?_, nl_mets _, trivial, trivial, trivial⟩
  cases f.seed <;> trivial
theorem dpa_ints {K : PySem.W.Frag} {H : Hp} : ∀ ns : List Int, DpAll K H (ns.map V.int) (ns.map PyData.int)
  | [] => .nil
  | n :: ns => .cons (.int _) (dpa_ints ns)
section
variable {P : Program} {w : World} {K : PySem.W.Frag} {mg : Str → Option Value} {base : Heap}
/-! ### _law_met -/
def MInv (K : PySem.W.Frag) (d p : Addr) (H : Hp) (m : Nat) (M : Int) (i : Nat) (σ : L2.St) (H' : Hp) : Prop := ∃ (slot : Int) (v4 v5 v6 : Option V) (ms : List Mt) (mv : List V), σ = [some (.ref d), some (.ref p), some (.int slot), some (.int M), v4, v5, v6] ∧ H' p = some (.lst mv) ∧ DpAll K H' mv (ms.map Mt.py) ∧ ms.length = i ∧ (∀ x ∈ ms, x.ok) ∧ Frm d H H' ∧ Deck H' d (m + (270 - 15 * i))
def spMet (K : PySem.W.Frag) : Sp := fun vs H Q _ => ∃ (d : Addr) (m : Nat), vs = [.ref d] ∧ Deck H d (m + 300) ∧
    ∀ (t : Addr) (ms : List Mt) (H' : Hp), Dp K H' (.ref t) (.tuple (ms.map Mt.py)) → ms.length ≤ 15 → (∀ x ∈ ms, x.ok) → Frm d H H' → Deck H' d m → Q (.ref t) H'
theorem scM : FnScope ["deck", "met", "slot", "many", "k", "own", "j"] ["deck"] (defScope s_law_met) := ⟨rfl, rfl, rfl, by decide +kernel, rfl, by decide +kernel, by decide +kernel⟩
theorem ok_law_met (T : Txt K w mg) : FnOk P w K mg base CX0 3 (He.fAd K ("_law_met", none)) (fdAt K (He.fAd K ("_law_met", none))) ["deck"] (spMet K) := by
  refine T.F_law_met.ok scM (fun vs H Q E h => ?_) (fun cdv A outer s H vs Q E hr h => ?_)
  · obtain ⟨d, m, rfl, _⟩ := h
    rfl
  · obtain ⟨d, m, rfl, hD, k⟩ := h
    refine ⟨_, PSs.nox (pss_cons (ps_set (i := 1) scM.nd rfl (Or.inl rfl) (pe_lst pa_nil))
      (pss_cons (ps_set (i := 2) scM.nd rfl (Or.inl rfl) (pe_un un_neg pe_int))
      (pss_cons (ps_set (i := 3) scM.nd rfl (Or.inl rfl) (pe_call (ok_law_take T) (hr.mono (by decide)) (by rfl) T.g_law_take (T.F_law_take).kp T.b_law_take .nil pass0 (pa_cons (pv 0) (pa_cons pe_int pa_nil))))
      (pss_cons (ps_if (pt_cmpR op_eq (pe_call (ok_law_take T) (hr.mono (by decide)) (by rfl) T.g_law_take (T.F_law_take).kp T.b_law_take .nil pass0 (pa_cons (pv 0) (pa_cons pe_int pa_nil))) pe_int (nomark _)) (pss_one (ps_set (i := 3) scM.nd rfl (Or.inl rfl) pe_int)) pss_nil)
      (pss_cons (ps_for PassesOwn.never rfl (pi_range1 (by rfl) T.n_range (pa_cons (pv 3) pa_nil)) (pg_name (i := 4) scM.nd rfl (Or.inl rfl)) (pss_cons (ps_set (i := 2) scM.nd rfl (Or.inl rfl) (pe_op op_add (pv 2) pe_int))
      (pss_cons (ps_if (pt_cmpR op_lt (pv 3) pe_int (nomark _)) (pss_one (ps_set (i := 2) scM.nd rfl (Or.inl rfl) (pe_op op_add (pv 2) (pe_call (ok_law_take T) (hr.mono (by decide)) (by rfl) T.g_law_take (T.F_law_take).kp T.b_law_take .nil pass0 (pa_cons (pv 0) (pa_cons pe_int pa_nil)))))) pss_nil)
      (pss_cons (ps_set (i := 5) scM.nd rfl (Or.inl rfl) (pe_callTy call_tuple_of (by rfl) T.n_tuple PyProof.Rows.Boot.«tuple» (pa_cons (pe_lc (own := [("j", 6)]) (g := gName 6) (tt := tYes) (by rfl) scM.nd (pi_range1 (by rfl) T.n_range (pa_cons pe_int pa_nil)) (blkOk_by (own := [("j", 6)]) (N := ["deck", "met", "slot", "many", "k", "own", "j"]) (sc := defScope s_law_met) (by decide +kernel)) (fun _ _ _ _ _ => pg_name (i := 6) scM.nd rfl (Or.inl rfl)) (fun _ _ _ _ _ => pts_nil) (fun _ _ _ _ _ => (pe_call (ok_law_small T) (hr.mono (by decide)) (by rfl) T.g_law_small (T.F_law_small).kp T.b_law_small .nil pass0 (pa_cons (pv 0) pa_nil)))) pa_nil)))
      (pss_one (ps_expr (pe_bm PySem.F.plainAttrs_list PySem.F.slot_list_append PySem.F.type_list_append mt_append (pv 1) (pa_cons (pe_tup (pa_cons (pv 2) (pa_cons (pe_call (ok_law_take T) (hr.mono (by decide)) (by rfl) T.g_law_take (T.F_law_take).kp T.b_law_take .nil pass0 (pa_cons (pv 0) (pa_cons (pe_ix (r := rIxL K) ix_list (pe_lst (pa_cons pe_int (pa_cons pe_int pa_nil))) (pe_callTy call_int1 (by rfl) T.n_int PyProof.Rows.Boot.«int» (pa_cons (pe_cmpR op_gt (pv 4) pe_int (nomark _)) pa_nil)) (fun _ _ => rfl)) pa_nil))) (pa_cons (pe_op op_sub (pe_call (ok_law_take T) (hr.mono (by decide)) (by rfl) T.g_law_take (T.F_law_take).kp T.b_law_take .nil pass0 (pa_cons (pv 0) (pa_cons pe_int pa_nil))) pe_int) (pa_cons (pv 5) pa_nil))))) pa_nil))))))))
      (pss_one (ps_ret (pe_callTy call_tuple_of (by rfl) T.n_tuple PyProof.Rows.Boot.«tuple» (pa_cons (pv 1) pa_nil))))))))), ?_⟩
    refine ⟨(show 0 ≤ sizeLine by decide), fun p np => ?_⟩
    obtain ⟨ds0, hds0⟩ := hD.lst
    have hpd : p ≠ d := (ne_of_none hds0 np).symm
    refine ⟨_, rfl, ?_⟩
    refine ⟨_, rfl, d, _, m + 299, rfl, by decide, by decide, hD.same (new_same np), fun many H1 m0 m1 f1 D1 => ?_⟩
    refine ⟨_, rfl, d, _, m + 298, rfl, by decide, by decide, D1, fun z H2 _ _ f2 D2 => ⟨rfl, _, rfl, ?_⟩⟩
    have F2 : Frm d H H2 := (Frm.of_new np).trans (f1.trans f2)
    have hp2 : H2 p = some (.lst []) := f2 _ _ hpd (f1 _ _ hpd upd_same)
    refine ite2 (fun _ => ?_) (fun _ => ?_)
    · refine ⟨_, rfl, 15, rfl, by omega, by omega, ?_⟩
      refine for_range (lo := 0) (n := (15 : Int).toNat) (fun i σ H' => MInv K d p H m 15 i σ H') ⟨_, _, _, _, [], [], rfl, hp2, .nil, rfl, fun x hx => (List.not_mem_nil hx).elim, F2, D2.le (by omega)⟩ (fun i σ H3 hi hPv => ?_) (fun σ H3 hPv => ?_)
      · obtain ⟨slot, v4, v5, v6, ms, mv, rfl, hp3, hmd, hml, hmo, fr3, D3⟩ := hPv
        have hi15 : i < 15 := by omega
        refine ⟨_, rfl, _, _, rfl, rfl, ?_⟩
        refine ⟨_, rfl, _, _, rfl, rfl, _, rfl, ite2 (fun z => ?_) (fun z => ?_)⟩
        · refine ⟨_, rfl, _, rfl, d, _, m + (270 - 15 * i) - 1, rfl, by decide, by decide, D3.le (by omega), fun x3 H4 q0 q1 f4 D4 => ⟨_, _, rfl, rfl, ?_⟩⟩
          obtain ⟨ds3, hds3⟩ := D3.lst
          have hp4 := f4 _ _ hpd hp3
          have hmd4 := dpa_nl (f4.tf hds3) _ _ (nl_mets ms) hmd
          have fr4 := fr3.trans f4
          refine ⟨4, rfl, by decide, by decide, fun Ad hD0 => ?_⟩
          refine lc_range (lo := 0) (n := Int.toNat 4) (fun q H' => ∃ ns : List Int, H' Ad = some (.lst (ns.map V.int)) ∧ ns.length = q ∧ smalls ns ∧ Frm d H4 H' ∧ Deck H' d ((m + (270 - 15 * (i + 1)) + 5) + 2 * (4 - q))) ⟨[], upd_same, rfl, fun n h => (List.not_mem_nil h).elim, Frm.of_new hD0, (D4.same (new_same hD0)).le (by omega)⟩ (fun q H' hq hPv => ?_) (fun H6 hPv => ?_)
          · obtain ⟨ns, hns, hl, hsm, fr, hDk⟩ := hPv
            have hq4 : q < 4 := hq
            obtain ⟨dsd, hdsd⟩ := D4.lst
            refine ⟨rfl, ?_⟩
            dsimp only [tYes]
            rw [if_pos rfl]
            refine ⟨_, rfl, d, (m + (270 - 15 * (i + 1)) + 5) + 2 * (4 - (q + 1)), rfl, hDk.le (by omega), fun x H'' x0 x1 f D' => ?_⟩
            have hDd : Ad ≠ d := (ne_of_none hdsd hD0).symm
            have hns2 := f _ _ hDd hns
            refine ⟨_, hns2, ?_, ns ++ [x], ?_, by simp [hl], fun n hn => ?_, (Frm.fresh (fr.trans f) hD0), D'.keep (upd_ne hDd.symm)⟩
            · rw [List.length_map]
              exact Nat.lt_of_lt_of_le (show ns.length < 1000 by omega) (by decide)
            · rw [upd_same, List.map_append]
              rfl
            · rcases List.mem_append.mp hn with hn | hn
              · exact hsm n hn
              · rw [List.mem_singleton.mp hn]
                exact ⟨x0, x1⟩
          obtain ⟨ns, hns, hnl, hnsm, frn, Dn⟩ := hPv
          obtain ⟨dsx, hdsx⟩ := D4.lst
          have hpx := frn _ _ hpd hp4
          have hdx := dpa_nl (frn.tf hdsx) _ _ (nl_mets ms) hmd4
          refine ⟨Ad, _, rfl, .inl ⟨SqL.of hns, fun l nl => ?_⟩⟩
          have sl := new_same (o := .tup (ns.map V.int)) nl
          obtain ⟨dsl, hdsl⟩ := Dn.lst
          have hld : l ≠ d := (ne_of_none hdsl nl).symm
          refine ⟨_, rfl, .inl ⟨rfl, _, SqL.of (sl _ _ hpx)⟩, _, rfl, _, rfl, (show 2 ≤ sizeLine by decide), fun l2 nl2 => ?_⟩
          have sl2 := new_same (o := .lst [.int 2, .int 8]) nl2
          have Dl := (Dn.same sl).same sl2
          obtain ⟨dl2, hdl2⟩ := (Dn.same sl).lst
          have hl2d : l2 ≠ d := (ne_of_none hdl2 nl2).symm
          refine ⟨_, rfl, _, _, rfl, rfl, .inr ⟨_, rfl, ?_⟩⟩
          refine ⟨l2, _, _, .int (if decide ((2 : Int) < 0 + (i : Int)) = true then 8 else 2), rfl, rfl, SqL.of upd_same, ?_, ?_⟩
          · cases decide ((2 : Int) < 0 + (i : Int))
            · exact atI_nat (j := 0) rfl
            · exact atI_nat (j := 1) rfl
          refine ⟨d, _, m + (270 - 15 * (i + 1)) + 4, rfl, ?_, ?_, Dl.le (by omega), fun kd H7 k0 k1 f7 D7 => ?_⟩
          · split <;> decide
          · split <;> decide
          refine ⟨_, rfl, d, _, m + (270 - 15 * (i + 1)) + 3, rfl, by decide, by decide, D7.le (by omega), fun ho H8 o0 o1 f8 D8 => ⟨_, _, rfl, rfl, _, rfl, (show 4 ≤ sizeLine by decide), fun r nr => ?_⟩⟩
          have f78 : Frm d _ H8 := f7.trans f8
          obtain ⟨dl7, hdl7⟩ := Dl.lst
          have sr := new_same (o := .tup [.int (slot + 1 + x3), .int kd, .int (ho - 1), .ref l]) nr
          have hp8 := sr _ _ (f78 _ _ hpd (sl2 _ _ (sl _ _ hpx)))
          have hl8 := sr _ _ (f78 _ _ hld (sl2 _ _ upd_same))
          have tfr := TF.of_lst (o := .lst (mv ++ [.ref r])) hp8
          refine ⟨p, mv, .ref r, rfl, rfl, hp8, ?_, (slot + 1 + x3), _, _, _, ms ++ [⟨(slot + 1 + x3), kd, ho - 1, ns⟩], mv ++ [.ref r], rfl, upd_same, ?_, by simp [hml], fun x hx => ?_, Frm.fresh (fr4.trans (frn.trans ((Frm.of_same (sl.trans sl2)).trans (f78.trans (Frm.of_same sr))))) np, ((D8.same sr).keep (upd_ne hpd.symm)).le (by omega)⟩
          · rw [dpa_len hmd4, List.length_map]
            exact Nat.lt_of_lt_of_le (show ms.length < 1000 by omega) (by decide)
          · rw [List.map_append]
            refine dpa_snoc (dpa_nl ((same_tf (sl.trans sl2)).trans ((f78.tf hdl7).trans ((same_tf sr).trans tfr))) _ _ (nl_mets ms) hdx) ?_
            exact .tup (tfr.sq (SqT.of upd_same)) (.cons (.int _) (.cons (.int _) (.cons (.int _) (.cons (.tup (tfr.sq (SqT.of hl8)) (dpa_ints ns)) .nil))))
          · rcases List.mem_append.mp hx with hx | hx
            · exact hmo x hx
            · rw [List.mem_singleton.mp hx]
              exact ⟨hnl, hnsm⟩
        · refine ⟨4, rfl, by decide, by decide, fun Ad hD0 => ?_⟩
          refine lc_range (lo := 0) (n := Int.toNat 4) (fun q H' => ∃ ns : List Int, H' Ad = some (.lst (ns.map V.int)) ∧ ns.length = q ∧ smalls ns ∧ Frm d H3 H' ∧ Deck H' d ((m + (270 - 15 * (i + 1)) + 5) + 2 * (4 - q))) ⟨[], upd_same, rfl, fun n h => (List.not_mem_nil h).elim, Frm.of_new hD0, (D3.same (new_same hD0)).le (by omega)⟩ (fun q H' hq hPv => ?_) (fun H6 hPv => ?_)
          · obtain ⟨ns, hns, hl, hsm, fr, hDk⟩ := hPv
            have hq4 : q < 4 := hq
            obtain ⟨dsd, hdsd⟩ := D3.lst
            refine ⟨rfl, ?_⟩
            dsimp only [tYes]
            rw [if_pos rfl]
            refine ⟨_, rfl, d, (m + (270 - 15 * (i + 1)) + 5) + 2 * (4 - (q + 1)), rfl, hDk.le (by omega), fun x H'' x0 x1 f D' => ?_⟩
            have hDd : Ad ≠ d := (ne_of_none hdsd hD0).symm
            have hns2 := f _ _ hDd hns
            refine ⟨_, hns2, ?_, ns ++ [x], ?_, by simp [hl], fun n hn => ?_, (Frm.fresh (fr.trans f) hD0), D'.keep (upd_ne hDd.symm)⟩
            · rw [List.length_map]
              exact Nat.lt_of_lt_of_le (show ns.length < 1000 by omega) (by decide)
            · rw [upd_same, List.map_append]
              rfl
            · rcases List.mem_append.mp hn with hn | hn
              · exact hsm n hn
              · rw [List.mem_singleton.mp hn]
                exact ⟨x0, x1⟩
          obtain ⟨ns, hns, hnl, hnsm, frn, Dn⟩ := hPv
          obtain ⟨dsx, hdsx⟩ := D3.lst
          have hpx := frn _ _ hpd hp3
          have hdx := dpa_nl (frn.tf hdsx) _ _ (nl_mets ms) hmd
          refine ⟨Ad, _, rfl, .inl ⟨SqL.of hns, fun l nl => ?_⟩⟩
          have sl := new_same (o := .tup (ns.map V.int)) nl
          obtain ⟨dsl, hdsl⟩ := Dn.lst
          have hld : l ≠ d := (ne_of_none hdsl nl).symm
          refine ⟨_, rfl, .inl ⟨rfl, _, SqL.of (sl _ _ hpx)⟩, _, rfl, _, rfl, (show 2 ≤ sizeLine by decide), fun l2 nl2 => ?_⟩
          have sl2 := new_same (o := .lst [.int 2, .int 8]) nl2
          have Dl := (Dn.same sl).same sl2
          obtain ⟨dl2, hdl2⟩ := (Dn.same sl).lst
          have hl2d : l2 ≠ d := (ne_of_none hdl2 nl2).symm
          refine ⟨_, rfl, _, _, rfl, rfl, .inr ⟨_, rfl, ?_⟩⟩
          refine ⟨l2, _, _, .int (if decide ((2 : Int) < 0 + (i : Int)) = true then 8 else 2), rfl, rfl, SqL.of upd_same, ?_, ?_⟩
          · cases decide ((2 : Int) < 0 + (i : Int))
            · exact atI_nat (j := 0) rfl
            · exact atI_nat (j := 1) rfl
          refine ⟨d, _, m + (270 - 15 * (i + 1)) + 4, rfl, ?_, ?_, Dl.le (by omega), fun kd H7 k0 k1 f7 D7 => ?_⟩
          · split <;> decide
          · split <;> decide
          refine ⟨_, rfl, d, _, m + (270 - 15 * (i + 1)) + 3, rfl, by decide, by decide, D7.le (by omega), fun ho H8 o0 o1 f8 D8 => ⟨_, _, rfl, rfl, _, rfl, (show 4 ≤ sizeLine by decide), fun r nr => ?_⟩⟩
          have f78 : Frm d _ H8 := f7.trans f8
          obtain ⟨dl7, hdl7⟩ := Dl.lst
          have sr := new_same (o := .tup [.int (slot + 1), .int kd, .int (ho - 1), .ref l]) nr
          have hp8 := sr _ _ (f78 _ _ hpd (sl2 _ _ (sl _ _ hpx)))
          have hl8 := sr _ _ (f78 _ _ hld (sl2 _ _ upd_same))
          have tfr := TF.of_lst (o := .lst (mv ++ [.ref r])) hp8
          refine ⟨p, mv, .ref r, rfl, rfl, hp8, ?_, (slot + 1), _, _, _, ms ++ [⟨(slot + 1), kd, ho - 1, ns⟩], mv ++ [.ref r], rfl, upd_same, ?_, by simp [hml], fun x hx => ?_, Frm.fresh (fr3.trans (frn.trans ((Frm.of_same (sl.trans sl2)).trans (f78.trans (Frm.of_same sr))))) np, ((D8.same sr).keep (upd_ne hpd.symm)).le (by omega)⟩
          · rw [dpa_len hmd, List.length_map]
            exact Nat.lt_of_lt_of_le (show ms.length < 1000 by omega) (by decide)
          · rw [List.map_append]
            refine dpa_snoc (dpa_nl ((same_tf (sl.trans sl2)).trans ((f78.tf hdl7).trans ((same_tf sr).trans tfr))) _ _ (nl_mets ms) hdx) ?_
            exact .tup (tfr.sq (SqT.of upd_same)) (.cons (.int _) (.cons (.int _) (.cons (.int _) (.cons (.tup (tfr.sq (SqT.of hl8)) (dpa_ints ns)) .nil))))
          · rcases List.mem_append.mp hx with hx | hx
            · exact hmo x hx
            · rw [List.mem_singleton.mp hx]
              exact ⟨hnl, hnsm⟩
      · obtain ⟨slot, v4, v5, v6, ms, mv, rfl, hp3, hmd, hml, hmo, fr3, D3⟩ := hPv
        refine ⟨_, rfl, p, _, rfl, .inl ⟨SqL.of hp3, fun l nl => k l ms _ (.tup (SqT.of upd_same) (dpa_nl (TF.of_new nl) _ _ (nl_mets ms) hmd)) (by omega) hmo (fr3.trans (Frm.of_new nl)) ((D3.same (new_same nl)).le (by omega))⟩⟩
    · refine ⟨_, rfl, many, rfl, by omega, by omega, ?_⟩
      refine for_range (lo := 0) (n := (many : Int).toNat) (fun i σ H' => MInv K d p H m many i σ H') ⟨_, _, _, _, [], [], rfl, hp2, .nil, rfl, fun x hx => (List.not_mem_nil hx).elim, F2, D2.le (by omega)⟩ (fun i σ H3 hi hPv => ?_) (fun σ H3 hPv => ?_)
      · obtain ⟨slot, v4, v5, v6, ms, mv, rfl, hp3, hmd, hml, hmo, fr3, D3⟩ := hPv
        have hi15 : i < 15 := by omega
        refine ⟨_, rfl, _, _, rfl, rfl, ?_⟩
        refine ⟨_, rfl, _, _, rfl, rfl, _, rfl, ite2 (fun z => ?_) (fun z => ?_)⟩
        · refine ⟨_, rfl, _, rfl, d, _, m + (270 - 15 * i) - 1, rfl, by decide, by decide, D3.le (by omega), fun x3 H4 q0 q1 f4 D4 => ⟨_, _, rfl, rfl, ?_⟩⟩
          obtain ⟨ds3, hds3⟩ := D3.lst
          have hp4 := f4 _ _ hpd hp3
          have hmd4 := dpa_nl (f4.tf hds3) _ _ (nl_mets ms) hmd
          have fr4 := fr3.trans f4
          refine ⟨4, rfl, by decide, by decide, fun Ad hD0 => ?_⟩
          refine lc_range (lo := 0) (n := Int.toNat 4) (fun q H' => ∃ ns : List Int, H' Ad = some (.lst (ns.map V.int)) ∧ ns.length = q ∧ smalls ns ∧ Frm d H4 H' ∧ Deck H' d ((m + (270 - 15 * (i + 1)) + 5) + 2 * (4 - q))) ⟨[], upd_same, rfl, fun n h => (List.not_mem_nil h).elim, Frm.of_new hD0, (D4.same (new_same hD0)).le (by omega)⟩ (fun q H' hq hPv => ?_) (fun H6 hPv => ?_)
          · obtain ⟨ns, hns, hl, hsm, fr, hDk⟩ := hPv
            have hq4 : q < 4 := hq
            obtain ⟨dsd, hdsd⟩ := D4.lst
            refine ⟨rfl, ?_⟩
            dsimp only [tYes]
            rw [if_pos rfl]
            refine ⟨_, rfl, d, (m + (270 - 15 * (i + 1)) + 5) + 2 * (4 - (q + 1)), rfl, hDk.le (by omega), fun x H'' x0 x1 f D' => ?_⟩
            have hDd : Ad ≠ d := (ne_of_none hdsd hD0).symm
            have hns2 := f _ _ hDd hns
            refine ⟨_, hns2, ?_, ns ++ [x], ?_, by simp [hl], fun n hn => ?_, (Frm.fresh (fr.trans f) hD0), D'.keep (upd_ne hDd.symm)⟩
            · rw [List.length_map]
              exact Nat.lt_of_lt_of_le (show ns.length < 1000 by omega) (by decide)
            · rw [upd_same, List.map_append]
              rfl
            · rcases List.mem_append.mp hn with hn | hn
              · exact hsm n hn
              · rw [List.mem_singleton.mp hn]
                exact ⟨x0, x1⟩
          obtain ⟨ns, hns, hnl, hnsm, frn, Dn⟩ := hPv
          obtain ⟨dsx, hdsx⟩ := D4.lst
          have hpx := frn _ _ hpd hp4
          have hdx := dpa_nl (frn.tf hdsx) _ _ (nl_mets ms) hmd4
          refine ⟨Ad, _, rfl, .inl ⟨SqL.of hns, fun l nl => ?_⟩⟩
          have sl := new_same (o := .tup (ns.map V.int)) nl
          obtain ⟨dsl, hdsl⟩ := Dn.lst
          have hld : l ≠ d := (ne_of_none hdsl nl).symm
          refine ⟨_, rfl, .inl ⟨rfl, _, SqL.of (sl _ _ hpx)⟩, _, rfl, _, rfl, (show 2 ≤ sizeLine by decide), fun l2 nl2 => ?_⟩
          have sl2 := new_same (o := .lst [.int 2, .int 8]) nl2
          have Dl := (Dn.same sl).same sl2
          obtain ⟨dl2, hdl2⟩ := (Dn.same sl).lst
          have hl2d : l2 ≠ d := (ne_of_none hdl2 nl2).symm
          refine ⟨_, rfl, _, _, rfl, rfl, .inr ⟨_, rfl, ?_⟩⟩
          refine ⟨l2, _, _, .int (if decide ((2 : Int) < 0 + (i : Int)) = true then 8 else 2), rfl, rfl, SqL.of upd_same, ?_, ?_⟩
          · cases decide ((2 : Int) < 0 + (i : Int))
            · exact atI_nat (j := 0) rfl
            · exact atI_nat (j := 1) rfl
          refine ⟨d, _, m + (270 - 15 * (i + 1)) + 4, rfl, ?_, ?_, Dl.le (by omega), fun kd H7 k0 k1 f7 D7 => ?_⟩
          · split <;> decide
          · split <;> decide
          refine ⟨_, rfl, d, _, m + (270 - 15 * (i + 1)) + 3, rfl, by decide, by decide, D7.le (by omega), fun ho H8 o0 o1 f8 D8 => ⟨_, _, rfl, rfl, _, rfl, (show 4 ≤ sizeLine by decide), fun r nr => ?_⟩⟩
          have f78 : Frm d _ H8 := f7.trans f8
          obtain ⟨dl7, hdl7⟩ := Dl.lst
          have sr := new_same (o := .tup [.int (slot + 1 + x3), .int kd, .int (ho - 1), .ref l]) nr
          have hp8 := sr _ _ (f78 _ _ hpd (sl2 _ _ (sl _ _ hpx)))
          have hl8 := sr _ _ (f78 _ _ hld (sl2 _ _ upd_same))
          have tfr := TF.of_lst (o := .lst (mv ++ [.ref r])) hp8
          refine ⟨p, mv, .ref r, rfl, rfl, hp8, ?_, (slot + 1 + x3), _, _, _, ms ++ [⟨(slot + 1 + x3), kd, ho - 1, ns⟩], mv ++ [.ref r], rfl, upd_same, ?_, by simp [hml], fun x hx => ?_, Frm.fresh (fr4.trans (frn.trans ((Frm.of_same (sl.trans sl2)).trans (f78.trans (Frm.of_same sr))))) np, ((D8.same sr).keep (upd_ne hpd.symm)).le (by omega)⟩
          · rw [dpa_len hmd4, List.length_map]
            exact Nat.lt_of_lt_of_le (show ms.length < 1000 by omega) (by decide)
          · rw [List.map_append]
            refine dpa_snoc (dpa_nl ((same_tf (sl.trans sl2)).trans ((f78.tf hdl7).trans ((same_tf sr).trans tfr))) _ _ (nl_mets ms) hdx) ?_
            exact .tup (tfr.sq (SqT.of upd_same)) (.cons (.int _) (.cons (.int _) (.cons (.int _) (.cons (.tup (tfr.sq (SqT.of hl8)) (dpa_ints ns)) .nil))))
          · rcases List.mem_append.mp hx with hx | hx
            · exact hmo x hx
            · rw [List.mem_singleton.mp hx]
              exact ⟨hnl, hnsm⟩
        · refine ⟨4, rfl, by decide, by decide, fun Ad hD0 => ?_⟩
          refine lc_range (lo := 0) (n := Int.toNat 4) (fun q H' => ∃ ns : List Int, H' Ad = some (.lst (ns.map V.int)) ∧ ns.length = q ∧ smalls ns ∧ Frm d H3 H' ∧ Deck H' d ((m + (270 - 15 * (i + 1)) + 5) + 2 * (4 - q))) ⟨[], upd_same, rfl, fun n h => (List.not_mem_nil h).elim, Frm.of_new hD0, (D3.same (new_same hD0)).le (by omega)⟩ (fun q H' hq hPv => ?_) (fun H6 hPv => ?_)
          · obtain ⟨ns, hns, hl, hsm, fr, hDk⟩ := hPv
            have hq4 : q < 4 := hq
            obtain ⟨dsd, hdsd⟩ := D3.lst
            refine ⟨rfl, ?_⟩
            dsimp only [tYes]
            rw [if_pos rfl]
            refine ⟨_, rfl, d, (m + (270 - 15 * (i + 1)) + 5) + 2 * (4 - (q + 1)), rfl, hDk.le (by omega), fun x H'' x0 x1 f D' => ?_⟩
            have hDd : Ad ≠ d := (ne_of_none hdsd hD0).symm
            have hns2 := f _ _ hDd hns
            refine ⟨_, hns2, ?_, ns ++ [x], ?_, by simp [hl], fun n hn => ?_, (Frm.fresh (fr.trans f) hD0), D'.keep (upd_ne hDd.symm)⟩
            · rw [List.length_map]
              exact Nat.lt_of_lt_of_le (show ns.length < 1000 by omega) (by decide)
            · rw [upd_same, List.map_append]
              rfl
            · rcases List.mem_append.mp hn with hn | hn
              · exact hsm n hn
              · rw [List.mem_singleton.mp hn]
                exact ⟨x0, x1⟩
          obtain ⟨ns, hns, hnl, hnsm, frn, Dn⟩ := hPv
          obtain ⟨dsx, hdsx⟩ := D3.lst
          have hpx := frn _ _ hpd hp3
          have hdx := dpa_nl (frn.tf hdsx) _ _ (nl_mets ms) hmd
          refine ⟨Ad, _, rfl, .inl ⟨SqL.of hns, fun l nl => ?_⟩⟩
          have sl := new_same (o := .tup (ns.map V.int)) nl
          obtain ⟨dsl, hdsl⟩ := Dn.lst
          have hld : l ≠ d := (ne_of_none hdsl nl).symm
          refine ⟨_, rfl, .inl ⟨rfl, _, SqL.of (sl _ _ hpx)⟩, _, rfl, _, rfl, (show 2 ≤ sizeLine by decide), fun l2 nl2 => ?_⟩
          have sl2 := new_same (o := .lst [.int 2, .int 8]) nl2
          have Dl := (Dn.same sl).same sl2
          obtain ⟨dl2, hdl2⟩ := (Dn.same sl).lst
          have hl2d : l2 ≠ d := (ne_of_none hdl2 nl2).symm
          refine ⟨_, rfl, _, _, rfl, rfl, .inr ⟨_, rfl, ?_⟩⟩
          refine ⟨l2, _, _, .int (if decide ((2 : Int) < 0 + (i : Int)) = true then 8 else 2), rfl, rfl, SqL.of upd_same, ?_, ?_⟩
          · cases decide ((2 : Int) < 0 + (i : Int))
            · exact atI_nat (j := 0) rfl
            · exact atI_nat (j := 1) rfl
          refine ⟨d, _, m + (270 - 15 * (i + 1)) + 4, rfl, ?_, ?_, Dl.le (by omega), fun kd H7 k0 k1 f7 D7 => ?_⟩
          · split <;> decide
          · split <;> decide
          refine ⟨_, rfl, d, _, m + (270 - 15 * (i + 1)) + 3, rfl, by decide, by decide, D7.le (by omega), fun ho H8 o0 o1 f8 D8 => ⟨_, _, rfl, rfl, _, rfl, (show 4 ≤ sizeLine by decide), fun r nr => ?_⟩⟩
          have f78 : Frm d _ H8 := f7.trans f8
          obtain ⟨dl7, hdl7⟩ := Dl.lst
          have sr := new_same (o := .tup [.int (slot + 1), .int kd, .int (ho - 1), .ref l]) nr
          have hp8 := sr _ _ (f78 _ _ hpd (sl2 _ _ (sl _ _ hpx)))
          have hl8 := sr _ _ (f78 _ _ hld (sl2 _ _ upd_same))
          have tfr := TF.of_lst (o := .lst (mv ++ [.ref r])) hp8
          refine ⟨p, mv, .ref r, rfl, rfl, hp8, ?_, (slot + 1), _, _, _, ms ++ [⟨(slot + 1), kd, ho - 1, ns⟩], mv ++ [.ref r], rfl, upd_same, ?_, by simp [hml], fun x hx => ?_, Frm.fresh (fr3.trans (frn.trans ((Frm.of_same (sl.trans sl2)).trans (f78.trans (Frm.of_same sr))))) np, ((D8.same sr).keep (upd_ne hpd.symm)).le (by omega)⟩
          · rw [dpa_len hmd, List.length_map]
            exact Nat.lt_of_lt_of_le (show ms.length < 1000 by omega) (by decide)
          · rw [List.map_append]
            refine dpa_snoc (dpa_nl ((same_tf (sl.trans sl2)).trans ((f78.tf hdl7).trans ((same_tf sr).trans tfr))) _ _ (nl_mets ms) hdx) ?_
            exact .tup (tfr.sq (SqT.of upd_same)) (.cons (.int _) (.cons (.int _) (.cons (.int _) (.cons (.tup (tfr.sq (SqT.of hl8)) (dpa_ints ns)) .nil))))
          · rcases List.mem_append.mp hx with hx | hx
            · exact hmo x hx
            · rw [List.mem_singleton.mp hx]
              exact ⟨hnl, hnsm⟩
      · obtain ⟨slot, v4, v5, v6, ms, mv, rfl, hp3, hmd, hml, hmo, fr3, D3⟩ := hPv
        refine ⟨_, rfl, p, _, rfl, .inl ⟨SqL.of hp3, fun l nl => k l ms _ (.tup (SqT.of upd_same) (dpa_nl (TF.of_new nl) _ _ (nl_mets ms) hmd)) (by omega) hmo (fr3.trans (Frm.of_new nl)) ((D3.same (new_same nl)).le (by omega))⟩⟩
/-! ### _law_facts -/
def ov : Option Int → V
  | none => .non
  | some n => .int n

theorem dpa_ov {K : PySem.W.Frag} {H : Hp} : ∀ ns : List (Option Int), DpAll K H (ns.map ov) (ns.map oint)
  | [] => .nil
  | none :: ns => .cons .non (dpa_ov ns)
  | some n :: ns => .cons (.int n) (dpa_ov ns)
def spFacts (K : PySem.W.Frag) : Sp := fun vs H Q _ => ∃ (d t mt : Addr) (ms : List Nat) (b1 b2 : Bool) (m : Nat), vs = [.ref d, .ref t] ∧ Deck H d (m + 1000) ∧ SqT K H t [.ref mt, .bl b1, .bl b2] ∧ SqT K H mt (ms.map fun m : Nat => V.int (m : Int)) ∧ (∀ m ∈ ms, m < 16) ∧ ms.length ≤ 16 ∧
    ∀ (v : V) (f : Fx) (H' : Hp), Dp K H' v f.py → f.ok → (∀ i ∈ ms, ∃ n, f.marks[i]? = some (some n)) → (b1 = true → ∃ n, f.seed = some n) → Frm d H H' → Deck H' d m → Q v H'
theorem scF : FnScope ["deck", "wanted", "signs", "own", "thing", "marks", "i", "seed", "met", "k"] ["deck", "wanted"] (defScope s_law_facts) := ⟨rfl, rfl, rfl, by decide +kernel, rfl, by decide +kernel, by decide +kernel⟩
theorem ok_law_facts (T : Txt K w mg) : FnOk P w K mg base CX0 4 (He.fAd K ("_law_facts", none)) (fdAt K (He.fAd K ("_law_facts", none))) ["deck", "wanted"] (spFacts K) := by
  refine T.F_law_facts.ok scF (fun vs H Q E h => ?_) (fun cdv A outer s H vs Q E hr h => ?_)
  · obtain ⟨d, t, mt, ms, b1, b2, m, rfl, _⟩ := h
    rfl
  · obtain ⟨d, t, mt, ms, b1, b2, m, rfl, hD, ht, hmt, hms, hml, k⟩ := h
    refine ⟨_, PSs.nox (pss_cons (ps_setLc (i := 2) (own := [("k", 9)]) (g := gName 9) (tt := tYes) (by rfl) scF.nd rfl rfl (sw_true rfl rfl rfl (by decide +kernel)) (pi_range1 (by rfl) T.n_range (pa_cons pe_int pa_nil)) (blkOk_by (own := [("k", 9)]) (N := ["deck", "wanted", "signs", "own", "thing", "marks", "i", "seed", "met", "k"]) (sc := defScope s_law_facts) (by decide +kernel)) (fun _ _ _ _ _ => pg_name (i := 9) scF.nd rfl (Or.inl rfl)) (fun _ _ _ _ _ => pts_nil) (fun _ _ _ _ _ => (pe_call (ok_law_any T) (hr.mono (by decide)) (by rfl) T.g_law_any (T.F_law_any).kp T.b_law_any .nil pass0 (pa_cons (pv 0) (pa_cons (pe_lst (pa_cons pe_str (pa_cons pe_str (pa_cons pe_str (pa_cons pe_str (pa_cons pe_str (pa_cons pe_str (pa_cons pe_str (pa_cons pe_str pa_nil))))))))) pa_nil)))))
      (pss_cons (ps_set (i := 3) scF.nd rfl (Or.inl rfl) (pe_callTy call_tuple_of (by rfl) T.n_tuple PyProof.Rows.Boot.«tuple» (pa_cons (pe_lc (own := [("k", 9)]) (g := gName 9) (tt := tYes) (by rfl) scF.nd (pi_range1 (by rfl) T.n_range (pa_cons pe_int pa_nil)) (blkOk_by (own := [("k", 9)]) (N := ["deck", "wanted", "signs", "own", "thing", "marks", "i", "seed", "met", "k"]) (sc := defScope s_law_facts) (by decide +kernel)) (fun _ _ _ _ _ => pg_name (i := 9) scF.nd rfl (Or.inl rfl)) (fun _ _ _ _ _ => pts_nil) (fun _ _ _ _ _ => (pe_call (ok_law_small T) (hr.mono (by decide)) (by rfl) T.g_law_small (T.F_law_small).kp T.b_law_small .nil pass0 (pa_cons (pv 0) pa_nil)))) pa_nil)))
      (pss_cons (ps_set (i := 4) scF.nd rfl (Or.inl rfl) (pe_tup (pa_cons (pe_call (ok_law_take T) (hr.mono (by decide)) (by rfl) T.g_law_take (T.F_law_take).kp T.b_law_take .nil pass0 (pa_cons (pv 0) (pa_cons pe_int pa_nil))) (pa_cons (pe_op op_sub (pe_call (ok_law_take T) (hr.mono (by decide)) (by rfl) T.g_law_take (T.F_law_take).kp T.b_law_take .nil pass0 (pa_cons (pv 0) (pa_cons pe_int pa_nil))) pe_int) (pa_cons (pe_call (ok_law_take T) (hr.mono (by decide)) (by rfl) T.g_law_take (T.F_law_take).kp T.b_law_take .nil pass0 (pa_cons (pv 0) (pa_cons pe_int pa_nil))) (pa_cons (pe_call (ok_law_take T) (hr.mono (by decide)) (by rfl) T.g_law_take (T.F_law_take).kp T.b_law_take .nil pass0 (pa_cons (pv 0) (pa_cons pe_int pa_nil))) pa_nil))))))
      (pss_cons (ps_set (i := 4) scF.nd rfl (Or.inl rfl) (pe_op (show OpR _ _ (rCatT K) from op_catT) (pv 4) (pe_tup (pa_cons (pe_op op_sub (pe_call (ok_law_take T) (hr.mono (by decide)) (by rfl) T.g_law_take (T.F_law_take).kp T.b_law_take .nil pass0 (pa_cons (pv 0) (pa_cons pe_int pa_nil))) pe_int) (pa_cons (pe_op op_sub (pe_call (ok_law_take T) (hr.mono (by decide)) (by rfl) T.g_law_take (T.F_law_take).kp T.b_law_take .nil pass0 (pa_cons (pv 0) (pa_cons pe_int pa_nil))) pe_int) (pa_cons (pe_op op_sub (pe_call (ok_law_take T) (hr.mono (by decide)) (by rfl) T.g_law_take (T.F_law_take).kp T.b_law_take .nil pass0 (pa_cons (pv 0) (pa_cons pe_int pa_nil))) pe_int) (pa_cons (pv 3) pa_nil)))))))
      (pss_cons (ps_set (i := 5) scF.nd rfl (Or.inl rfl) (pe_op op_rep (pe_lst (pa_cons pe_non pa_nil)) pe_int))
      (pss_cons (ps_for PassesOwn.never rfl (pi_tup (pe_ix (r := rIxT K) ix_tup (pv 1) pe_int (fun _ _ => rfl))) (pg_name (i := 6) scF.nd rfl (Or.inl rfl)) (pss_one (ps_asg (pe_call (ok_law_small T) (hr.mono (by decide)) (by rfl) T.g_law_small (T.F_law_small).kp T.b_law_small .nil pass0 (pa_cons (pv 0) pa_nil)) (pg_sub (pv 5) (pv 6) set_list))))
      (pss_cons (ps_set (i := 7) scF.nd rfl (Or.inl rfl) pe_non)
      (pss_cons (ps_if (pt_val (pe_ix (r := rIxT K) ix_tup (pv 1) pe_int (fun _ _ => rfl))) (pss_one (ps_set (i := 7) scF.nd rfl (Or.inl rfl) (pe_call (ok_law_take T) (hr.mono (by decide)) (by rfl) T.g_law_take (T.F_law_take).kp T.b_law_take .nil pass0 (pa_cons (pv 0) (pa_cons pe_int pa_nil))))) pss_nil)
      (pss_cons (ps_set (i := 8) scF.nd rfl (Or.inl rfl) (pe_tup pa_nil))
      (pss_cons (ps_if (pt_val (pe_ix (r := rIxT K) ix_tup (pv 1) pe_int (fun _ _ => rfl))) (pss_one (ps_set (i := 8) scF.nd rfl (Or.inl rfl) (pe_call (ok_law_met T) (hr.mono (by decide)) (by rfl) T.g_law_met (T.F_law_met).kp T.b_law_met .nil pass0 (pa_cons (pv 0) pa_nil)))) pss_nil)
      (pss_one (ps_ret (pe_tup (pa_cons (pv 4) (pa_cons (pe_call (ok_law_take T) (hr.mono (by decide)) (by rfl) T.g_law_take (T.F_law_take).kp T.b_law_take .nil pass0 (pa_cons (pv 0) (pa_cons pe_int pa_nil))) (pa_cons (pe_callTy call_tuple_of (by rfl) T.n_tuple PyProof.Rows.Boot.«tuple» (pa_cons (pv 5) pa_nil)) (pa_cons (pv 7) (pa_cons (pv 8) (pa_cons (pe_ix (r := rIxL K) ix_list (pv 2) pe_int (fun _ _ => rfl)) (pa_cons (pe_ix (r := rIxL K) ix_list (pv 2) pe_int (fun _ _ => rfl)) pa_nil)))))))))))))))))))), ?_⟩
    obtain ⟨ds0, hds0⟩ := hD.lst
    -- signs
    refine ⟨2, rfl, by decide, by decide, fun A1 n1 => ?_⟩
    refine lc_range (lo := 0) (n := Int.toNat 2) (fun q H' => ∃ cs : List Str, H' A1 = some (.lst (cs.map V.str)) ∧ cs.length = q ∧ (∀ c ∈ cs, c ∈ signs) ∧ Frm d H H' ∧ Deck H' d (m + 990 + (2 - q))) ⟨[], upd_same, rfl, fun c h => (List.not_mem_nil h).elim, Frm.of_new n1, (hD.same (new_same n1)).le (by omega)⟩ (fun q H' hq hPv => ?_) (fun H1 hPv => ?_)
    · obtain ⟨cs, hcs, hl, hin, fr, hDk⟩ := hPv
      have hq2 : q < 2 := hq
      refine ⟨rfl, ?_⟩
      dsimp only [tYes]
      rw [if_pos rfl]
      obtain ⟨dsk, hdsk⟩ := hDk.lst
      refine ⟨_, rfl, (show 8 ≤ sizeLine by decide), fun q2 nq2 => ⟨d, q2, signs.map V.str, m + 990 + (2 - (q + 1)), rfl, upd_same, (ne_of_none hdsk nq2).symm, (show 0 < 8 by decide), (show 8 ≤ 1000 by decide), (hDk.same (new_same nq2)).le (by omega), fun j v H'' hj f D' => ?_⟩⟩
      rw [List.getElem?_map] at hj
      cases hg : signs[j]? with
      | none => rw [hg] at hj; cases hj
      | some c =>
        rw [hg] at hj
        cases hj
        have hA : A1 ≠ d := (ne_of_none hds0 n1).symm
        have hcs2 := f _ _ hA ((new_same (o := .lst (signs.map V.str)) nq2) _ _ hcs)
        refine ⟨_, hcs2, ?_, cs ++ [c], ?_, by simp [hl], fun x hx => ?_, Frm.fresh ((fr.trans (Frm.of_new nq2)).trans f) n1, D'.keep (upd_ne hA.symm)⟩
        · rw [List.length_map]
          exact Nat.lt_of_lt_of_le (show cs.length < 1000 by omega) (by decide)
        · rw [upd_same, List.map_append]
          rfl
        · rcases List.mem_append.mp hx with hx | hx
          · exact hin x hx
          · rw [List.mem_singleton.mp hx]
            exact List.mem_of_getElem? hg
    obtain ⟨cs, hcs, hcl, hcin, F1, D1⟩ := hPv
    obtain ⟨c1, c2, rfl⟩ : ∃ c1 c2, cs = [c1, c2] := by
      match cs, hcl with
      | [a, b], _ => exact ⟨a, b, rfl⟩
    have hA1 : A1 ≠ d := (ne_of_none hds0 n1).symm
    have D1 : Deck H1 d (m + 990) := D1.le (by omega)
    -- own
    refine ⟨4, rfl, by decide, by decide, fun A2 n2 => ?_⟩
    refine lc_range (lo := 0) (n := Int.toNat 4) (fun q H' => ∃ ns : List Int, H' A2 = some (.lst (ns.map V.int)) ∧ ns.length = q ∧ smalls ns ∧ Frm d H1 H' ∧ Deck H' d ((m + 970) + 2 * (4 - q))) ⟨[], upd_same, rfl, fun n h => (List.not_mem_nil h).elim, Frm.of_new n2, (D1.same (new_same n2)).le (by omega)⟩ (fun q H' hq hPv => ?_) (fun H2 hPv => ?_)
    · obtain ⟨ns, hns, hl, hsm, fr, hDk⟩ := hPv
      have hq4 : q < 4 := hq
      obtain ⟨dsd, hdsd⟩ := D1.lst
      refine ⟨rfl, ?_⟩
      dsimp only [tYes]
      rw [if_pos rfl]
      refine ⟨_, rfl, d, (m + 970) + 2 * (4 - (q + 1)), rfl, hDk.le (by omega), fun x H'' x0 x1 f D' => ?_⟩
      have hDd : A2 ≠ d := (ne_of_none hdsd n2).symm
      have hns2 := f _ _ hDd hns
      refine ⟨_, hns2, ?_, ns ++ [x], ?_, by simp [hl], fun n hn => ?_, (Frm.fresh (fr.trans f) n2), D'.keep (upd_ne hDd.symm)⟩
      · rw [List.length_map]
        exact Nat.lt_of_lt_of_le (show ns.length < 1000 by omega) (by decide)
      · rw [upd_same, List.map_append]
        rfl
      · rcases List.mem_append.mp hn with hn | hn
        · exact hsm n hn
        · rw [List.mem_singleton.mp hn]
          exact ⟨x0, x1⟩
    obtain ⟨own, hown, hol, hosm, F2, D2⟩ := hPv
    have D2 : Deck H2 d (m + 970) := D2.le (by omega)
    have hcs2 := F2 _ _ hA1 hcs
    refine ⟨A2, _, rfl, .inl ⟨SqL.of hown, fun l nl => ?_⟩⟩
    have sl := new_same (o := .tup (own.map V.int)) nl
    have hld : l ≠ d := (ne_of_none D2.lst.choose_spec nl).symm
    have hcs3 := sl _ _ hcs2
    have D3 := D2.same sl
    have F3 : Frm d H _ := (F1.trans F2).trans (Frm.of_same sl)
    have hl3 : (upd H2 l (.tup (own.map V.int))) l = some (.tup (own.map V.int)) := upd_same
    obtain ⟨H3, hH3⟩ : ∃ H3, H3 = upd H2 l (.tup (own.map V.int)) := ⟨_, rfl⟩
    rw [← hH3] at hcs3 D3 F3 hl3 ⊢
    -- thing
    refine ⟨_, rfl, d, _, m + 969, rfl, by decide, by decide, D3, fun kd H4 k0 k1 f4 D4 => ?_⟩
    refine ⟨_, rfl, d, _, m + 968, rfl, by decide, by decide, D4, fun ho H5 o0 o1 f5 D5 => ⟨_, _, rfl, rfl, ?_⟩⟩
    refine ⟨_, rfl, d, _, m + 967, rfl, by decide, by decide, D5, fun x H6 x0 x1 f6 D6 => ?_⟩
    refine ⟨_, rfl, d, _, m + 966, rfl, by decide, by decide, D6, fun y H7 y0 y1 f7 D7 => ?_⟩
    refine ⟨(show 4 ≤ sizeLine by decide), fun t1 nt1 => ?_⟩
    have s1 := new_same (o := .tup [.int kd, .int (ho - 1), .int x, .int y]) nt1
    have f37 := f4.trans (f5.trans (f6.trans f7))
    have ht1d : t1 ≠ d := (ne_of_none D7.lst.choose_spec nt1).symm
    refine ⟨_, rfl, _, rfl, d, _, m + 965, rfl, by decide, by decide, D7.same s1, fun dx H8 dx0 dx1 f8 D8 => ⟨_, _, rfl, rfl, ?_⟩⟩
    refine ⟨_, rfl, d, _, m + 964, rfl, by decide, by decide, D8, fun dy H9 dy0 dy1 f9 D9 => ⟨_, _, rfl, rfl, ?_⟩⟩
    refine ⟨_, rfl, d, _, m + 963, rfl, by decide, by decide, D9, fun re H10 r0 r1 f10 D10 => ⟨_, _, rfl, rfl, _, rfl, ?_⟩⟩
    refine ⟨(show 4 ≤ sizeLine by decide), fun t2 nt2 => ?_⟩
    have s2 := new_same (o := .tup [.int (dx - 7), .int (dy - 7), .int (re - 2), .ref l]) nt2
    have f310 := f8.trans (f9.trans f10)
    have h1 := s2 _ _ (f310 _ _ ht1d upd_same)
    refine ⟨t1, t2, _, _, rfl, rfl, SqT.of h1, SqT.of upd_same, by simp, (show 8 ≤ sizeLine by decide), (fun e => nomatch e), fun _ th nth => ?_⟩
    have s3 := new_same (o := .tup [.int kd, .int (ho - 1), .int x, .int y, .int (dx - 7), .int (dy - 7), .int (re - 2), .ref l]) nth
    have fT : Frm d H3 _ := (f37.trans ((Frm.of_same s1).trans f310)).trans ((Frm.of_same s2).trans (Frm.of_same s3))
    have D11 := (D10.same s2).same s3
    have hth : Dp K (upd _ th (.tup [.int kd, .int (ho - 1), .int x, .int y, .int (dx - 7), .int (dy - 7), .int (re - 2), .ref l])) (.ref th) (.tuple [.int kd, .int (ho - 1), .int x, .int y, .int (dx - 7), .int (dy - 7), .int (re - 2), intTs own]) := .tup (SqT.of upd_same) (.cons (.int _) (.cons (.int _) (.cons (.int _) (.cons (.int _) (.cons (.int _) (.cons (.int _) (.cons (.int _) (.cons (.tup (SqT.of (fT _ _ hld hl3)) (dpa_ints own)) .nil))))))))
    have hcs4 := fT _ _ hA1 hcs3
    have F4 := F3.trans fT
    refine ⟨(show 1 ≤ sizeLine by decide), fun l3 nl3 => ⟨l3, 16, _, rfl, rfl, upd_same, by decide, by decide, (show 1 * 16 ≤ sizeLine by decide), fun A5 n5 => ?_⟩⟩
    have s4 := (new_same (o := .lst [.non]) nl3).trans (new_same (o := .lst ((List.replicate 16 (none : Option Int)).map ov)) n5)
    have tf4 := (F4.trans (Frm.of_same s4)).tf hds0
    have D12 := D11.same s4
    have ht4 := tf4.sq ht
    have hmt4 := tf4.sq hmt
    have hA5 : A5 ≠ d := (ne_of_none ((new_same (o := .lst [.non]) nl3) _ _ D11.lst.choose_spec) n5).symm
    have hA5H : H A5 = none := by
      rcases Frm.none (F4.trans (Frm.of_same (new_same (o := .lst [.non]) nl3))) n5 with h | h
      · exact h
      · exact absurd h hA5
    have hA15 : A1 ≠ A5 := ne_of_none ((new_same (o := .lst [.non]) nl3) _ _ hcs4) n5
    refine ⟨_, rfl, t, _, _, .ref mt, rfl, rfl, ht4, atI_nat (j := 0) rfl, mt, rfl, ⟨_, hmt4⟩, ?_⟩
    refine for_tup (xs := ms.map fun m : Nat => V.int (m : Int)) (fun i σ H' => ∃ (v6 : Option V) (mv : List (Option Int)), σ = [some (.ref d), some (.ref t), some (.ref A1), some (.ref l), some (.ref th), some (.ref A5), v6, none, none, none] ∧ H' A5 = some (.lst (mv.map ov)) ∧ mv.length = 16 ∧ (∀ n, some n ∈ mv → -999 ≤ n ∧ n ≤ 999) ∧ (∀ j < i, ∀ q, ms[j]? = some q → ∃ n, mv[q]? = some (some n)) ∧ H' A1 = some (.lst [.str c1, .str c2]) ∧ Dp K H' (.ref th) (.tuple [.int kd, .int (ho - 1), .int x, .int y, .int (dx - 7), .int (dy - 7), .int (re - 2), intTs own]) ∧ Frm d H H' ∧ Deck H' d (m + 900 + 2 * (16 - i))) ⟨_, List.replicate 16 none, rfl, upd_same, rfl, fun n h => absurd (List.eq_of_mem_replicate h) (by simp), fun j hj => absurd hj (by omega), s4 _ _ hcs4, dp_nl (same_tf s4) _ _ (Fx.nl ⟨kd, ho - 1, x, y, dx - 7, dy - 7, re - 2, own, 0, [], none, [], "", ""⟩).1 hth, F4.trans (Frm.of_same s4), D12.le (by omega)⟩ (fun i σ H' _ h => ((h.choose_spec.choose_spec.2.2.2.2.2.2.2.1).tf hds0).sq hmt) (fun i y2 σ H13 hy2 hPv => ?_) (fun σ H13 hPv => ?_)
    · obtain ⟨v6, mv, rfl, hmv, hml2, hmb, hmc, hc13, hth13, F13, D13⟩ := hPv
      rw [List.getElem?_map] at hy2
      cases hq : ms[i]? with
      | none => rw [hq] at hy2; cases hy2
      | some q =>
        rw [hq] at hy2
        cases hy2
        have hq16 := hms q (List.mem_of_getElem? hq)
        have hi16 : i < 16 := Nat.lt_of_lt_of_le (List.getElem?_eq_some_iff.mp hq).1 hml
        refine ⟨_, rfl, d, m + 900 + 2 * (16 - (i + 1)), rfl, D13.le (by omega), fun z H14 z0 z1 f14 D14 => ?_⟩
        have hmv14 := f14 _ _ hA5 hmv
        have tf14 := (f14.tf D13.lst.choose_spec).trans (TF.of_lst (o := .lst ((mv.map ov).set q (.int z))) hmv14)
        refine ⟨_, rfl, _, rfl, A5, _, _, q, rfl, rfl, hmv14, Evl.ixN_nat (by rw [List.length_map, hml2]; exact hq16), _, mv.set q (some z), rfl, ?_, by simp [hml2], fun n hn => ?_, fun j hj q' hq' => ?_, ?_, dp_nl tf14 _ _ (Fx.nl ⟨kd, ho - 1, x, y, dx - 7, dy - 7, re - 2, own, 0, [], none, [], "", ""⟩).1 hth13, Frm.fresh (F13.trans f14) hA5H, D14.keep (upd_ne hA5.symm)⟩
        · rw [upd_same, List.map_set]
          rfl
        · rcases List.mem_or_eq_of_mem_set hn with h | h
          · exact hmb n h
          · injection h with h
            rw [h]
            exact ⟨z0, z1⟩
        · by_cases e : q = q'
          · subst e
            exact ⟨z, by rw [List.getElem?_set_self (by rw [hml2]; exact hq16)]⟩
          · rw [List.getElem?_set_ne e]
            by_cases e2 : j = i
            · subst e2
              rw [hq] at hq'
              injection hq' with hq'
              exact absurd hq' e
            · exact hmc j (by omega) q' hq'
        · rw [upd_ne hA15]
          exact f14 _ _ hA1 hc13
    obtain ⟨v6, mv, rfl, hmv, hml2, hmb, hmc, hc13, hth13, F13, D13⟩ := hPv
    have hmi : ∀ i ∈ ms, ∃ n, mv[i]? = some (some n) := fun i hi => by
      obtain ⟨j, hj, rfl⟩ := List.mem_iff_getElem.mp hi
      exact hmc j (by rw [List.length_map]; exact hj) _ (List.getElem?_eq_getElem hj)
    have D13 : Deck H13 d (m + 900) := D13.le (by omega)
    have ht13 := (F13.tf hds0).sq ht
    refine ⟨_, rfl, t, _, _, .bl b1, rfl, rfl, ht13, atI_nat (j := 1) rfl, b1, rfl, ?_⟩
    have nlth := (Fx.nl ⟨kd, ho - 1, x, y, dx - 7, dy - 7, re - 2, own, 0, [], none, [], "", ""⟩).1
    cases b1 with
    | true =>
      refine iteT ?_
      refine ⟨_, rfl, d, _, m + 899, rfl, by decide, by decide, D13, fun se H14 se0 se1 f14 D14 => ?_⟩
      have hmv14 := f14 _ _ hA5 hmv
      have hth14 := dp_nl (f14.tf D13.lst.choose_spec) _ _ nlth hth13
      have hc14 := f14 _ _ hA1 hc13
      have F14 := F13.trans f14
      refine ⟨(show 0 ≤ sizeLine by decide), fun e0 ne0 => ?_⟩
      have se0s := new_same (o := .tup []) ne0
      have hmv15 := se0s _ _ hmv14
      have hth15 := dp_nl (same_tf se0s) _ _ nlth hth14
      have hc15 := se0s _ _ hc14
      have F15 := F14.trans (Frm.of_same se0s)
      have D15 := D14.same se0s
      refine ⟨_, rfl, t, _, _, .bl b2, rfl, rfl, (F15.tf hds0).sq ht, atI_nat (j := 2) rfl, b2, rfl, ?_⟩
      cases b2 with
      | true =>
        refine iteT ?_
        refine ⟨_, rfl, d, m + 500, rfl, D15.le (by omega), fun ma mets H17 dmet hmel hmeo f17 D17 => ?_⟩
        have hmv17 := f17 _ _ hA5 hmv15
        have hth17 := dp_nl (f17.tf D15.lst.choose_spec) _ _ nlth hth15
        have hc17' := f17 _ _ hA1 hc15
        have F17 := F15.trans f17
        refine ⟨_, rfl, _, rfl, d, _, m + 100, rfl, by decide, by decide, D17.le (by omega), fun pr H16 pr0 pr1 f16 D16 => ?_⟩
        have tf16 := f16.tf D17.lst.choose_spec
        have hmv16 := f16 _ _ hA5 hmv17
        have hth16 := dp_nl tf16 _ _ nlth hth17
        have hc16 := f16 _ _ hA1 hc17'
        have nlm : NL (.tuple (List.map Mt.py mets)) := nl_mets mets
        have dmet16 := dp_nl tf16 _ _ nlm dmet
        refine ⟨_, rfl, A5, _, rfl, .inl ⟨SqL.of hmv16, fun mk nmk => ?_⟩⟩
        have sk := new_same (o := .tup (mv.map ov)) nmk
        have hc17 := sk _ _ hc16
        refine ⟨_, rfl, _, rfl, _, rfl, A1, _, _, _, rfl, rfl, SqL.of hc17, atI_nat (j := 0) rfl, _, rfl, A1, _, _, _, rfl, rfl, SqL.of hc17, atI_nat (j := 1) rfl, (show 7 ≤ sizeLine by decide), fun rt nrt => ?_⟩
        have sr := new_same (o := .tup [.ref th, .int pr, .ref mk, ov (some se), .ref ma, .str c1, .str c2]) nrt
        have tr := (same_tf sk).trans (same_tf sr)
        refine k (.ref rt) ⟨kd, ho - 1, x, y, dx - 7, dy - 7, re - 2, own, pr, mv, (some se), mets, c1, c2⟩ _ (.tup (SqT.of upd_same) (.cons (dp_nl tr _ _ nlth hth16) (.cons (.int _) (.cons (.tup (SqT.of (sr _ _ upd_same)) (dpa_ov mv)) (.cons (.int se) (.cons (dp_nl tr _ _ nlm dmet16) (.cons (.str _) (.cons (.str _) .nil)))))))) ⟨⟨hol, hosm⟩, ⟨x0, Int.le_trans (Int.le_of_lt x1) (by decide)⟩, ⟨y0, Int.le_trans (Int.le_of_lt y1) (by decide)⟩, ⟨by simp; omega, by simp; omega⟩, ⟨by simp; omega, by simp; omega⟩, ⟨pr0, by simp; omega⟩, ⟨hml2, hmb⟩, (fun s h => by injection h with h; rw [← h]; exact ⟨se0, by omega⟩), ⟨hmel, hmeo⟩⟩ hmi (fun _ => ⟨se, rfl⟩) (F17.trans (f16.trans ((Frm.of_same sk).trans (Frm.of_same sr)))) (((D16.same sk).same sr).le (by omega))
      | false =>
        refine iteF ?_
        have dmet : Dp K _ (.ref e0) (.tuple (([] : List Mt).map Mt.py)) := .tup (SqT.of (upd_same (H := H14) (a := e0) (o := .tup []))) .nil
        refine ⟨_, rfl, _, rfl, d, _, m + 100, rfl, by decide, by decide, D15.le (by omega), fun pr H16 pr0 pr1 f16 D16 => ?_⟩
        have tf16 := f16.tf D15.lst.choose_spec
        have hmv16 := f16 _ _ hA5 hmv15
        have hth16 := dp_nl tf16 _ _ nlth hth15
        have hc16 := f16 _ _ hA1 hc15
        have nlm : NL (.tuple (List.map Mt.py [])) := nl_mets []
        have dmet16 := dp_nl tf16 _ _ nlm dmet
        refine ⟨_, rfl, A5, _, rfl, .inl ⟨SqL.of hmv16, fun mk nmk => ?_⟩⟩
        have sk := new_same (o := .tup (mv.map ov)) nmk
        have hc17 := sk _ _ hc16
        refine ⟨_, rfl, _, rfl, _, rfl, A1, _, _, _, rfl, rfl, SqL.of hc17, atI_nat (j := 0) rfl, _, rfl, A1, _, _, _, rfl, rfl, SqL.of hc17, atI_nat (j := 1) rfl, (show 7 ≤ sizeLine by decide), fun rt nrt => ?_⟩
        have sr := new_same (o := .tup [.ref th, .int pr, .ref mk, ov (some se), .ref e0, .str c1, .str c2]) nrt
        have tr := (same_tf sk).trans (same_tf sr)
        refine k (.ref rt) ⟨kd, ho - 1, x, y, dx - 7, dy - 7, re - 2, own, pr, mv, (some se), [], c1, c2⟩ _ (.tup (SqT.of upd_same) (.cons (dp_nl tr _ _ nlth hth16) (.cons (.int _) (.cons (.tup (SqT.of (sr _ _ upd_same)) (dpa_ov mv)) (.cons (.int se) (.cons (dp_nl tr _ _ nlm dmet16) (.cons (.str _) (.cons (.str _) .nil)))))))) ⟨⟨hol, hosm⟩, ⟨x0, Int.le_trans (Int.le_of_lt x1) (by decide)⟩, ⟨y0, Int.le_trans (Int.le_of_lt y1) (by decide)⟩, ⟨by simp; omega, by simp; omega⟩, ⟨by simp; omega, by simp; omega⟩, ⟨pr0, by simp; omega⟩, ⟨hml2, hmb⟩, (fun s h => by injection h with h; rw [← h]; exact ⟨se0, by omega⟩), ⟨by simp, fun x hx => (List.not_mem_nil hx).elim⟩⟩ hmi (fun _ => ⟨se, rfl⟩) (F15.trans (f16.trans ((Frm.of_same sk).trans (Frm.of_same sr)))) (((D16.same sk).same sr).le (by omega))
    | false =>
      refine iteF ?_
      refine ⟨(show 0 ≤ sizeLine by decide), fun e0 ne0 => ?_⟩
      have se0s := new_same (o := .tup []) ne0
      have hmv15 := se0s _ _ hmv
      have hth15 := dp_nl (same_tf se0s) _ _ nlth hth13
      have hc15 := se0s _ _ hc13
      have F15 := F13.trans (Frm.of_same se0s)
      have D15 := D13.same se0s
      refine ⟨_, rfl, t, _, _, .bl b2, rfl, rfl, (F15.tf hds0).sq ht, atI_nat (j := 2) rfl, b2, rfl, ?_⟩
      cases b2 with
      | true =>
        refine iteT ?_
        refine ⟨_, rfl, d, m + 500, rfl, D15.le (by omega), fun ma mets H17 dmet hmel hmeo f17 D17 => ?_⟩
        have hmv17 := f17 _ _ hA5 hmv15
        have hth17 := dp_nl (f17.tf D15.lst.choose_spec) _ _ nlth hth15
        have hc17' := f17 _ _ hA1 hc15
        have F17 := F15.trans f17
        refine ⟨_, rfl, _, rfl, d, _, m + 100, rfl, by decide, by decide, D17.le (by omega), fun pr H16 pr0 pr1 f16 D16 => ?_⟩
        have tf16 := f16.tf D17.lst.choose_spec
        have hmv16 := f16 _ _ hA5 hmv17
        have hth16 := dp_nl tf16 _ _ nlth hth17
        have hc16 := f16 _ _ hA1 hc17'
        have nlm : NL (.tuple (List.map Mt.py mets)) := nl_mets mets
        have dmet16 := dp_nl tf16 _ _ nlm dmet
        refine ⟨_, rfl, A5, _, rfl, .inl ⟨SqL.of hmv16, fun mk nmk => ?_⟩⟩
        have sk := new_same (o := .tup (mv.map ov)) nmk
        have hc17 := sk _ _ hc16
        refine ⟨_, rfl, _, rfl, _, rfl, A1, _, _, _, rfl, rfl, SqL.of hc17, atI_nat (j := 0) rfl, _, rfl, A1, _, _, _, rfl, rfl, SqL.of hc17, atI_nat (j := 1) rfl, (show 7 ≤ sizeLine by decide), fun rt nrt => ?_⟩
        have sr := new_same (o := .tup [.ref th, .int pr, .ref mk, ov none, .ref ma, .str c1, .str c2]) nrt
        have tr := (same_tf sk).trans (same_tf sr)
        refine k (.ref rt) ⟨kd, ho - 1, x, y, dx - 7, dy - 7, re - 2, own, pr, mv, none, mets, c1, c2⟩ _ (.tup (SqT.of upd_same) (.cons (dp_nl tr _ _ nlth hth16) (.cons (.int _) (.cons (.tup (SqT.of (sr _ _ upd_same)) (dpa_ov mv)) (.cons .non (.cons (dp_nl tr _ _ nlm dmet16) (.cons (.str _) (.cons (.str _) .nil)))))))) ⟨⟨hol, hosm⟩, ⟨x0, Int.le_trans (Int.le_of_lt x1) (by decide)⟩, ⟨y0, Int.le_trans (Int.le_of_lt y1) (by decide)⟩, ⟨by simp; omega, by simp; omega⟩, ⟨by simp; omega, by simp; omega⟩, ⟨pr0, by simp; omega⟩, ⟨hml2, hmb⟩, (fun s h => nomatch h), ⟨hmel, hmeo⟩⟩ hmi (fun h => nomatch h) (F17.trans (f16.trans ((Frm.of_same sk).trans (Frm.of_same sr)))) (((D16.same sk).same sr).le (by omega))
      | false =>
        refine iteF ?_
        have dmet : Dp K _ (.ref e0) (.tuple (([] : List Mt).map Mt.py)) := .tup (SqT.of (upd_same (H := H13) (a := e0) (o := .tup []))) .nil
        refine ⟨_, rfl, _, rfl, d, _, m + 100, rfl, by decide, by decide, D15.le (by omega), fun pr H16 pr0 pr1 f16 D16 => ?_⟩
        have tf16 := f16.tf D15.lst.choose_spec
        have hmv16 := f16 _ _ hA5 hmv15
        have hth16 := dp_nl tf16 _ _ nlth hth15
        have hc16 := f16 _ _ hA1 hc15
        have nlm : NL (.tuple (List.map Mt.py [])) := nl_mets []
        have dmet16 := dp_nl tf16 _ _ nlm dmet
        refine ⟨_, rfl, A5, _, rfl, .inl ⟨SqL.of hmv16, fun mk nmk => ?_⟩⟩
        have sk := new_same (o := .tup (mv.map ov)) nmk
        have hc17 := sk _ _ hc16
        refine ⟨_, rfl, _, rfl, _, rfl, A1, _, _, _, rfl, rfl, SqL.of hc17, atI_nat (j := 0) rfl, _, rfl, A1, _, _, _, rfl, rfl, SqL.of hc17, atI_nat (j := 1) rfl, (show 7 ≤ sizeLine by decide), fun rt nrt => ?_⟩
        have sr := new_same (o := .tup [.ref th, .int pr, .ref mk, ov none, .ref e0, .str c1, .str c2]) nrt
        have tr := (same_tf sk).trans (same_tf sr)
        refine k (.ref rt) ⟨kd, ho - 1, x, y, dx - 7, dy - 7, re - 2, own, pr, mv, none, [], c1, c2⟩ _ (.tup (SqT.of upd_same) (.cons (dp_nl tr _ _ nlth hth16) (.cons (.int _) (.cons (.tup (SqT.of (sr _ _ upd_same)) (dpa_ov mv)) (.cons .non (.cons (dp_nl tr _ _ nlm dmet16) (.cons (.str _) (.cons (.str _) .nil)))))))) ⟨⟨hol, hosm⟩, ⟨x0, Int.le_trans (Int.le_of_lt x1) (by decide)⟩, ⟨y0, Int.le_trans (Int.le_of_lt y1) (by decide)⟩, ⟨by simp; omega, by simp; omega⟩, ⟨by simp; omega, by simp; omega⟩, ⟨pr0, by simp; omega⟩, ⟨hml2, hmb⟩, (fun s h => nomatch h), ⟨by simp, fun x hx => (List.not_mem_nil hx).elim⟩⟩ hmi (fun h => nomatch h) (F15.trans (f16.trans ((Frm.of_same sk).trans (Frm.of_same sr)))) (((D16.same sk).same sr).le (by omega))
end
end K5
set_option maxRecDepth 100000
set_option maxHeartbeats 4000000
/-! The number of an expression, and the law's own way to it. -/
namespace K5
open PySem PySem.Spec PyProof.Rows L2 KF
def kp (lo hi n : Int) : Int := if lo < (if n < hi then n else hi) then (if n < hi then n else hi) else lo
def keep (n : Int) : Int := kp (-999999) 999999 n
def lim (n : Int) : Prop := -999999 ≤ n ∧ n ≤ 999999
theorem keep_lim (n : Int) : lim (keep n) := by
  unfold keep kp lim
  split <;> split <;> omega
theorem keep_id {n : Int} (h : lim n) : keep n = n := by
  unfold lim at h
  unfold keep kp
  split <;> split <;> omega
def b01 (b : Bool) : Int := if b = true then 1 else 0
def mk2 (k : Str) (a b : Int) : Int :=
  if k = "sum" then keep (a + b) else if k = "less" then keep (a - b) else if k = "times" then keep (a * b)
  else if k = "part" then (if b = 0 then 0 else keep (a.fdiv b)) else if k = "rest" then (if b = 0 then 0 else a.fmod b)
  else if k = "least" then (if b < a then b else a) else if k = "most" then (if a < b then b else a)
  else if k = "same" then b01 (decide (a = b)) else if k = "below" then b01 (decide (a < b))
  else if k = "both" then b01 (decide (a ≠ 0) && decide (b ≠ 0)) else b01 (decide (a ≠ 0) || decide (b ≠ 0))
/-- the seed, and whether one was drawn -/
structure Sd where
  s : Option Int
  dr : Bool
def Lf.ev (f : Fx) (l : Lf) (s : Sd) : Int × Sd := match l with
  | .number n => (n, s)
  | .own i => (f.own.getD i.toNat 0, s)
  | .mark i => (match f.marks[i.toNat]? with | some (some n) => n | _ => 0, s)
  | .word w => (if w = "x" then f.x else if w = "y" then f.y else if w = "dx" then f.dx else if w = "dy" then f.dy else if f.rest = -2 then 0 else 1, s)
  | .held b => (f.press / (2 ^ b.toNat) % 2, s)
  | .met k => (((f.met.filter fun m => decide (m.kind = k)).length : Nat), s)
  | .metOwn k i => (match (f.met.filter fun m => decide (m.kind = k)) with | [] => 0 | m :: _ => m.own.getD i.toNat 0, s)
  | .here c => (b01 (decide (f.here = c)), s)
  | .under c => (b01 (decide (f.below = c)), s)
  | .drawn n => match s.s with
    | some v => (((75 * v + 74) % 65537) % n, ⟨some ((75 * v + 74) % 65537), true⟩)
    | none => (0, s)
def Ex.ev (f : Fx) : Ex → Sd → Int × Sd
  | .leaf l, s => l.ev f s
  | .neg a, s => (b01 (decide ((a.ev f s).1 = 0)), (a.ev f s).2)
  | .two k a b, s => (mk2 k (a.ev f s).1 (b.ev f (a.ev f s).2).1, (b.ev f (a.ev f s).2).2)
  | .pick a b c, s => if (a.ev f s).1 ≠ 0 then b.ev f (a.ev f s).2 else c.ev f (a.ev f s).2
theorem fmod_lim {a b : Int} (h : b ≠ 0) (hb : lim b) : lim (a.fmod b) := by
  unfold lim at *
  have h1 := Int.emod_nonneg a h
  have h2 := Int.emod_lt a h
  rw [Int.fmod_eq_emod]
  split
  · rename_i hc
    rcases hc with hc | hc
    · omega
    · have := Int.emod_eq_zero_of_dvd hc
      omega
  · rename_i hc
    have hn : b < 0 := by
      rcases Int.lt_or_le b 0 with z | z
      · exact z
      · exact absurd (.inl z) hc
    omega
theorem mk2_lim (k : Str) {a b : Int} (ha : lim a) (hb : lim b) : lim (mk2 k a b) := by
  have h01 : ∀ c, lim (b01 c) := fun c => by
    unfold b01 lim
    split <;> decide
  have h0 : lim 0 := by unfold lim; decide
  unfold mk2
  repeat' split
  all_goals first | exact keep_lim _ | exact h01 _ | exact ha | exact hb | exact h0 | (exact fmod_lim (by assumption) hb)
theorem getD_small {ns : List Int} (h : smalls ns) (i : Nat) : lim (ns.getD i 0) := by
  unfold lim
  rw [List.getD_eq_getElem?_getD]
  cases hg : ns[i]? with
  | none => decide
  | some n =>
    have := h n (List.mem_of_getElem? hg)
    simp only [Option.getD_some]
    omega
theorem b01_lim (c : Bool) : lim (b01 c) := by
  unfold b01 lim
  split <;> decide
theorem Lf.ev_lim (l : Lf) (ok : l.ok) (f : Fx) (hf : f.ok) (s : Sd) : lim (l.ev f s).1 := by
  cases l with
  | number n => exact ⟨by have := ok.1; show -999999 ≤ n; omega, by have := ok.2; show n ≤ 999999; omega⟩
  | own i => exact getD_small hf.own.2 _
  | mark i =>
    show lim (match f.marks[i.toNat]? with | some (some n) => n | _ => 0)
    unfold lim
    split
    · rename_i n hn
      have := hf.marks.2 n (List.mem_of_getElem? hn)
      omega
    · decide
  | word w =>
    have h1 := hf.x
    have h2 := hf.y
    have h3 := hf.dx
    have h4 := hf.dy
    show lim (if w = "x" then f.x else if w = "y" then f.y else if w = "dx" then f.dx else if w = "dy" then f.dy else if f.rest = -2 then 0 else 1)
    unfold lim
    repeat' split
    all_goals omega
  | held b =>
    show lim (f.press / (2 ^ b.toNat) % 2)
    unfold lim
    omega
  | met k =>
    have h1 := hf.met.1
    have h2 := List.length_filter_le (fun m : Mt => decide (m.kind = k)) f.met
    show lim (((f.met.filter fun m => decide (m.kind = k)).length : Nat) : Int)
    unfold lim
    omega
  | metOwn k i =>
    show lim (match (f.met.filter fun m => decide (m.kind = k)) with | [] => 0 | m :: _ => m.own.getD i.toNat 0)
    cases h : f.met.filter fun m => decide (m.kind = k) with
    | nil => show lim 0; unfold lim; decide
    | cons m ms =>
      have hm : m ∈ f.met := (List.mem_filter.mp (by rw [h]; simp)).1
      exact getD_small (hf.met.2 m hm).2 _
  | here c => exact b01_lim _
  | under c => exact b01_lim _
  | drawn n =>
    obtain ⟨s, dr⟩ := s
    cases s with
    | none => show lim 0; unfold lim; decide
    | some v =>
      show lim (((75 * v + 74) % 65537) % n)
      have h1 := Int.emod_nonneg ((75 * v + 74) % 65537) (show n ≠ 0 by have := ok.1; omega)
      have h2 := Int.emod_lt_of_pos ((75 * v + 74) % 65537) (show 0 < n by have := ok.1; omega)
      have h3 := ok.2
      unfold lim
      omega
theorem Ex.ev_lim (f : Fx) (hf : f.ok) : ∀ (e : Ex), e.ok → ∀ s, lim (e.ev f s).1
  | .leaf l, ok, s => l.ev_lim ok f hf s
  | .neg a, ok, s => b01_lim _
  | .two k a b, ok, s => mk2_lim k (Ex.ev_lim f hf a ok.2.1 s) (Ex.ev_lim f hf b ok.2.2 _)
  | .pick a b c, ok, s => by
    show lim (if (a.ev f s).1 ≠ 0 then b.ev f (a.ev f s).2 else c.ev f (a.ev f s).2).1
    split
    · exact Ex.ev_lim f hf b ok.2.1 _
    · exact Ex.ev_lim f hf c ok.2.2 _
section
variable {P : Program} {w : World} {K : PySem.W.Frag} {mg : Str → Option Value} {base : Heap}
theorem lab {b : Int} (h : lim b) : b.natAbs < 1073741824 := by
  unfold lim at h
  omega
theorem lmul {a b : Int} (h : lim a) (g : lim b) : CMulW a b := by
  unfold lim at *
  refine wide_mul (a := 20) (b := 20) ?_ ?_ (by decide) (by decide) (by decide)
  · have : (2 : Nat) ^ 20 = 1048576 := by decide
    omega
  · have : (2 : Nat) ^ 20 = 1048576 := by decide
    omega
theorem int_of {a b : Int} (z : decide (V.int a = V.int b) = true) : a = b := by
  have := of_decide_eq_true z
  injection this
theorem ne_of {a b : Int} (z : ¬ decide (V.int a = V.int b) = true) : a ≠ b := fun e => z (by rw [e]; exact decide_eq_true rfl)
theorem dec_int (a b : Int) : decide (V.int a = V.int b) = decide (a = b) := by
  by_cases h : a = b
  · simp [h]
  · rw [decide_eq_false h, decide_eq_false (fun e => h (by injection e))]
def spKept : Sp := fun vs H Q _ => ∃ n lo hi : Int, vs = [.int n, .int lo, .int hi] ∧ Q (.int (kp lo hi n)) H
theorem scK : FnScope ["number", "low", "high"] ["number", "low", "high"] (defScope s_law_kept) := ⟨rfl, rfl, rfl, by decide +kernel, rfl, by decide +kernel, by decide +kernel⟩
theorem ok_law_kept (T : Txt K w mg) : FnOk P w K mg base CX0 1 (He.fAd K ("_law_kept", none)) (fdAt K (He.fAd K ("_law_kept", none))) ["number", "low", "high"] spKept := by
  refine T.F_law_kept.ok scK (fun vs H Q E h => ?_) (fun cdv A outer s H vs Q E hr h => ?_)
  · obtain ⟨n, lo, hi, rfl, _⟩ := h
    rfl
  · obtain ⟨n, lo, hi, rfl, k⟩ := h
    refine ⟨_, PSs.nox (pss_one (ps_ret (pe_callB (call_max2 rfl) (by rfl) T.n_max PyProof.Rows.Boot.«max» (pa_cons (pv 1) (pa_cons (pe_callB (call_min2 rfl) (by rfl) T.n_min PyProof.Rows.Boot.«min» (pa_cons (pv 2) (pa_cons (pv 0) pa_nil))) pa_nil))))), ?_⟩
    exact ⟨_, rfl, _, rfl, _, rfl, _, _, rfl, _, _, rfl, k⟩
theorem scK2 : FnScope ["number", "low", "high"] ["number", "low", "high"] (defScope s_kept) := ⟨rfl, rfl, rfl, by decide +kernel, rfl, by decide +kernel, by decide +kernel⟩
theorem ok_kept (T : Txt K w mg) : FnOk P w K mg base CX0 1 (He.fAd K ("kept", none)) (fdAt K (He.fAd K ("kept", none))) ["number", "low", "high"] spKept := by
  refine T.F_kept.ok scK2 (fun vs H Q E h => ?_) (fun cdv A outer s H vs Q E hr h => ?_)
  · obtain ⟨n, lo, hi, rfl, _⟩ := h
    rfl
  · obtain ⟨n, lo, hi, rfl, k⟩ := h
    refine ⟨_, PSs.nox (pss_one (ps_ret (pe_callB (call_max2 rfl) (by rfl) T.n_max PyProof.Rows.Boot.«max» (pa_cons (pv 1) (pa_cons (pe_callB (call_min2 rfl) (by rfl) T.n_min PyProof.Rows.Boot.«min» (pa_cons (pv 2) (pa_cons (pv 0) pa_nil))) pa_nil))))), ?_⟩
    exact ⟨_, rfl, _, rfl, _, rfl, _, _, rfl, _, _, rfl, k⟩
/-! ### _law_made -/
def spMade : Sp := fun vs H Q _ => ∃ (k : Str) (a b : Int), vs = [.str k, .int a, .int b] ∧ k ∈ twos ∧ lim a ∧ lim b ∧ Q (.int (mk2 k a b)) H
theorem scMa : FnScope ["name", "a", "b"] ["name", "a", "b"] (defScope s_law_made) := ⟨rfl, rfl, rfl, by decide +kernel, rfl, by decide +kernel, by decide +kernel⟩
theorem ok_law_made (T : Txt K w mg) : FnOk P w K mg base CX0 2 (He.fAd K ("_law_made", none)) (fdAt K (He.fAd K ("_law_made", none))) ["name", "a", "b"] spMade := by
  refine T.F_law_made.ok scMa (fun vs H Q E h => ?_) (fun cdv A outer s H vs Q E hr h => ?_)
  · obtain ⟨k, a, b, rfl, _⟩ := h
    rfl
  · obtain ⟨k, a, b, rfl, hk, ha, hb, q⟩ := h
    refine ⟨_, PSs.nox (pss_cons (ps_if (pt_cmpR op_eq (pv 0) pe_str (nomark _)) (pss_one (ps_ret (pe_call (ok_law_kept T) (hr.mono (by decide)) (by rfl) T.g_law_kept (T.F_law_kept).kp T.b_law_kept .nil pass0 (pa_cons (pe_op op_add (pv 1) (pv 2)) (pa_cons (pe_un un_neg pe_int) (pa_cons pe_int pa_nil)))))) pss_nil)
      (pss_cons (ps_if (pt_cmpR op_eq (pv 0) pe_str (nomark _)) (pss_one (ps_ret (pe_call (ok_law_kept T) (hr.mono (by decide)) (by rfl) T.g_law_kept (T.F_law_kept).kp T.b_law_kept .nil pass0 (pa_cons (pe_op op_sub (pv 1) (pv 2)) (pa_cons (pe_un un_neg pe_int) (pa_cons pe_int pa_nil)))))) pss_nil)
      (pss_cons (ps_if (pt_cmpR op_eq (pv 0) pe_str (nomark _)) (pss_one (ps_ret (pe_call (ok_law_kept T) (hr.mono (by decide)) (by rfl) T.g_law_kept (T.F_law_kept).kp T.b_law_kept .nil pass0 (pa_cons (pe_op op_mulW (pv 1) (pv 2)) (pa_cons (pe_un un_neg pe_int) (pa_cons pe_int pa_nil)))))) pss_nil)
      (pss_cons (ps_if (PW.pt (pw_or (pt_cmpR op_eq (pv 0) pe_str (nomark _)) (pw_or1 (pt_cmpR op_eq (pv 0) pe_str (nomark _))))) (pss_cons (ps_if (pt_cmpR op_eq (pv 2) pe_int (nomark _)) (pss_one (ps_ret pe_int)) pss_nil)
      (pss_cons (ps_if (pt_cmpR op_eq (pv 0) pe_str (nomark _)) (pss_one (ps_ret (pe_call (ok_law_kept T) (hr.mono (by decide)) (by rfl) T.g_law_kept (T.F_law_kept).kp T.b_law_kept .nil pass0 (pa_cons (pe_op op_fdivN (pv 1) (pv 2)) (pa_cons (pe_un un_neg pe_int) (pa_cons pe_int pa_nil)))))) pss_nil)
      (pss_one (ps_ret (pe_op op_modN (pe_callTy call_int1 (by rfl) T.n_int PyProof.Rows.Boot.«int» (pa_cons (pv 1) pa_nil)) (pv 2)))))) pss_nil)
      (pss_cons (ps_if (pt_cmpR op_eq (pv 0) pe_str (nomark _)) (pss_one (ps_ret (pe_callB (call_min2 rfl) (by rfl) T.n_min PyProof.Rows.Boot.«min» (pa_cons (pv 1) (pa_cons (pv 2) pa_nil))))) pss_nil)
      (pss_cons (ps_if (pt_cmpR op_eq (pv 0) pe_str (nomark _)) (pss_one (ps_ret (pe_callB (call_max2 rfl) (by rfl) T.n_max PyProof.Rows.Boot.«max» (pa_cons (pv 1) (pa_cons (pv 2) pa_nil))))) pss_nil)
      (pss_cons (ps_if (pt_cmpR op_eq (pv 0) pe_str (nomark _)) (pss_one (ps_ret (pe_callTy call_int1 (by rfl) T.n_int PyProof.Rows.Boot.«int» (pa_cons (pe_cmpR op_eq (pv 1) (pv 2) (nomark _)) pa_nil)))) pss_nil)
      (pss_cons (ps_if (pt_cmpR op_eq (pv 0) pe_str (nomark _)) (pss_one (ps_ret (pe_callTy call_int1 (by rfl) T.n_int PyProof.Rows.Boot.«int» (pa_cons (pe_cmpR op_lt (pv 1) (pv 2) (nomark _)) pa_nil)))) pss_nil)
      (pss_cons (ps_if (pt_cmpR op_eq (pv 0) pe_str (nomark _)) (pss_one (ps_ret (pe_callTy call_int1 (by rfl) T.n_int PyProof.Rows.Boot.«int» (pa_cons (pe_and (pe_cmpR op_ne (pv 1) pe_int (nomark _)) (pe_one (pe_cmpR op_ne (pv 2) pe_int (nomark _)))) pa_nil)))) pss_nil)
      (pss_one (ps_ret (pe_callTy call_int1 (by rfl) T.n_int PyProof.Rows.Boot.«int» (pa_cons (pe_or (pe_cmpR op_ne (pv 1) pe_int (nomark _)) (pe_one (pe_cmpR op_ne (pv 2) pe_int (nomark _)))) pa_nil))))))))))))), ?_⟩
    simp only [twos, List.mem_cons, List.not_mem_nil, or_false] at hk
    rcases hk with rfl | rfl | rfl | rfl | rfl | rfl | rfl | rfl | rfl | rfl | rfl
    all_goals repeat refine ⟨_, rfl, rfl, _, rfl, ite2 (fun z => absurd z (by decide)) (fun _ => ?_)⟩
    · refine ⟨_, rfl, rfl, _, rfl, ite2 (fun _ => ?_) (fun z => absurd (by decide) z)⟩
      exact ⟨_, rfl, _, rfl, _, _, rfl, rfl, _, rfl, _, _, _, rfl, q⟩
    · refine ⟨_, rfl, rfl, _, rfl, ite2 (fun _ => ?_) (fun z => absurd (by decide) z)⟩
      exact ⟨_, rfl, _, rfl, _, _, rfl, rfl, _, rfl, _, _, _, rfl, q⟩
    · refine ⟨_, rfl, rfl, _, rfl, ite2 (fun _ => ?_) (fun z => absurd (by decide) z)⟩
      exact ⟨_, rfl, _, rfl, _, _, rfl, rfl, lmul ha hb, _, rfl, _, _, _, rfl, q⟩
    · refine ⟨_, rfl, rfl, _, rfl, ite2 (fun _ => iteT ?_) (fun z => absurd (by decide) z)⟩
      refine ⟨_, rfl, rfl, _, rfl, ite2 (fun z => ?_) (fun z => ?_)⟩
      · have e : b = 0 := int_of z
        have : mk2 "part" a b = 0 := by
          show (if b = 0 then 0 else keep (a.fdiv b)) = 0
          rw [if_pos e]
        rw [this] at q
        exact q
      · have e : b ≠ 0 := ne_of z
        have : mk2 "part" a b = keep (a.fdiv b) := by
          show (if b = 0 then 0 else keep (a.fdiv b)) = _
          rw [if_neg e]
        rw [this] at q
        refine ⟨_, rfl, rfl, _, rfl, ite2 (fun _ => ?_) (fun z => absurd (by decide) z)⟩
        exact ⟨_, rfl, _, rfl, _, _, rfl, rfl, ⟨e, lab hb⟩, _, rfl, _, _, _, rfl, q⟩
    · refine ⟨_, rfl, rfl, _, rfl, ite2 (fun _ => ?_) (fun z => absurd (by decide) z)⟩
      refine ⟨_, rfl, rfl, _, rfl, ite2 (fun z => ?_) (fun z => ?_)⟩
      · have e : b = 0 := int_of z
        have : mk2 "rest" a b = 0 := by
          show (if b = 0 then 0 else a.fmod b) = 0
          rw [if_pos e]
        rw [this] at q
        exact q
      · have e : b ≠ 0 := ne_of z
        have : mk2 "rest" a b = a.fmod b := by
          show (if b = 0 then 0 else a.fmod b) = _
          rw [if_neg e]
        rw [this] at q
        refine ⟨_, rfl, rfl, _, rfl, ite2 (fun z => absurd z (by decide)) (fun _ => ?_)⟩
        exact ⟨_, rfl, .inl ⟨_, rfl, _, rfl, _, _, rfl, rfl, e, q⟩⟩
    · refine ⟨_, rfl, rfl, _, rfl, ite2 (fun _ => ?_) (fun z => absurd (by decide) z)⟩
      exact ⟨_, rfl, _, rfl, _, _, rfl, q⟩
    · refine ⟨_, rfl, rfl, _, rfl, ite2 (fun _ => ?_) (fun z => absurd (by decide) z)⟩
      exact ⟨_, rfl, _, rfl, _, _, rfl, q⟩
    · refine ⟨_, rfl, rfl, _, rfl, ite2 (fun _ => ?_) (fun z => absurd (by decide) z)⟩
      refine ⟨_, rfl, _, rfl, rfl, .inr ⟨_, rfl, ?_⟩⟩
      rw [dec_int]
      exact q
    · refine ⟨_, rfl, rfl, _, rfl, ite2 (fun _ => ?_) (fun z => absurd (by decide) z)⟩
      exact ⟨_, rfl, _, rfl, _, _, rfl, rfl, .inr ⟨_, rfl, q⟩⟩
    · refine ⟨_, rfl, rfl, _, rfl, ite2 (fun _ => ?_) (fun z => absurd (by decide) z)⟩
      refine ⟨_, rfl, rfl, _, rfl, ite2 (fun z => ?_) (fun z => ?_)⟩
      · refine ⟨_, rfl, rfl, .inr ⟨_, rfl, ?_⟩⟩
        have e : mk2 "both" a b = if (!decide (V.int b = V.int 0)) = true then 1 else 0 := by
          rw [dec_int] at z ⊢
          show b01 (decide (a ≠ 0) && decide (b ≠ 0)) = _
          rw [show decide (a ≠ 0) = true by simpa using z]
          simp [b01]
        rw [e] at q
        exact q
      · refine .inr ⟨_, rfl, ?_⟩
        have e : mk2 "both" a b = 0 := by
          rw [dec_int] at z
          show b01 (decide (a ≠ 0) && decide (b ≠ 0)) = _
          rw [show decide (a ≠ 0) = false by simpa using z]
          simp [b01]
        rw [e] at q
        exact q
    · refine ⟨_, rfl, rfl, _, rfl, ite2 (fun z => ?_) (fun z => ?_)⟩
      · refine .inr ⟨_, rfl, ?_⟩
        have e : mk2 "either" a b = 1 := by
          rw [dec_int] at z
          show b01 (decide (a ≠ 0) || decide (b ≠ 0)) = _
          rw [show decide (a ≠ 0) = true by simpa using z]
          simp [b01]
        rw [e] at q
        exact q
      · refine ⟨_, rfl, rfl, .inr ⟨_, rfl, ?_⟩⟩
        have e : mk2 "either" a b = if (!decide (V.int b = V.int 0)) = true then 1 else 0 := by
          rw [dec_int] at z ⊢
          show b01 (decide (a ≠ 0) || decide (b ≠ 0)) = _
          rw [show decide (a ≠ 0) = false by simpa using z]
          simp [b01]
        rw [e] at q
        exact q
end
end K5
set_option maxRecDepth 100000
set_option maxHeartbeats 1000000
/-! The law's state. -/
namespace K5
open PySem PySem.Spec PyProof.Rows L2 KF
def stK (mn : Int) (th ml mt ol st bo : V) (press : Int) (seed : V) (here below : Str) (dx dy : Int) (dr gn : Bool) : List (Key × V) :=
  [(.inr "thing", th), (.inr "press", .int press), (.inr "marks", ml), (.inr "seed", seed), (.inr "met", mt), (.inr "here", .str here), (.inr "under", .str below), (.inr "dx", .int dx), (.inr "dy", .int dy),
   (.inr "own", ol), (.inr "set", st), (.inr "drew", .bl dr), (.inr "born", bo), (.inr "gone", .bl gn), (.inr "many", .int mn)]
/-- what was done so far, but what is read: the marks that were set, births, gone -/
structure Bx where
  set : List (Option Int)
  born : List (List Int)
  gone : Bool
def Bx0 : Bx := ⟨List.replicate 16 none, [], false⟩
structure Bx.ok (x : Bx) : Prop where
  set : x.set.length = 16
  born : x.born.length ≤ 2
  bl : ∀ b ∈ x.born, b.length = 5
/-- pairs of numbers, each a new tuple -/
def PrL (H : Hp) (sv : List V) (rows : List (Int × Int)) : Prop := sv.length = rows.length ∧ ∀ (i : Nat) (p : Int × Int), rows[i]? = some p → ∃ t : Addr, sv[i]? = some (V.ref t) ∧ H t = some (.tup [.int p.1, .int p.2])
def RowsOk (rows : List (Int × Int)) (set : List (Option Int)) : Prop := (rows.map (·.1)).Nodup ∧ ∀ i n, (i, n) ∈ rows ↔ ∃ k : Nat, i = (k : Int) ∧ set[k]? = some (some n)
def Rst (K : PySem.W.Frag) (H : Hp) (st bo : Addr) (x : Bx) : Prop := ∃ (sv bv : List V) (rows : List (Int × Int)), H st = some (.lst sv) ∧ PrL H sv rows ∧ RowsOk rows x.set ∧ H bo = some (.lst bv) ∧ DpAll K H bv (x.born.map intTs)
/-- the lists that a state holds -/
structure Ad where
  ml : Addr
  ol : Addr
  st : Addr
  bo : Addr
  mn : Int
def SInv (K : PySem.W.Frag) (H : Hp) (a : Addr) (f : Fx) (s : Sd) (x : Bx) : Ad → Prop
  | ⟨ml, ol, st, bo, mn⟩ => ∃ (g : Fx) (th mt : V), H a = some (.dK (stK mn th (.ref ml) mt (.ref ol) (.ref st) (.ref bo) f.press (ov s.s) f.here f.below f.dx f.dy s.dr x.gone)) ∧
  Dp K H th g.thing ∧ (g.x = f.x ∧ g.y = f.y ∧ g.rest = f.rest) ∧ Dp K H mt (.tuple (f.met.map Mt.py)) ∧ H ml = some (.lst (f.marks.map ov)) ∧ H ol = some (.lst (f.own.map V.int)) ∧ Rst K H st bo x
theorem nl_born : ∀ bs : List (List Int), NLs (bs.map intTs)
  | [] => trivial
  | b :: bs => ⟨show NL (intTs b) from nl_ints b, nl_born bs⟩
theorem PrL.frm {H H' : Hp} {a : Addr} {o : HO} {sv : List V} {rows : List (Int × Int)} (h : PrL H sv rows) (f : Frm a H H') (ha : H a = some o) (ho : ∀ xs, o ≠ .tup xs) : PrL H' sv rows := ⟨h.1, fun i p hp => by
  obtain ⟨t, h1, h2⟩ := h.2 i p hp
  exact ⟨t, h1, f t _ (fun e => by rw [e, ha] at h2; injection h2 with h2; exact ho _ h2) h2⟩⟩
theorem PrL.same {H H' : Hp} {sv : List V} {rows : List (Int × Int)} (h : PrL H sv rows) (f : Same H H') : PrL H' sv rows := ⟨h.1, fun i p hp => by
  obtain ⟨t, h1, h2⟩ := h.2 i p hp
  exact ⟨t, h1, f _ _ h2⟩⟩
theorem Rst.same {K : PySem.W.Frag} {H H' : Hp} {st bo : Addr} {x : Bx} (h : Rst K H st bo x) (e : Same H H') : Rst K H' st bo x := by
  obtain ⟨sv, bv, rows, h1, h2, h3, h4, h5⟩ := h
  exact ⟨sv, bv, rows, e _ _ h1, h2.same e, h3, e _ _ h4, dpa_nl (same_tf e) _ _ (nl_born _) h5⟩
theorem Rst.frm {K : PySem.W.Frag} {H H' : Hp} {a st bo : Addr} {kvs : List (Key × V)} {x : Bx} (h : Rst K H st bo x) (f : Frm a H H') (ha : H a = some (.dK kvs)) : Rst K H' st bo x := by
  obtain ⟨sv, bv, rows, h1, h2, h3, h4, h5⟩ := h
  have tf : TF H H' := fun c ys z => by
    rcases z with z | ⟨u, z⟩
    · exact .inl (f c _ (fun q => by rw [q, ha] at z; cases z) z)
    · exact .inr ⟨u, f c _ (fun q => by rw [q, ha] at z; cases z) z⟩
  exact ⟨sv, bv, rows, f _ _ (fun q => by rw [q, ha] at h1; cases h1) h1, h2.frm f ha (fun _ q => by cases q), h3, f _ _ (fun q => by rw [q, ha] at h4; cases h4) h4, dpa_nl tf _ _ (nl_born _) h5⟩
theorem rows0 : RowsOk [] (List.replicate 16 none) := ⟨List.nodup_nil, fun i n => ⟨fun h => (List.not_mem_nil h).elim, fun ⟨k, _, h⟩ => by
  have := List.eq_of_mem_replicate (List.mem_of_getElem? h)
  cases this⟩⟩
theorem dp_oint {K : PySem.W.Frag} {H : Hp} {v : V} {s : Option Int} (h : Dp K H v (oint s)) : v = ov s := by
  cases s <;> cases h <;> rfl
theorem dpa_oints {K : PySem.W.Frag} {H : Hp} : ∀ {ns : List (Option Int)} {vs : List V}, DpAll K H vs (ns.map oint) → vs = ns.map ov
  | [], _, h => by cases h; rfl
  | n :: ns, _, h => by
    cases h with
    | cons a b => rw [dp_oint a, dpa_oints b]; rfl
theorem dpa_intsV {K : PySem.W.Frag} {H : Hp} : ∀ {ns : List Int} {vs : List V}, DpAll K H vs (ns.map PyData.int) → vs = ns.map V.int
  | [], _, h => by cases h; rfl
  | n :: ns, _, h => by
    cases h with
    | cons a b => cases a; rw [dpa_intsV b]; rfl
theorem Frm.tfd {a : Addr} {H H' : Hp} {kvs : List (Key × V)} (e : Frm a H H') (h : H a = some (.dK kvs)) : TF H H' := fun c ys z => by
  rcases z with z | ⟨u, z⟩
  · exact .inl (e c _ (fun q => by rw [q, h] at z; cases z) z)
  · exact .inr ⟨u, e c _ (fun q => by rw [q, h] at z; cases z) z⟩
structure JD (H Hx : Hp) (p ml : Addr) (marks : List V) (kvs : List (Key × V)) : Prop where
  d : Hx p = some (.dK kvs)
  m : Hx ml = some (.lst marks)
  s : Same H Hx
abbrev JD.kv {H Hx : Hp} {p ml : Addr} {marks : List V} {kvs : List (Key × V)} (_ : JD H Hx p ml marks kvs) : List (Key × V) := kvs
theorem JD.put {H Hx : Hp} {p ml : Addr} {marks : List V} {kvs : List (Key × V)} (j : JD H Hx p ml marks kvs) (h : H p = none) (ne : ml ≠ p) (k' : List (Key × V)) : JD H (upd Hx p (.dK k')) p ml marks k' :=
  ⟨upd_same, by rw [upd_ne ne]; exact j.m, fun b o z => by rw [upd_ne (ne_of_none z h)]; exact j.s b o z⟩
theorem JD.new {H Hx : Hp} {p ml l : Addr} {marks : List V} {kvs : List (Key × V)} (j : JD H Hx p ml marks kvs) (h : Hx l = none) (o : HO) : JD H (upd Hx l o) p ml marks kvs :=
  ⟨new_same h _ _ j.d, new_same h _ _ j.m, j.s.trans (new_same h)⟩
section
variable {P : Program} {w : World} {K : PySem.W.Frag} {mg : Str → Option Value} {base : Heap}
def spState (K : PySem.W.Frag) : Sp := fun vs H Q _ => ∃ (v : V) (f : Fx), vs = [v] ∧ Dp K H v f.py ∧ f.ok ∧ ∀ a H' A, SInv K H' a f ⟨f.seed, false⟩ Bx0 A → A.mn = 0 → Same H H' → H a = none → Q (.ref a) H'
theorem scSt : FnScope ["facts", "state"] ["facts"] (defScope s_law_state) := ⟨rfl, rfl, rfl, by decide +kernel, rfl, by decide +kernel, by decide +kernel⟩
theorem ok_law_state (T : Txt K w mg) : FnOk P w K mg base CX0 1 (He.fAd K ("_law_state", none)) (fdAt K (He.fAd K ("_law_state", none))) ["facts"] (spState K) := by
  refine T.F_law_state.ok scSt (fun vs H Q E h => ?_) (fun cdv A outer s H vs Q E hr h => ?_)
  · obtain ⟨v, f, rfl, _⟩ := h
    rfl
  · obtain ⟨v, f, rfl, hd, hf, k⟩ := h
    have hu := Nat.lt_of_le_of_lt (Nat.add_le_add_left (by decide : 1 ≤ 64) _) hr.units
    refine ⟨_, PSs.nox (pss_cons (ps_set (i := 1) scSt.nd rfl (Or.inl rfl) (pe_disp (pps_cons pe_str (pe_ix (r := rIxT K) ix_tup (pv 0) pe_int (fun _ _ => rfl)) (pps_cons pe_str (pe_ix (r := rIxT K) ix_tup (pv 0) pe_int (fun _ _ => rfl)) (pps_cons pe_str (pe_callTy call_list_of (by rfl) T.n_list PyProof.Rows.Boot.«list» (pa_cons (pe_ix (r := rIxT K) ix_tup (pv 0) pe_int (fun _ _ => rfl)) pa_nil)) (pps_cons pe_str (pe_ix (r := rIxT K) ix_tup (pv 0) pe_int (fun _ _ => rfl)) (pps_cons pe_str (pe_ix (r := rIxT K) ix_tup (pv 0) pe_int (fun _ _ => rfl)) pps_nil))))) (by rfl) (by rfl) (fun z => by cases z) (by decide)))
      (pss_cons (ps_dput hu (pv 1) pe_str (pe_ix (r := rIxT K) ix_tup (pv 0) pe_int (fun _ _ => rfl)) rfl)
      (pss_cons (ps_dput hu (pv 1) pe_str (pe_ix (r := rIxT K) ix_tup (pv 0) pe_int (fun _ _ => rfl)) rfl)
      (pss_cons (ps_dput hu (pv 1) pe_str (pe_ix (r := rIxT K) ix_tup (pe_ix (r := rIxT K) ix_tup (pv 0) pe_int (fun _ _ => rfl)) pe_int (fun _ _ => rfl)) rfl)
      (pss_cons (ps_dput hu (pv 1) pe_str (pe_ix (r := rIxT K) ix_tup (pe_ix (r := rIxT K) ix_tup (pv 0) pe_int (fun _ _ => rfl)) pe_int (fun _ _ => rfl)) rfl)
      (pss_cons (ps_dput hu (pv 1) pe_str (pe_callTy call_list_of (by rfl) T.n_list PyProof.Rows.Boot.«list» (pa_cons (pe_ix (r := rIxT K) ix_tup (pe_ix (r := rIxT K) ix_tup (pv 0) pe_int (fun _ _ => rfl)) pe_int (fun _ _ => rfl)) pa_nil)) rfl)
      (pss_cons (ps_dput hu (pv 1) pe_str (pe_lst pa_nil) rfl)
      (pss_cons (ps_dput hu (pv 1) pe_str pe_bl rfl)
      (pss_cons (ps_dput hu (pv 1) pe_str (pe_lst pa_nil) rfl)
      (pss_cons (ps_dput hu (pv 1) pe_str pe_bl rfl)
      (pss_cons (ps_dput hu (pv 1) pe_str pe_int rfl)
      (pss_one (ps_ret (pv 1)))))))))))))), ?_⟩
    obtain ⟨r, xs, rfl, sq, all⟩ := dp_tup hd
    cases all with
    | @cons th _ _ _ hth r1 =>
    cases r1 with
    | cons hpr r2 =>
    cases r2 with
    | @cons mk _ _ _ hmk r3 =>
    cases r3 with
    | @cons se _ _ _ hse r4 =>
    cases r4 with
    | @cons mt _ _ _ hmt r5 =>
    cases r5 with
    | cons hhe r6 =>
    cases r6 with
    | cons hbe r7 =>
    cases r7
    cases hpr
    cases hhe
    cases hbe
    cases dp_oint hse
    obtain ⟨tr, txs, rfl, tsq, tall⟩ := dp_tup hth
    obtain ⟨mr, mxs, rfl, msq, mall⟩ := dp_tup hmk
    cases dpa_oints mall
    cases tall with
    | cons h1 r1 =>
    cases r1 with
    | cons h2 r2 =>
    cases r2 with
    | cons h3 r3 =>
    cases r3 with
    | cons h4 r4 =>
    cases r4 with
    | cons h5 r5 =>
    cases r5 with
    | cons h6 r6 =>
    cases r6 with
    | cons h7 r7 =>
    cases r7 with
    | @cons ow _ _ _ how r8 =>
    cases r8
    cases h1
    cases h2
    cases h3
    cases h4
    cases h5
    cases h6
    cases h7
    obtain ⟨orr, oxs, rfl, osq, oall⟩ := dp_tup how
    cases dpa_intsV oall
    refine fun p np => ?_
    have s0 := new_same (o := .dK []) np
    have t0 := same_tf s0
    refine ⟨_, rfl, r, _, _, _, rfl, rfl, t0.sq sq, atI_nat (j := 0) rfl, ?_⟩
    refine ⟨_, rfl, r, _, _, _, rfl, rfl, t0.sq sq, atI_nat (j := 1) rfl, ?_⟩
    refine ⟨_, rfl, r, _, _, _, rfl, rfl, t0.sq sq, atI_nat (j := 2) rfl, mr, _, rfl, .inr (t0.sq msq), fun ml nml => ?_⟩
    have s1 := new_same (o := .lst (f.marks.map ov)) nml
    have t1 := t0.trans (same_tf s1)
    refine ⟨_, rfl, r, _, _, _, rfl, rfl, t1.sq sq, atI_nat (j := 3) rfl, ?_⟩
    refine ⟨_, rfl, r, _, _, _, rfl, rfl, t1.sq sq, atI_nat (j := 4) rfl, ?_⟩
    refine ⟨s1 _ _ upd_same, [(.inr "thing", .ref tr), (.inr "press", .int f.press), (.inr "marks", .ref ml), (.inr "seed", ov f.seed), (.inr "met", mt)], rfl, (show 5 ≤ 15 by decide), ?_⟩
    have hmlp : ml ≠ p := fun e => by
      rw [e, upd_same] at nml
      cases nml
    have sT : ∀ {Hx : Hp} {kvs : List (Key × V)}, JD H Hx p ml (f.marks.map ov) kvs → SqT K Hx r [.ref tr, .int f.press, .ref mr, ov f.seed, mt, .str f.here, .str f.below] := fun j => (same_tf j.s).sq sq
    have sTT : ∀ {Hx : Hp} {kvs : List (Key × V)}, JD H Hx p ml (f.marks.map ov) kvs → SqT K Hx tr [.int f.kind, .int f.house, .int f.x, .int f.y, .int f.dx, .int f.dy, .int f.rest, .ref orr] := fun j => (same_tf j.s).sq tsq
    have em : mergeK [] ([(.inr "thing", .ref tr), (.inr "press", .int f.press), (.inr "marks", .ref ml), (.inr "seed", ov f.seed), (.inr "met", mt)] : List (Key × V)) = ([(.inr "thing", .ref tr), (.inr "press", .int f.press), (.inr "marks", .ref ml), (.inr "seed", ov f.seed), (.inr "met", mt)] : List (Key × V)) := rfl
    rw [em]
    have j5 : JD H (upd (upd (upd H p (.dK [])) ml (.lst (f.marks.map ov))) p (.dK ([(.inr "thing", .ref tr), (.inr "press", .int f.press), (.inr "marks", .ref ml), (.inr "seed", ov f.seed), (.inr "met", mt)] : List (Key × V)))) p ml (f.marks.map ov) ([(.inr "thing", .ref tr), (.inr "press", .int f.press), (.inr "marks", .ref ml), (.inr "seed", ov f.seed), (.inr "met", mt)] : List (Key × V)) := JD.put ⟨s1 _ _ upd_same, upd_same, s0.trans s1⟩ np hmlp _
    have e5 : putK ([(.inr "thing", .ref tr), (.inr "press", .int f.press), (.inr "marks", .ref ml), (.inr "seed", ov f.seed), (.inr "met", mt)] : List (Key × V)) (.inr "here") (.str f.here) = ([(.inr "thing", .ref tr), (.inr "press", .int f.press), (.inr "marks", .ref ml), (.inr "seed", ov f.seed), (.inr "met", mt), (.inr "here", .str f.here)] : List (Key × V)) := rfl
    refine ⟨_, rfl, r, _, _, _, rfl, rfl, sT j5, atI_nat (j := 5) rfl, _, rfl, p, _, rfl, DPut.k (k := .inr "here") j5.d (show 5 < sizeLine by decide), ?_⟩
    rw [e5]
    have j6 := JD.put j5 np hmlp ([(.inr "thing", .ref tr), (.inr "press", .int f.press), (.inr "marks", .ref ml), (.inr "seed", ov f.seed), (.inr "met", mt), (.inr "here", .str f.here)] : List (Key × V))
    have e6 : putK ([(.inr "thing", .ref tr), (.inr "press", .int f.press), (.inr "marks", .ref ml), (.inr "seed", ov f.seed), (.inr "met", mt), (.inr "here", .str f.here)] : List (Key × V)) (.inr "under") (.str f.below) = ([(.inr "thing", .ref tr), (.inr "press", .int f.press), (.inr "marks", .ref ml), (.inr "seed", ov f.seed), (.inr "met", mt), (.inr "here", .str f.here), (.inr "under", .str f.below)] : List (Key × V)) := rfl
    refine ⟨_, rfl, r, _, _, _, rfl, rfl, sT j6, atI_nat (j := 6) rfl, _, rfl, p, _, rfl, DPut.k (k := .inr "under") j6.d (show 6 < sizeLine by decide), ?_⟩
    rw [e6]
    have j7 := JD.put j6 np hmlp ([(.inr "thing", .ref tr), (.inr "press", .int f.press), (.inr "marks", .ref ml), (.inr "seed", ov f.seed), (.inr "met", mt), (.inr "here", .str f.here), (.inr "under", .str f.below)] : List (Key × V))
    have e7 : putK ([(.inr "thing", .ref tr), (.inr "press", .int f.press), (.inr "marks", .ref ml), (.inr "seed", ov f.seed), (.inr "met", mt), (.inr "here", .str f.here), (.inr "under", .str f.below)] : List (Key × V)) (.inr "dx") (.int f.dx) = ([(.inr "thing", .ref tr), (.inr "press", .int f.press), (.inr "marks", .ref ml), (.inr "seed", ov f.seed), (.inr "met", mt), (.inr "here", .str f.here), (.inr "under", .str f.below), (.inr "dx", .int f.dx)] : List (Key × V)) := rfl
    refine ⟨_, rfl, r, _, _, _, rfl, rfl, sT j7, atI_nat (j := 0) rfl, tr, _, _, _, rfl, rfl, sTT j7, atI_nat (j := 4) rfl, _, rfl, p, _, rfl, DPut.k (k := .inr "dx") j7.d (show 7 < sizeLine by decide), ?_⟩
    rw [e7]
    have j8 := JD.put j7 np hmlp ([(.inr "thing", .ref tr), (.inr "press", .int f.press), (.inr "marks", .ref ml), (.inr "seed", ov f.seed), (.inr "met", mt), (.inr "here", .str f.here), (.inr "under", .str f.below), (.inr "dx", .int f.dx)] : List (Key × V))
    have e8 : putK ([(.inr "thing", .ref tr), (.inr "press", .int f.press), (.inr "marks", .ref ml), (.inr "seed", ov f.seed), (.inr "met", mt), (.inr "here", .str f.here), (.inr "under", .str f.below), (.inr "dx", .int f.dx)] : List (Key × V)) (.inr "dy") (.int f.dy) = ([(.inr "thing", .ref tr), (.inr "press", .int f.press), (.inr "marks", .ref ml), (.inr "seed", ov f.seed), (.inr "met", mt), (.inr "here", .str f.here), (.inr "under", .str f.below), (.inr "dx", .int f.dx), (.inr "dy", .int f.dy)] : List (Key × V)) := rfl
    refine ⟨_, rfl, r, _, _, _, rfl, rfl, sT j8, atI_nat (j := 0) rfl, tr, _, _, _, rfl, rfl, sTT j8, atI_nat (j := 5) rfl, _, rfl, p, _, rfl, DPut.k (k := .inr "dy") j8.d (show 8 < sizeLine by decide), ?_⟩
    rw [e8]
    have j9 := JD.put j8 np hmlp ([(.inr "thing", .ref tr), (.inr "press", .int f.press), (.inr "marks", .ref ml), (.inr "seed", ov f.seed), (.inr "met", mt), (.inr "here", .str f.here), (.inr "under", .str f.below), (.inr "dx", .int f.dx), (.inr "dy", .int f.dy)] : List (Key × V))
    refine ⟨_, rfl, r, _, _, _, rfl, rfl, sT j9, atI_nat (j := 0) rfl, tr, _, _, _, rfl, rfl, sTT j9, atI_nat (j := 7) rfl, orr, _, rfl, .inr ((same_tf j9.s).sq osq), fun ol nol => ?_⟩
    have olp : ol ≠ p := (ne_of_none j9.d nol).symm
    have j9 := JD.new j9 nol (.lst (f.own.map V.int))
    have e9 : putK ([(.inr "thing", .ref tr), (.inr "press", .int f.press), (.inr "marks", .ref ml), (.inr "seed", ov f.seed), (.inr "met", mt), (.inr "here", .str f.here), (.inr "under", .str f.below), (.inr "dx", .int f.dx), (.inr "dy", .int f.dy)] : List (Key × V)) (.inr "own") (.ref ol) = ([(.inr "thing", .ref tr), (.inr "press", .int f.press), (.inr "marks", .ref ml), (.inr "seed", ov f.seed), (.inr "met", mt), (.inr "here", .str f.here), (.inr "under", .str f.below), (.inr "dx", .int f.dx), (.inr "dy", .int f.dy), (.inr "own", .ref ol)] : List (Key × V)) := rfl
    refine ⟨_, rfl, p, _, rfl, DPut.k (k := .inr "own") j9.d (show 9 < sizeLine by decide), ?_⟩
    rw [e9]
    have j10 := JD.put j9 np hmlp ([(.inr "thing", .ref tr), (.inr "press", .int f.press), (.inr "marks", .ref ml), (.inr "seed", ov f.seed), (.inr "met", mt), (.inr "here", .str f.here), (.inr "under", .str f.below), (.inr "dx", .int f.dx), (.inr "dy", .int f.dy), (.inr "own", .ref ol)] : List (Key × V))
    refine ⟨(show 0 ≤ sizeLine by decide), fun st nst => ?_⟩
    have j10 := JD.new j10 nst (.lst [])
    have e10 : putK ([(.inr "thing", .ref tr), (.inr "press", .int f.press), (.inr "marks", .ref ml), (.inr "seed", ov f.seed), (.inr "met", mt), (.inr "here", .str f.here), (.inr "under", .str f.below), (.inr "dx", .int f.dx), (.inr "dy", .int f.dy), (.inr "own", .ref ol)] : List (Key × V)) (.inr "set") (.ref st) = ([(.inr "thing", .ref tr), (.inr "press", .int f.press), (.inr "marks", .ref ml), (.inr "seed", ov f.seed), (.inr "met", mt), (.inr "here", .str f.here), (.inr "under", .str f.below), (.inr "dx", .int f.dx), (.inr "dy", .int f.dy), (.inr "own", .ref ol), (.inr "set", .ref st)] : List (Key × V)) := rfl
    refine ⟨_, rfl, p, _, rfl, DPut.k (k := .inr "set") j10.d (show 10 < sizeLine by decide), ?_⟩
    rw [e10]
    have j11 := JD.put j10 np hmlp ([(.inr "thing", .ref tr), (.inr "press", .int f.press), (.inr "marks", .ref ml), (.inr "seed", ov f.seed), (.inr "met", mt), (.inr "here", .str f.here), (.inr "under", .str f.below), (.inr "dx", .int f.dx), (.inr "dy", .int f.dy), (.inr "own", .ref ol), (.inr "set", .ref st)] : List (Key × V))
    have e11 : putK ([(.inr "thing", .ref tr), (.inr "press", .int f.press), (.inr "marks", .ref ml), (.inr "seed", ov f.seed), (.inr "met", mt), (.inr "here", .str f.here), (.inr "under", .str f.below), (.inr "dx", .int f.dx), (.inr "dy", .int f.dy), (.inr "own", .ref ol), (.inr "set", .ref st)] : List (Key × V)) (.inr "drew") (.bl false) = ([(.inr "thing", .ref tr), (.inr "press", .int f.press), (.inr "marks", .ref ml), (.inr "seed", ov f.seed), (.inr "met", mt), (.inr "here", .str f.here), (.inr "under", .str f.below), (.inr "dx", .int f.dx), (.inr "dy", .int f.dy), (.inr "own", .ref ol), (.inr "set", .ref st), (.inr "drew", .bl false)] : List (Key × V)) := rfl
    refine ⟨_, rfl, p, _, rfl, DPut.k (k := .inr "drew") j11.d (show 11 < sizeLine by decide), ?_⟩
    rw [e11]
    have j12 := JD.put j11 np hmlp ([(.inr "thing", .ref tr), (.inr "press", .int f.press), (.inr "marks", .ref ml), (.inr "seed", ov f.seed), (.inr "met", mt), (.inr "here", .str f.here), (.inr "under", .str f.below), (.inr "dx", .int f.dx), (.inr "dy", .int f.dy), (.inr "own", .ref ol), (.inr "set", .ref st), (.inr "drew", .bl false)] : List (Key × V))
    refine ⟨(show 0 ≤ sizeLine by decide), fun bo nbo => ?_⟩
    have j12 := JD.new j12 nbo (.lst [])
    have e12 : putK ([(.inr "thing", .ref tr), (.inr "press", .int f.press), (.inr "marks", .ref ml), (.inr "seed", ov f.seed), (.inr "met", mt), (.inr "here", .str f.here), (.inr "under", .str f.below), (.inr "dx", .int f.dx), (.inr "dy", .int f.dy), (.inr "own", .ref ol), (.inr "set", .ref st), (.inr "drew", .bl false)] : List (Key × V)) (.inr "born") (.ref bo) = ([(.inr "thing", .ref tr), (.inr "press", .int f.press), (.inr "marks", .ref ml), (.inr "seed", ov f.seed), (.inr "met", mt), (.inr "here", .str f.here), (.inr "under", .str f.below), (.inr "dx", .int f.dx), (.inr "dy", .int f.dy), (.inr "own", .ref ol), (.inr "set", .ref st), (.inr "drew", .bl false), (.inr "born", .ref bo)] : List (Key × V)) := rfl
    refine ⟨_, rfl, p, _, rfl, DPut.k (k := .inr "born") j12.d (show 12 < sizeLine by decide), ?_⟩
    rw [e12]
    have j13 := JD.put j12 np hmlp ([(.inr "thing", .ref tr), (.inr "press", .int f.press), (.inr "marks", .ref ml), (.inr "seed", ov f.seed), (.inr "met", mt), (.inr "here", .str f.here), (.inr "under", .str f.below), (.inr "dx", .int f.dx), (.inr "dy", .int f.dy), (.inr "own", .ref ol), (.inr "set", .ref st), (.inr "drew", .bl false), (.inr "born", .ref bo)] : List (Key × V))
    have e13 : putK ([(.inr "thing", .ref tr), (.inr "press", .int f.press), (.inr "marks", .ref ml), (.inr "seed", ov f.seed), (.inr "met", mt), (.inr "here", .str f.here), (.inr "under", .str f.below), (.inr "dx", .int f.dx), (.inr "dy", .int f.dy), (.inr "own", .ref ol), (.inr "set", .ref st), (.inr "drew", .bl false), (.inr "born", .ref bo)] : List (Key × V)) (.inr "gone") (.bl false) = ([(.inr "thing", .ref tr), (.inr "press", .int f.press), (.inr "marks", .ref ml), (.inr "seed", ov f.seed), (.inr "met", mt), (.inr "here", .str f.here), (.inr "under", .str f.below), (.inr "dx", .int f.dx), (.inr "dy", .int f.dy), (.inr "own", .ref ol), (.inr "set", .ref st), (.inr "drew", .bl false), (.inr "born", .ref bo), (.inr "gone", .bl false)] : List (Key × V)) := rfl
    refine ⟨_, rfl, p, _, rfl, DPut.k (k := .inr "gone") j13.d (show 13 < sizeLine by decide), ?_⟩
    rw [e13]
    have j14 := JD.put j13 np hmlp ([(.inr "thing", .ref tr), (.inr "press", .int f.press), (.inr "marks", .ref ml), (.inr "seed", ov f.seed), (.inr "met", mt), (.inr "here", .str f.here), (.inr "under", .str f.below), (.inr "dx", .int f.dx), (.inr "dy", .int f.dy), (.inr "own", .ref ol), (.inr "set", .ref st), (.inr "drew", .bl false), (.inr "born", .ref bo), (.inr "gone", .bl false)] : List (Key × V))
    have e14 : putK ([(.inr "thing", .ref tr), (.inr "press", .int f.press), (.inr "marks", .ref ml), (.inr "seed", ov f.seed), (.inr "met", mt), (.inr "here", .str f.here), (.inr "under", .str f.below), (.inr "dx", .int f.dx), (.inr "dy", .int f.dy), (.inr "own", .ref ol), (.inr "set", .ref st), (.inr "drew", .bl false), (.inr "born", .ref bo), (.inr "gone", .bl false)] : List (Key × V)) (.inr "many") (.int 0) = ([(.inr "thing", .ref tr), (.inr "press", .int f.press), (.inr "marks", .ref ml), (.inr "seed", ov f.seed), (.inr "met", mt), (.inr "here", .str f.here), (.inr "under", .str f.below), (.inr "dx", .int f.dx), (.inr "dy", .int f.dy), (.inr "own", .ref ol), (.inr "set", .ref st), (.inr "drew", .bl false), (.inr "born", .ref bo), (.inr "gone", .bl false), (.inr "many", .int 0)] : List (Key × V)) := rfl
    refine ⟨_, rfl, p, _, rfl, DPut.k (k := .inr "many") j14.d (show 14 < sizeLine by decide), ?_⟩
    rw [e14]
    have j15 := JD.put j14 np hmlp ([(.inr "thing", .ref tr), (.inr "press", .int f.press), (.inr "marks", .ref ml), (.inr "seed", ov f.seed), (.inr "met", mt), (.inr "here", .str f.here), (.inr "under", .str f.below), (.inr "dx", .int f.dx), (.inr "dy", .int f.dy), (.inr "own", .ref ol), (.inr "set", .ref st), (.inr "drew", .bl false), (.inr "born", .ref bo), (.inr "gone", .bl false), (.inr "many", .int 0)] : List (Key × V))
    have a1 := new_same (o := .lst []) nst
    have a2 := new_same (o := .lst []) nbo
    have pne : ∀ {q : Addr} {Hx : Hp} {kvs : List (Key × V)}, Hx p = some (.dK kvs) → Hx q = none → q ≠ p := fun h1 h2 e => by
      rw [e, h1] at h2
      cases h2
    have stp : st ≠ p := pne (by rw [upd_same]) nst
    have bop : bo ≠ p := pne (by rw [upd_same]) nbo
    refine ⟨_, rfl, k p _ ⟨ml, ol, st, bo, 0⟩ ⟨f, .ref tr, mt, j15.d, dp_nl (same_tf j15.s) _ _ f.nl.1 hth, ⟨rfl, rfl, rfl⟩, dp_nl (same_tf j15.s) _ _ (show NL (.tuple (f.met.map Mt.py)) from nl_mets _) hmt, j15.m, ?_, [], [], [], ?_, ⟨rfl, fun i p h => by cases h⟩, rows0, ?_, .nil⟩ rfl j15.s np⟩
    · rw [upd_ne olp, upd_ne olp, upd_ne olp]
      refine a2 _ _ ?_
      rw [upd_ne olp, upd_ne olp]
      refine a1 _ _ ?_
      rw [upd_ne olp]
      exact upd_same
    · rw [upd_ne stp, upd_ne stp, upd_ne stp]
      refine a2 _ _ ?_
      rw [upd_ne stp, upd_ne stp]
      exact upd_same
    · rw [upd_ne bop, upd_ne bop, upd_ne bop]
      exact upd_same
end
end K5
set_option maxRecDepth 100000
set_option maxHeartbeats 2000000
/-! The law's reading of a tuple. -/
namespace K5
open PySem PySem.Spec PyProof.Rows L2 KF
/-- what a tuple wants is there -/
def Lf.has (f : Fx) (s : Sd) : Lf → Prop
  | .mark i => ∃ n, f.marks[i.toNat]? = some (some n)
  | .drawn _ => ∃ v, s.s = some v
  | _ => True
def sok (s : Sd) : Prop := ∀ v, s.s = some v → 0 ≤ v ∧ v ≤ 65536
theorem dec_str (a b : Str) : decide (V.str a = V.str b) = decide (a = b) := by
  by_cases h : a = b
  · simp [h]
  · rw [decide_eq_false h, decide_eq_false (fun e => h (by injection e))]
theorem dpa_thing {K : PySem.W.Frag} {H : Hp} {f : Fx} {xs : List V} (h : DpAll K H xs [.int f.kind, .int f.house, .int f.x, .int f.y, .int f.dx, .int f.dy, .int f.rest, intTs f.own]) : ∃ o, xs = [.int f.kind, .int f.house, .int f.x, .int f.y, .int f.dx, .int f.dy, .int f.rest, o] := by
  cases h with
  | cons h1 r1 =>
  cases r1 with
  | cons h2 r2 =>
  cases r2 with
  | cons h3 r3 =>
  cases r3 with
  | cons h4 r4 =>
  cases r4 with
  | cons h5 r5 =>
  cases r5 with
  | cons h6 r6 =>
  cases r6 with
  | cons h7 r7 =>
  cases r7 with
  | cons h8 r8 =>
  cases r8
  cases h1
  cases h2
  cases h3
  cases h4
  cases h5
  cases h6
  cases h7
  exact ⟨_, rfl⟩
theorem nl_owns : ∀ ms : List Mt, NLs (ms.map fun m => intTs m.own)
  | [] => trivial
  | m :: ms => ⟨show NL (intTs m.own) from nl_ints _, nl_owns ms⟩
theorem lay_ints : ∀ ns : List Int, PyData.canLayAll0 (ns.map PyData.int) = true
  | [] => by simp [PyData.canLayAll0]
  | n :: ns => by simp [PyData.canLayAll0, PyData.canLay0, lay_ints ns]
theorem lay_owns : ∀ ms : List Mt, PyData.canLayAll0 (ms.map fun m => intTs m.own) = true
  | [] => by simp [PyData.canLayAll0]
  | m :: ms => by
    rw [List.map_cons, PyData.canLayAll0, lay_owns ms, intTs, PyData.canLay0, lay_ints]
    rfl
theorem SInv.same {K : PySem.W.Frag} {H H' : Hp} {a : Addr} {f : Fx} {s : Sd} {x : Bx} {A : Ad} (h : SInv K H a f s x A) (e : Same H H') : SInv K H' a f s x A := by
  obtain ⟨ml, ol, st, bo, mn⟩ := A
  obtain ⟨g, th, mt, ha, hth, hg, hmt, hml, hol, hr⟩ := h
  exact ⟨g, th, mt, e _ _ ha, dp_nl (same_tf e) _ _ g.nl.1 hth, hg, dp_nl (same_tf e) _ _ (show NL (.tuple (f.met.map Mt.py)) from nl_mets _) hmt, e _ _ hml, e _ _ hol, hr.same e⟩
section
variable {P : Program} {w : World} {K : PySem.W.Frag} {mg : Str → Option Value} {base : Heap}
def spRead (K : PySem.W.Frag) : Sp := fun vs H Q _ => ∃ (v : V) (a : Addr) (l : Lf) (f : Fx) (s : Sd) (x : Bx) (AA : Ad), vs = [v, .ref a] ∧ Dp K H v (.tuple l.ds) ∧ l.ok ∧ f.ok ∧ sok s ∧ l.has f s ∧ SInv K H a f s x AA ∧
    ∀ H', SInv K H' a f (l.ev f s).2 x AA → Frm a H H' → Q (.int (l.ev f s).1) H'
theorem scR : FnScope ["item", "state", "name", "found", "one"] ["item", "state"] (defScope s_law_read) := ⟨rfl, rfl, rfl, by decide +kernel, rfl, by decide +kernel, by decide +kernel⟩
theorem ok_law_read (T : Txt K w mg) : FnOk P w K mg base CX0 1 (He.fAd K ("_law_read", none)) (fdAt K (He.fAd K ("_law_read", none))) ["item", "state"] (spRead K) := by
  refine T.F_law_read.ok scR (fun vs H Q E h => ?_) (fun cdv A outer s H vs Q E hr h => ?_)
  · obtain ⟨v, a, l, f, s, x, AA, rfl, _⟩ := h
    rfl
  · obtain ⟨v, a, l, f, s, x, ⟨ml, ol, st, bo, mn⟩, rfl, hd, ok, hf, hso, hh, hI, kk⟩ := h
    have hu := Nat.lt_of_le_of_lt (Nat.add_le_add_left (by decide : 1 ≤ 64) _) hr.units
    refine ⟨_, PSs.nox (pss_cons (ps_set (i := 2) scR.nd rfl (Or.inl rfl) (pe_ix (r := rIxT K) ix_tup (pv 0) pe_int (fun _ _ => rfl)))
      (pss_cons (ps_if (pt_cmpR op_eq (pv 2) pe_str (nomark _)) (pss_one (ps_ret (pe_ix (r := rIxT K) ix_tup (pv 0) pe_int (fun _ _ => rfl)))) pss_nil)
      (pss_cons (ps_if (pt_cmpR op_eq (pv 2) pe_str (nomark _)) (pss_one (ps_ret (pe_ix (r := rIxL K) ix_list (pe_dget hu (pv 1) pe_str (fun _ _ => rfl)) (pe_ix (r := rIxT K) ix_tup (pv 0) pe_int (fun _ _ => rfl)) (fun _ _ => rfl)))) pss_nil)
      (pss_cons (ps_if (pt_cmpR op_eq (pv 2) pe_str (nomark _)) (pss_one (ps_ret (pe_ix (r := rIxL K) ix_list (pe_dget hu (pv 1) pe_str (fun _ _ => rfl)) (pe_ix (r := rIxT K) ix_tup (pv 0) pe_int (fun _ _ => rfl)) (fun _ _ => rfl)))) pss_nil)
      (pss_cons (ps_if (pt_cmpR op_eq (pv 2) pe_str (nomark _)) (pss_one (ps_ret (pe_ix (r := rIxT K) ix_tup (pe_dget hu (pv 1) pe_str (fun _ _ => rfl)) pe_int (fun _ _ => rfl)))) pss_nil)
      (pss_cons (ps_if (pt_cmpR op_eq (pv 2) pe_str (nomark _)) (pss_one (ps_ret (pe_ix (r := rIxT K) ix_tup (pe_dget hu (pv 1) pe_str (fun _ _ => rfl)) pe_int (fun _ _ => rfl)))) pss_nil)
      (pss_cons (ps_if (PW.pt (pw_or (pt_cmpR op_eq (pv 2) pe_str (nomark _)) (pw_or1 (pt_cmpR op_eq (pv 2) pe_str (nomark _))))) (pss_one (ps_ret (pe_dget hu (pv 1) (pv 2) (fun _ _ => rfl)))) pss_nil)
      (pss_cons (ps_if (pt_cmpR op_eq (pv 2) pe_str (nomark _)) (pss_one (ps_ret (pe_callTy call_int1 (by rfl) T.n_int PyProof.Rows.Boot.«int» (pa_cons (pe_cmpR op_ne (pe_ix (r := rIxT K) ix_tup (pe_dget hu (pv 1) pe_str (fun _ _ => rfl)) pe_int (fun _ _ => rfl)) (pe_un un_neg pe_int) (nomark _)) pa_nil)))) pss_nil)
      (pss_cons (ps_if (pt_cmpR op_eq (pv 2) pe_str (nomark _)) (pss_one (ps_ret (pe_op op_mod (pe_callTy call_int1 (by rfl) T.n_int PyProof.Rows.Boot.«int» (pa_cons (pe_op op_fdivW (pe_dget hu (pv 1) pe_str (fun _ _ => rfl)) (pe_ix (r := rIxL K) ix_list (pe_lst (pa_cons pe_int (pa_cons pe_int (pa_cons pe_int (pa_cons pe_int (pa_cons pe_int (pa_cons pe_int pa_nil))))))) (pe_ix (r := rIxT K) ix_tup (pv 0) pe_int (fun _ _ => rfl)) (fun _ _ => rfl))) pa_nil)) pe_int))) pss_nil)
      (pss_cons (ps_if (PW.pt (pw_or (pt_cmpR op_eq (pv 2) pe_str (nomark _)) (pw_or1 (pt_cmpR op_eq (pv 2) pe_str (nomark _))))) (pss_one (ps_ret (pe_callTy call_int1 (by rfl) T.n_int PyProof.Rows.Boot.«int» (pa_cons (pe_cmpR op_eq (pe_dget hu (pv 1) (pv 2) (fun _ _ => rfl)) (pe_ix (r := rIxT K) ix_tup (pv 0) pe_int (fun _ _ => rfl)) (nomark _)) pa_nil)))) pss_nil)
      (pss_cons (ps_if (pt_cmpR op_eq (pv 2) pe_str (nomark _)) (pss_cons (ps_dput hu (pv 1) pe_str (pe_op op_mod (pe_callTy call_int1 (by rfl) T.n_int PyProof.Rows.Boot.«int» (pa_cons (pe_op op_add (pe_op op_mulW pe_int (pe_dget hu (pv 1) pe_str (fun _ _ => rfl))) pe_int) pa_nil)) pe_int) rfl)
      (pss_cons (ps_dput hu (pv 1) pe_str pe_bl rfl)
      (pss_one (ps_ret (pe_op op_mod (pe_callTy call_int1 (by rfl) T.n_int PyProof.Rows.Boot.«int» (pa_cons (pe_dget hu (pv 1) pe_str (fun _ _ => rfl)) pa_nil)) (pe_ix (r := rIxT K) ix_tup (pv 0) pe_int (fun _ _ => rfl))))))) pss_nil)
      (pss_cons (ps_setLc (i := 3) (own := [("one", 4)]) (g := gName 4) (by rfl) scR.nd rfl rfl (sw_true rfl rfl rfl (by decide +kernel)) (pi_tup (pe_dget hu (pv 1) pe_str (fun _ _ => rfl))) (blkOk_by (own := [("one", 4)]) (N := ["item", "state", "name", "found", "one"]) (sc := defScope s_law_read) (by decide +kernel)) (fun _ _ _ _ _ => pg_name (i := 4) scR.nd rfl (Or.inl rfl)) (fun _ _ _ _ _ => pts_one (pt_cmpR op_eq (pe_ix (r := rIxT K) ix_tup (pv 4) pe_int (fun _ _ => rfl)) (pe_ix (r := rIxT K) ix_tup (pv 0) pe_int (fun _ _ => rfl)) (nomark _))) (fun _ _ _ _ _ => (pe_ix (r := rIxT K) ix_tup (pv 4) pe_int (fun _ _ => rfl))))
      (pss_cons (ps_if (pt_cmpR op_eq (pv 2) pe_str (nomark _)) (pss_one (ps_ret (pe_callB (r := Evl.rLenS K) call_len_seq (by rfl) T.n_len PyProof.Rows.Boot.«len» (pa_cons (pv 3) pa_nil)))) pss_nil)
      (pss_cons (ps_if (pt_cmpR (r := rNeNil K true) (op_eqNil hr.units) (pv 3) (pe_lst pa_nil) (nomark _)) (pss_one (ps_ret pe_int)) pss_nil)
      (pss_one (ps_ret (pe_ix (r := rIxT K) ix_tup (pe_ix (r := rIxL K) ix_list (pv 3) pe_int (fun _ _ => rfl)) (pe_ix (r := rIxT K) ix_tup (pv 0) pe_int (fun _ _ => rfl)) (fun _ _ => rfl)))))))))))))))))), ?_⟩
    have hI0 := hI
    obtain ⟨g0, th, mt, ha, hth, hg, hmt, hml, hol, hrest⟩ := hI
    have g : ∀ (n : Str) (z : V), valV (stK mn th (.ref ml) mt (.ref ol) (.ref st) (.ref bo) f.press (ov s.s) f.here f.below f.dx f.dy s.dr x.gone) (.inr n) = some z → DGet H a (.str n) (some z) := fun n z h => by
      rw [← h]
      exact DGet.k (k := .inr n) ha
    obtain ⟨ca, xs, rfl, sq, all⟩ := dp_tup hd
    rw [Lf.ds_eq] at all
    have h0 := dpa_str0 all
    cases all with
    | cons hz all =>
    cases hz
    refine ⟨_, rfl, ca, _, _, _, rfl, rfl, sq, atI_nat (j := 0) rfl, ?_⟩
    cases l with
    | number n =>
      dsimp only [Lf.nm, Lf.args] at sq all ⊢
      cases all with
      | cons x1 r1 =>
      cases x1
      refine ⟨_, rfl, rfl, _, rfl, ite2 (fun _ => ?_) (fun z => absurd (by decide) z)⟩
      exact ⟨_, rfl, ca, _, _, _, rfl, rfl, sq, atI_nat (j := 1) rfl, kk H hI0 (Frm.refl _ _)⟩
    | own i =>
      dsimp only [Lf.nm, Lf.args] at sq all ⊢
      cases all with
      | cons x1 r1 =>
      cases x1
      iterate 1 refine ⟨_, rfl, rfl, _, rfl, ite2 (fun z => absurd z (by decide)) (fun _ => ?_)⟩
      refine ⟨_, rfl, rfl, _, rfl, ite2 (fun _ => ?_) (fun z => absurd (by decide) z)⟩
      obtain ⟨j, rfl⟩ : ∃ j : Nat, i = (j : Int) := ⟨i.toNat, by have := ok.1; omega⟩
      have hj : j < f.own.length := by have := ok.2; rw [hf.own.1]; omega
      refine ⟨_, rfl, a, .ref ol, rfl, g "own" (.ref ol) rfl, _, rfl, ca, _, _, _, rfl, rfl, sq, atI_nat (j := 1) rfl, ol, _, _, .int f.own[j], rfl, rfl, SqL.of hol, atI_nat (by rw [List.getElem?_map, List.getElem?_eq_getElem hj]; rfl), ?_⟩
      have e : (Lf.ev f (.own (j : Int)) s).1 = f.own[j] := by
        show f.own.getD ((j : Int)).toNat 0 = _
        rw [List.getD_eq_getElem?_getD, Int.toNat_natCast, List.getElem?_eq_getElem hj]
        rfl
      have q := kk H hI0 (Frm.refl _ _)
      rw [e] at q
      exact q
    | mark i =>
      dsimp only [Lf.nm, Lf.args] at sq all ⊢
      cases all with
      | cons x1 r1 =>
      cases x1
      iterate 2 refine ⟨_, rfl, rfl, _, rfl, ite2 (fun z => absurd z (by decide)) (fun _ => ?_)⟩
      refine ⟨_, rfl, rfl, _, rfl, ite2 (fun _ => ?_) (fun z => absurd (by decide) z)⟩
      obtain ⟨n, hn⟩ := hh
      obtain ⟨j, rfl⟩ : ∃ j : Nat, i = (j : Int) := ⟨i.toNat, by have := ok.1; omega⟩
      rw [Int.toNat_natCast] at hn
      refine ⟨_, rfl, a, .ref ml, rfl, g "marks" (.ref ml) rfl, _, rfl, ca, _, _, _, rfl, rfl, sq, atI_nat (j := 1) rfl, ml, _, _, .int n, rfl, rfl, SqL.of hml, atI_nat (by rw [List.getElem?_map, hn]; rfl), ?_⟩
      have e : (Lf.ev f (.mark (j : Int)) s).1 = n := by
        show (match f.marks[((j : Int)).toNat]? with | some (some n) => n | _ => 0) = n
        rw [Int.toNat_natCast, hn]
      have q := kk H hI0 (Frm.refl _ _)
      rw [e] at q
      exact q
    | word w =>
      dsimp only [Lf.nm, Lf.args] at sq all ⊢
      have hw := ok
      simp only [Lf.ok, words, List.mem_cons, List.not_mem_nil, or_false] at hw
      obtain ⟨tr, txs, rfl, tsq, tall⟩ := dp_tup hth
      have e := dpa_thing tall
      obtain ⟨oo, rfl⟩ := e
      rcases hw with rfl | rfl | rfl | rfl | rfl
      · iterate 3 refine ⟨_, rfl, rfl, _, rfl, ite2 (fun z => absurd z (by decide)) (fun _ => ?_)⟩
        refine ⟨_, rfl, rfl, _, rfl, ite2 (fun _ => ?_) (fun z => absurd (by decide) z)⟩
        exact ⟨_, rfl, a, .ref tr, rfl, g "thing" _ rfl, tr, _, _, _, rfl, rfl, tsq, atI_nat (j := 2) rfl, by rw [hg.1]; exact kk H hI0 (Frm.refl _ _)⟩
      · iterate 4 refine ⟨_, rfl, rfl, _, rfl, ite2 (fun z => absurd z (by decide)) (fun _ => ?_)⟩
        refine ⟨_, rfl, rfl, _, rfl, ite2 (fun _ => ?_) (fun z => absurd (by decide) z)⟩
        exact ⟨_, rfl, a, .ref tr, rfl, g "thing" _ rfl, tr, _, _, _, rfl, rfl, tsq, atI_nat (j := 3) rfl, by rw [hg.2.1]; exact kk H hI0 (Frm.refl _ _)⟩
      · iterate 5 refine ⟨_, rfl, rfl, _, rfl, ite2 (fun z => absurd z (by decide)) (fun _ => ?_)⟩
        refine ⟨_, rfl, rfl, _, rfl, ite2 (fun _ => iteT ?_) (fun z => absurd (by decide) z)⟩
        exact ⟨_, rfl, _, rfl, a, .int f.dx, rfl, g "dx" _ rfl, kk H hI0 (Frm.refl _ _)⟩
      · iterate 6 refine ⟨_, rfl, rfl, _, rfl, ite2 (fun z => absurd z (by decide)) (fun _ => ?_)⟩
        refine ⟨_, rfl, rfl, _, rfl, ite2 (fun _ => ?_) (fun z => absurd (by decide) z)⟩
        exact ⟨_, rfl, _, rfl, a, .int f.dy, rfl, g "dy" _ rfl, kk H hI0 (Frm.refl _ _)⟩
      · iterate 7 refine ⟨_, rfl, rfl, _, rfl, ite2 (fun z => absurd z (by decide)) (fun _ => ?_)⟩
        refine ⟨_, rfl, rfl, _, rfl, ite2 (fun _ => ?_) (fun z => absurd (by decide) z)⟩
        refine ⟨_, rfl, a, .ref tr, rfl, g "thing" _ rfl, tr, _, _, _, rfl, rfl, tsq, atI_nat (j := 6) rfl, _, rfl, rfl, .inr ⟨_, rfl, ?_⟩⟩
        have q := kk H hI0 (Frm.refl _ _)
        have e : (Lf.ev f (.word "rests") s).1 = if (!decide (V.int g0.rest = V.int (-2))) = true then 1 else 0 := by
          rw [hg.2.2, dec_int]
          show (if f.rest = -2 then (0 : Int) else 1) = _
          by_cases h : f.rest = -2 <;> simp [h]
        rw [e] at q
        exact q
    | held b =>
      dsimp only [Lf.nm, Lf.args] at sq all ⊢
      cases all with
      | cons x1 r1 =>
      cases x1
      iterate 8 refine ⟨_, rfl, rfl, _, rfl, ite2 (fun z => absurd z (by decide)) (fun _ => ?_)⟩
      refine ⟨_, rfl, rfl, _, rfl, ite2 (fun _ => ?_) (fun z => absurd (by decide) z)⟩
      obtain ⟨j, rfl⟩ : ∃ j : Nat, b = (j : Int) := ⟨b.toNat, by have := ok.1; omega⟩
      have hj : j < 6 := by have := ok.2; omega
      refine ⟨_, rfl, a, .int f.press, rfl, g "press" _ rfl, (show 6 ≤ sizeLine by decide), fun q nq => ?_⟩
      have sq2 := (same_tf (new_same (o := .lst [.int 1, .int 2, .int 4, .int 8, .int 16, .int 32]) nq)).sq sq
      have hw : ([.int 1, .int 2, .int 4, .int 8, .int 16, .int 32] : List V)[j]? = some (.int (2 ^ j)) ∧ (0 : Int) < 2 ^ j ∧ ((2 : Int) ^ j).natAbs < 2 ^ 10 := by
        match j, hj with
        | 0, _ => exact ⟨rfl, by decide, by decide⟩
        | 1, _ => exact ⟨rfl, by decide, by decide⟩
        | 2, _ => exact ⟨rfl, by decide, by decide⟩
        | 3, _ => exact ⟨rfl, by decide, by decide⟩
        | 4, _ => exact ⟨rfl, by decide, by decide⟩
        | 5, _ => exact ⟨rfl, by decide, by decide⟩
      exact ⟨_, rfl, ca, _, _, _, rfl, rfl, sq2, atI_nat (j := 1) rfl, q, _, _, .int (2 ^ j), rfl, rfl, SqL.of upd_same, atI_nat hw.1, _, _, rfl, rfl, wide_div hw.2.1 hw.2.2 (by decide) (by decide), .inl ⟨_, rfl, _, _, rfl, rfl, (show (0 : Int) < 2 by decide), kk _ (SInv.same hI0 (new_same nq)) (Frm.of_new nq)⟩⟩
    | met k =>
      dsimp only [Lf.nm, Lf.args] at sq all ⊢
      cases all with
      | cons x1 r1 =>
      cases x1
      cases r1
      iterate 12 refine ⟨_, rfl, rfl, _, rfl, ite2 (fun z => absurd z (by decide)) (fun _ => ?_)⟩
      obtain ⟨mr, mxs, rfl, msq, mall⟩ := dp_tup hmt
      refine ⟨_, rfl, a, .ref mr, rfl, g "met" _ rfl, mr, rfl, ⟨_, msq⟩, fun D hD => ?_⟩
      have hxl : mxs.length = f.met.length := by rw [dpa_len mall, List.length_map]
      refine lc_tup (xs := mxs) (fun i H' => ∃ acc, H' D = some (.lst acc) ∧ DpAll K H' acc (((f.met.take i).filter fun m => decide (m.kind = k)).map fun m => intTs m.own) ∧ Same H H') ⟨[], upd_same, .nil, new_same hD⟩ (fun i H' _ h => (same_tf h.choose_spec.2.2).sq msq) (fun i y H1 hy hPv => ?_) (fun H1 hPv => ?_)
      · obtain ⟨acc, hacc, hda, sm⟩ := hPv
        have hi : i < f.met.length := by
          have := (List.getElem?_eq_some_iff.mp hy).1
          omega
        obtain ⟨v, hv, dv⟩ := dpa_get mall (show (f.met.map Mt.py)[i]? = some f.met[i].py by rw [List.getElem?_map, List.getElem?_eq_getElem hi]; rfl)
        rw [hy] at hv
        cases hv
        obtain ⟨yr, ys, rfl, ysq, yall⟩ := dp_tup dv
        cases yall with
        | cons q1 yall =>
        cases yall with
        | cons q2 yall =>
        cases yall with
        | cons q3 yall =>
        cases yall with
        | @cons ow _ _ _ q4 yall =>
        cases yall
        cases q1
        cases q2
        cases q3
        have ysq1 := (same_tf sm).sq ysq
        have sq1 := (same_tf sm).sq sq
        refine ⟨rfl, ?_⟩
        refine ⟨_, rfl, yr, _, _, _, rfl, rfl, ysq1, atI_nat (j := 1) rfl, _, rfl, ca, _, _, _, rfl, rfl, sq1, atI_nat (j := 1) rfl, rfl, _, rfl, ?_⟩
        have ht : (f.met.take (i + 1)).filter (fun m => decide (m.kind = k)) = (f.met.take i).filter (fun m => decide (m.kind = k)) ++ (if decide (f.met[i].kind = k) = true then [f.met[i]] else []) := by
          rw [List.take_add_one, List.getElem?_eq_getElem hi, List.filter_append]
          simp [List.filter_cons]
        rw [dec_int]
        have hal : acc.length ≤ i := by
          rw [dpa_len hda, List.length_map]
          exact Nat.le_trans (List.length_filter_le _ _) (by rw [List.length_take]; omega)
        refine ite2 (fun z => ?_) (fun z => ?_)
        · have tf : TF H1 (upd H1 D (.lst (acc ++ [ow]))) := TF.of_lst hacc
          refine ⟨_, rfl, yr, _, _, _, rfl, rfl, ysq1, atI_nat (j := 3) rfl, acc, hacc, ?_, _, upd_same, ?_, fun b o z => ?_⟩
          · have := hf.met.1
            exact Nat.lt_of_lt_of_le (show acc.length < 1000 by omega) (by decide)
          · rw [ht, if_pos z, List.map_append]
            exact dpa_snoc (dpa_nl tf _ _ (nl_owns _) hda) (dp_nl ((same_tf sm).trans tf) _ _ (show NL (intTs f.met[i].own) from nl_ints _) q4)
          · rw [upd_ne (ne_of_none z hD)]
            exact sm _ _ z
        · refine ⟨acc, hacc, ?_, sm⟩
          rw [ht, if_neg z, List.append_nil]
          exact hda
      obtain ⟨acc, hacc, hda, sm⟩ := hPv
      rw [List.take_of_length_le (by omega)] at hda
      refine ⟨_, rfl, rfl, _, rfl, ite2 (fun _ => ?_) (fun z => absurd (by decide) z)⟩
      refine ⟨_, rfl, D, acc, rfl, .inl (SqL.of hacc), ?_⟩
      have q := kk H1 (SInv.same hI0 sm) (Frm.of_same sm)
      rw [dpa_len hda, List.length_map]
      exact q
    | metOwn k i =>
      dsimp only [Lf.nm, Lf.args] at sq all ⊢
      cases all with
      | cons x1 r1 =>
      cases r1 with
      | cons x2 r2 =>
      cases x1
      cases x2
      cases r2
      iterate 12 refine ⟨_, rfl, rfl, _, rfl, ite2 (fun z => absurd z (by decide)) (fun _ => ?_)⟩
      obtain ⟨mr, mxs, rfl, msq, mall⟩ := dp_tup hmt
      refine ⟨_, rfl, a, .ref mr, rfl, g "met" _ rfl, mr, rfl, ⟨_, msq⟩, fun D hD => ?_⟩
      have hxl : mxs.length = f.met.length := by rw [dpa_len mall, List.length_map]
      refine lc_tup (xs := mxs) (fun i H' => ∃ acc, H' D = some (.lst acc) ∧ DpAll K H' acc (((f.met.take i).filter fun m => decide (m.kind = k)).map fun m => intTs m.own) ∧ Same H H') ⟨[], upd_same, .nil, new_same hD⟩ (fun i H' _ h => (same_tf h.choose_spec.2.2).sq msq) (fun i y H1 hy hPv => ?_) (fun H1 hPv => ?_)
      · obtain ⟨acc, hacc, hda, sm⟩ := hPv
        have hi : i < f.met.length := by
          have := (List.getElem?_eq_some_iff.mp hy).1
          omega
        obtain ⟨v, hv, dv⟩ := dpa_get mall (show (f.met.map Mt.py)[i]? = some f.met[i].py by rw [List.getElem?_map, List.getElem?_eq_getElem hi]; rfl)
        rw [hy] at hv
        cases hv
        obtain ⟨yr, ys, rfl, ysq, yall⟩ := dp_tup dv
        cases yall with
        | cons q1 yall =>
        cases yall with
        | cons q2 yall =>
        cases yall with
        | cons q3 yall =>
        cases yall with
        | @cons ow _ _ _ q4 yall =>
        cases yall
        cases q1
        cases q2
        cases q3
        have ysq1 := (same_tf sm).sq ysq
        have sq1 := (same_tf sm).sq sq
        refine ⟨rfl, ?_⟩
        refine ⟨_, rfl, yr, _, _, _, rfl, rfl, ysq1, atI_nat (j := 1) rfl, _, rfl, ca, _, _, _, rfl, rfl, sq1, atI_nat (j := 1) rfl, rfl, _, rfl, ?_⟩
        have ht : (f.met.take (i + 1)).filter (fun m => decide (m.kind = k)) = (f.met.take i).filter (fun m => decide (m.kind = k)) ++ (if decide (f.met[i].kind = k) = true then [f.met[i]] else []) := by
          rw [List.take_add_one, List.getElem?_eq_getElem hi, List.filter_append]
          simp [List.filter_cons]
        rw [dec_int]
        have hal : acc.length ≤ i := by
          rw [dpa_len hda, List.length_map]
          exact Nat.le_trans (List.length_filter_le _ _) (by rw [List.length_take]; omega)
        refine ite2 (fun z => ?_) (fun z => ?_)
        · have tf : TF H1 (upd H1 D (.lst (acc ++ [ow]))) := TF.of_lst hacc
          refine ⟨_, rfl, yr, _, _, _, rfl, rfl, ysq1, atI_nat (j := 3) rfl, acc, hacc, ?_, _, upd_same, ?_, fun b o z => ?_⟩
          · have := hf.met.1
            exact Nat.lt_of_lt_of_le (show acc.length < 1000 by omega) (by decide)
          · rw [ht, if_pos z, List.map_append]
            exact dpa_snoc (dpa_nl tf _ _ (nl_owns _) hda) (dp_nl ((same_tf sm).trans tf) _ _ (show NL (intTs f.met[i].own) from nl_ints _) q4)
          · rw [upd_ne (ne_of_none z hD)]
            exact sm _ _ z
        · refine ⟨acc, hacc, ?_, sm⟩
          rw [ht, if_neg z, List.append_nil]
          exact hda
      obtain ⟨acc, hacc, hda, sm⟩ := hPv
      rw [List.take_of_length_le (by omega)] at hda
      refine ⟨_, rfl, rfl, _, rfl, ite2 (fun z => absurd z (by decide)) (fun _ => ?_)⟩
      refine ⟨_, rfl, (show 0 ≤ sizeLine by decide), fun q nq => ?_⟩
      have sqq := new_same (o := .lst []) nq
      have s2 := sm.trans sqq
      refine ⟨_, .lst (SqL.of (sqq _ _ hacc)) (dpa_nl (same_tf sqq) _ _ (nl_owns _) hda), .lst (SqL.of upd_same) .nil, lay_owns _, _, rfl, ite2 (fun z => ?_) (fun z => ?_)⟩
      · have e : (Lf.ev f (.metOwn k i) s).1 = 0 := by
          show (match (f.met.filter fun m => decide (m.kind = k)) with | [] => (0 : Int) | m :: _ => m.own.getD i.toNat 0) = 0
          cases h : f.met.filter fun m => decide (m.kind = k) with
          | nil => rfl
          | cons x y =>
            rw [h] at z
            exact absurd z (by simp)
        have q := kk _ (SInv.same hI0 s2) (Frm.of_same s2)
        rw [e] at q
        exact q
      · cases h : f.met.filter fun m => decide (m.kind = k) with
        | nil =>
          rw [h] at z
          exact absurd rfl z
        | cons x y =>
          rw [h] at hda
          cases hda with
          | @cons v0 vs0 _ _ hd0 hds =>
          obtain ⟨orr, oxs, rfl, osq, oall⟩ := dp_tup (show Dp K H1 v0 (.tuple (x.own.map PyData.int)) from hd0)
          cases dpa_intsV oall
          have hx : x ∈ f.met := (List.mem_filter.mp (by rw [h]; simp)).1
          obtain ⟨j, rfl⟩ : ∃ j : Nat, i = (j : Int) := ⟨i.toNat, by have := ok.2.2.1; omega⟩
          have hj : j < x.own.length := by have := ok.2.2.2; rw [(hf.met.2 x hx).1]; omega
          refine ⟨_, rfl, D, _, _, .ref orr, rfl, rfl, SqL.of (sqq _ _ hacc), atI_nat (j := 0) rfl, _, rfl, ca, _, _, _, rfl, rfl, (same_tf s2).sq sq, atI_nat (j := 2) rfl, orr, _, _, .int x.own[j], rfl, rfl, (same_tf sqq).sq osq, atI_nat (by rw [List.getElem?_map, List.getElem?_eq_getElem hj]; rfl), ?_⟩
          have e : (Lf.ev f (.metOwn k (j : Int)) s).1 = x.own[j] := by
            show (match (f.met.filter fun m => decide (m.kind = k)) with | [] => (0 : Int) | m :: _ => m.own.getD ((j : Int)).toNat 0) = _
            rw [h]
            show x.own.getD ((j : Int)).toNat 0 = _
            rw [List.getD_eq_getElem?_getD, Int.toNat_natCast, List.getElem?_eq_getElem hj]
            rfl
          have q := kk _ (SInv.same hI0 s2) (Frm.of_same s2)
          rw [e] at q
          exact q
    | here c =>
      dsimp only [Lf.nm, Lf.args] at sq all ⊢
      cases all with
      | cons x1 r1 =>
      cases x1
      iterate 9 refine ⟨_, rfl, rfl, _, rfl, ite2 (fun z => absurd z (by decide)) (fun _ => ?_)⟩
      refine ⟨_, rfl, rfl, _, rfl, ite2 (fun _ => iteT ?_) (fun z => absurd (by decide) z)⟩
      refine ⟨_, rfl, _, rfl, a, .str f.here, rfl, g "here" _ rfl, _, rfl, ca, _, _, _, rfl, rfl, sq, atI_nat (j := 1) rfl, rfl, .inr ⟨_, rfl, ?_⟩⟩
      have q := kk H hI0 (Frm.refl _ _)
      rw [dec_str]
      exact q
    | under c =>
      dsimp only [Lf.nm, Lf.args] at sq all ⊢
      cases all with
      | cons x1 r1 =>
      cases x1
      iterate 10 refine ⟨_, rfl, rfl, _, rfl, ite2 (fun z => absurd z (by decide)) (fun _ => ?_)⟩
      refine ⟨_, rfl, rfl, _, rfl, ite2 (fun _ => ?_) (fun z => absurd (by decide) z)⟩
      refine ⟨_, rfl, _, rfl, a, .str f.below, rfl, g "under" _ rfl, _, rfl, ca, _, _, _, rfl, rfl, sq, atI_nat (j := 1) rfl, rfl, .inr ⟨_, rfl, ?_⟩⟩
      have q := kk H hI0 (Frm.refl _ _)
      rw [dec_str]
      exact q
    | drawn n =>
      dsimp only [Lf.nm, Lf.args] at sq all ⊢
      cases all with
      | cons x1 r1 =>
      cases x1
      iterate 11 refine ⟨_, rfl, rfl, _, rfl, ite2 (fun z => absurd z (by decide)) (fun _ => ?_)⟩
      refine ⟨_, rfl, rfl, _, rfl, ite2 (fun _ => ?_) (fun z => absurd (by decide) z)⟩
      obtain ⟨sS, sdr⟩ := s
      obtain ⟨v, hv0⟩ := hh
      dsimp only at hv0
      subst hv0
      have hv := hso v rfl
      have hm : CMulW 75 v := lmul ⟨by decide, by decide⟩ ⟨by omega, by omega⟩
      have h1 : (stK mn th (.ref ml) mt (.ref ol) (.ref st) (.ref bo) f.press (ov (some v)) f.here f.below f.dx f.dy sdr x.gone).length < sizeLine := by show 15 < sizeLine; decide
      refine ⟨_, rfl, a, .int v, rfl, g "seed" _ rfl, _, _, rfl, rfl, hm, _, _, rfl, rfl, .inl ⟨_, rfl, _, _, rfl, rfl, (show (0 : Int) < 65537 by decide), _, rfl, a, _, rfl, DPut.k (k := .inr "seed") ha h1, ?_⟩⟩
      obtain ⟨v', hv'⟩ : ∃ v', v' = (75 * v + 74) % 65537 := ⟨_, rfl⟩
      have ep : putK (stK mn th (.ref ml) mt (.ref ol) (.ref st) (.ref bo) f.press (ov (some v)) f.here f.below f.dx f.dy sdr x.gone) (.inr "seed") (.int ((75 * v + 74) % 65537)) = stK mn th (.ref ml) mt (.ref ol) (.ref st) (.ref bo) f.press (ov (some v')) f.here f.below f.dx f.dy sdr x.gone := by
        rw [← hv']
        rfl
      dsimp only
      rw [ep]
      refine ⟨_, rfl, a, _, rfl, DPut.k (k := .inr "drew") upd_same (show 15 < sizeLine by decide), ?_⟩
      have ep2 : putK (stK mn th (.ref ml) mt (.ref ol) (.ref st) (.ref bo) f.press (ov (some v')) f.here f.below f.dx f.dy sdr x.gone) (.inr "drew") (.bl true) = stK mn th (.ref ml) mt (.ref ol) (.ref st) (.ref bo) f.press (ov (some v')) f.here f.below f.dx f.dy true x.gone := rfl
      rw [ep2]
      obtain ⟨H', hH'⟩ : ∃ H', H' = upd (upd H a (.dK (stK mn th (.ref ml) mt (.ref ol) (.ref st) (.ref bo) f.press (ov (some v')) f.here f.below f.dx f.dy sdr x.gone))) a (.dK (stK mn th (.ref ml) mt (.ref ol) (.ref st) (.ref bo) f.press (ov (some v')) f.here f.below f.dx f.dy true x.gone)) := ⟨_, rfl⟩
      have fr : Frm a H H' := by
        rw [hH']
        exact Frm.of_upd.trans Frm.of_upd
      have ha' : H' a = some (.dK (stK mn th (.ref ml) mt (.ref ol) (.ref st) (.ref bo) f.press (ov (some v')) f.here f.below f.dx f.dy true x.gone)) := by
        rw [hH']
        exact upd_same
      rw [← hH']
      have tf := Frm.tfd fr ha
      have mla : ml ≠ a := fun e => by rw [e, ha] at hml; cases hml
      have ola : ol ≠ a := fun e => by rw [e, ha] at hol; cases hol
      have hn : 0 < n := by have := ok.1; omega
      refine ⟨_, rfl, a, .int v', rfl, DGet.k (k := .inr "seed") ha', .inl ⟨_, rfl, _, rfl, ca, _, _, _, rfl, rfl, tf.sq sq, atI_nat (j := 1) rfl, _, _, rfl, rfl, hn, ?_⟩⟩
      rw [hv']
      refine kk H' ⟨g0, th, mt, ?_, dp_nl tf _ _ g0.nl.1 hth, hg, dp_nl tf _ _ (show NL (.tuple (f.met.map Mt.py)) from nl_mets _) hmt, fr _ _ mla hml, fr _ _ ola hol, hrest.frm fr ha⟩ fr
      rw [hv'] at ha'
      exact ha'
end
end K5
set_option maxRecDepth 100000
set_option maxHeartbeats 2000000
/-! The law's number. -/
namespace K5
open PySem PySem.Spec PyProof.Rows L2 KF
def Ex.cnt (f : Fx) : Ex → Sd → Nat
  | .leaf _, _ => 1
  | .neg a, s => a.cnt f s + 1
  | .two _ a b, s => a.cnt f s + b.cnt f (a.ev f s).2 + 1
  | .pick a b c, s => a.cnt f s + (if (a.ev f s).1 ≠ 0 then b.cnt f (a.ev f s).2 + 2 else c.cnt f (a.ev f s).2 + 1)
def cntE (f : Fx) : List Ex → Sd → Nat
  | [], _ => 0
  | e :: es, s => e.cnt f s + cntE f es (e.ev f s).2
def Ex.has (f : Fx) (s : Sd) (e : Ex) : Prop := ∀ l ∈ e.leaves, l.has f s
theorem Lf.ev_some (l : Lf) (f : Fx) {s : Sd} {v : Int} (h : s.s = some v) : ∃ v', (l.ev f s).2.s = some v' := by
  obtain ⟨s, d⟩ := s
  dsimp only at h
  subst h
  cases l <;> exact ⟨_, rfl⟩
theorem Ex.ev_some (f : Fx) : ∀ (e : Ex) {s : Sd} {v : Int}, s.s = some v → ∃ v', (e.ev f s).2.s = some v'
  | .leaf l, s, v, h => l.ev_some f h
  | .neg a, s, v, h => Ex.ev_some f a h
  | .two k a b, s, v, h => by
    obtain ⟨v1, h1⟩ := Ex.ev_some f a h
    exact Ex.ev_some f b h1
  | .pick a b c, s, v, h => by
    obtain ⟨v1, h1⟩ := Ex.ev_some f a h
    show ∃ v', (if (a.ev f s).1 ≠ 0 then b.ev f (a.ev f s).2 else c.ev f (a.ev f s).2).2.s = some v'
    split
    · exact Ex.ev_some f b h1
    · exact Ex.ev_some f c h1
theorem Lf.ev_sok (l : Lf) (f : Fx) {s : Sd} (h : sok s) : sok (l.ev f s).2 := by
  cases l with
  | drawn n =>
    obtain ⟨s, d⟩ := s
    cases s with
    | none => exact fun v e => nomatch e
    | some v =>
      intro w e
      injection e with e
      rw [← e]
      omega
  | _ => exact h
theorem Ex.ev_sok (f : Fx) : ∀ (e : Ex) {s : Sd}, sok s → sok (e.ev f s).2
  | .leaf l, _, h => l.ev_sok f h
  | .neg a, _, h => Ex.ev_sok f a h
  | .two k a b, _, h => Ex.ev_sok f b (Ex.ev_sok f a h)
  | .pick a b c, s, h => by
    show sok (if (a.ev f s).1 ≠ 0 then b.ev f (a.ev f s).2 else c.ev f (a.ev f s).2).2
    split
    · exact Ex.ev_sok f b (Ex.ev_sok f a h)
    · exact Ex.ev_sok f c (Ex.ev_sok f a h)
theorem Lf.has_on {f : Fx} {s : Sd} (l : Lf) (h : l.has f s) (e : Ex) : l.has f (e.ev f s).2 := by
  cases l with
  | drawn n =>
    obtain ⟨v, hv⟩ := h
    exact e.ev_some f hv
  | _ => exact h
theorem Ex.dep_pos : ∀ e : Ex, 1 ≤ e.dep
  | .leaf _ => Nat.le_refl _
  | .neg _ => Nat.le_add_left _ _
  | .two _ _ _ => Nat.le_add_left _ _
  | .pick _ _ _ => Nat.le_add_left _ _
theorem words_pn : ∀ s ∈ words, decide (V.str s = V.str "pick") = false ∧ decide (V.str s = V.str "not") = false := by decide
theorem twos_pn : ∀ s ∈ twos, decide (V.str s = V.str "pick") = false ∧ decide (V.str s = V.str "not") = false ∧ decide (V.str s = V.str "met own") = false := by decide
theorem Lf.pn (l : Lf) (ok : l.ok) : decide (V.str l.nm = V.str "pick") = false ∧ decide (V.str l.nm = V.str "not") = false := by
  cases l with
  | word w => exact words_pn w ok
  | _ => exact ⟨by rfl, by rfl⟩
theorem Lf.len (l : Lf) : l.args.length ≠ 2 ∨ l.nm = "met own" := by
  cases l with
  | metOwn _ _ => exact .inr rfl
  | _ => exact .inl (by simp [Lf.args])
theorem nf {b : Bool} (h : b = false) : ¬ b = true := by rw [h]; decide
def Ad.add (A : Ad) (n : Nat) : Ad := { A with mn := A.mn + (n : Int) }
theorem Ad.add_add (A : Ad) (m n : Nat) : (A.add m).add n = A.add (m + n) := by
  show Ad.mk _ _ _ _ _ = Ad.mk _ _ _ _ _
  congr 1
  show A.mn + (m : Int) + (n : Int) = A.mn + ((m + n : Nat) : Int)
  rw [Int.natCast_add, Int.add_assoc]
theorem SInv.inc {K : PySem.W.Frag} {H : Hp} {a : Addr} {f : Fx} {s : Sd} {x : Bx} {A : Ad} (h : SInv K H a f s x A) : ∃ kvs, H a = some (.dK kvs) ∧ DGet H a (.str "many") (some (.int A.mn)) ∧ DPut H a (.str "many") (.int (A.mn + 1)) (upd H a (.dK (putK kvs (.inr "many") (.int (A.mn + 1))))) ∧ SInv K (upd H a (.dK (putK kvs (.inr "many") (.int (A.mn + 1))))) a f s x (A.add 1) := by
  obtain ⟨ml, ol, st, bo, mn⟩ := A
  obtain ⟨g, th, mt, ha, hth, hg, hmt, hml, hol, hr⟩ := h
  have fr := Frm.of_upd (H := H) (d := a) (o := .dK (putK (stK mn th (.ref ml) mt (.ref ol) (.ref st) (.ref bo) f.press (ov s.s) f.here f.below f.dx f.dy s.dr x.gone) (.inr "many") (.int (mn + 1))))
  have tf := Frm.tfd fr ha
  have hv : valV (stK mn th (.ref ml) mt (.ref ol) (.ref st) (.ref bo) f.press (ov s.s) f.here f.below f.dx f.dy s.dr x.gone) (.inr "many") = some (.int mn) := rfl
  have mla : ml ≠ a := fun e => by rw [e, ha] at hml; cases hml
  have ola : ol ≠ a := fun e => by rw [e, ha] at hol; cases hol
  refine ⟨_, ha, by rw [← hv]; exact DGet.k (k := .inr "many") ha, DPut.k (k := .inr "many") ha (show 15 < sizeLine by decide), g, th, mt, ?_, dp_nl tf _ _ g.nl.1 hth, hg, dp_nl tf _ _ (show NL (.tuple (f.met.map Mt.py)) from nl_mets _) hmt, fr _ _ mla hml, fr _ _ ola hol, hr.frm fr ha⟩
  rw [upd_same]
  rfl
section
variable {P : Program} {w : World} {K : PySem.W.Frag} {mg : Str → Option Value} {base : Heap}
def spNum (K : PySem.W.Frag) : Nat → Sp
  | 0 => fun _ _ _ _ => False
  | n + 1 => fun vs H Q _ => ∃ (v : V) (a : Addr) (e : Ex) (f : Fx) (s : Sd) (x : Bx) (AA : Ad), vs = [v, .ref a] ∧ Dp K H v e.py ∧ e.ok ∧ e.dep ≤ n + 1 ∧ f.ok ∧ sok s ∧ e.has f s ∧ SInv K H a f s x AA ∧
    ∀ H', SInv K H' a f (e.ev f s).2 x (AA.add (e.cnt f s)) → Frm a H H' → Q (.int (e.ev f s).1) H'
theorem scNu : FnScope ["item", "state", "a"] ["item", "state"] (defScope s_law_number) := ⟨rfl, rfl, rfl, by decide +kernel, rfl, by decide +kernel, by decide +kernel⟩
theorem ok_law_number (T : Txt K w mg) : ∀ n : Nat, FnOk P w K mg base CX0 (n + 2) (He.fAd K ("_law_number", none)) (fdAt K (He.fAd K ("_law_number", none))) ["item", "state"] (spNum K n)
  | 0 => ⟨fun _ _ _ _ z => z.elim, fun _ _ _ _ _ _ _ _ _ _ _ _ _ z => z.elim⟩
  | n + 1 => by
    have G := ok_law_number T n
    refine T.F_law_number.ok scNu (fun vs H Q E h => ?_) (fun cdv A outer s H vs Q E hr h => ?_)
    · obtain ⟨v, a, e, f, s, bx, AA, rfl, _⟩ := h
      rfl
    · obtain ⟨v, a, e, f, s, bx, AA, rfl, hd, ok, hdep, hf, hso, hh, hI, kk⟩ := h
      have hu := Nat.lt_of_le_of_lt (Nat.add_le_add_left (by decide : 1 ≤ 64) _) hr.units
      refine ⟨_, PSs.nox (pss_cons (ps_dput hu (pv 1) pe_str (pe_op op_add (pe_dget hu (pv 1) pe_str (fun _ _ => rfl)) pe_int) rfl)
      (pss_cons (ps_if (pt_cmpR op_eq (pe_ix (r := rIxT K) ix_tup (pv 0) pe_int (fun _ _ => rfl)) pe_str (nomark _)) (pss_cons (ps_if (pt_cmpR op_ne (pe_call G (hr.mono (by omega)) (by rfl) T.g_law_number (T.F_law_number).kp T.b_law_number .nil pass0 (pa_cons (pe_ix (r := rIxT K) ix_tup (pv 0) pe_int (fun _ _ => rfl)) (pa_cons (pv 1) pa_nil))) pe_int (nomark _)) (pss_cons (ps_dput hu (pv 1) pe_str (pe_op op_add (pe_dget hu (pv 1) pe_str (fun _ _ => rfl)) pe_int) rfl)
      (pss_one (ps_ret (pe_call G (hr.mono (by omega)) (by rfl) T.g_law_number (T.F_law_number).kp T.b_law_number .nil pass0 (pa_cons (pe_ix (r := rIxT K) ix_tup (pv 0) pe_int (fun _ _ => rfl)) (pa_cons (pv 1) pa_nil)))))) pss_nil)
      (pss_one (ps_ret (pe_call G (hr.mono (by omega)) (by rfl) T.g_law_number (T.F_law_number).kp T.b_law_number .nil pass0 (pa_cons (pe_ix (r := rIxT K) ix_tup (pv 0) pe_int (fun _ _ => rfl)) (pa_cons (pv 1) pa_nil)))))) pss_nil)
      (pss_cons (ps_if (pt_cmpR op_eq (pe_ix (r := rIxT K) ix_tup (pv 0) pe_int (fun _ _ => rfl)) pe_str (nomark _)) (pss_one (ps_ret (pe_callTy call_int1 (by rfl) T.n_int PyProof.Rows.Boot.«int» (pa_cons (pe_cmpR op_eq (pe_call G (hr.mono (by omega)) (by rfl) T.g_law_number (T.F_law_number).kp T.b_law_number .nil pass0 (pa_cons (pe_ix (r := rIxT K) ix_tup (pv 0) pe_int (fun _ _ => rfl)) (pa_cons (pv 1) pa_nil))) pe_int (nomark _)) pa_nil)))) pss_nil)
      (pss_cons (ps_if (PW.pt (pw_and (pt_cmpR op_eq (pe_callB (r := Evl.rLenS K) call_len_seq (by rfl) T.n_len PyProof.Rows.Boot.«len» (pa_cons (pv 0) pa_nil)) pe_int (nomark _)) (pw_and1 (pt_cmpR op_ne (pe_ix (r := rIxT K) ix_tup (pv 0) pe_int (fun _ _ => rfl)) pe_str (nomark _))))) (pss_cons (ps_set (i := 2) scNu.nd rfl (Or.inl rfl) (pe_call G (hr.mono (by omega)) (by rfl) T.g_law_number (T.F_law_number).kp T.b_law_number .nil pass0 (pa_cons (pe_ix (r := rIxT K) ix_tup (pv 0) pe_int (fun _ _ => rfl)) (pa_cons (pv 1) pa_nil))))
      (pss_one (ps_ret (pe_call (ok_law_made T) (hr.mono (by omega)) (by rfl) T.g_law_made (T.F_law_made).kp T.b_law_made .nil pass0 (pa_cons (pe_ix (r := rIxT K) ix_tup (pv 0) pe_int (fun _ _ => rfl)) (pa_cons (pv 2) (pa_cons (pe_call G (hr.mono (by omega)) (by rfl) T.g_law_number (T.F_law_number).kp T.b_law_number .nil pass0 (pa_cons (pe_ix (r := rIxT K) ix_tup (pv 0) pe_int (fun _ _ => rfl)) (pa_cons (pv 1) pa_nil))) pa_nil))))))) pss_nil)
      (pss_one (ps_ret (pe_call (ok_law_read T) (hr.mono (by omega)) (by rfl) T.g_law_read (T.F_law_read).kp T.b_law_read .nil pass0 (pa_cons (pv 0) (pa_cons (pv 1) pa_nil))))))))), ?_⟩
      obtain ⟨kvs0, hk0, dg0, dp0, hI0⟩ := hI.inc
      have fr0 := Frm.of_upd (H := H) (d := a) (o := .dK (putK kvs0 (.inr "many") (.int (AA.mn + 1))))
      have tf0 := Frm.tfd fr0 hk0
      refine ⟨_, rfl, a, .int AA.mn, rfl, dg0, _, _, rfl, rfl, _, rfl, a, _, rfl, dp0, ?_⟩
      have hd := dp_nl tf0 _ _ e.nl hd
      have kk : ∀ H', SInv K H' a f (e.ev f s).2 bx (AA.add (e.cnt f s)) → Frm a (upd H a (.dK (putK kvs0 (.inr "many") (.int (AA.mn + 1))))) H' → Q (.int (e.ev f s).1) H' := fun H' I fr => kk H' I (fr0.trans fr)
      obtain ⟨Hn, hHn⟩ : ∃ X, X = upd H a (.dK (putK kvs0 (.inr "many") (.int (AA.mn + 1)))) := ⟨_, rfl⟩
      rw [← hHn] at hd kk hI0 ⊢
      clear hI hk0 dg0 dp0 fr0 tf0 hHn
      have hI := hI0
      have hd0 := hd
      rw [Ex.py_eq] at hd
      obtain ⟨ca, xs, rfl, sq, all⟩ := dp_tup hd
      cases all with
      | @cons v0 vs0 _ _ hz all =>
      cases hz
      have call : ∀ {H1 : Hp} {x : V} {e1 : Ex} {s1 : Sd} {A1 : Ad} {Q1 : VK} {E1 : XK}, Dp K H1 x e1.py → e1.ok → e1.dep ≤ n → sok s1 → e1.has f s1 → SInv K H1 a f s1 bx A1 → (∀ H', SInv K H' a f (e1.ev f s1).2 bx (A1.add (e1.cnt f s1)) → Frm a H1 H' → Q1 (.int (e1.ev f s1).1) H') → spNum K n [x, .ref a] H1 Q1 E1 := fun {H1 x e1 s1 A1 Q1 E1} d o dp so ha si kq => by
        obtain ⟨n, rfl⟩ : ∃ q, n = q + 1 := ⟨n - 1, by have := e1.dep_pos; omega⟩
        exact ⟨x, a, e1, f, s1, bx, A1, rfl, d, o, dp, hf, so, ha, si, kq⟩
      refine ⟨_, rfl, ca, _, _, _, rfl, rfl, sq, atI_nat (j := 0) rfl, rfl, _, rfl, ?_⟩
      cases e with
      | leaf l =>
        obtain ⟨p1, p2⟩ := l.pn ok
        refine ite2 (fun z => absurd z (nf p1)) (fun _ => ?_)
        refine ⟨_, rfl, ca, _, _, _, rfl, rfl, sq, atI_nat (j := 0) rfl, rfl, _, rfl, ite2 (fun z => absurd z (nf p2)) (fun _ => ?_)⟩
        have hln : vs0.length = l.args.length := dpa_len all
        have hd1 : Dp K Hn (.ref ca) (.tuple l.ds) := by
          rw [Ex.py] at hd0
          exact hd0
        have hl : l.has f s := hh l (List.mem_singleton.mpr rfl)
        refine ⟨_, rfl, ca, _, rfl, .inr sq, rfl, _, rfl, ite2 (fun z => ?_) (fun z => ?_)⟩
        · have e3 := int_of z
          have e4 : l.nm = "met own" := by
            rcases l.len with h | h
            · rw [List.length_cons] at e3
              omega
            · exact h
          refine ⟨_, rfl, ca, _, _, _, rfl, rfl, sq, atI_nat (j := 0) rfl, rfl, _, rfl, ite2 (fun z => absurd z (by rw [show (Ex.leaf l).nm = "met own" from e4]; decide)) (fun _ => ?_)⟩
          exact ⟨_, rfl, _, rfl, _, a, l, f, s, bx, AA.add 1, rfl, hd1, ok, hf, hso, hl, hI, fun H' I fr => kk H' I fr⟩
        · exact iteF ⟨_, rfl, _, rfl, _, a, l, f, s, bx, AA.add 1, rfl, hd1, ok, hf, hso, hl, hI, fun H' I fr => kk H' I fr⟩
      | neg b =>
        cases all with
        | @cons v1 vs1 _ _ h1 all =>
        cases all
        refine ite2 (fun z => absurd z (by show ¬ decide (V.str "not" = V.str "pick") = true; decide)) (fun _ => ?_)
        refine ⟨_, rfl, ca, _, _, _, rfl, rfl, sq, atI_nat (j := 0) rfl, rfl, _, rfl, ite2 (fun _ => ?_) (fun z => absurd (by show decide (V.str "not" = V.str "not") = true; decide) z)⟩
        refine ⟨_, rfl, ca, _, _, _, rfl, rfl, sq, atI_nat (j := 1) rfl, _, rfl, call h1 ok (by have : b.dep + 1 ≤ n + 1 := hdep; omega) hso hh hI (fun H' I fr => ?_)⟩
        refine ⟨rfl, .inr ⟨_, rfl, ?_⟩⟩
        rw [dec_int]
        rw [Ad.add_add, Nat.add_comm] at I
        exact kk H' I fr
      | two k b c =>
        cases all with
        | @cons v1 vs1 _ _ h1 all =>
        cases all with
        | @cons v2 vs2 _ _ h2 all =>
        cases all
        obtain ⟨p1, p2, p3⟩ := twos_pn k ok.1
        have hd12 : Nat.max b.dep c.dep + 1 ≤ n + 1 := hdep
        have hb := Nat.le_max_left b.dep c.dep
        have hc := Nat.le_max_right b.dep c.dep
        have hbh : b.has f s := fun l hl => hh l (List.mem_append_left _ hl)
        have hch : c.has f (b.ev f s).2 := fun l hl => l.has_on (hh l (List.mem_append_right _ hl)) b
        refine ite2 (fun z => absurd z (nf p1)) (fun _ => ?_)
        refine ⟨_, rfl, ca, _, _, _, rfl, rfl, sq, atI_nat (j := 0) rfl, rfl, _, rfl, ite2 (fun z => absurd z (nf p2)) (fun _ => ?_)⟩
        refine ⟨_, rfl, ca, _, rfl, .inr sq, rfl, _, rfl, ite2 (fun _ => ?_) (fun z => absurd (by rw [dec_int]; exact decide_eq_true rfl) z)⟩
        refine ⟨_, rfl, ca, _, _, _, rfl, rfl, sq, atI_nat (j := 0) rfl, rfl, _, rfl, ite2 (fun _ => ?_) (fun z => absurd (by rw [show decide (V.str (Ex.two k b c).nm = V.str "met own") = false from p3]; rfl) z)⟩
        refine ⟨_, rfl, ca, _, _, _, rfl, rfl, sq, atI_nat (j := 1) rfl, _, rfl, call h1 ok.2.1 (Nat.le_trans hb (Nat.le_of_succ_le_succ hd12)) hso hbh hI (fun H1 I1 fr1 => ?_)⟩
        obtain ⟨g0, th, mt, ha, _⟩ := hI
        have tf := Frm.tfd fr1 ha
        have sq1 := tf.sq sq
        refine ⟨_, rfl, ca, _, _, _, rfl, rfl, sq1, atI_nat (j := 0) rfl, _, rfl, _, rfl, ca, _, _, _, rfl, rfl, sq1, atI_nat (j := 2) rfl, _, rfl, call (dp_nl tf _ _ c.nl h2) ok.2.2 (Nat.le_trans hc (Nat.le_of_succ_le_succ hd12)) (b.ev_sok f hso) hch I1 (fun H2 I2 fr2 => ?_)⟩
        rw [Ad.add_add, Ad.add_add, show 1 + (b.cnt f s + c.cnt f (b.ev f s).2) = b.cnt f s + c.cnt f (b.ev f s).2 + 1 by omega] at I2
        exact ⟨k, _, _, rfl, ok.1, b.ev_lim f hf ok.2.1 s, c.ev_lim f hf ok.2.2 _, kk H2 I2 (fr1.trans fr2)⟩
      | pick b c d =>
        cases all with
        | @cons v1 vs1 _ _ h1 all =>
        cases all with
        | @cons v2 vs2 _ _ h2 all =>
        cases all with
        | @cons v3 vs3 _ _ h3 all =>
        cases all
        have hd12 : Nat.max b.dep (Nat.max c.dep d.dep) + 1 ≤ n + 1 := hdep
        have hd12 := Nat.le_of_succ_le_succ hd12
        have hb := Nat.le_trans (Nat.le_max_left b.dep (Nat.max c.dep d.dep)) hd12
        have hcd := Nat.le_trans (Nat.le_max_right b.dep (Nat.max c.dep d.dep)) hd12
        have hc := Nat.le_trans (Nat.le_max_left c.dep d.dep) hcd
        have hdd := Nat.le_trans (Nat.le_max_right c.dep d.dep) hcd
        have hbh : b.has f s := fun l hl => hh l (List.mem_append_left _ hl)
        have hch : c.has f (b.ev f s).2 := fun l hl => l.has_on (hh l (List.mem_append_right _ (List.mem_append_left _ hl))) b
        have hdh : d.has f (b.ev f s).2 := fun l hl => l.has_on (hh l (List.mem_append_right _ (List.mem_append_right _ hl))) b
        refine ite2 (fun _ => ?_) (fun z => absurd (by show decide (V.str "pick" = V.str "pick") = true; decide) z)
        refine ⟨_, rfl, ca, _, _, _, rfl, rfl, sq, atI_nat (j := 1) rfl, _, rfl, call h1 ok.1 hb hso hbh hI (fun H1 I1 fr1 => ?_)⟩
        obtain ⟨g0, th, mt, ha, _⟩ := hI
        have tf := Frm.tfd fr1 ha
        have sq1 := tf.sq sq
        refine ⟨rfl, _, rfl, ite2 (fun z => ?_) (fun z => ?_)⟩
        · have e1 : (Ex.pick b c d).ev f s = c.ev f (b.ev f s).2 := by
            show (if (b.ev f s).1 ≠ 0 then c.ev f (b.ev f s).2 else d.ev f (b.ev f s).2) = _
            rw [dec_int] at z
            rw [if_pos (by simpa using z)]
          have e2 : (Ex.pick b c d).cnt f s = b.cnt f s + (c.cnt f (b.ev f s).2 + 2) := by
            rw [dec_int] at z
            rw [Ex.cnt, if_pos (by simpa using z)]
          rw [e1, e2] at kk
          obtain ⟨kvs1, hk1, dg1, dp1, hI2⟩ := I1.inc
          have fr3 := Frm.of_upd (H := H1) (d := a) (o := .dK (putK kvs1 (.inr "many") (.int (((AA.add 1).add (b.cnt f s)).mn + 1))))
          have tf3 := tf.trans (Frm.tfd fr3 hk1)
          refine ⟨_, rfl, a, .int ((AA.add 1).add (b.cnt f s)).mn, rfl, dg1, _, _, rfl, rfl, _, rfl, a, _, rfl, dp1, ?_⟩
          refine ⟨_, rfl, ca, _, _, _, rfl, rfl, tf3.sq sq, atI_nat (j := 2) rfl, _, rfl, call (dp_nl tf3 _ _ c.nl h2) ok.2.1 hc (b.ev_sok f hso) hch hI2 (fun H2 I2 fr2 => kk H2 ?_ ((fr1.trans fr3).trans fr2))⟩
          rw [Ad.add_add, Ad.add_add, Ad.add_add, show 1 + (b.cnt f s + (1 + c.cnt f (b.ev f s).2)) = b.cnt f s + (c.cnt f (b.ev f s).2 + 2) by omega] at I2
          exact I2
        · have e1 : (Ex.pick b c d).ev f s = d.ev f (b.ev f s).2 := by
            show (if (b.ev f s).1 ≠ 0 then c.ev f (b.ev f s).2 else d.ev f (b.ev f s).2) = _
            rw [dec_int] at z
            rw [if_neg (by simpa using z)]
          have e2 : (Ex.pick b c d).cnt f s = b.cnt f s + (d.cnt f (b.ev f s).2 + 1) := by
            rw [dec_int] at z
            rw [Ex.cnt, if_neg (by simpa using z)]
          rw [e1, e2] at kk
          refine ⟨_, rfl, ca, _, _, _, rfl, rfl, sq1, atI_nat (j := 3) rfl, _, rfl, call (dp_nl tf _ _ d.nl h3) ok.2.2 hdd (b.ev_sok f hso) hdh I1 (fun H2 I2 fr2 => kk H2 ?_ (fr1.trans fr2))⟩
          rw [Ad.add_add, Ad.add_add, show 1 + (b.cnt f s + d.cnt f (b.ev f s).2) = b.cnt f s + (d.cnt f (b.ev f s).2 + 1) by omega] at I2
          exact I2
end
end K5
set_option maxRecDepth 100000
set_option maxHeartbeats 2000000
/-! What a script does. -/
namespace K5
open PySem PySem.Spec PyProof.Rows L2 KF
structure Ru where
  f : Fx
  s : Sd
  x : Bx
/-- what a deed does with its numbers -/
def De.put : De → List Int → Ru → Ru
  | .own i _, n :: _, r => ⟨{ r.f with own := r.f.own.set i.toNat (kp (-999) 999 n) }, r.s, r.x⟩
  | .mark i _, n :: _, r => ⟨{ r.f with marks := r.f.marks.set i.toNat (some (kp (-999) 999 n)) }, r.s, { r.x with set := r.x.set.set i.toNat (some (kp (-999) 999 n)) }⟩
  | .go _ _, n :: m :: _, r => ⟨{ r.f with dx := kp (-7) 7 n, dy := kp (-7) 7 m }, r.s, r.x⟩
  | .born k _ _ _ _, a :: b :: c :: d :: _, r => ⟨r.f, r.s, { r.x with born := (r.x.born ++ [[k, kp (-64) 64 a, kp (-64) 64 b, kp (-7) 7 c, kp (-7) 7 d]]).take 2 }⟩
  | .gone, _, r => ⟨r.f, r.s, { r.x with gone := true }⟩
  | _, _, r => r
/-- its expressions -/
def De.exs : De → List Ex
  | .own _ a => [a]
  | .mark _ a => [a]
  | .go a b => [a, b]
  | .born _ a b c d => [a, b, c, d]
  | .gone => []
  | .when a _ _ => [a]
/-- the numbers of expressions, one behind the other -/
def evs (f : Fx) : List Ex → Sd → List Int × Sd
  | [], s => ([], s)
  | e :: es, s => ((e.ev f s).1 :: (evs f es (e.ev f s).2).1, (evs f es (e.ev f s).2).2)
def De.does (d : De) (r : Ru) : Ru := d.put (evs r.f d.exs r.s).1 ⟨r.f, (evs r.f d.exs r.s).2, r.x⟩
mutual
def De.run : De → Ru → Ru
  | .own i a, r => (De.own i a).does r
  | .mark i a, r => (De.mark i a).does r
  | .go a b, r => (De.go a b).does r
  | .born k a b c d, r => (De.born k a b c d).does r
  | .gone, r => De.gone.does r
  | .when a ds es, r => if (a.ev r.f r.s).1 ≠ 0 then runs ds ⟨r.f, (a.ev r.f r.s).2, r.x⟩ else runs es ⟨r.f, (a.ev r.f r.s).2, r.x⟩
def runs : List De → Ru → Ru
  | [], r => r
  | d :: ds, r => runs ds (d.run r)
end
structure Ru.ok (r : Ru) : Prop where
  f : r.f.ok
  s : sok r.s
  x : r.x.ok
/-- what is there stays there -/
def Ru.up (r r' : Ru) : Prop := ∀ l : Lf, l.has r.f r.s → l.has r'.f r'.s
theorem Ru.up.refl (r : Ru) : r.up r := fun _ h => h
theorem Ru.up.trans {a b c : Ru} (h : a.up b) (g : b.up c) : a.up c := fun l z => g l (h l z)
theorem kp_lim {lo hi n : Int} (h : lo ≤ hi) : lo ≤ kp lo hi n ∧ kp lo hi n ≤ hi := by
  unfold kp
  split <;> split <;> omega
theorem evs_sok (f : Fx) : ∀ (es : List Ex) {s : Sd}, sok s → sok (evs f es s).2
  | [], _, h => h
  | e :: es, _, h => evs_sok f es (e.ev_sok f h)
theorem evs_lim (f : Fx) (hf : f.ok) : ∀ (es : List Ex) (s : Sd), (∀ e ∈ es, e.ok) → ∀ n ∈ (evs f es s).1, lim n
  | [], _, _, n, h => by cases h
  | e :: es, s, ok, n, h => by
    rw [evs] at h
    rcases List.mem_cons.mp h with h | h
    · rw [h]
      exact e.ev_lim f hf (ok e (by simp)) s
    · exact evs_lim f hf es _ (fun x hx => ok x (by simp [hx])) n h
theorem evs_len (f : Fx) : ∀ (es : List Ex) (s : Sd), (evs f es s).1.length = es.length
  | [], _ => rfl
  | e :: es, s => by simp [evs, evs_len f es]
theorem Lf.has_evs {f : Fx} (l : Lf) : ∀ (es : List Ex) {s : Sd}, l.has f s → l.has f (evs f es s).2
  | [], _, h => h
  | e :: es, s, h => Lf.has_evs l es (l.has_on h e)
theorem set_mem {α : Type} {l : List α} {i : Nat} {a x : α} (h : x ∈ l.set i a) : x ∈ l ∨ x = a := List.mem_or_eq_of_mem_set h
theorem De.put_ok (d : De) (ns : List Int) (r : Ru) (h : r.ok) : (d.put ns r).ok := by
  obtain ⟨hf, hs, hx⟩ := h
  have K9 : ∀ n : Int, -999 ≤ kp (-999) 999 n ∧ kp (-999) 999 n ≤ 999 := fun n => kp_lim (by decide)
  have K7 : ∀ n : Int, -7 ≤ kp (-7) 7 n ∧ kp (-7) 7 n ≤ 7 := fun n => kp_lim (by decide)
  have same : r.ok := ⟨hf, hs, hx⟩
  cases d with
  | own i a =>
    match ns with
    | [] => exact same
    | n :: ns =>
      refine ⟨⟨⟨by show (r.f.own.set _ _).length = 4; rw [List.length_set]; exact hf.own.1, fun m hm => ?_⟩, hf.x, hf.y, hf.dx, hf.dy, hf.press, hf.marks, hf.seed, hf.met⟩, hs, hx⟩
      rcases set_mem hm with h | h
      · exact hf.own.2 m h
      · rw [h]
        exact K9 n
  | mark i a =>
    match ns with
    | [] => exact same
    | n :: ns =>
      refine ⟨⟨hf.own, hf.x, hf.y, hf.dx, hf.dy, hf.press, ⟨by show (r.f.marks.set _ _).length = 16; rw [List.length_set]; exact hf.marks.1, fun m hm => ?_⟩, hf.seed, hf.met⟩, hs, ⟨by show (r.x.set.set _ _).length = 16; rw [List.length_set]; exact hx.set, hx.born, hx.bl⟩⟩
      rcases set_mem hm with h | h
      · exact hf.marks.2 m h
      · injection h with h
        rw [h]
        exact K9 n
  | go a b =>
    match ns with
    | [] => exact same
    | [n] => exact same
    | n :: m :: ns => exact ⟨⟨hf.own, hf.x, hf.y, K7 n, K7 m, hf.press, hf.marks, hf.seed, hf.met⟩, hs, hx⟩
  | born k a b c d =>
    match ns with
    | [] => exact same
    | [_] => exact same
    | [_, _] => exact same
    | [_, _, _] => exact same
    | a :: b :: c :: d :: ns => exact ⟨hf, hs, ⟨hx.set, by show (List.take 2 _).length ≤ 2; rw [List.length_take]; omega, fun b hb => by
      rcases List.mem_append.mp (List.mem_of_mem_take hb) with h | h
      · exact hx.bl b h
      · rw [List.mem_singleton.mp h]
        rfl⟩⟩
  | gone => exact ⟨hf, hs, ⟨hx.set, hx.born, hx.bl⟩⟩
  | when a ds es => exact same
theorem De.put_up (d : De) (ns : List Int) (r : Ru) : r.up (d.put ns r) := by
  intro l h
  cases d with
  | own i a =>
    match ns with
    | [] => exact h
    | n :: ns => cases l <;> exact h
  | mark i a =>
    match ns with
    | [] => exact h
    | n :: ns =>
      cases l with
      | mark j =>
        obtain ⟨m, hm⟩ := h
        show ∃ q, (r.f.marks.set i.toNat (some (kp (-999) 999 n)))[j.toNat]? = some (some q)
        by_cases e : i.toNat = j.toNat
        · rw [e, List.getElem?_set_self (List.getElem?_eq_some_iff.mp hm).1]
          exact ⟨_, rfl⟩
        · rw [List.getElem?_set_ne e]
          exact ⟨m, hm⟩
      | _ => exact h
  | go a b =>
    match ns with
    | [] => exact h
    | [n] => exact h
    | n :: m :: ns => cases l <;> exact h
  | born k a b c d =>
    match ns with
    | [] => exact h
    | [_] => exact h
    | [_, _] => exact h
    | [_, _, _] => exact h
    | a :: b :: c :: d :: ns => cases l <;> exact h
  | gone => cases l <;> exact h
  | when a ds es => exact h
theorem De.does_ok (d : De) (r : Ru) (h : r.ok) : (d.does r).ok := De.put_ok d _ _ ⟨h.f, evs_sok _ _ h.s, h.x⟩
theorem De.does_up (d : De) (r : Ru) : r.up (d.does r) := fun l h => De.put_up d _ ⟨r.f, (evs r.f d.exs r.s).2, r.x⟩ l (Lf.has_evs l _ h)
mutual
theorem De.run_ok : ∀ (d : De) (r : Ru), r.ok → (d.run r).ok
  | .own i a, r, h => De.does_ok _ r h
  | .mark i a, r, h => De.does_ok _ r h
  | .go a b, r, h => De.does_ok _ r h
  | .born k a b c d, r, h => De.does_ok _ r h
  | .gone, r, h => De.does_ok _ r h
  | .when a ds es, r, h => by
    rw [De.run]
    split
    · exact runs_ok ds _ ⟨h.f, a.ev_sok _ h.s, h.x⟩
    · exact runs_ok es _ ⟨h.f, a.ev_sok _ h.s, h.x⟩
theorem runs_ok : ∀ (ds : List De) (r : Ru), r.ok → (runs ds r).ok
  | [], _, h => by rw [runs]; exact h
  | d :: ds, r, h => by
    rw [runs]
    exact runs_ok ds _ (d.run_ok r h)
end
mutual
theorem De.run_up : ∀ (d : De) (r : Ru), r.up (d.run r)
  | .own i a, r => De.does_up _ r
  | .mark i a, r => De.does_up _ r
  | .go a b, r => De.does_up _ r
  | .born k a b c d, r => De.does_up _ r
  | .gone, r => De.does_up _ r
  | .when a ds es, r => by
    have h0 : r.up ⟨r.f, (a.ev r.f r.s).2, r.x⟩ := fun l h => l.has_on h a
    rw [De.run]
    split
    · exact h0.trans (runs_up ds _)
    · exact h0.trans (runs_up es _)
theorem runs_up : ∀ (ds : List De) (r : Ru), r.up (runs ds r)
  | [], r => by rw [runs]; exact .refl r
  | d :: ds, r => by
    rw [runs]
    exact (d.run_up r).trans (runs_up ds _)
end
def De.has (r : Ru) (d : De) : Prop := ∀ l ∈ d.leaves, l.has r.f r.s
def hasAll (r : Ru) (ds : List De) : Prop := ∀ l ∈ lvs ds, l.has r.f r.s
/-- not a "when" -/
def De.flat : De → Prop
  | .when _ _ _ => False
  | _ => True
theorem De.run_flat (d : De) (h : d.flat) (r : Ru) : d.run r = d.does r := by
  cases d with
  | when a ds es => exact h.elim
  | _ => rw [De.run]
theorem De.exs_leaves (d : De) (h : d.flat) : d.leaves = d.exs.flatMap Ex.leaves := by
  cases d with
  | when a ds es => exact h.elim
  | _ => simp [De.leaves, De.exs]
theorem De.exs_ok (d : De) (h : d.ok) : ∀ e ∈ d.exs, e.ok := by
  cases d <;> (simp only [De.ok] at h; simp [De.exs, h])
theorem De.exs_dep (d : De) : ∀ e ∈ d.exs, e.dep + 1 ≤ d.dep := by
  intro e he
  have : Nd.tree e ∈ (Nd.deed d).kids := by
    cases d <;> simp only [De.exs, List.mem_cons, List.not_mem_nil, or_false] at he <;> simp [Nd.kids, Nd.ch, Ch.kids, he]
  exact (Nd.deed d).kids_dep _ this
/-- a row with one place put otherwise, as slices make it -/
theorem set_cut {α : Type} (l : List α) (i : Nat) (a : α) (h : i < l.length) : l.take i ++ [a] ++ l.drop (i + 1) = l.set i a := by
  rw [List.set_eq_take_append_cons_drop, if_pos h, List.append_assoc]
  rfl
theorem rows_set {rows : List (Int × Int)} {set : List (Option Int)} {i : Nat} {n : Int} (h : RowsOk rows set) (hi : i < set.length) : RowsOk (rows.filter (fun p => !decide (p.1 = (i : Int))) ++ [((i : Int), n)]) (set.set i (some n)) := by
  refine ⟨?_, fun j m => ?_⟩
  · rw [List.map_append, List.nodup_append]
    refine ⟨?_, by simp, fun x hx y hy => ?_⟩
    · exact (List.filter_sublist.map _).nodup h.1
    · obtain ⟨p, hp, rfl⟩ := List.mem_map.mp hx
      have := (List.mem_filter.mp hp).2
      simp at hy
      subst hy
      simpa using this
  · rw [List.mem_append, List.mem_filter, List.mem_singleton, h.2]
    constructor
    · rintro (⟨⟨k, rfl, hk⟩, hne⟩ | e)
      · refine ⟨k, rfl, ?_⟩
        rw [List.getElem?_set_ne (by intro e; subst e; simp at hne)]
        exact hk
      · injection e with e1 e2
        subst e1
        subst e2
        exact ⟨i, rfl, List.getElem?_set_self hi⟩
    · rintro ⟨k, rfl, hk⟩
      by_cases e : i = k
      · subst e
        rw [List.getElem?_set_self hi] at hk
        injection hk with hk
        injection hk with hk
        exact .inr (by rw [hk])
      · rw [List.getElem?_set_ne e] at hk
        refine .inl ⟨⟨k, rfl, hk⟩, ?_⟩
        simp only [Bool.not_eq_true', decide_eq_false_iff_not]
        omega
def De.hd : De → List PyData
  | .own i _ => [.str "own", .int i]
  | .mark i _ => [.str "mark", .int i]
  | .go _ _ => [.str "go"]
  | .born k _ _ _ _ => [.str "born", .int k]
  | .gone => [.str "gone"]
  | .when _ _ _ => [.str "when"]
theorem De.py_flat (d : De) (h : d.flat) : d.py = .tuple (d.hd ++ d.exs.map Ex.py) := by
  cases d with
  | when a ds es => exact h.elim
  | _ => simp [De.py, De.hd, De.exs]
theorem De.hd_atom (d : De) : ∀ x ∈ d.hd, (∃ s, x = .str s) ∨ ∃ i, x = .int i := by
  intro x hx
  cases d <;> simp only [De.hd, List.mem_cons, List.not_mem_nil, or_false] at hx
  · rcases hx with rfl | rfl
    · exact .inl ⟨_, rfl⟩
    · exact .inr ⟨_, rfl⟩
  · rcases hx with rfl | rfl
    · exact .inl ⟨_, rfl⟩
    · exact .inr ⟨_, rfl⟩
  · exact .inl ⟨_, hx⟩
  · rcases hx with rfl | rfl
    · exact .inl ⟨_, rfl⟩
    · exact .inr ⟨_, rfl⟩
  · exact .inl ⟨_, hx⟩
  · exact .inl ⟨_, hx⟩
theorem De.hd_nm (d : De) (h : d.flat) : ∃ nm rest, d.hd = .str nm :: rest ∧ decide (V.str nm = V.str "when") = false := by
  cases d with
  | when a ds es => exact h.elim
  | _ => exact ⟨_, _, rfl, by rfl⟩
def De.hok : De → Prop
  | .own i _ => 0 ≤ i ∧ i ≤ 3
  | .mark i _ => 0 ≤ i ∧ i ≤ 15
  | .born k _ _ _ _ => 0 ≤ k ∧ k ≤ 7
  | _ => True
theorem De.hok_of (d : De) (h : d.ok) : d.hok := by
  cases d <;> simp only [De.ok] at h <;> simp [De.hok, h]
theorem De.exs_len (d : De) : d.exs.length ≤ 4 := by cases d <;> simp [De.exs]
theorem De.hd_len (d : De) : d.hd.length ≤ 2 := by cases d <;> simp [De.hd]
theorem De.cases (d : De) : d.flat ∨ ∃ a ds es, d = .when a ds es := by
  cases d with
  | when a ds es => exact .inr ⟨a, ds, es, rfl⟩
  | _ => exact .inl trivial
def De.cntF (d : De) (r : Ru) : Nat := cntE r.f d.exs r.s + 1
mutual
def De.cnt : De → Ru → Nat
  | .own i a, r => (De.own i a).cntF r
  | .mark i a, r => (De.mark i a).cntF r
  | .go a b, r => (De.go a b).cntF r
  | .born k a b c d, r => (De.born k a b c d).cntF r
  | .gone, r => De.gone.cntF r
  | .when a ds es, r => a.cnt r.f r.s + (if (a.ev r.f r.s).1 ≠ 0 then cntDs ds ⟨r.f, (a.ev r.f r.s).2, r.x⟩ + 2 else cntDs es ⟨r.f, (a.ev r.f r.s).2, r.x⟩ + 1)
def cntDs : List De → Ru → Nat
  | [], _ => 0
  | d :: ds, r => d.cnt r + cntDs ds (d.run r)
end
theorem De.cnt_flat (d : De) (h : d.flat) (r : Ru) : d.cnt r = d.cntF r := by
  cases d with
  | when a ds es => exact h.elim
  | _ => rw [De.cnt]
end K5
set_option maxRecDepth 100000
set_option maxHeartbeats 2000000
/-! The law's own walk. -/
namespace K5
open PySem PySem.Spec PyProof.Rows L2 KF
theorem cutT (xs : List V) (k : Nat) : cutV xs none (some (k : Int)) = xs.take k := by
  unfold cutV
  rw [HT.sIx_nat, HT.sIx_none, List.drop_zero, Nat.sub_zero]
  rcases Nat.le_total k xs.length with h | h
  · rw [Nat.min_eq_left h]
  · rw [Nat.min_eq_right h, List.take_length, List.take_of_length_le h]
theorem cutD (xs : List V) (k : Nat) : cutV xs (some (k : Int)) none = xs.drop k := by
  unfold cutV
  rw [HT.sIx_nat, HT.sIx_none]
  rcases Nat.le_total k xs.length with h | h
  · rw [Nat.min_eq_left h, List.take_of_length_le (by rw [List.length_drop]; omega)]
  · rw [Nat.min_eq_right h, List.drop_length, List.take_nil, List.drop_of_length_le h]
theorem PrL.upd {H : Hp} {D : Addr} {o : HO} {zs sv : List V} {rows : List (Int × Int)} (h : PrL H sv rows) (hD : H D = some (.lst zs)) : PrL (upd H D o) sv rows := h.frm Frm.of_upd hD (fun _ e => by cases e)
theorem PrL.snoc {H : Hp} {t : Addr} {p : Int × Int} {sv : List V} {rows : List (Int × Int)} (h : PrL H sv rows) (ht : H t = some (.tup [.int p.1, .int p.2])) : PrL H (sv ++ [.ref t]) (rows ++ [p]) := by
  refine ⟨by simp [h.1], fun i q hq => ?_⟩
  rcases Nat.lt_or_ge i rows.length with hi | hi
  · rw [List.getElem?_append_left hi] at hq
    obtain ⟨t', h1, h2⟩ := h.2 i q hq
    exact ⟨t', by rw [List.getElem?_append_left (by rw [h.1]; exact hi)]; exact h1, h2⟩
  · rw [List.getElem?_append_right hi] at hq
    have e : i - rows.length = 0 := by
      rcases Nat.eq_zero_or_pos (i - rows.length) with z | z
      · exact z
      · rw [List.getElem?_eq_none (by simp; omega)] at hq
        cases hq
    rw [e] at hq
    cases hq
    exact ⟨t, by rw [List.getElem?_append_right (by rw [h.1]; exact hi), h.1, e]; rfl, ht⟩
theorem nodup_len : ∀ (n : Nat) (l : List Int), l.Nodup → (∀ x ∈ l, 0 ≤ x ∧ x < (n : Int)) → l.length ≤ n
  | 0, l, _, h => by
    cases l with
    | nil => exact Nat.le_refl _
    | cons x l =>
      have := h x (by simp)
      omega
  | n + 1, l, hn, h => by
    by_cases hm : (n : Int) ∈ l
    · have h1 := nodup_len n (l.erase (n : Int)) (hn.erase _) (fun x hx => by
        obtain ⟨h2, h3⟩ := hn.mem_erase_iff.mp hx
        have := h x h3
        omega)
      rw [List.length_erase_of_mem hm] at h1
      omega
    · have h1 := nodup_len n l hn (fun x hx => by
        have := h x hx
        have : x ≠ (n : Int) := fun e => hm (by rw [← e]; exact hx)
        omega)
      omega
theorem rows_len {rows : List (Int × Int)} {set : List (Option Int)} (h : RowsOk rows set) (hs : set.length = 16) : rows.length ≤ 16 := by
  have := nodup_len 16 (rows.map (·.1)) h.1 (fun x hx => by
    obtain ⟨p, hp, rfl⟩ := List.mem_map.mp hx
    obtain ⟨k, hk, hk2⟩ := (h.2 p.1 p.2).mp hp
    have := (List.getElem?_eq_some_iff.mp hk2).1
    omega)
  rw [List.length_map] at this
  exact this
theorem dpa_take {K : PySem.W.Frag} {H : Hp} : ∀ {vs : List V} {ds : List PyData} (k : Nat), DpAll K H vs ds → DpAll K H (vs.take k) (ds.take k)
  | _, _, 0, _ => by rw [List.take_zero, List.take_zero]; exact .nil
  | [], _, k + 1, h => by
    cases h
    exact .nil
  | v :: vs, _, k + 1, h => by
    cases h with
    | cons a b => exact .cons a (dpa_take k b)
section
variable {P : Program} {w : World} {K : PySem.W.Frag} {mg : Str → Option Value} {base : Heap}
def spSet (K : PySem.W.Frag) : Sp := fun vs H Q _ => ∃ (v : V) (p a : Addr) (d : De) (ns : List Int) (r : Ru) (AA : Ad), vs = [v, .ref p, .ref a] ∧ Dp K H v d.py ∧ H p = some (.lst (ns.map V.int)) ∧ ns.length = d.exs.length ∧ d.ok ∧ d.flat ∧ d ≠ .gone ∧ r.ok ∧ SInv K H a r.f r.s r.x AA ∧
    ∀ H' AA', SInv K H' a (d.put ns r).f (d.put ns r).s (d.put ns r).x AA' → AA'.mn = AA.mn → Frm a H H' → Q .non H'
theorem scSe : FnScope ["deed", "numbers", "state", "birth", "number", "i", "row"] ["deed", "numbers", "state"] (defScope s_law_set) := ⟨rfl, rfl, rfl, by decide +kernel, rfl, by decide +kernel, by decide +kernel⟩
theorem ok_law_set (T : Txt K w mg) : FnOk P w K mg base CX0 2 (He.fAd K ("_law_set", none)) (fdAt K (He.fAd K ("_law_set", none))) ["deed", "numbers", "state"] (spSet K) := by
  refine T.F_law_set.ok scSe (fun vs H Q E h => ?_) (fun cdv A outer s H vs Q E hr h => ?_)
  · obtain ⟨v, p, a, d, ns, r, AA, rfl, _⟩ := h
    rfl
  · obtain ⟨v, p, a, d, ns, r, ⟨ml, ol, st, bo, mn⟩, rfl, hd, hp, hl, dok, dfl, dg, rok, hI, kk⟩ := h
    have hu := Nat.lt_of_le_of_lt (Nat.add_le_add_left (by decide : 1 ≤ 64) _) hr.units
    refine ⟨_, PSs.nox (pss_one (ps_if (pt_cmpR op_eq (pe_ix (r := rIxT K) ix_tup (pv 0) pe_int (fun _ _ => rfl)) pe_str (nomark _)) (pss_cons (ps_dput hu (pv 2) pe_str (pe_call (ok_law_kept T) (hr.mono (by decide)) (by rfl) T.g_law_kept (T.F_law_kept).kp T.b_law_kept .nil pass0 (pa_cons (pe_ix (r := rIxL K) ix_list (pv 1) pe_int (fun _ _ => rfl)) (pa_cons (pe_un un_neg pe_int) (pa_cons pe_int pa_nil)))) rfl)
      (pss_one (ps_dput hu (pv 2) pe_str (pe_call (ok_law_kept T) (hr.mono (by decide)) (by rfl) T.g_law_kept (T.F_law_kept).kp T.b_law_kept .nil pass0 (pa_cons (pe_ix (r := rIxL K) ix_list (pv 1) pe_int (fun _ _ => rfl)) (pa_cons (pe_un un_neg pe_int) (pa_cons pe_int pa_nil)))) rfl))) (pss_one (ps_if (pt_cmpR op_eq (pe_ix (r := rIxT K) ix_tup (pv 0) pe_int (fun _ _ => rfl)) pe_str (nomark _)) (pss_cons (ps_setLc (i := 3) (own := [("number", 4)]) (g := gName 4) (tt := tYes) (by rfl) scSe.nd rfl rfl (sw_true rfl rfl rfl (by decide +kernel)) (pi_list (pe_slice sl_list (pv 1) po_none (po_some pe_int))) (blkOk_by (own := [("number", 4)]) (N := ["deed", "numbers", "state", "birth", "number", "i", "row"]) (sc := defScope s_law_set) (by decide +kernel)) (fun _ _ _ _ _ => pg_name (i := 4) scSe.nd rfl (Or.inl rfl)) (fun _ _ _ _ _ => pts_nil) (fun _ _ _ _ _ => (pe_call (ok_law_kept T) (hr.mono (by decide)) (by rfl) T.g_law_kept (T.F_law_kept).kp T.b_law_kept .nil pass0 (pa_cons (pv 4) (pa_cons (pe_un un_neg pe_int) (pa_cons pe_int pa_nil))))))
      (pss_cons (ps_set (i := 3) scSe.nd rfl (Or.inl rfl) (pe_op op_cat (pv 3) (pe_lc (own := [("number", 4)]) (g := gName 4) (tt := tYes) (by rfl) scSe.nd (pi_list (pe_slice sl_list (pv 1) (po_some pe_int) po_none)) (blkOk_by (own := [("number", 4)]) (N := ["deed", "numbers", "state", "birth", "number", "i", "row"]) (sc := defScope s_law_set) (by decide +kernel)) (fun _ _ _ _ _ => pg_name (i := 4) scSe.nd rfl (Or.inl rfl)) (fun _ _ _ _ _ => pts_nil) (fun _ _ _ _ _ => (pe_call (ok_law_kept T) (hr.mono (by decide)) (by rfl) T.g_law_kept (T.F_law_kept).kp T.b_law_kept .nil pass0 (pa_cons (pv 4) (pa_cons (pe_un un_neg pe_int) (pa_cons pe_int pa_nil))))))))
      (pss_one (ps_dput hu (pv 2) pe_str (pe_slice sl_list (pe_op op_cat (pe_dget hu (pv 2) pe_str (fun _ _ => rfl)) (pe_lst (pa_cons (pe_callTy call_tuple_of (by rfl) T.n_tuple PyProof.Rows.Boot.«tuple» (pa_cons (pe_op op_cat (pe_lst (pa_cons (pe_ix (r := rIxT K) ix_tup (pv 0) pe_int (fun _ _ => rfl)) pa_nil)) (pv 3)) pa_nil)) pa_nil))) po_none (po_some pe_int)) rfl)))) (pss_cons (ps_set (i := 4) scSe.nd rfl (Or.inl rfl) (pe_call (ok_law_kept T) (hr.mono (by decide)) (by rfl) T.g_law_kept (T.F_law_kept).kp T.b_law_kept .nil pass0 (pa_cons (pe_ix (r := rIxL K) ix_list (pv 1) pe_int (fun _ _ => rfl)) (pa_cons (pe_un un_neg pe_int) (pa_cons pe_int pa_nil)))))
      (pss_cons (ps_set (i := 5) scSe.nd rfl (Or.inr rfl) (pe_ix (r := rIxT K) ix_tup (pv 0) pe_int (fun _ _ => rfl)))
      (pss_one (ps_if (pt_cmpR op_eq (pe_ix (r := rIxT K) ix_tup (pv 0) pe_int (fun _ _ => rfl)) pe_str (nomark _)) (pss_one (ps_dput hu (pv 2) pe_str (pe_op op_cat (pe_op op_cat (pe_slice sl_list (pe_dget hu (pv 2) pe_str (fun _ _ => rfl)) po_none (po_some (pv 5))) (pe_lst (pa_cons (pv 4) pa_nil))) (pe_slice sl_list (pe_dget hu (pv 2) pe_str (fun _ _ => rfl)) (po_some (pe_op op_add (pv 5) pe_int)) po_none)) rfl)) (pss_cons (ps_dput hu (pv 2) pe_str (pe_op op_cat (pe_op op_cat (pe_slice sl_list (pe_dget hu (pv 2) pe_str (fun _ _ => rfl)) po_none (po_some (pv 5))) (pe_lst (pa_cons (pv 4) pa_nil))) (pe_slice sl_list (pe_dget hu (pv 2) pe_str (fun _ _ => rfl)) (po_some (pe_op op_add (pv 5) pe_int)) po_none)) rfl)
      (pss_one (ps_dput hu (pv 2) pe_str (pe_op op_cat (pe_lc (own := [("row", 6)]) (g := gName 6) (by rfl) scSe.nd (pi_list (pe_dget hu (pv 2) pe_str (fun _ _ => rfl))) (blkOk_by (own := [("row", 6)]) (N := ["deed", "numbers", "state", "birth", "number", "i", "row"]) (sc := defScope s_law_set) (by decide +kernel)) (fun _ _ _ _ _ => pg_name (i := 6) scSe.nd rfl (Or.inl rfl)) (fun _ _ _ _ _ => pts_one (pt_cmpR op_ne (pe_ix (r := rIxT K) ix_tup (pv 6) pe_int (fun _ _ => rfl)) (pv 5) (nomark _))) (fun _ _ _ _ _ => (pv 6))) (pe_lst (pa_cons (pe_tup (pa_cons (pv 5) (pa_cons (pv 4) pa_nil))) pa_nil))) rfl))))))))))), ?_⟩
    obtain ⟨f, s, x⟩ := r
    obtain ⟨okf, oks, okx⟩ := rok
    dsimp only at okf oks okx hI
    have hI0 := hI
    obtain ⟨g0, th, mt, ha, hth, hg, hmt, hml, hol, hrest⟩ := hI
    have fin : ∀ (H' : Hp) (r' : Ru) (ml' ol' st' bo' : Addr), Frm a H H' → H' a = some (.dK (stK mn th (.ref ml') mt (.ref ol') (.ref st') (.ref bo') r'.f.press (ov r'.s.s) r'.f.here r'.f.below r'.f.dx r'.f.dy r'.s.dr r'.x.gone)) → (r'.f.x = f.x ∧ r'.f.y = f.y ∧ r'.f.rest = f.rest) → r'.f.met = f.met → H' ml' = some (.lst (r'.f.marks.map ov)) → H' ol' = some (.lst (r'.f.own.map V.int)) → Rst K H' st' bo' r'.x → SInv K H' a r'.f r'.s r'.x ⟨ml', ol', st', bo', mn⟩ := fun H' r' ml' ol' st' bo' fr ha' hx hm h1 h2 h3 =>
      ⟨g0, th, mt, ha', dp_nl (Frm.tfd fr ha) _ _ g0.nl.1 hth, ⟨by rw [hx.1]; exact hg.1, by rw [hx.2.1]; exact hg.2.1, by rw [hx.2.2]; exact hg.2.2⟩, by rw [hm]; exact dp_nl (Frm.tfd fr ha) _ _ (show NL (.tuple (f.met.map Mt.py)) from nl_mets _) hmt, h1, h2, h3⟩
    have mla : ml ≠ a := fun e => by rw [e, ha] at hml; cases hml
    have ola : ol ≠ a := fun e => by rw [e, ha] at hol; cases hol
    have pa : p ≠ a := fun e => by rw [e, ha] at hp; cases hp
    have g : ∀ {Hx : Hp} {kvs : List (Key × V)} (n : Str) (z : V), Hx a = some (.dK kvs) → valV kvs (.inr n) = some z → DGet Hx a (.str n) (some z) := fun n z h0 h => by
      rw [← h]
      exact DGet.k (k := .inr n) h0
    cases d with
    | gone => exact (dg rfl).elim
    | when a ds es => exact dfl.elim
    | go b c =>
      rw [De.py] at hd
      obtain ⟨ca, xs, rfl, sq, all⟩ := dp_tup hd
      cases all with
      | cons h1 r1 =>
      cases h1
      obtain ⟨n, m, rfl⟩ : ∃ n m, ns = [n, m] := by
        match ns, hl with
        | [n, m], _ => exact ⟨n, m, rfl⟩
      refine ⟨_, rfl, ca, _, _, _, rfl, rfl, sq, atI_nat (j := 0) rfl, rfl, _, rfl, ite2 (fun _ => ?_) (fun z => absurd (by decide) z)⟩
      have e1 : putK (stK mn th (.ref ml) mt (.ref ol) (.ref st) (.ref bo) f.press (ov s.s) f.here f.below f.dx f.dy s.dr x.gone) (.inr "dx") (.int (kp (-7) 7 n)) = stK mn th (.ref ml) mt (.ref ol) (.ref st) (.ref bo) f.press (ov s.s) f.here f.below (kp (-7) 7 n) f.dy s.dr x.gone := rfl
      have e2 : putK (stK mn th (.ref ml) mt (.ref ol) (.ref st) (.ref bo) f.press (ov s.s) f.here f.below (kp (-7) 7 n) f.dy s.dr x.gone) (.inr "dy") (.int (kp (-7) 7 m)) = stK mn th (.ref ml) mt (.ref ol) (.ref st) (.ref bo) f.press (ov s.s) f.here f.below (kp (-7) 7 n) (kp (-7) 7 m) s.dr x.gone := rfl
      refine ⟨_, rfl, p, _, _, _, rfl, rfl, SqL.of hp, atI_nat (j := 0) rfl, _, rfl, n, -7, 7, rfl, _, rfl, a, _, rfl, DPut.k (k := .inr "dx") ha (show 15 < sizeLine by decide), ?_⟩
      rw [e1]
      refine ⟨_, rfl, p, _, _, _, rfl, rfl, SqL.of (by rw [upd_ne pa]; exact hp), atI_nat (j := 1) rfl, _, rfl, m, -7, 7, rfl, _, rfl, a, _, rfl, DPut.k (k := .inr "dy") upd_same (show 15 < sizeLine by decide), ?_⟩
      rw [e2]
      have fr : Frm a H _ := (Frm.of_upd (H := H) (d := a) (o := .dK (stK mn th (.ref ml) mt (.ref ol) (.ref st) (.ref bo) f.press (ov s.s) f.here f.below (kp (-7) 7 n) f.dy s.dr x.gone))).trans (Frm.of_upd (o := .dK (stK mn th (.ref ml) mt (.ref ol) (.ref st) (.ref bo) f.press (ov s.s) f.here f.below (kp (-7) 7 n) (kp (-7) 7 m) s.dr x.gone)))
      exact kk _ _ (fin _ _ ml ol st bo fr upd_same ⟨rfl, rfl, rfl⟩ rfl (fr _ _ mla hml) (fr _ _ ola hol) (hrest.frm fr ha)) rfl fr
    | own i b =>
      rw [De.py] at hd
      obtain ⟨ca, xs, rfl, sq, all⟩ := dp_tup hd
      cases all with
      | cons h1 r1 =>
      cases r1 with
      | cons h2 r2 =>
      cases h1
      cases h2
      obtain ⟨n, rfl⟩ : ∃ n, ns = [n] := by
        match ns, hl with
        | [n], _ => exact ⟨n, rfl⟩
      refine ⟨_, rfl, ca, _, _, _, rfl, rfl, sq, atI_nat (j := 0) rfl, rfl, _, rfl, ite2 (fun z => absurd z (by decide)) (fun _ => ?_)⟩
      refine ⟨_, rfl, ca, _, _, _, rfl, rfl, sq, atI_nat (j := 0) rfl, rfl, _, rfl, ite2 (fun z => absurd z (by decide)) (fun _ => ?_)⟩
      refine ⟨_, rfl, p, _, _, _, rfl, rfl, SqL.of hp, atI_nat (j := 0) rfl, _, rfl, n, -999, 999, rfl, ?_⟩
      refine ⟨_, rfl, ca, _, _, _, rfl, rfl, sq, atI_nat (j := 1) rfl, ?_⟩
      refine ⟨_, rfl, ca, _, _, _, rfl, rfl, sq, atI_nat (j := 0) rfl, rfl, _, rfl, ite2 (fun _ => ?_) (fun z => absurd (by decide) z)⟩
      obtain ⟨j, rfl⟩ : ∃ j : Nat, i = (j : Int) := ⟨i.toNat, by have := (show 0 ≤ i ∧ i ≤ 3 ∧ b.ok by simpa [De.ok] using dok).1; omega⟩
      have hj : j < 4 := by have := (show 0 ≤ (j : Int) ∧ (j : Int) ≤ 3 ∧ b.ok by simpa [De.ok] using dok).2.1; omega
      refine ⟨_, rfl, a, .ref ol, rfl, g "own" _ ha rfl, _, rfl, (j : Int), rfl, ol, _, rfl, SqL.of hol, fun q1 nq1 => ?_⟩
      have s1 := new_same (o := .lst (cutV (f.own.map V.int) none (some (j : Int)))) nq1
      have u1 : (upd H q1 (.lst (cutV (f.own.map V.int) none (some (j : Int))))) q1 = some (.lst (cutV (f.own.map V.int) none (some (j : Int)))) := upd_same
      obtain ⟨X1, hX1⟩ : ∃ X, X = upd H q1 (.lst (cutV (f.own.map V.int) none (some (j : Int)))) := ⟨_, rfl⟩
      rw [← hX1] at s1 u1 ⊢
      refine ⟨_, rfl, (show 1 ≤ sizeLine by decide), fun q2 nq2 => ?_⟩
      have t2 := new_same (o := .lst [V.int (kp (-999) 999 n)]) nq2
      have u2 : (upd X1 q2 (.lst [V.int (kp (-999) 999 n)])) q2 = some (.lst [V.int (kp (-999) 999 n)]) := upd_same
      obtain ⟨X2, hX2⟩ : ∃ X, X = upd X1 q2 (.lst [V.int (kp (-999) 999 n)]) := ⟨_, rfl⟩
      rw [← hX2] at t2 u2 ⊢
      have s2 := s1.trans t2
      have lc1 : (cutV (f.own.map V.int) none (some (j : Int))).length ≤ 16 := Nat.le_trans (cutV_length _ _ _) (by rw [List.length_map, okf.own.1]; decide)
      refine ⟨q1, q2, _, _, rfl, rfl, t2 _ _ u1, u2, Nat.le_trans (show (cutV (f.own.map V.int) none (some (j : Int))).length + 1 ≤ 100 by omega) (by decide), fun q3 nq3 => ?_⟩
      have t3 := new_same (o := .lst (cutV (f.own.map V.int) none (some (j : Int)) ++ [V.int (kp (-999) 999 n)])) nq3
      have u3 : (upd X2 q3 (.lst (cutV (f.own.map V.int) none (some (j : Int)) ++ [V.int (kp (-999) 999 n)]))) q3 = some (.lst (cutV (f.own.map V.int) none (some (j : Int)) ++ [V.int (kp (-999) 999 n)])) := upd_same
      obtain ⟨X3, hX3⟩ : ∃ X, X = upd X2 q3 (.lst (cutV (f.own.map V.int) none (some (j : Int)) ++ [V.int (kp (-999) 999 n)])) := ⟨_, rfl⟩
      rw [← hX3] at t3 u3 ⊢
      have s3 := s2.trans t3
      refine ⟨_, rfl, a, .ref ol, rfl, g "own" _ (s3 _ _ ha) rfl, _, rfl, _, _, rfl, rfl, ((j + 1 : Nat) : Int), rfl, ol, _, rfl, SqL.of (s3 _ _ hol), fun q4 nq4 => ?_⟩
      have t4 := new_same (o := .lst (cutV (f.own.map V.int) (some ((j + 1 : Nat) : Int)) none)) nq4
      have u4 : (upd X3 q4 (.lst (cutV (f.own.map V.int) (some ((j + 1 : Nat) : Int)) none))) q4 = some (.lst (cutV (f.own.map V.int) (some ((j + 1 : Nat) : Int)) none)) := upd_same
      obtain ⟨X4, hX4⟩ : ∃ X, X = upd X3 q4 (.lst (cutV (f.own.map V.int) (some ((j + 1 : Nat) : Int)) none)) := ⟨_, rfl⟩
      rw [← hX4] at t4 u4 ⊢
      have lc2 : (cutV (f.own.map V.int) (some ((j + 1 : Nat) : Int)) none).length ≤ 16 := Nat.le_trans (cutV_length _ _ _) (by rw [List.length_map, okf.own.1]; decide)
      have S4 := s3.trans t4
      refine ⟨q3, q4, _, _, rfl, rfl, t4 _ _ u3, u4, Nat.le_trans (show (cutV (f.own.map V.int) none (some (j : Int)) ++ [V.int (kp (-999) 999 n)]).length + (cutV (f.own.map V.int) (some ((j + 1 : Nat) : Int)) none).length ≤ 100 by rw [List.length_append, List.length_singleton]; omega) (by decide), fun q5 nq5 => ?_⟩
      have ecut : cutV (f.own.map V.int) none (some (j : Int)) ++ [V.int (kp (-999) 999 n)] ++ cutV (f.own.map V.int) (some ((j + 1 : Nat) : Int)) none = (f.own.map V.int).set j (V.int (kp (-999) 999 n)) := by
        rw [cutT, cutD]
        exact set_cut _ _ _ (by rw [List.length_map, okf.own.1]; exact hj)
      rw [ecut]
      have t5 := new_same (o := .lst ((f.own.map V.int).set j (V.int (kp (-999) 999 n)))) nq5
      have h5 : (upd X4 q5 (.lst ((f.own.map V.int).set j (V.int (kp (-999) 999 n))))) q5 = some (.lst ((f.own.map V.int).set j (V.int (kp (-999) 999 n)))) := upd_same
      obtain ⟨H5, hH5⟩ : ∃ H5, H5 = upd X4 q5 (.lst ((f.own.map V.int).set j (V.int (kp (-999) 999 n)))) := ⟨_, rfl⟩
      rw [← hH5] at t5 h5 ⊢
      have S := S4.trans t5
      refine ⟨_, rfl, a, _, rfl, DPut.k (k := .inr "own") (S _ _ ha) (show 15 < sizeLine by decide), ?_⟩
      have e1 : putK (stK mn th (.ref ml) mt (.ref ol) (.ref st) (.ref bo) f.press (ov s.s) f.here f.below f.dx f.dy s.dr x.gone) (.inr "own") (.ref q5) = stK mn th (.ref ml) mt (.ref q5) (.ref st) (.ref bo) f.press (ov s.s) f.here f.below f.dx f.dy s.dr x.gone := rfl
      rw [e1]
      have q5a : q5 ≠ a := (ne_of_none (S4 _ _ ha) nq5).symm
      have fr := (Frm.of_same (d := a) S).trans (Frm.of_upd (o := .dK (stK mn th (.ref ml) mt (.ref q5) (.ref st) (.ref bo) f.press (ov s.s) f.here f.below f.dx f.dy s.dr x.gone)))
      refine kk _ _ (fin _ _ ml q5 st bo fr upd_same ⟨rfl, rfl, rfl⟩ rfl (fr _ _ mla hml) ?_ (hrest.frm fr ha)) rfl fr
      rw [upd_ne q5a, h5]
      show some (HO.lst ((f.own.map V.int).set j _)) = some (HO.lst ((f.own.set ((j : Int)).toNat _).map V.int))
      rw [List.map_set, Int.toNat_natCast]
    | mark i b =>
      rw [De.py] at hd
      obtain ⟨ca, xs, rfl, sq, all⟩ := dp_tup hd
      cases all with
      | cons h1 r1 =>
      cases r1 with
      | cons h2 r2 =>
      cases h1
      cases h2
      obtain ⟨n, rfl⟩ : ∃ n, ns = [n] := by
        match ns, hl with
        | [n], _ => exact ⟨n, rfl⟩
      refine ⟨_, rfl, ca, _, _, _, rfl, rfl, sq, atI_nat (j := 0) rfl, rfl, _, rfl, ite2 (fun z => absurd z (by decide)) (fun _ => ?_)⟩
      refine ⟨_, rfl, ca, _, _, _, rfl, rfl, sq, atI_nat (j := 0) rfl, rfl, _, rfl, ite2 (fun z => absurd z (by decide)) (fun _ => ?_)⟩
      refine ⟨_, rfl, p, _, _, _, rfl, rfl, SqL.of hp, atI_nat (j := 0) rfl, _, rfl, n, -999, 999, rfl, ?_⟩
      refine ⟨_, rfl, ca, _, _, _, rfl, rfl, sq, atI_nat (j := 1) rfl, ?_⟩
      refine ⟨_, rfl, ca, _, _, _, rfl, rfl, sq, atI_nat (j := 0) rfl, rfl, _, rfl, ite2 (fun z => absurd z (by decide)) (fun _ => ?_)⟩
      obtain ⟨j, rfl⟩ : ∃ j : Nat, i = (j : Int) := ⟨i.toNat, by have := (show 0 ≤ i ∧ i ≤ 15 ∧ b.ok by simpa [De.ok] using dok).1; omega⟩
      have hj : j < 16 := by have := (show 0 ≤ (j : Int) ∧ (j : Int) ≤ 15 ∧ b.ok by simpa [De.ok] using dok).2.1; omega
      refine ⟨_, rfl, a, .ref ml, rfl, g "marks" _ ha rfl, _, rfl, (j : Int), rfl, ml, _, rfl, SqL.of hml, fun q1 nq1 => ?_⟩
      have s1 := new_same (o := .lst (cutV (f.marks.map ov) none (some (j : Int)))) nq1
      have u1 : (upd H q1 (.lst (cutV (f.marks.map ov) none (some (j : Int))))) q1 = some (.lst (cutV (f.marks.map ov) none (some (j : Int)))) := upd_same
      obtain ⟨X1, hX1⟩ : ∃ X, X = upd H q1 (.lst (cutV (f.marks.map ov) none (some (j : Int)))) := ⟨_, rfl⟩
      rw [← hX1] at s1 u1 ⊢
      refine ⟨_, rfl, (show 1 ≤ sizeLine by decide), fun q2 nq2 => ?_⟩
      have t2 := new_same (o := .lst [V.int (kp (-999) 999 n)]) nq2
      have u2 : (upd X1 q2 (.lst [V.int (kp (-999) 999 n)])) q2 = some (.lst [V.int (kp (-999) 999 n)]) := upd_same
      obtain ⟨X2, hX2⟩ : ∃ X, X = upd X1 q2 (.lst [V.int (kp (-999) 999 n)]) := ⟨_, rfl⟩
      rw [← hX2] at t2 u2 ⊢
      have s2 := s1.trans t2
      have lc1 : (cutV (f.marks.map ov) none (some (j : Int))).length ≤ 16 := Nat.le_trans (cutV_length _ _ _) (by rw [List.length_map, okf.marks.1]; decide)
      refine ⟨q1, q2, _, _, rfl, rfl, t2 _ _ u1, u2, Nat.le_trans (show (cutV (f.marks.map ov) none (some (j : Int))).length + 1 ≤ 100 by omega) (by decide), fun q3 nq3 => ?_⟩
      have t3 := new_same (o := .lst (cutV (f.marks.map ov) none (some (j : Int)) ++ [V.int (kp (-999) 999 n)])) nq3
      have u3 : (upd X2 q3 (.lst (cutV (f.marks.map ov) none (some (j : Int)) ++ [V.int (kp (-999) 999 n)]))) q3 = some (.lst (cutV (f.marks.map ov) none (some (j : Int)) ++ [V.int (kp (-999) 999 n)])) := upd_same
      obtain ⟨X3, hX3⟩ : ∃ X, X = upd X2 q3 (.lst (cutV (f.marks.map ov) none (some (j : Int)) ++ [V.int (kp (-999) 999 n)])) := ⟨_, rfl⟩
      rw [← hX3] at t3 u3 ⊢
      have s3 := s2.trans t3
      refine ⟨_, rfl, a, .ref ml, rfl, g "marks" _ (s3 _ _ ha) rfl, _, rfl, _, _, rfl, rfl, ((j + 1 : Nat) : Int), rfl, ml, _, rfl, SqL.of (s3 _ _ hml), fun q4 nq4 => ?_⟩
      have t4 := new_same (o := .lst (cutV (f.marks.map ov) (some ((j + 1 : Nat) : Int)) none)) nq4
      have u4 : (upd X3 q4 (.lst (cutV (f.marks.map ov) (some ((j + 1 : Nat) : Int)) none))) q4 = some (.lst (cutV (f.marks.map ov) (some ((j + 1 : Nat) : Int)) none)) := upd_same
      obtain ⟨X4, hX4⟩ : ∃ X, X = upd X3 q4 (.lst (cutV (f.marks.map ov) (some ((j + 1 : Nat) : Int)) none)) := ⟨_, rfl⟩
      rw [← hX4] at t4 u4 ⊢
      have lc2 : (cutV (f.marks.map ov) (some ((j + 1 : Nat) : Int)) none).length ≤ 16 := Nat.le_trans (cutV_length _ _ _) (by rw [List.length_map, okf.marks.1]; decide)
      have S4 := s3.trans t4
      refine ⟨q3, q4, _, _, rfl, rfl, t4 _ _ u3, u4, Nat.le_trans (show (cutV (f.marks.map ov) none (some (j : Int)) ++ [V.int (kp (-999) 999 n)]).length + (cutV (f.marks.map ov) (some ((j + 1 : Nat) : Int)) none).length ≤ 100 by rw [List.length_append, List.length_singleton]; omega) (by decide), fun q5 nq5 => ?_⟩
      have ecut : cutV (f.marks.map ov) none (some (j : Int)) ++ [V.int (kp (-999) 999 n)] ++ cutV (f.marks.map ov) (some ((j + 1 : Nat) : Int)) none = (f.marks.map ov).set j (V.int (kp (-999) 999 n)) := by
        rw [cutT, cutD]
        exact set_cut _ _ _ (by rw [List.length_map, okf.marks.1]; exact hj)
      rw [ecut]
      have t5 := new_same (o := .lst ((f.marks.map ov).set j (V.int (kp (-999) 999 n)))) nq5
      have h5 : (upd X4 q5 (.lst ((f.marks.map ov).set j (V.int (kp (-999) 999 n))))) q5 = some (.lst ((f.marks.map ov).set j (V.int (kp (-999) 999 n)))) := upd_same
      obtain ⟨H5, hH5⟩ : ∃ H5, H5 = upd X4 q5 (.lst ((f.marks.map ov).set j (V.int (kp (-999) 999 n)))) := ⟨_, rfl⟩
      rw [← hH5] at t5 h5 ⊢
      have S := S4.trans t5
      refine ⟨_, rfl, a, _, rfl, DPut.k (k := .inr "marks") (S _ _ ha) (show 15 < sizeLine by decide), ?_⟩
      have e1 : putK (stK mn th (.ref ml) mt (.ref ol) (.ref st) (.ref bo) f.press (ov s.s) f.here f.below f.dx f.dy s.dr x.gone) (.inr "marks") (.ref q5) = stK mn th (.ref q5) mt (.ref ol) (.ref st) (.ref bo) f.press (ov s.s) f.here f.below f.dx f.dy s.dr x.gone := rfl
      rw [e1]
      have q5a : q5 ≠ a := (ne_of_none (S4 _ _ ha) nq5).symm
      have fr := (Frm.of_same (d := a) S).trans (Frm.of_upd (o := .dK (stK mn th (.ref q5) mt (.ref ol) (.ref st) (.ref bo) f.press (ov s.s) f.here f.below f.dx f.dy s.dr x.gone)))
      have h5' : (upd H5 a (.dK (stK mn th (.ref q5) mt (.ref ol) (.ref st) (.ref bo) f.press (ov s.s) f.here f.below f.dx f.dy s.dr x.gone))) q5 = some (.lst ((f.marks.map ov).set j (.int (kp (-999) 999 n)))) := by
        rw [upd_ne q5a, h5]
      have ha5 : (upd H5 a (.dK (stK mn th (.ref q5) mt (.ref ol) (.ref st) (.ref bo) f.press (ov s.s) f.here f.below f.dx f.dy s.dr x.gone))) a = some (.dK (stK mn th (.ref q5) mt (.ref ol) (.ref st) (.ref bo) f.press (ov s.s) f.here f.below f.dx f.dy s.dr x.gone)) := upd_same
      obtain ⟨H6, hH6⟩ : ∃ H6, H6 = upd H5 a (.dK (stK mn th (.ref q5) mt (.ref ol) (.ref st) (.ref bo) f.press (ov s.s) f.here f.below f.dx f.dy s.dr x.gone)) := ⟨_, rfl⟩
      rw [← hH6] at h5' ha5 fr ⊢
      dsimp only
      obtain ⟨sv, bv, rows, hst, hpr, hrow, hbo, hbv⟩ := hrest.frm fr ha
      have hr16 : rows.length ≤ 16 := rows_len hrow okx.set
      refine ⟨_, rfl, a, .ref st, rfl, g "set" _ ha5 rfl, st, rfl, ⟨_, SqL.of hst⟩, fun D hD => ?_⟩
      refine lc_list (xs := sv) (fun k H' => ∃ acc, H' D = some (.lst acc) ∧ PrL H' acc ((rows.take k).filter fun p => !decide (p.1 = (j : Int))) ∧ Same H6 H') ⟨[], upd_same, ⟨rfl, fun i p h => by cases h⟩, new_same hD⟩ (fun k H' _ h => SqL.of (h.choose_spec.2.2 _ _ hst)) (fun k y H' hy hPv => ?_) (fun H7 hPv => ?_)
      · obtain ⟨acc, hacc, hpa, sm⟩ := hPv
        have hk : k < rows.length := by
          rw [← hpr.1]
          exact (List.getElem?_eq_some_iff.mp hy).1
        obtain ⟨t, ht1, ht2⟩ := hpr.2 k rows[k] (List.getElem?_eq_getElem hk)
        rw [hy] at ht1
        cases ht1
        refine ⟨rfl, ?_⟩
        refine ⟨_, rfl, t, _, _, _, rfl, rfl, SqT.of (sm _ _ ht2), atI_nat (j := 0) rfl, _, rfl, rfl, _, rfl, ?_⟩
        have ht : (rows.take (k + 1)).filter (fun p => !decide (p.1 = (j : Int))) = (rows.take k).filter (fun p => !decide (p.1 = (j : Int))) ++ (if (!decide (rows[k].1 = (j : Int))) = true then [rows[k]] else []) := by
          rw [List.take_add_one, List.getElem?_eq_getElem hk, List.filter_append]
          simp [List.filter_cons]
        rw [dec_int]
        have hal : acc.length ≤ 16 := by
          rw [hpa.1]
          exact Nat.le_trans (List.length_filter_le _ _) (by rw [List.length_take]; omega)
        refine ite2 (fun z => ?_) (fun z => ?_)
        · refine ⟨_, rfl, acc, hacc, Nat.lt_of_lt_of_le (show acc.length < 100 by omega) (by decide), _, upd_same, ?_, fun b o z => ?_⟩
          · rw [ht, if_pos z]
            exact (hpa.upd hacc).snoc (by rw [upd_ne (fun e => by rw [← e, sm _ _ ht2] at hacc; cases hacc)]; exact sm _ _ ht2)
          · rw [upd_ne (ne_of_none z hD)]
            exact sm _ _ z
        · refine ⟨acc, hacc, ?_, sm⟩
          rw [ht, if_neg z, List.append_nil]
          exact hpa
      obtain ⟨acc, hacc, hpa, sm⟩ := hPv
      rw [List.take_of_length_le (by rw [hpr.1]; exact Nat.le_refl _)] at hpa
      have hal : acc.length ≤ 16 := by
        rw [hpa.1]
        exact Nat.le_trans (List.length_filter_le _ _) hr16
      refine ⟨_, rfl, _, rfl, (show 2 ≤ sizeLine by decide), fun t nt => ⟨(show 1 ≤ sizeLine by decide), fun l nl => ?_⟩⟩
      have w1 := new_same (o := .tup [.int (j : Int), .int (kp (-999) 999 n)]) nt
      have w2 := new_same (o := .lst [.ref t]) nl
      have w12 := w1.trans w2
      refine ⟨D, l, acc, [.ref t], rfl, rfl, w12 _ _ hacc, upd_same, Nat.le_trans (show acc.length + 1 ≤ 100 by omega) (by decide), fun q nq => ?_⟩
      have w3 := new_same (o := .lst (acc ++ [.ref t])) nq
      have w13 := w12.trans w3
      have W := sm.trans w13
      have hqa : q ≠ a := (ne_of_none (sm.trans w12 _ _ ha5) nq).symm
      have hpq : PrL (upd (upd (upd H7 t (.tup [.int (j : Int), .int (kp (-999) 999 n)])) l (.lst [.ref t])) q (.lst (acc ++ [.ref t]))) (acc ++ [.ref t]) (rows.filter (fun p => !decide (p.1 = (j : Int))) ++ [((j : Int), kp (-999) 999 n)]) := (hpa.same w13).snoc (w2.trans w3 _ _ upd_same)
      have hqq : (upd (upd (upd H7 t (.tup [.int (j : Int), .int (kp (-999) 999 n)])) l (.lst [.ref t])) q (.lst (acc ++ [.ref t]))) q = some (.lst (acc ++ [.ref t])) := upd_same
      obtain ⟨H8, hH8⟩ : ∃ H8, H8 = upd (upd (upd H7 t (.tup [.int (j : Int), .int (kp (-999) 999 n)])) l (.lst [.ref t])) q (.lst (acc ++ [.ref t])) := ⟨_, rfl⟩
      rw [← hH8] at W hpq hqq ⊢
      have ha8 := W _ _ ha5
      refine ⟨_, rfl, a, _, rfl, DPut.k (k := .inr "set") ha8 (show 15 < sizeLine by decide), ?_⟩
      have e2 : putK (stK mn th (.ref q5) mt (.ref ol) (.ref st) (.ref bo) f.press (ov s.s) f.here f.below f.dx f.dy s.dr x.gone) (.inr "set") (.ref q) = stK mn th (.ref q5) mt (.ref ol) (.ref q) (.ref bo) f.press (ov s.s) f.here f.below f.dx f.dy s.dr x.gone := rfl
      rw [e2]
      have fr2 := (fr.trans (Frm.of_same (d := a) W)).trans (Frm.of_upd (o := .dK (stK mn th (.ref q5) mt (.ref ol) (.ref q) (.ref bo) f.press (ov s.s) f.here f.below f.dx f.dy s.dr x.gone)))
      have boa : bo ≠ a := fun e => by rw [e, ha5] at hbo; cases hbo
      refine kk _ _ (fin _ _ q5 ol q bo fr2 upd_same ⟨rfl, rfl, rfl⟩ rfl ?_ (fr2 _ _ ola hol) ⟨acc ++ [.ref t], bv, _, ?_, ?_, rows_set hrow (by rw [okx.set]; exact hj), ?_, ?_⟩) rfl fr2
      · rw [upd_ne q5a, W _ _ h5']
        show some (HO.lst ((f.marks.map ov).set j _)) = some (HO.lst ((f.marks.set ((j : Int)).toNat _).map ov))
        rw [List.map_set, Int.toNat_natCast]
        rfl
      · rw [upd_ne hqa]
        exact hqq
      · exact hpq.frm Frm.of_upd ha8 (fun _ e => by cases e)
      · rw [upd_ne boa]
        exact W _ _ hbo
      · exact dpa_nl ((same_tf W).trans (Frm.tfd Frm.of_upd ha8)) _ _ (nl_born _) hbv
    | born k b c e h =>
      rw [De.py] at hd
      obtain ⟨ca, xs, rfl, sq, all⟩ := dp_tup hd
      cases all with
      | cons h1 r1 =>
      cases r1 with
      | cons h2 r2 =>
      cases h1
      cases h2
      obtain ⟨n1, n2, n3, n4, rfl⟩ : ∃ n1 n2 n3 n4, ns = [n1, n2, n3, n4] := by
        match ns, hl with
        | [n1, n2, n3, n4], _ => exact ⟨n1, n2, n3, n4, rfl⟩
      refine ⟨_, rfl, ca, _, _, _, rfl, rfl, sq, atI_nat (j := 0) rfl, rfl, _, rfl, ite2 (fun z => absurd z (by decide)) (fun _ => ?_)⟩
      refine ⟨_, rfl, ca, _, _, _, rfl, rfl, sq, atI_nat (j := 0) rfl, rfl, _, rfl, ite2 (fun _ => ?_) (fun z => absurd (by decide) z)⟩
      have close : ∀ (X : Hp) (l q6 q7 : Addr) (bv : List V), DpAll K H bv (x.born.map intTs) → (∃ (sv : List V) (rows : List (Int × Int)), H st = some (.lst sv) ∧ PrL H sv rows ∧ RowsOk rows x.set) → Same H X → X l = some (.tup [.int k, .int (kp (-64) 64 n1), .int (kp (-64) 64 n2), .int (kp (-7) 7 n3), .int (kp (-7) 7 n4)]) → X q6 = none → (upd X q6 (.lst (bv ++ [.ref l]))) q7 = none → Q .non (upd (upd (upd X q6 (.lst (bv ++ [.ref l]))) q7 (.lst (cutV (bv ++ [.ref l]) none (some 2)))) a (.dK (stK mn th (.ref ml) mt (.ref ol) (.ref st) (.ref q7) f.press (ov s.s) f.here f.below f.dx f.dy s.dr x.gone))) := fun X l q6 q7 bv hbv ⟨sv, rows, hst, hpr, hrow⟩ S7 hl nq6 nq7 => by
        have s8 := new_same (o := .lst (bv ++ [.ref l])) nq6
        have s9 := new_same (o := .lst (cutV (bv ++ [.ref l]) none (some 2))) nq7
        have S9 := (S7.trans s8).trans s9
        have h9 : (upd (upd X q6 (.lst (bv ++ [.ref l]))) q7 (.lst (cutV (bv ++ [.ref l]) none (some 2)))) q7 = some (.lst (cutV (bv ++ [.ref l]) none (some 2))) := upd_same
        have hl9 := (s8.trans s9) _ _ hl
        have q7a : q7 ≠ a := (ne_of_none ((S7.trans s8) _ _ ha) nq7).symm
        obtain ⟨Y, hY⟩ : ∃ Y, Y = upd (upd X q6 (.lst (bv ++ [.ref l]))) q7 (.lst (cutV (bv ++ [.ref l]) none (some 2))) := ⟨_, rfl⟩
        rw [← hY] at S9 h9 hl9 ⊢
        have ha9 := S9 _ _ ha
        have fr := (Frm.of_same (d := a) S9).trans (Frm.of_upd (o := .dK (stK mn th (.ref ml) mt (.ref ol) (.ref st) (.ref q7) f.press (ov s.s) f.here f.below f.dx f.dy s.dr x.gone)))
        have tf := Frm.tfd fr ha
        have sta : st ≠ a := fun e => by rw [e, ha] at hst; cases hst
        have ta := Frm.tfd (Frm.of_upd (d := a) (o := .dK (stK mn th (.ref ml) mt (.ref ol) (.ref st) (.ref q7) f.press (ov s.s) f.here f.below f.dx f.dy s.dr x.gone))) ha9
        refine kk _ _ (fin _ _ ml ol st q7 fr upd_same ⟨rfl, rfl, rfl⟩ rfl (fr _ _ mla hml) (fr _ _ ola hol) ⟨sv, cutV (bv ++ [.ref l]) none (some 2), rows, fr _ _ sta hst, hpr.frm fr ha (fun _ e => by cases e), hrow, by rw [upd_ne q7a]; exact h9, ?_⟩) rfl fr
        show DpAll K _ _ (((x.born ++ [[k, kp (-64) 64 n1, kp (-64) 64 n2, kp (-7) 7 n3, kp (-7) 7 n4]]).take 2).map intTs)
        rw [show cutV (bv ++ [V.ref l]) none (some 2) = (bv ++ [V.ref l]).take 2 from cutT _ 2, List.map_take, List.map_append]
        exact dpa_take 2 (dpa_snoc (dpa_nl tf _ _ (nl_born _) hbv) (.tup (ta.sq (SqT.of hl9)) (.cons (.int _) (.cons (.int _) (.cons (.int _) (.cons (.int _) (.cons (.int _) .nil)))))))
      -- the place
      have e12 : cutV ([n1, n2, n3, n4].map V.int) none (some 2) = [n1, n2].map V.int := rfl
      have e34 : cutV ([n1, n2, n3, n4].map V.int) (some 2) none = [n3, n4].map V.int := rfl
      refine ⟨_, rfl, (2 : Int), rfl, p, _, rfl, SqL.of hp, fun q1 nq1 => ⟨q1, rfl, ⟨_, SqL.of upd_same⟩, fun D1 nD1 => ?_⟩⟩
      have s1 := new_same (o := .lst (cutV ([n1, n2, n3, n4].map V.int) none (some 2))) nq1
      have sD1 := new_same (o := .lst []) nD1
      refine lc_list (xs := [n1, n2].map V.int) (fun i H' => H' D1 = some (.lst (([n1, n2].take i).map fun n => V.int (kp (-64) 64 n))) ∧ H' q1 = some (.lst ([n1, n2].map V.int)) ∧ Same H H') ⟨upd_same, sD1 _ _ (by rw [upd_same, e12]), s1.trans sD1⟩ (fun i H' _ h => SqL.of h.2.1) (fun i y H' hy hPv => ?_) (fun H1 hPv => ?_)
      · obtain ⟨hD, hq, sm⟩ := hPv
        rw [List.getElem?_map] at hy
        cases hg : ([n1, n2])[i]? with
        | none => rw [hg] at hy; cases hy
        | some n =>
          rw [hg] at hy
          cases hy
          have hi := (List.getElem?_eq_some_iff.mp hg).1
          refine ⟨rfl, ?_⟩
          dsimp only [tYes]
          rw [if_pos rfl]
          have hqD : q1 ≠ D1 := ne_of_none upd_same nD1
          have sn := fun (b : Addr) (o : HO) (z : H b = some o) => z
          refine ⟨_, rfl, _, rfl, n, -64, 64, rfl, _, hD, ?_, ?_, ?_, fun b o z => ?_⟩
          · exact Nat.lt_of_lt_of_le (show _ < 100 by rw [List.length_map, List.length_take]; simp at hi ⊢; omega) (by decide)
          · rw [upd_same, List.take_add_one, hg, List.map_append]
            rfl
          · rw [upd_ne hqD]
            exact hq
          · rw [upd_ne ?_]
            · exact sm _ _ z
            · intro e
              rw [e] at z
              have := s1 _ _ z
              rw [nD1] at this
              cases this
      obtain ⟨hD1, _, sH1⟩ := hPv
      have hp1 := sH1 _ _ hp
      refine ⟨_, rfl, _, rfl, (2 : Int), rfl, p, _, rfl, SqL.of hp1, fun q2 nq2 => ⟨q2, rfl, ⟨_, SqL.of upd_same⟩, fun D2 nD2 => ?_⟩⟩
      have s2 := new_same (o := .lst (cutV ([n1, n2, n3, n4].map V.int) (some 2) none)) nq2
      have sD2 := new_same (o := .lst []) nD2
      refine lc_list (xs := [n3, n4].map V.int) (fun i H' => H' D2 = some (.lst (([n3, n4].take i).map fun n => V.int (kp (-7) 7 n))) ∧ H' q2 = some (.lst ([n3, n4].map V.int)) ∧ Same H1 H') ⟨upd_same, sD2 _ _ (by rw [upd_same, e34]), s2.trans sD2⟩ (fun i H' _ h => SqL.of h.2.1) (fun i y H' hy hPv => ?_) (fun H2 hPv => ?_)
      · obtain ⟨hD, hq, sm⟩ := hPv
        rw [List.getElem?_map] at hy
        cases hg : ([n3, n4])[i]? with
        | none => rw [hg] at hy; cases hy
        | some n =>
          rw [hg] at hy
          cases hy
          have hi := (List.getElem?_eq_some_iff.mp hg).1
          refine ⟨rfl, ?_⟩
          dsimp only [tYes]
          rw [if_pos rfl]
          have hqD : q2 ≠ D2 := ne_of_none upd_same nD2
          have sn := fun (b : Addr) (o : HO) (z : H b = some o) => z
          refine ⟨_, rfl, _, rfl, n, -7, 7, rfl, _, hD, ?_, ?_, ?_, fun b o z => ?_⟩
          · exact Nat.lt_of_lt_of_le (show _ < 100 by rw [List.length_map, List.length_take]; simp at hi ⊢; omega) (by decide)
          · rw [upd_same, List.take_add_one, hg, List.map_append]
            rfl
          · rw [upd_ne hqD]
            exact hq
          · rw [upd_ne ?_]
            · exact sm _ _ z
            · intro e
              rw [e] at z
              have := s2 _ _ z
              rw [nD2] at this
              cases this
      obtain ⟨hD2, _, sH2⟩ := hPv
      have S2 := sH1.trans sH2
      refine ⟨D1, D2, _, _, rfl, rfl, sH2 _ _ hD1, hD2, (show 4 ≤ sizeLine by decide), fun q3 nq3 => ?_⟩
      have s3 := new_same (o := .lst [V.int (kp (-64) 64 n1), V.int (kp (-64) 64 n2), V.int (kp (-7) 7 n3), V.int (kp (-7) 7 n4)]) nq3
      have h3 : (upd H2 q3 (.lst [V.int (kp (-64) 64 n1), V.int (kp (-64) 64 n2), V.int (kp (-7) 7 n3), V.int (kp (-7) 7 n4)])) q3 = some (.lst [V.int (kp (-64) 64 n1), V.int (kp (-64) 64 n2), V.int (kp (-7) 7 n3), V.int (kp (-7) 7 n4)]) := upd_same
      have S3 := S2.trans s3
      obtain ⟨sv, bv, rows, hst, hpr, hrow, hbo, hbv⟩ := hrest
      have hbl : bv.length = x.born.length := by rw [dpa_len hbv, List.length_map]
      have hb2 := okx.born
      refine ⟨_, rfl, a, .ref bo, rfl, g "born" _ (S3 _ _ ha) rfl, ?_⟩
      refine ⟨_, rfl, ca, _, _, _, rfl, rfl, (same_tf S3).sq sq, atI_nat (j := 1) rfl, (show 1 ≤ sizeLine by decide), fun q4 nq4 => ?_⟩
      have s4 := new_same (o := .lst [V.int k]) nq4
      refine ⟨_, rfl, q4, q3, _, _, rfl, rfl, upd_same, s4 _ _ h3, (show 5 ≤ sizeLine by decide), fun q5 nq5 => ?_⟩
      have s5 := s4.trans (new_same (o := .lst ([V.int k] ++ [V.int (kp (-64) 64 n1), V.int (kp (-64) 64 n2), V.int (kp (-7) 7 n3), V.int (kp (-7) 7 n4)])) nq5)
      refine ⟨q5, _, rfl, .inl ⟨SqL.of upd_same, fun l nl => ⟨(show 1 ≤ sizeLine by decide), fun l2 nl2 => ?_⟩⟩⟩
      have s6 := new_same (o := .tup [V.int k, V.int (kp (-64) 64 n1), V.int (kp (-64) 64 n2), V.int (kp (-7) 7 n3), V.int (kp (-7) 7 n4)]) nl
      have s7 := new_same (o := .lst [V.ref l]) nl2
      have s57 := (s5.trans s6).trans s7
      have S7 := S3.trans s57
      have hl7 := s7 _ _ (upd_same (a := l) (o := .tup [V.int k, V.int (kp (-64) 64 n1), V.int (kp (-64) 64 n2), V.int (kp (-7) 7 n3), V.int (kp (-7) 7 n4)]))
      refine ⟨bo, l2, bv, [.ref l], rfl, rfl, S7 _ _ hbo, upd_same, Nat.le_trans (show bv.length + 1 ≤ 100 by omega) (by decide), fun q6 nq6 => ?_⟩
      have s8 := new_same (o := .lst (bv ++ [.ref l])) nq6
      refine ⟨(2 : Int), rfl, q6, _, rfl, SqL.of upd_same, fun q7 nq7 => ?_⟩
      have s9 := new_same (o := .lst (cutV (bv ++ [.ref l]) none (some 2))) nq7
      have S9 := (S7.trans s8).trans s9
      refine ⟨_, rfl, a, _, rfl, DPut.k (k := .inr "born") (S9 _ _ ha) (show 15 < sizeLine by decide), ?_⟩
      have e9 : putK (stK mn th (.ref ml) mt (.ref ol) (.ref st) (.ref bo) f.press (ov s.s) f.here f.below f.dx f.dy s.dr x.gone) (.inr "born") (.ref q7) = stK mn th (.ref ml) mt (.ref ol) (.ref st) (.ref q7) f.press (ov s.s) f.here f.below f.dx f.dy s.dr x.gone := rfl
      rw [e9]
      exact close _ l q6 q7 bv hbv ⟨sv, rows, hst, hpr, hrow⟩ S7 hl7 nq6 nq7
end
end K5
set_option maxRecDepth 100000
set_option maxHeartbeats 2000000
/-! The law's own walk. -/
namespace K5
open PySem PySem.Spec PyProof.Rows L2 KF
theorem evs_take (f : Fx) : ∀ (es : List Ex) (s : Sd) {j : Nat} (h : j < es.length), evs f (es.take (j + 1)) s = ((evs f (es.take j) s).1 ++ [((es[j]).ev f (evs f (es.take j) s).2).1], ((es[j]).ev f (evs f (es.take j) s).2).2)
  | e :: es, s, 0, _ => by simp [evs]
  | e :: es, s, j + 1, h => by
    have := evs_take f es (e.ev f s).2 (Nat.lt_of_succ_lt_succ h)
    simp only [List.take_succ_cons, evs, this, List.getElem_cons_succ, List.cons_append]
def Ad.off (A : Ad) (D : Addr) : Prop := D ≠ A.ml ∧ D ≠ A.ol ∧ D ≠ A.st ∧ D ≠ A.bo
theorem SInv.off {K : PySem.W.Frag} {H : Hp} {a D : Addr} {f : Fx} {s : Sd} {x : Bx} {A : Ad} (h : SInv K H a f s x A) (hD : H D = none) : A.off D ∧ D ≠ a := by
  obtain ⟨ml, ol, st, bo, mn⟩ := A
  obtain ⟨g, th, mt, ha, hth, hg, hmt, hml, hol, sv, bv, rows, h1, h2, h3, h4, h5⟩ := h
  exact ⟨⟨(ne_of_none hml hD).symm, (ne_of_none hol hD).symm, (ne_of_none h1 hD).symm, (ne_of_none h4 hD).symm⟩, (ne_of_none ha hD).symm⟩
theorem SInv.put {K : PySem.W.Frag} {H : Hp} {a D : Addr} {f : Fx} {s : Sd} {x : Bx} {A : Ad} {acc : List V} {o : HO} (h : SInv K H a f s x A) (hD : H D = some (.lst acc)) (n : A.off D ∧ D ≠ a) : SInv K (upd H D o) a f s x A := by
  obtain ⟨ml, ol, st, bo, mn⟩ := A
  obtain ⟨⟨n1, n2, n3, n4⟩, n5⟩ := n
  obtain ⟨g, th, mt, ha, hth, hg, hmt, hml, hol, sv, bv, rows, h1, h2, h3, h4, h5⟩ := h
  have tf := TF.of_lst (o := o) hD
  exact ⟨g, th, mt, by rw [upd_ne n5.symm]; exact ha, dp_nl tf _ _ g.nl.1 hth, hg, dp_nl tf _ _ (show NL (.tuple (f.met.map Mt.py)) from nl_mets _) hmt, by rw [upd_ne n1.symm]; exact hml, by rw [upd_ne n2.symm]; exact hol, sv, bv, rows, by rw [upd_ne n3.symm]; exact h1, h2.upd hD, h3, by rw [upd_ne n4.symm]; exact h4, dpa_nl tf _ _ (nl_born _) h5⟩
theorem SInv.tfd {K : PySem.W.Frag} {H H' : Hp} {a : Addr} {f f' : Fx} {s s' : Sd} {x x' : Bx} {A A' : Ad} (_ : SInv K H' a f' s' x' A') (fr : Frm a H H') (h : SInv K H a f s x A) : TF H H' := by
  obtain ⟨ml, ol, st, bo, mn⟩ := A
  obtain ⟨g, th, mt, ha, _⟩ := h
  exact Frm.tfd fr ha
theorem deps_get {ds : List De} {n i : Nat} (h : deps ds ≤ n) (hi : i < ds.length) : ds[i].dep ≤ n := (deps_le ds).mp h _ (List.getElem_mem hi)
theorem runs_take (ds : List De) : ∀ (r : Ru) {i : Nat} (hi : i < ds.length), runs (ds.take (i + 1)) r = (ds[i]).run (runs (ds.take i) r) := by
  induction ds with
  | nil => intro r i hi; cases hi
  | cons d ds ih =>
    intro r i hi
    cases i with
    | zero => simp [runs]
    | succ i =>
      simp only [List.take_succ_cons, runs, List.getElem_cons_succ]
      exact ih _ (Nat.lt_of_succ_lt_succ hi)
theorem Ad.add_zero (A : Ad) : A.add 0 = A := by
  show Ad.mk _ _ _ _ _ = _
  rw [show A.mn + ((0 : Nat) : Int) = A.mn by omega]
theorem cntE_take (f : Fx) : ∀ (es : List Ex) (s : Sd) {j : Nat} (h : j < es.length), cntE f (es.take (j + 1)) s = cntE f (es.take j) s + (es[j]).cnt f (evs f (es.take j) s).2
  | e :: es, s, 0, _ => by simp [cntE, evs]
  | e :: es, s, j + 1, h => by
    have := cntE_take f es (e.ev f s).2 (Nat.lt_of_succ_lt_succ h)
    simp only [List.take_succ_cons, cntE, evs, this, List.getElem_cons_succ]
    omega
theorem cntDs_take (ds : List De) : ∀ (r : Ru) {i : Nat} (hi : i < ds.length), cntDs (ds.take (i + 1)) r = cntDs (ds.take i) r + (ds[i]).cnt (runs (ds.take i) r) := by
  induction ds with
  | nil => intro r i hi; cases hi
  | cons d ds ih =>
    intro r i hi
    cases i with
    | zero => simp [runs, cntDs]
    | succ i =>
      simp only [List.take_succ_cons, runs, cntDs, List.getElem_cons_succ]
      rw [ih _ (Nat.lt_of_succ_lt_succ hi)]
      omega
section
variable {P : Program} {w : World} {K : PySem.W.Frag} {mg : Str → Option Value} {base : Heap}
def spDo (K : PySem.W.Frag) : Nat → Sp
  | 0 => fun _ _ _ _ => False
  | n + 1 => fun vs H Q _ => ∃ (t a : Addr) (xs : List V) (ds : List De) (r : Ru) (AA : Ad), vs = [.ref t, .ref a] ∧ SqT K H t xs ∧ DpAll K H xs (ds.map De.py) ∧ (∀ d ∈ ds, d.ok) ∧ deps ds ≤ n + 1 ∧ r.ok ∧ hasAll r ds ∧ SInv K H a r.f r.s r.x AA ∧
    ∀ H' AA', SInv K H' a (runs ds r).f (runs ds r).s (runs ds r).x AA' → AA'.mn = AA.mn + (cntDs ds r : Int) → Frm a H H' → Q .non H'
theorem scDo : FnScope ["deeds", "state", "deed", "name", "part"] ["deeds", "state"] (defScope s_law_done) := ⟨rfl, rfl, rfl, by decide +kernel, rfl, by decide +kernel, by decide +kernel⟩
theorem ok_law_done (T : Txt K w mg) : ∀ n : Nat, FnOk P w K mg base CX0 (n + 3) (He.fAd K ("_law_done", none)) (fdAt K (He.fAd K ("_law_done", none))) ["deeds", "state"] (spDo K n)
  | 0 => ⟨fun _ _ _ _ z => z.elim, fun _ _ _ _ _ _ _ _ _ _ _ _ _ z => z.elim⟩
  | n + 1 => by
    have G := ok_law_done T n
    have GN := ok_law_number (P := P) (base := base) T n
    refine T.F_law_done.ok scDo (fun vs H Q E h => ?_) (fun cdv A outer s H vs Q E hr h => ?_)
    · obtain ⟨t, a, xs, ds, r, AA, rfl, _⟩ := h
      rfl
    · obtain ⟨t, a, xs, ds, r, AA0, rfl, ht, hds, ok, hdp, rok, has, hI, kk⟩ := h
      have hu := Nat.lt_of_le_of_lt (Nat.add_le_add_left (by decide : 1 ≤ 64) _) hr.units
      refine ⟨_, PSs.nox (pss_one (ps_for PassesOwn.never rfl (pi_tup (pv 0)) (pg_name (i := 2) scDo.nd rfl (Or.inl rfl)) (pss_cons (ps_set (i := 3) scDo.nd rfl (Or.inl rfl) (pe_ix (r := rIxT K) ix_tup (pv 2) pe_int (fun _ _ => rfl)))
      (pss_cons (ps_dput hu (pv 1) pe_str (pe_op op_add (pe_dget hu (pv 1) pe_str (fun _ _ => rfl)) pe_int) rfl)
      (pss_one (ps_if (pt_cmpR op_eq (pv 3) pe_str (nomark _)) (pss_one (ps_dput hu (pv 1) pe_str pe_bl rfl)) (pss_one (ps_if (pt_cmpR op_eq (pv 3) pe_str (nomark _)) (pss_one (ps_if (pt_cmpR op_ne (pe_call GN (hr.mono (by omega)) (by rfl) T.g_law_number (T.F_law_number).kp T.b_law_number .nil pass0 (pa_cons (pe_ix (r := rIxT K) ix_tup (pv 2) pe_int (fun _ _ => rfl)) (pa_cons (pv 1) pa_nil))) pe_int (nomark _)) (pss_cons (ps_dput hu (pv 1) pe_str (pe_op op_add (pe_dget hu (pv 1) pe_str (fun _ _ => rfl)) pe_int) rfl)
      (pss_one (ps_expr (pe_call G (hr.mono (by omega)) (by rfl) T.g_law_done (T.F_law_done).kp T.b_law_done .nil pass0 (pa_cons (pe_ix (r := rIxT K) ix_tup (pv 2) pe_int (fun _ _ => rfl)) (pa_cons (pv 1) pa_nil)))))) (pss_one (ps_expr (pe_call G (hr.mono (by omega)) (by rfl) T.g_law_done (T.F_law_done).kp T.b_law_done .nil pass0 (pa_cons (pe_ix (r := rIxT K) ix_tup (pv 2) pe_int (fun _ _ => rfl)) (pa_cons (pv 1) pa_nil))))))) (pss_one (ps_if (pt_cmpR op_eq (pv 3) pe_str (nomark _)) (pss_one (ps_expr (pe_call (ok_law_set T) (hr.mono (by omega)) (by rfl) T.g_law_set (T.F_law_set).kp T.b_law_set .nil pass0 (pa_cons (pv 2) (pa_cons (pe_lc (own := [("part", 4)]) (g := gName 4) (tt := tYes) (by rfl) scDo.nd (pi_tup (pe_slice sl_tup (pv 2) (po_some pe_int) po_none)) (blkOk_by (own := [("part", 4)]) (N := ["deeds", "state", "deed", "name", "part"]) (sc := defScope s_law_done) (by decide +kernel)) (fun _ _ _ _ _ => pg_name (i := 4) scDo.nd rfl (Or.inl rfl)) (fun _ _ _ _ _ => pts_nil) (fun _ _ _ _ _ => (pe_call GN (hr.mono (by omega)) (by rfl) T.g_law_number (T.F_law_number).kp T.b_law_number .nil pass0 (pa_cons (pv 4) (pa_cons (pv 1) pa_nil))))) (pa_cons (pv 1) pa_nil)))))) (pss_one (ps_expr (pe_call (ok_law_set T) (hr.mono (by omega)) (by rfl) T.g_law_set (T.F_law_set).kp T.b_law_set .nil pass0 (pa_cons (pv 2) (pa_cons (pe_lc (own := [("part", 4)]) (g := gName 4) (tt := tYes) (by rfl) scDo.nd (pi_tup (pe_slice sl_tup (pv 2) (po_some pe_int) po_none)) (blkOk_by (own := [("part", 4)]) (N := ["deeds", "state", "deed", "name", "part"]) (sc := defScope s_law_done) (by decide +kernel)) (fun _ _ _ _ _ => pg_name (i := 4) scDo.nd rfl (Or.inl rfl)) (fun _ _ _ _ _ => pts_nil) (fun _ _ _ _ _ => (pe_call GN (hr.mono (by omega)) (by rfl) T.g_law_number (T.F_law_number).kp T.b_law_number .nil pass0 (pa_cons (pv 4) (pa_cons (pv 1) pa_nil))))) (pa_cons (pv 1) pa_nil)))))))))))))))), ?_⟩
      have hxl : xs.length = ds.length := by rw [dpa_len hds, List.length_map]
      refine ⟨_, rfl, t, rfl, ⟨_, ht⟩, ?_⟩
      refine for_tup (xs := xs) (fun i σ H' => ∃ (v2 v3 v4 : Option V), σ = [some (.ref t), some (.ref a), v2, v3, v4] ∧ TF H H' ∧ Frm a H H' ∧ ∃ AA', SInv K H' a (runs (ds.take i) r).f (runs (ds.take i) r).s (runs (ds.take i) r).x AA' ∧ AA'.mn = AA0.mn + (cntDs (ds.take i) r : Int)) ⟨_, _, _, rfl, TF.refl _, Frm.refl _ _, AA0, by rw [List.take_zero, runs]; exact hI, by rw [List.take_zero, cntDs]; omega⟩ (fun i σ H' _ h => by obtain ⟨_, _, _, _, tf, _⟩ := h; exact tf.sq ht) (fun i y σ H1 hy hPv => ?_) (fun σ H1 hPv => ?_)
      · obtain ⟨v2, v3, v4, rfl, tf, fr1, AA, hI1, hmn⟩ := hPv
        have hi : i < ds.length := by
          rw [← hxl]
          exact (List.getElem?_eq_some_iff.mp hy).1
        rw [runs_take ds r hi, cntDs_take ds r hi]
        have rok' := runs_ok (ds.take i) r rok
        have up' := runs_up (ds.take i) r
        obtain ⟨r', hr'⟩ : ∃ r', r' = runs (ds.take i) r := ⟨_, rfl⟩
        rw [← hr'] at hI1 rok' up' ⊢
        obtain ⟨v, hv, dv⟩ := dpa_get hds (show (ds.map De.py)[i]? = some ds[i].py by rw [List.getElem?_map, List.getElem?_eq_getElem hi]; rfl)
        rw [hy] at hv
        cases hv
        have dok := ok _ (List.getElem_mem hi)
        have ddep := deps_get hdp hi
        have dhas : ∀ l ∈ (ds[i]).leaves, l.has r'.f r'.s := fun l hl => up' l (has l ((lvs_iff l ds).mpr ⟨_, List.getElem_mem hi, hl⟩))
        have hdv := dp_nl tf _ _ (De.nl _) dv
        obtain ⟨d, hd⟩ : ∃ d, d = ds[i] := ⟨_, rfl⟩
        rw [← hd] at dok ddep dhas hdv ⊢
        clear dv hd
        have hdv9 := hdv
        rw [show d.py = _ from Nd.py_eq (.deed d)] at hdv9
        obtain ⟨ca0, cx0, hv0, sq0, all0⟩ := dp_tup hdv9
        refine ⟨_, rfl, ca0, _, _, _, hv0, rfl, sq0, atI_nat (j := 0) (dpa_str0 all0), ?_⟩
        obtain ⟨kvs0, hk0, dg0, dp0, hI0⟩ := hI1.inc
        have fr0 := Frm.of_upd (H := H1) (d := a) (o := .dK (putK kvs0 (.inr "many") (.int (AA.mn + 1))))
        have tf0 := Frm.tfd fr0 hk0
        refine ⟨_, rfl, a, .int AA.mn, rfl, dg0, _, _, rfl, rfl, _, rfl, a, _, rfl, dp0, ?_⟩
        have hdv := dp_nl tf0 _ _ d.nl hdv
        have tf := tf.trans tf0
        have fr1 := fr1.trans fr0
        obtain ⟨Hn, hHn⟩ : ∃ X, X = upd H1 a (.dK (putK kvs0 (.inr "many") (.int (AA.mn + 1)))) := ⟨_, rfl⟩
        rw [← hHn] at hdv tf fr1 hI0 ⊢
        clear hI1 hk0 dg0 dp0 fr0 tf0 hHn sq0 all0 hdv9 hv0
        have hI1 := hI0
        obtain ⟨AB, hAB⟩ : ∃ X, X = AA.add 1 := ⟨_, rfl⟩
        rw [← hAB] at hI1
        have hABm : AB.mn = AA.mn + 1 := by rw [hAB]; rfl
        have call : ∀ {H1 : Hp} {x : V} {e1 : Ex} {s1 : Sd} {A1 : Ad} {Q1 : VK} {E1 : XK}, Dp K H1 x e1.py → e1.ok → e1.dep ≤ n → r'.f.ok → sok s1 → e1.has r'.f s1 → SInv K H1 a r'.f s1 r'.x A1 → (∀ H', SInv K H' a r'.f (e1.ev r'.f s1).2 r'.x (A1.add (e1.cnt r'.f s1)) → Frm a H1 H' → Q1 (.int (e1.ev r'.f s1).1) H') → spNum K n [x, .ref a] H1 Q1 E1 := fun {H1 x e1 s1 A1 Q1 E1} d o dp hf so ha si kq => by
          obtain ⟨n, rfl⟩ : ∃ q, n = q + 1 := ⟨n - 1, by have := e1.dep_pos; omega⟩
          exact ⟨x, a, e1, r'.f, s1, r'.x, A1, rfl, d, o, dp, hf, so, ha, si, kq⟩
        cases d with
        | gone =>
          rw [De.py] at hdv
          obtain ⟨ca, cx, rfl, sq1, all⟩ := dp_tup hdv
          cases all with
          | cons h1 r1 =>
          cases h1
          refine ⟨_, rfl, rfl, _, rfl, ite2 (fun _ => ?_) (fun z => absurd (by rfl) z)⟩
          obtain ⟨ml, ol, st, bo, mn⟩ := AB
          have hI2 := hI1
          obtain ⟨g0, th, mt, ha1, hth, hg, hmt, hml, hol, hrest⟩ := hI1
          refine ⟨_, rfl, a, _, rfl, DPut.k (k := .inr "gone") ha1 (show 15 < sizeLine by decide), ?_⟩
          have e1 : putK (stK mn th (.ref ml) mt (.ref ol) (.ref st) (.ref bo) r'.f.press (ov r'.s.s) r'.f.here r'.f.below r'.f.dx r'.f.dy r'.s.dr r'.x.gone) (.inr "gone") (.bl true) = stK mn th (.ref ml) mt (.ref ol) (.ref st) (.ref bo) r'.f.press (ov r'.s.s) r'.f.here r'.f.below r'.f.dx r'.f.dy r'.s.dr true := rfl
          rw [e1]
          have fr := Frm.of_upd (H := Hn) (d := a) (o := .dK (stK mn th (.ref ml) mt (.ref ol) (.ref st) (.ref bo) r'.f.press (ov r'.s.s) r'.f.here r'.f.below r'.f.dx r'.f.dy r'.s.dr true))
          have tf2 := Frm.tfd fr ha1
          have mla : ml ≠ a := fun e => by rw [e, ha1] at hml; cases hml
          have ola : ol ≠ a := fun e => by rw [e, ha1] at hol; cases hol
          refine ⟨_, _, _, rfl, tf.trans tf2, fr1.trans fr, ⟨ml, ol, st, bo, mn⟩, ?_, ?_⟩
          rotate_left
          · rw [De.cnt_flat .gone trivial]
            show mn = AA0.mn + ((_ + 1 : Nat) : Int)
            have : mn = AA.mn + 1 := hABm
            omega
          rw [De.run_flat .gone trivial]
          exact ⟨g0, th, mt, upd_same, dp_nl tf2 _ _ g0.nl.1 hth, hg, dp_nl tf2 _ _ (show NL (.tuple (r'.f.met.map Mt.py)) from nl_mets _) hmt, fr _ _ mla hml, fr _ _ ola hol, hrest.frm fr ha1⟩
        | own i b =>
          rw [De.py] at hdv
          have hdv0 := hdv
          obtain ⟨ca, cx, rfl, sq1, all⟩ := dp_tup hdv
          cases all with
          | cons h0 all =>
          cases all with
          | cons g0 all =>
          cases all with
          | @cons wb _ _ _ hb all =>
          cases all
          cases h0
          cases g0
          refine ⟨_, rfl, rfl, _, rfl, ite2 (fun z => absurd z (nf (by rfl))) (fun _ => ?_)⟩
          refine ⟨_, rfl, rfl, _, rfl, ite2 (fun z => absurd z (nf (by rfl))) (fun _ => ?_)⟩
          refine ⟨_, rfl, rfl, _, rfl, ite2 (fun z => absurd z (nf (by rfl))) (fun _ => ?_)⟩
          have hdv : Dp K Hn (.ref ca) (De.own i b).py := by rw [De.py]; exact hdv0
          have hvs : DpAll K Hn [wb] ((De.own i b).exs.map Ex.py) := (.cons hb .nil)
          refine ⟨_, rfl, _, rfl, (2 : Int), rfl, ca, _, rfl, sq1, fun h => absurd h.1 (by show ¬ HT.sIx 3 0 (some 2) = 0; decide), fun q nq => ⟨q, rfl, ⟨_, SqT.of upd_same⟩, fun D hD => ?_⟩⟩
          have sq' := new_same (o := .tup [wb]) nq
          have hDn : Hn D = none := by
            cases e : Hn D with
            | none => rfl
            | some o => rw [new_same nq _ _ e] at hD; cases hD
          have offD := SInv.off hI1 hDn
          refine lc_tup (xs := [wb]) (fun j H' => H' D = some (.lst ((evs r'.f ((De.own i b).exs.take j) r'.s).1.map V.int)) ∧ SInv K H' a r'.f (evs r'.f ((De.own i b).exs.take j) r'.s).2 r'.x (AB.add (cntE r'.f ((De.own i b).exs.take j) r'.s)) ∧ SqT K H' q [wb] ∧ DpAll K H' [wb] ((De.own i b).exs.map Ex.py) ∧ TF Hn H' ∧ Frm a Hn H') ⟨upd_same, (by rw [List.take_zero, show cntE r'.f [] r'.s = 0 from rfl, Ad.add_zero]; exact (hI1.same (new_same nq)).same (new_same hD)), (same_tf (new_same hD)).sq (SqT.of upd_same), dpa_nl (same_tf ((new_same nq).trans (new_same hD))) _ _ (nls_py _) hvs, same_tf ((new_same nq).trans (new_same hD)), Frm.of_same ((new_same nq).trans (new_same hD))⟩ (fun j H' _ h => h.2.2.1) (fun j y H' hy hPv => ?_) (fun H2 hPv => ?_)
          · obtain ⟨hD', hI', hq', hvs', tf', fr'⟩ := hPv
            have hj : j < (De.own i b).exs.length := by
              have h1 := dpa_len hvs'
              rw [List.length_map] at h1
              rw [← h1]
              exact (List.getElem?_eq_some_iff.mp hy).1
            obtain ⟨v, hv, dv⟩ := dpa_get hvs' (show ((De.own i b).exs.map Ex.py)[j]? = some (De.own i b).exs[j].py by rw [List.getElem?_map, List.getElem?_eq_getElem hj]; rfl)
            rw [hy] at hv
            cases hv
            have hmem := List.getElem_mem hj
            refine ⟨rfl, ?_⟩
            dsimp only [tYes]
            rw [if_pos rfl]
            refine ⟨_, rfl, _, rfl, call dv (De.exs_ok _ dok _ hmem) (by have := De.exs_dep _ _ hmem; omega) rok'.f (evs_sok _ _ rok'.s) (fun l hl => Lf.has_evs l _ (dhas l (by rw [De.exs_leaves (De.own i b) trivial]; exact List.mem_flatMap.mpr ⟨_, hmem, hl⟩))) hI' (fun H3 I3 fr3 => ?_)⟩
            have hD3 := fr3 _ _ offD.2 hD'
            have tf3 := I3.tfd fr3 hI'
            refine ⟨_, hD3, ?_, ?_, ?_, (TF.of_lst hD3).sq (tf3.sq hq'), dpa_nl (tf3.trans (TF.of_lst hD3)) _ _ (nls_py _) hvs', (tf'.trans tf3).trans (TF.of_lst hD3), fun b o hb z => ?_⟩
            · rw [List.length_map, evs_len, List.length_take]
              have : (De.own i b).exs.length ≤ 4 := by simp [De.exs]
              exact Nat.lt_of_lt_of_le (show min j (De.own i b).exs.length < 100 by omega) (by decide)
            · rw [upd_same, evs_take _ _ _ hj, List.map_append]
              rfl
            · rw [evs_take _ _ _ hj, cntE_take _ _ _ hj, ← Ad.add_add]
              exact I3.put hD3 offD
            · rw [upd_ne (ne_of_none z hDn)]
              exact fr3 _ _ hb (fr' _ _ hb z)
          obtain ⟨hD', hI', hq', hvs', tf', fr'⟩ := hPv
          have etk : (De.own i b).exs.take ([wb] : List V).length = (De.own i b).exs := List.take_of_length_le (by have := dpa_len hvs; rw [List.length_map] at this; omega)
          rw [etk] at hD' hI'
          refine ⟨_, rfl, .ref ca, D, a, De.own i b, _, ⟨r'.f, (evs r'.f (De.own i b).exs r'.s).2, r'.x⟩, _, rfl, dp_nl tf' _ _ (De.nl _) hdv, hD', evs_len _ _ _, dok, trivial, (fun e => nomatch e), ⟨rok'.f, evs_sok _ _ rok'.s, rok'.x⟩, hI', fun H4 AA4 I4 e4 fr4 => ?_⟩
          have tf4 := I4.tfd fr4 hI'
          refine ⟨_, _, _, rfl, (tf.trans (tf'.trans tf4)), (fr1.trans (fr'.trans fr4)), AA4, ?_, ?_⟩
          · rw [De.run_flat (De.own i b) trivial]
            exact I4
          · rw [De.cnt_flat (De.own i b) trivial, De.cntF, e4]
            show AB.mn + ((cntE r'.f (De.own i b).exs r'.s : Nat) : Int) = _
            rw [hABm, hmn]
            omega
        | mark i b =>
          rw [De.py] at hdv
          have hdv0 := hdv
          obtain ⟨ca, cx, rfl, sq1, all⟩ := dp_tup hdv
          cases all with
          | cons h0 all =>
          cases all with
          | cons g0 all =>
          cases all with
          | @cons wb _ _ _ hb all =>
          cases all
          cases h0
          cases g0
          refine ⟨_, rfl, rfl, _, rfl, ite2 (fun z => absurd z (nf (by rfl))) (fun _ => ?_)⟩
          refine ⟨_, rfl, rfl, _, rfl, ite2 (fun z => absurd z (nf (by rfl))) (fun _ => ?_)⟩
          refine ⟨_, rfl, rfl, _, rfl, ite2 (fun z => absurd z (nf (by rfl))) (fun _ => ?_)⟩
          have hdv : Dp K Hn (.ref ca) (De.mark i b).py := by rw [De.py]; exact hdv0
          have hvs : DpAll K Hn [wb] ((De.mark i b).exs.map Ex.py) := (.cons hb .nil)
          refine ⟨_, rfl, _, rfl, (2 : Int), rfl, ca, _, rfl, sq1, fun h => absurd h.1 (by show ¬ HT.sIx 3 0 (some 2) = 0; decide), fun q nq => ⟨q, rfl, ⟨_, SqT.of upd_same⟩, fun D hD => ?_⟩⟩
          have sq' := new_same (o := .tup [wb]) nq
          have hDn : Hn D = none := by
            cases e : Hn D with
            | none => rfl
            | some o => rw [new_same nq _ _ e] at hD; cases hD
          have offD := SInv.off hI1 hDn
          refine lc_tup (xs := [wb]) (fun j H' => H' D = some (.lst ((evs r'.f ((De.mark i b).exs.take j) r'.s).1.map V.int)) ∧ SInv K H' a r'.f (evs r'.f ((De.mark i b).exs.take j) r'.s).2 r'.x (AB.add (cntE r'.f ((De.mark i b).exs.take j) r'.s)) ∧ SqT K H' q [wb] ∧ DpAll K H' [wb] ((De.mark i b).exs.map Ex.py) ∧ TF Hn H' ∧ Frm a Hn H') ⟨upd_same, (by rw [List.take_zero, show cntE r'.f [] r'.s = 0 from rfl, Ad.add_zero]; exact (hI1.same (new_same nq)).same (new_same hD)), (same_tf (new_same hD)).sq (SqT.of upd_same), dpa_nl (same_tf ((new_same nq).trans (new_same hD))) _ _ (nls_py _) hvs, same_tf ((new_same nq).trans (new_same hD)), Frm.of_same ((new_same nq).trans (new_same hD))⟩ (fun j H' _ h => h.2.2.1) (fun j y H' hy hPv => ?_) (fun H2 hPv => ?_)
          · obtain ⟨hD', hI', hq', hvs', tf', fr'⟩ := hPv
            have hj : j < (De.mark i b).exs.length := by
              have h1 := dpa_len hvs'
              rw [List.length_map] at h1
              rw [← h1]
              exact (List.getElem?_eq_some_iff.mp hy).1
            obtain ⟨v, hv, dv⟩ := dpa_get hvs' (show ((De.mark i b).exs.map Ex.py)[j]? = some (De.mark i b).exs[j].py by rw [List.getElem?_map, List.getElem?_eq_getElem hj]; rfl)
            rw [hy] at hv
            cases hv
            have hmem := List.getElem_mem hj
            refine ⟨rfl, ?_⟩
            dsimp only [tYes]
            rw [if_pos rfl]
            refine ⟨_, rfl, _, rfl, call dv (De.exs_ok _ dok _ hmem) (by have := De.exs_dep _ _ hmem; omega) rok'.f (evs_sok _ _ rok'.s) (fun l hl => Lf.has_evs l _ (dhas l (by rw [De.exs_leaves (De.mark i b) trivial]; exact List.mem_flatMap.mpr ⟨_, hmem, hl⟩))) hI' (fun H3 I3 fr3 => ?_)⟩
            have hD3 := fr3 _ _ offD.2 hD'
            have tf3 := I3.tfd fr3 hI'
            refine ⟨_, hD3, ?_, ?_, ?_, (TF.of_lst hD3).sq (tf3.sq hq'), dpa_nl (tf3.trans (TF.of_lst hD3)) _ _ (nls_py _) hvs', (tf'.trans tf3).trans (TF.of_lst hD3), fun b o hb z => ?_⟩
            · rw [List.length_map, evs_len, List.length_take]
              have : (De.mark i b).exs.length ≤ 4 := by simp [De.exs]
              exact Nat.lt_of_lt_of_le (show min j (De.mark i b).exs.length < 100 by omega) (by decide)
            · rw [upd_same, evs_take _ _ _ hj, List.map_append]
              rfl
            · rw [evs_take _ _ _ hj, cntE_take _ _ _ hj, ← Ad.add_add]
              exact I3.put hD3 offD
            · rw [upd_ne (ne_of_none z hDn)]
              exact fr3 _ _ hb (fr' _ _ hb z)
          obtain ⟨hD', hI', hq', hvs', tf', fr'⟩ := hPv
          have etk : (De.mark i b).exs.take ([wb] : List V).length = (De.mark i b).exs := List.take_of_length_le (by have := dpa_len hvs; rw [List.length_map] at this; omega)
          rw [etk] at hD' hI'
          refine ⟨_, rfl, .ref ca, D, a, De.mark i b, _, ⟨r'.f, (evs r'.f (De.mark i b).exs r'.s).2, r'.x⟩, _, rfl, dp_nl tf' _ _ (De.nl _) hdv, hD', evs_len _ _ _, dok, trivial, (fun e => nomatch e), ⟨rok'.f, evs_sok _ _ rok'.s, rok'.x⟩, hI', fun H4 AA4 I4 e4 fr4 => ?_⟩
          have tf4 := I4.tfd fr4 hI'
          refine ⟨_, _, _, rfl, (tf.trans (tf'.trans tf4)), (fr1.trans (fr'.trans fr4)), AA4, ?_, ?_⟩
          · rw [De.run_flat (De.mark i b) trivial]
            exact I4
          · rw [De.cnt_flat (De.mark i b) trivial, De.cntF, e4]
            show AB.mn + ((cntE r'.f (De.mark i b).exs r'.s : Nat) : Int) = _
            rw [hABm, hmn]
            omega
        | born k b c e h =>
          rw [De.py] at hdv
          have hdv0 := hdv
          obtain ⟨ca, cx, rfl, sq1, all⟩ := dp_tup hdv
          cases all with
          | cons h0 all =>
          cases all with
          | cons g0 all =>
          cases all with
          | @cons wb _ _ _ hb all =>
          cases all with
          | @cons wc _ _ _ hc all =>
          cases all with
          | @cons we _ _ _ he all =>
          cases all with
          | @cons wh _ _ _ hh all =>
          cases all
          cases h0
          cases g0
          refine ⟨_, rfl, rfl, _, rfl, ite2 (fun z => absurd z (nf (by rfl))) (fun _ => ?_)⟩
          refine ⟨_, rfl, rfl, _, rfl, ite2 (fun z => absurd z (nf (by rfl))) (fun _ => ?_)⟩
          refine ⟨_, rfl, rfl, _, rfl, ite2 (fun z => absurd z (nf (by rfl))) (fun _ => ?_)⟩
          have hdv : Dp K Hn (.ref ca) (De.born k b c e h).py := by rw [De.py]; exact hdv0
          have hvs : DpAll K Hn [wb, wc, we, wh] ((De.born k b c e h).exs.map Ex.py) := (.cons hb (.cons hc (.cons he (.cons hh .nil))))
          refine ⟨_, rfl, _, rfl, (2 : Int), rfl, ca, _, rfl, sq1, fun h => absurd h.1 (by show ¬ HT.sIx 6 0 (some 2) = 0; decide), fun q nq => ⟨q, rfl, ⟨_, SqT.of upd_same⟩, fun D hD => ?_⟩⟩
          have sq' := new_same (o := .tup [wb, wc, we, wh]) nq
          have hDn : Hn D = none := by
            cases e : Hn D with
            | none => rfl
            | some o => rw [new_same nq _ _ e] at hD; cases hD
          have offD := SInv.off hI1 hDn
          refine lc_tup (xs := [wb, wc, we, wh]) (fun j H' => H' D = some (.lst ((evs r'.f ((De.born k b c e h).exs.take j) r'.s).1.map V.int)) ∧ SInv K H' a r'.f (evs r'.f ((De.born k b c e h).exs.take j) r'.s).2 r'.x (AB.add (cntE r'.f ((De.born k b c e h).exs.take j) r'.s)) ∧ SqT K H' q [wb, wc, we, wh] ∧ DpAll K H' [wb, wc, we, wh] ((De.born k b c e h).exs.map Ex.py) ∧ TF Hn H' ∧ Frm a Hn H') ⟨upd_same, (by rw [List.take_zero, show cntE r'.f [] r'.s = 0 from rfl, Ad.add_zero]; exact (hI1.same (new_same nq)).same (new_same hD)), (same_tf (new_same hD)).sq (SqT.of upd_same), dpa_nl (same_tf ((new_same nq).trans (new_same hD))) _ _ (nls_py _) hvs, same_tf ((new_same nq).trans (new_same hD)), Frm.of_same ((new_same nq).trans (new_same hD))⟩ (fun j H' _ h => h.2.2.1) (fun j y H' hy hPv => ?_) (fun H2 hPv => ?_)
          · obtain ⟨hD', hI', hq', hvs', tf', fr'⟩ := hPv
            have hj : j < (De.born k b c e h).exs.length := by
              have h1 := dpa_len hvs'
              rw [List.length_map] at h1
              rw [← h1]
              exact (List.getElem?_eq_some_iff.mp hy).1
            obtain ⟨v, hv, dv⟩ := dpa_get hvs' (show ((De.born k b c e h).exs.map Ex.py)[j]? = some (De.born k b c e h).exs[j].py by rw [List.getElem?_map, List.getElem?_eq_getElem hj]; rfl)
            rw [hy] at hv
            cases hv
            have hmem := List.getElem_mem hj
            refine ⟨rfl, ?_⟩
            dsimp only [tYes]
            rw [if_pos rfl]
            refine ⟨_, rfl, _, rfl, call dv (De.exs_ok _ dok _ hmem) (by have := De.exs_dep _ _ hmem; omega) rok'.f (evs_sok _ _ rok'.s) (fun l hl => Lf.has_evs l _ (dhas l (by rw [De.exs_leaves (De.born k b c e h) trivial]; exact List.mem_flatMap.mpr ⟨_, hmem, hl⟩))) hI' (fun H3 I3 fr3 => ?_)⟩
            have hD3 := fr3 _ _ offD.2 hD'
            have tf3 := I3.tfd fr3 hI'
            refine ⟨_, hD3, ?_, ?_, ?_, (TF.of_lst hD3).sq (tf3.sq hq'), dpa_nl (tf3.trans (TF.of_lst hD3)) _ _ (nls_py _) hvs', (tf'.trans tf3).trans (TF.of_lst hD3), fun b o hb z => ?_⟩
            · rw [List.length_map, evs_len, List.length_take]
              have : (De.born k b c e h).exs.length ≤ 4 := by simp [De.exs]
              exact Nat.lt_of_lt_of_le (show min j (De.born k b c e h).exs.length < 100 by omega) (by decide)
            · rw [upd_same, evs_take _ _ _ hj, List.map_append]
              rfl
            · rw [evs_take _ _ _ hj, cntE_take _ _ _ hj, ← Ad.add_add]
              exact I3.put hD3 offD
            · rw [upd_ne (ne_of_none z hDn)]
              exact fr3 _ _ hb (fr' _ _ hb z)
          obtain ⟨hD', hI', hq', hvs', tf', fr'⟩ := hPv
          have etk : (De.born k b c e h).exs.take ([wb, wc, we, wh] : List V).length = (De.born k b c e h).exs := List.take_of_length_le (by have := dpa_len hvs; rw [List.length_map] at this; omega)
          rw [etk] at hD' hI'
          refine ⟨_, rfl, .ref ca, D, a, De.born k b c e h, _, ⟨r'.f, (evs r'.f (De.born k b c e h).exs r'.s).2, r'.x⟩, _, rfl, dp_nl tf' _ _ (De.nl _) hdv, hD', evs_len _ _ _, dok, trivial, (fun e => nomatch e), ⟨rok'.f, evs_sok _ _ rok'.s, rok'.x⟩, hI', fun H4 AA4 I4 e4 fr4 => ?_⟩
          have tf4 := I4.tfd fr4 hI'
          refine ⟨_, _, _, rfl, (tf.trans (tf'.trans tf4)), (fr1.trans (fr'.trans fr4)), AA4, ?_, ?_⟩
          · rw [De.run_flat (De.born k b c e h) trivial]
            exact I4
          · rw [De.cnt_flat (De.born k b c e h) trivial, De.cntF, e4]
            show AB.mn + ((cntE r'.f (De.born k b c e h).exs r'.s : Nat) : Int) = _
            rw [hABm, hmn]
            omega
        | go b c =>
          rw [De.py] at hdv
          have hdv0 := hdv
          obtain ⟨ca, cx, rfl, sq1, all⟩ := dp_tup hdv
          cases all with
          | cons h0 all =>
          cases all with
          | @cons wb _ _ _ hb all =>
          cases all with
          | @cons wc _ _ _ hc all =>
          cases all
          cases h0
          refine ⟨_, rfl, rfl, _, rfl, ite2 (fun z => absurd z (nf (by rfl))) (fun _ => ?_)⟩
          refine ⟨_, rfl, rfl, _, rfl, ite2 (fun z => absurd z (nf (by rfl))) (fun _ => ?_)⟩
          refine ⟨_, rfl, rfl, _, rfl, ite2 (fun _ => ?_) (fun z => absurd (by rfl) z)⟩
          have hdv : Dp K Hn (.ref ca) (De.go b c).py := by rw [De.py]; exact hdv0
          have hvs : DpAll K Hn [wb, wc] ((De.go b c).exs.map Ex.py) := (.cons hb (.cons hc .nil))
          refine ⟨_, rfl, _, rfl, (1 : Int), rfl, ca, _, rfl, sq1, fun h => absurd h.1 (by show ¬ HT.sIx 3 0 (some 1) = 0; decide), fun q nq => ⟨q, rfl, ⟨_, SqT.of upd_same⟩, fun D hD => ?_⟩⟩
          have sq' := new_same (o := .tup [wb, wc]) nq
          have hDn : Hn D = none := by
            cases e : Hn D with
            | none => rfl
            | some o => rw [new_same nq _ _ e] at hD; cases hD
          have offD := SInv.off hI1 hDn
          refine lc_tup (xs := [wb, wc]) (fun j H' => H' D = some (.lst ((evs r'.f ((De.go b c).exs.take j) r'.s).1.map V.int)) ∧ SInv K H' a r'.f (evs r'.f ((De.go b c).exs.take j) r'.s).2 r'.x (AB.add (cntE r'.f ((De.go b c).exs.take j) r'.s)) ∧ SqT K H' q [wb, wc] ∧ DpAll K H' [wb, wc] ((De.go b c).exs.map Ex.py) ∧ TF Hn H' ∧ Frm a Hn H') ⟨upd_same, (by rw [List.take_zero, show cntE r'.f [] r'.s = 0 from rfl, Ad.add_zero]; exact (hI1.same (new_same nq)).same (new_same hD)), (same_tf (new_same hD)).sq (SqT.of upd_same), dpa_nl (same_tf ((new_same nq).trans (new_same hD))) _ _ (nls_py _) hvs, same_tf ((new_same nq).trans (new_same hD)), Frm.of_same ((new_same nq).trans (new_same hD))⟩ (fun j H' _ h => h.2.2.1) (fun j y H' hy hPv => ?_) (fun H2 hPv => ?_)
          · obtain ⟨hD', hI', hq', hvs', tf', fr'⟩ := hPv
            have hj : j < (De.go b c).exs.length := by
              have h1 := dpa_len hvs'
              rw [List.length_map] at h1
              rw [← h1]
              exact (List.getElem?_eq_some_iff.mp hy).1
            obtain ⟨v, hv, dv⟩ := dpa_get hvs' (show ((De.go b c).exs.map Ex.py)[j]? = some (De.go b c).exs[j].py by rw [List.getElem?_map, List.getElem?_eq_getElem hj]; rfl)
            rw [hy] at hv
            cases hv
            have hmem := List.getElem_mem hj
            refine ⟨rfl, ?_⟩
            dsimp only [tYes]
            rw [if_pos rfl]
            refine ⟨_, rfl, _, rfl, call dv (De.exs_ok _ dok _ hmem) (by have := De.exs_dep _ _ hmem; omega) rok'.f (evs_sok _ _ rok'.s) (fun l hl => Lf.has_evs l _ (dhas l (by rw [De.exs_leaves (De.go b c) trivial]; exact List.mem_flatMap.mpr ⟨_, hmem, hl⟩))) hI' (fun H3 I3 fr3 => ?_)⟩
            have hD3 := fr3 _ _ offD.2 hD'
            have tf3 := I3.tfd fr3 hI'
            refine ⟨_, hD3, ?_, ?_, ?_, (TF.of_lst hD3).sq (tf3.sq hq'), dpa_nl (tf3.trans (TF.of_lst hD3)) _ _ (nls_py _) hvs', (tf'.trans tf3).trans (TF.of_lst hD3), fun b o hb z => ?_⟩
            · rw [List.length_map, evs_len, List.length_take]
              have : (De.go b c).exs.length ≤ 4 := by simp [De.exs]
              exact Nat.lt_of_lt_of_le (show min j (De.go b c).exs.length < 100 by omega) (by decide)
            · rw [upd_same, evs_take _ _ _ hj, List.map_append]
              rfl
            · rw [evs_take _ _ _ hj, cntE_take _ _ _ hj, ← Ad.add_add]
              exact I3.put hD3 offD
            · rw [upd_ne (ne_of_none z hDn)]
              exact fr3 _ _ hb (fr' _ _ hb z)
          obtain ⟨hD', hI', hq', hvs', tf', fr'⟩ := hPv
          have etk : (De.go b c).exs.take ([wb, wc] : List V).length = (De.go b c).exs := List.take_of_length_le (by have := dpa_len hvs; rw [List.length_map] at this; omega)
          rw [etk] at hD' hI'
          refine ⟨_, rfl, .ref ca, D, a, De.go b c, _, ⟨r'.f, (evs r'.f (De.go b c).exs r'.s).2, r'.x⟩, _, rfl, dp_nl tf' _ _ (De.nl _) hdv, hD', evs_len _ _ _, dok, trivial, (fun e => nomatch e), ⟨rok'.f, evs_sok _ _ rok'.s, rok'.x⟩, hI', fun H4 AA4 I4 e4 fr4 => ?_⟩
          have tf4 := I4.tfd fr4 hI'
          refine ⟨_, _, _, rfl, (tf.trans (tf'.trans tf4)), (fr1.trans (fr'.trans fr4)), AA4, ?_, ?_⟩
          · rw [De.run_flat (De.go b c) trivial]
            exact I4
          · rw [De.cnt_flat (De.go b c) trivial, De.cntF, e4]
            show AB.mn + ((cntE r'.f (De.go b c).exs r'.s : Nat) : Int) = _
            rw [hABm, hmn]
            omega
        | when b es fs =>
          rw [De.py] at hdv
          rw [De.ok] at dok
          rw [De.dep] at ddep
          have ddep := Nat.le_of_succ_le_succ ddep
          have d1 := Nat.le_trans (Nat.le_max_left b.dep (Nat.max (deps es) (deps fs))) ddep
          have d23 := Nat.le_trans (Nat.le_max_right b.dep (Nat.max (deps es) (deps fs))) ddep
          have d2 := Nat.le_trans (Nat.le_max_left (deps es) (deps fs)) d23
          have d3 := Nat.le_trans (Nat.le_max_right (deps es) (deps fs)) d23
          obtain ⟨ca, cx, rfl, sq1, all⟩ := dp_tup hdv
          cases all with
          | cons h0 all =>
          cases all with
          | @cons wb _ _ _ hb all =>
          cases all with
          | @cons we _ _ _ he all =>
          cases all with
          | @cons wf _ _ _ hf all =>
          cases all
          cases h0
          refine ⟨_, rfl, rfl, _, rfl, ite2 (fun z => absurd z (nf (by rfl))) (fun _ => ?_)⟩
          refine ⟨_, rfl, rfl, _, rfl, ite2 (fun _ => ?_) (fun z => absurd (by rfl) z)⟩
          refine ⟨_, rfl, ca, _, _, _, rfl, rfl, sq1, atI_nat (j := 1) rfl, _, rfl, call hb dok.1 d1 rok'.f rok'.s (fun l hl => dhas l (by rw [De.leaves]; simp [hl])) hI1 (fun H2 I2 fr2 => ?_)⟩
          have tf2 := I2.tfd fr2 hI1
          refine ⟨rfl, _, rfl, ?_⟩
          rw [dec_int]
          refine ite2 (fun z => ?_) (fun z => ?_)
          · obtain ⟨kvs1, hk1, dg1, dp1, hI2⟩ := I2.inc
            have fr3 := Frm.of_upd (H := H2) (d := a) (o := .dK (putK kvs1 (.inr "many") (.int ((AB.add (b.cnt r'.f r'.s)).mn + 1))))
            have fr2 := fr2.trans fr3
            have tf2 := tf2.trans (Frm.tfd fr3 hk1)
            refine ⟨_, rfl, a, .int (AB.add (b.cnt r'.f r'.s)).mn, rfl, dg1, _, _, rfl, rfl, _, rfl, a, _, rfl, dp1, ?_⟩
            have I2 := hI2
            refine ⟨_, rfl, ca, _, _, _, rfl, rfl, tf2.sq sq1, atI_nat (j := 2) rfl, _, rfl, ?_⟩
            obtain ⟨c2, x2, rfl, sq2, all2⟩ := dp_tup he
            obtain ⟨n, rfl⟩ : ∃ q, n = q + 1 := ⟨n - 1, by have := b.dep_pos; omega⟩
            refine ⟨c2, a, x2, es, ⟨r'.f, (b.ev r'.f r'.s).2, r'.x⟩, _, rfl, tf2.sq sq2, dpa_nl tf2 _ _ (nl_des _) (by rw [← pys_eq]; exact all2), (oks_iff es).mp dok.2.1, by omega, ⟨rok'.f, b.ev_sok _ rok'.s, rok'.x⟩, fun l hl => l.has_on (dhas l (by rw [De.leaves]; simp [hl])) b, I2, fun H3 AA3 I3 e3 fr3 => ?_⟩
            have tf3 := I3.tfd fr3 I2
            refine ⟨_, _, _, rfl, (tf.trans tf2).trans tf3, (fr1.trans fr2).trans fr3, AA3, ?_, ?_⟩
            · rw [De.run, if_pos (by simpa using z)]
              exact I3
            · rw [De.cnt, if_pos (by simpa using z), e3]
              show AB.mn + ((b.cnt r'.f r'.s : Nat) : Int) + ((1 : Nat) : Int) + _ = _
              omega
          · refine ⟨_, rfl, ca, _, _, _, rfl, rfl, tf2.sq sq1, atI_nat (j := 3) rfl, _, rfl, ?_⟩
            obtain ⟨c2, x2, rfl, sq2, all2⟩ := dp_tup hf
            obtain ⟨n, rfl⟩ : ∃ q, n = q + 1 := ⟨n - 1, by have := b.dep_pos; omega⟩
            refine ⟨c2, a, x2, fs, ⟨r'.f, (b.ev r'.f r'.s).2, r'.x⟩, _, rfl, tf2.sq sq2, dpa_nl tf2 _ _ (nl_des _) (by rw [← pys_eq]; exact all2), (oks_iff fs).mp dok.2.2, by omega, ⟨rok'.f, b.ev_sok _ rok'.s, rok'.x⟩, fun l hl => l.has_on (dhas l (by rw [De.leaves]; simp [hl])) b, I2, fun H3 AA3 I3 e3 fr3 => ?_⟩
            have tf3 := I3.tfd fr3 I2
            refine ⟨_, _, _, rfl, (tf.trans tf2).trans tf3, (fr1.trans fr2).trans fr3, AA3, ?_, ?_⟩
            · rw [De.run, if_neg (by simpa using z)]
              exact I3
            · rw [De.cnt, if_neg (by simpa using z), e3]
              show AB.mn + ((b.cnt r'.f r'.s : Nat) : Int) + _ = _
              omega
      · obtain ⟨v2, v3, v4, rfl, tf, fr1, AA', hI1, hmn⟩ := hPv
        rw [List.take_of_length_le (by omega)] at hI1 hmn
        exact kk H1 AA' hI1 hmn fr1
end
end K5
set_option maxRecDepth 100000
set_option maxHeartbeats 2000000
/-! What a run tells. -/
namespace K5
open PySem PySem.Spec PyProof.Rows L2 KF
/-- the marks that were set, ascending -/
def canonR : Nat → List (Option Int) → List (Int × Int)
  | _, [] => []
  | k, none :: s => canonR (k + 1) s
  | k, some n :: s => ((k : Int), n) :: canonR (k + 1) s
theorem canon_mem : ∀ (s : List (Option Int)) (k : Nat) (i n : Int), (i, n) ∈ canonR k s ↔ ∃ j : Nat, i = ((k + j : Nat) : Int) ∧ s[j]? = some (some n)
  | [], k, i, n => by simp [canonR]
  | none :: s, k, i, n => by
    rw [canonR, canon_mem s (k + 1)]
    constructor
    · rintro ⟨j, h1, h2⟩
      exact ⟨j + 1, by rw [h1]; congr 1; omega, by simpa using h2⟩
    · rintro ⟨j, h1, h2⟩
      cases j with
      | zero => simp at h2
      | succ j => exact ⟨j, by rw [h1]; congr 1; omega, by simpa using h2⟩
  | some m :: s, k, i, n => by
    rw [canonR, List.mem_cons, canon_mem s (k + 1)]
    constructor
    · rintro (h | ⟨j, h1, h2⟩)
      · injection h with h1 h2
        exact ⟨0, by rw [h1]; rfl, by rw [h2]; rfl⟩
      · exact ⟨j + 1, by rw [h1]; congr 1; omega, by simpa using h2⟩
    · rintro ⟨j, h1, h2⟩
      cases j with
      | zero =>
        simp at h2
        exact .inl (by rw [h1, h2]; rfl)
      | succ j => exact .inr ⟨j, by rw [h1]; congr 1; omega, by simpa using h2⟩
theorem canon_sorted : ∀ (s : List (Option Int)) (k : Nat), (canonR k s).Pairwise (fun a b => a.1 < b.1)
  | [], _ => .nil
  | none :: s, k => canon_sorted s (k + 1)
  | some m :: s, k => by
    rw [canonR]
    refine List.pairwise_cons.mpr ⟨fun p hp => ?_, canon_sorted s (k + 1)⟩
    obtain ⟨j, h1, _⟩ := (canon_mem s (k + 1) p.1 p.2).mp hp
    show (k : Int) < p.1
    omega
theorem pairs_uniq : ∀ {l m : List (Int × Int)}, l.Pairwise (fun a b => a.1 < b.1) → m.Pairwise (fun a b => a.1 < b.1) → (∀ p, p ∈ l ↔ p ∈ m) → l = m
  | [], [], _, _, _ => rfl
  | [], y :: m, _, _, h => ((List.not_mem_nil ((h y).mpr (by simp)))).elim
  | x :: l, [], _, _, h => ((List.not_mem_nil ((h x).mp (by simp)))).elim
  | x :: l, y :: m, hl, hm, h => by
    obtain ⟨l1, l2⟩ := List.pairwise_cons.mp hl
    obtain ⟨m1, m2⟩ := List.pairwise_cons.mp hm
    have e : x = y := by
      rcases List.mem_cons.mp ((h x).mp (by simp)) with h1 | h1
      · exact h1
      · rcases List.mem_cons.mp ((h y).mpr (by simp)) with h2 | h2
        · exact h2.symm
        · have := m1 x h1
          have := l1 y h2
          omega
    subst e
    congr 1
    refine pairs_uniq l2 m2 fun p => ?_
    constructor
    · intro hp
      rcases List.mem_cons.mp ((h p).mp (by simp [hp])) with h1 | h1
      · have := l1 p hp
        rw [h1] at this
        omega
      · exact h1
    · intro hp
      rcases List.mem_cons.mp ((h p).mpr (by simp [hp])) with h1 | h1
      · have := m1 p hp
        rw [h1] at this
        omega
      · exact h1
/-- rows as the marks that were set tell them, in their order -/
theorem rows_canon {rows ys : List (Int × Int)} {set : List (Option Int)} (h : RowsOk rows set) (hp : ys.Perm rows) (hs : ys.Pairwise (fun a b => a.1 ≤ b.1)) : ys = canonR 0 set := by
  refine pairs_uniq ?_ (canon_sorted _ _) fun p => ?_
  · have hn : (ys.map (·.1)).Nodup := (hp.map _).nodup_iff.mpr h.1
    have hn2 : ys.Pairwise (fun a b => a.1 ≠ b.1) := List.pairwise_map.mp hn
    exact (hs.imp₂ (fun a b h1 h2 => by omega) hn2)
  · obtain ⟨i, n⟩ := p
    rw [hp.mem_iff, h.2, canon_mem]
    simp
def prT (p : Int × Int) : PyData := .tuple [.int p.1, .int p.2]
theorem nl_pr : ∀ ps : List (Int × Int), NLs (ps.map prT)
  | [] => trivial
  | p :: ps => ⟨⟨trivial, trivial, trivial⟩, nl_pr ps⟩
/-- what is told of a run -/
def Ru.out (r : Ru) : PyData := .tuple [.int r.f.dx, .int r.f.dy, intTs r.f.own, .tuple ((canonR 0 r.x.set).map prT), oint (if r.s.dr then r.s.s else none), .tuple (r.x.born.map intTs), .bool r.x.gone]
def kOf (H : Hp) (x : V) : Int × Int := match x with
  | .ref t => match H t with
    | some (.tup [.int i, .int j]) => (i, j)
    | _ => (0, 0)
  | _ => (0, 0)
theorem kOf_eq {H : Hp} {t : Addr} {i j : Int} (h : H t = some (.tup [.int i, .int j])) : kOf H (.ref t) = (i, j) := by
  unfold kOf
  simp only [h]
theorem dp_oi {K : PySem.W.Frag} {H : Hp} (s : Option Int) : Dp K H (ov s) (oint s) := by
  cases s
  · exact .non
  · exact .int _
theorem dpa_of {K : PySem.W.Frag} {H : Hp} : ∀ (ys : List V) (g : V → PyData), (∀ y ∈ ys, Dp K H y (g y)) → DpAll K H ys (ys.map g)
  | [], _, _ => .nil
  | y :: ys, g, h => .cons (h y (by simp)) (dpa_of ys g fun z hz => h z (by simp [hz]))
section
variable {P : Program} {w : World} {K : PySem.W.Frag} {mg : Str → Option Value} {base : Heap}
def spOut (K : PySem.W.Frag) : Sp := fun vs H Q _ => ∃ (a : Addr) (r : Ru) (AA : Ad), vs = [.ref a] ∧ r.ok ∧ SInv K H a r.f r.s r.x AA ∧ ∀ v H', Dp K H' v r.out → Same H H' → Q v H'
theorem scOu : FnScope ["state", "seed", "moved"] ["state"] (defScope s_law_outcome) := ⟨rfl, rfl, rfl, by decide +kernel, rfl, by decide +kernel, by decide +kernel⟩
theorem ok_law_outcome (T : Txt K w mg) : FnOk P w K mg base CX0 1 (He.fAd K ("_law_outcome", none)) (fdAt K (He.fAd K ("_law_outcome", none))) ["state"] (spOut K) := by
  refine T.F_law_outcome.ok scOu (fun vs H Q E h => ?_) (fun cdv A outer s H vs Q E hr h => ?_)
  · obtain ⟨a, r, AA, rfl, _⟩ := h
    rfl
  · obtain ⟨a, r, ⟨ml, ol, st, bo, mn⟩, rfl, rok, hI, kk⟩ := h
    have hu := Nat.lt_of_le_of_lt (Nat.add_le_add_left (by decide : 1 ≤ 64) _) hr.units
    refine ⟨_, PSs.nox (pss_cons (ps_set (i := 1) scOu.nd rfl (Or.inl rfl) pe_non)
      (pss_cons (ps_if (pt_val (pe_dget hu (pv 0) pe_str (fun _ _ => rfl))) (pss_one (ps_set (i := 1) scOu.nd rfl (Or.inl rfl) (pe_dget hu (pv 0) pe_str (fun _ _ => rfl)))) pss_nil)
      (pss_cons (ps_set (i := 2) scOu.nd rfl (Or.inl rfl) (pe_tup (pa_cons (pe_dget hu (pv 0) pe_str (fun _ _ => rfl)) (pa_cons (pe_dget hu (pv 0) pe_str (fun _ _ => rfl)) (pa_cons (pe_callTy call_tuple_of (by rfl) T.n_tuple PyProof.Rows.Boot.«tuple» (pa_cons (pe_dget hu (pv 0) pe_str (fun _ _ => rfl)) pa_nil)) (pa_cons (pe_callTy call_tuple_of (by rfl) T.n_tuple PyProof.Rows.Boot.«tuple» (pa_cons (pe_callB (r := rSortedPO K) cr_sortedPO (by rfl) T.n_sorted PyProof.Rows.Boot.«sorted» (pa_cons (pe_dget hu (pv 0) pe_str (fun _ _ => rfl)) pa_nil)) pa_nil)) (pa_cons (pv 1) pa_nil)))))))
      (pss_one (ps_ret (pe_op (show OpR _ _ (rCatT K) from op_catT) (pv 2) (pe_tup (pa_cons (pe_callTy call_tuple_of (by rfl) T.n_tuple PyProof.Rows.Boot.«tuple» (pa_cons (pe_dget hu (pv 0) pe_str (fun _ _ => rfl)) pa_nil)) (pa_cons (pe_dget hu (pv 0) pe_str (fun _ _ => rfl)) pa_nil))))))))), ?_⟩
    obtain ⟨g0, th, mt, ha, hth, hg, hmt, hml, hol, sv, bv, rows, hst, hpr, hrow, hbo, hbv⟩ := hI
    have g : ∀ {Hx : Hp} {kvs : List (Key × V)} (n : Str) (z : V), Hx a = some (.dK kvs) → valV kvs (.inr n) = some z → DGet Hx a (.str n) (some z) := fun n z h0 h => by
      rw [← h]
      exact DGet.k (k := .inr n) h0
    obtain ⟨f, ⟨sd, dr⟩, x⟩ := r
    dsimp only at ha hg hmt hml hol hrow hbv
    have kx : ∀ y ∈ sv, ∃ t, y = V.ref t ∧ H t = some (.tup [.int (kOf H y).1, .int (kOf H y).2]) := fun y hy => by
      obtain ⟨i, hi, rfl⟩ := List.mem_iff_getElem.mp hy
      obtain ⟨t, h1, h2⟩ := hpr.2 i (rows[i]'(by rw [← hpr.1]; exact hi)) (List.getElem?_eq_getElem _)
      rw [List.getElem?_eq_getElem hi] at h1
      injection h1 with h1
      rw [h1, kOf_eq h2]
      exact ⟨t, rfl, h2⟩
    have kmap : sv.map (kOf H) = rows := by
      refine List.ext_getElem (by rw [List.length_map, hpr.1]) fun i h1 h2 => ?_
      obtain ⟨t, g1, g2⟩ := hpr.2 i rows[i] (List.getElem?_eq_getElem h2)
      rw [List.length_map] at h1
      rw [List.getElem?_eq_getElem h1] at g1
      injection g1 with g1
      rw [List.getElem_map, g1, kOf_eq g2]
    refine ⟨_, rfl, a, .bl dr, rfl, g "drew" _ ha rfl, dr, rfl, ?_⟩
    cases dr with
    | true =>
      refine iteT ⟨_, rfl, a, ov sd, rfl, g "seed" _ ha rfl, ?_⟩
      refine ⟨_, rfl, a, .int f.dx, rfl, g "dx" _ ha rfl, _, rfl, a, .int f.dy, rfl, g "dy" _ ha rfl, _, rfl, a, .ref ol, rfl, g "own" _ ha rfl, ?_⟩
      refine ⟨ol, _, rfl, .inl ⟨SqL.of hol, fun l1 nl1 => ?_⟩⟩
      have s1 := new_same (o := .tup (f.own.map V.int)) nl1
      refine ⟨_, rfl, a, .ref st, rfl, g "set" _ (s1 _ _ ha) rfl, st, sv, kOf H, rfl, SqL.of (s1 _ _ hst), fun y hy => ?_, fun ys p2 hsr hstb np2 => ?_⟩
      · obtain ⟨t, h1, h2⟩ := kx y hy
        exact ⟨t, h1, s1 _ _ h2⟩
      have s2 := s1.trans (new_same (o := .lst ys) np2)
      refine ⟨p2, _, rfl, .inl ⟨SqL.of upd_same, fun l3 nl3 => ?_⟩⟩
      have s3 := s2.trans (new_same (o := .tup ys) nl3)
      have eys : ys.map (kOf H) = canonR 0 x.set := by
        refine rows_canon hrow ?_ ?_
        · rw [← kmap]
          exact hstb.perm.map _
        · refine List.pairwise_map.mpr (hsr.imp fun {u v} h => ?_)
          have := SrtO.lexB_no.mp h
          omega
      have dys : ∀ Hx : Hp, Same H Hx → DpAll K Hx ys ((canonR 0 x.set).map prT) := fun Hx sx => by
        rw [← eys, List.map_map]
        exact dpa_of ys _ fun y hy => by
          obtain ⟨t, h1, h2⟩ := kx y (hstb.perm.mem_iff.mp hy)
          rw [h1]
          rw [h1] at h2
          exact .tup (SqT.of (sx _ _ h2)) (.cons (.int _) (.cons (.int _) .nil))
      refine ⟨_, rfl, (show 5 ≤ sizeLine by decide), fun m nm => ?_⟩
      have s4 := s3.trans (new_same (o := .tup [.int f.dx, .int f.dy, .ref l1, .ref l3, ov sd]) nm)
      refine ⟨_, rfl, _, rfl, a, .ref bo, rfl, g "born" _ (s4 _ _ ha) rfl, bo, _, rfl, .inl ⟨SqL.of (s4 _ _ hbo), fun l5 nl5 => ?_⟩⟩
      have s5 := s4.trans (new_same (o := .tup bv) nl5)
      refine ⟨_, rfl, a, .bl x.gone, rfl, g "gone" _ (s5 _ _ ha) rfl, (show 2 ≤ sizeLine by decide), fun m2 nm2 => ?_⟩
      have t6 := new_same (o := .tup [.ref l5, .bl x.gone]) nm2
      have s6 := s5.trans t6
      have w4 := (new_same (o := .tup [.int f.dx, .int f.dy, .ref l1, .ref l3, ov sd]) nm)
      have w5 := new_same (o := .tup bv) nl5
      have w3 := new_same (o := .tup ys) nl3
      refine ⟨m, m2, _, _, rfl, rfl, SqT.of ((w5.trans t6) _ _ upd_same), SqT.of upd_same, by simp, (show 7 ≤ sizeLine by decide), (fun e => nomatch e), fun _ q nq => ?_⟩
      have t7 := new_same (o := .tup [.int f.dx, .int f.dy, .ref l1, .ref l3, ov sd, .ref l5, .bl x.gone]) nq
      refine kk (.ref q) _ (.tup (SqT.of upd_same) (.cons (.int _) (.cons (.int _) (.cons (.tup (SqT.of ((((((new_same (o := .lst ys) np2).trans w3).trans w4).trans w5).trans t6).trans t7 _ _ upd_same)) (dpa_ints f.own)) (.cons (.tup (SqT.of (((w4.trans w5).trans t6).trans t7 _ _ upd_same)) (dys _ (s6.trans t7))) (.cons (dp_oi sd) (.cons (.tup (SqT.of ((t6.trans t7) _ _ upd_same)) (dpa_nl (same_tf (s6.trans t7)) _ _ (nl_born _) hbv)) (.cons (.bl _) .nil)))))))) (s6.trans t7)
    | false =>
      refine iteF ?_
      refine ⟨_, rfl, a, .int f.dx, rfl, g "dx" _ ha rfl, _, rfl, a, .int f.dy, rfl, g "dy" _ ha rfl, _, rfl, a, .ref ol, rfl, g "own" _ ha rfl, ?_⟩
      refine ⟨ol, _, rfl, .inl ⟨SqL.of hol, fun l1 nl1 => ?_⟩⟩
      have s1 := new_same (o := .tup (f.own.map V.int)) nl1
      refine ⟨_, rfl, a, .ref st, rfl, g "set" _ (s1 _ _ ha) rfl, st, sv, kOf H, rfl, SqL.of (s1 _ _ hst), fun y hy => ?_, fun ys p2 hsr hstb np2 => ?_⟩
      · obtain ⟨t, h1, h2⟩ := kx y hy
        exact ⟨t, h1, s1 _ _ h2⟩
      have s2 := s1.trans (new_same (o := .lst ys) np2)
      refine ⟨p2, _, rfl, .inl ⟨SqL.of upd_same, fun l3 nl3 => ?_⟩⟩
      have s3 := s2.trans (new_same (o := .tup ys) nl3)
      have eys : ys.map (kOf H) = canonR 0 x.set := by
        refine rows_canon hrow ?_ ?_
        · rw [← kmap]
          exact hstb.perm.map _
        · refine List.pairwise_map.mpr (hsr.imp fun {u v} h => ?_)
          have := SrtO.lexB_no.mp h
          omega
      have dys : ∀ Hx : Hp, Same H Hx → DpAll K Hx ys ((canonR 0 x.set).map prT) := fun Hx sx => by
        rw [← eys, List.map_map]
        exact dpa_of ys _ fun y hy => by
          obtain ⟨t, h1, h2⟩ := kx y (hstb.perm.mem_iff.mp hy)
          rw [h1]
          rw [h1] at h2
          exact .tup (SqT.of (sx _ _ h2)) (.cons (.int _) (.cons (.int _) .nil))
      refine ⟨_, rfl, (show 5 ≤ sizeLine by decide), fun m nm => ?_⟩
      have s4 := s3.trans (new_same (o := .tup [.int f.dx, .int f.dy, .ref l1, .ref l3, ov none]) nm)
      refine ⟨_, rfl, _, rfl, a, .ref bo, rfl, g "born" _ (s4 _ _ ha) rfl, bo, _, rfl, .inl ⟨SqL.of (s4 _ _ hbo), fun l5 nl5 => ?_⟩⟩
      have s5 := s4.trans (new_same (o := .tup bv) nl5)
      refine ⟨_, rfl, a, .bl x.gone, rfl, g "gone" _ (s5 _ _ ha) rfl, (show 2 ≤ sizeLine by decide), fun m2 nm2 => ?_⟩
      have t6 := new_same (o := .tup [.ref l5, .bl x.gone]) nm2
      have s6 := s5.trans t6
      have w4 := (new_same (o := .tup [.int f.dx, .int f.dy, .ref l1, .ref l3, ov none]) nm)
      have w5 := new_same (o := .tup bv) nl5
      have w3 := new_same (o := .tup ys) nl3
      refine ⟨m, m2, _, _, rfl, rfl, SqT.of ((w5.trans t6) _ _ upd_same), SqT.of upd_same, by simp, (show 7 ≤ sizeLine by decide), (fun e => nomatch e), fun _ q nq => ?_⟩
      have t7 := new_same (o := .tup [.int f.dx, .int f.dy, .ref l1, .ref l3, ov none, .ref l5, .bl x.gone]) nq
      refine kk (.ref q) _ (.tup (SqT.of upd_same) (.cons (.int _) (.cons (.int _) (.cons (.tup (SqT.of ((((((new_same (o := .lst ys) np2).trans w3).trans w4).trans w5).trans t6).trans t7 _ _ upd_same)) (dpa_ints f.own)) (.cons (.tup (SqT.of (((w4.trans w5).trans t6).trans t7 _ _ upd_same)) (dys _ (s6.trans t7))) (.cons (dp_oi none) (.cons (.tup (SqT.of ((t6.trans t7) _ _ upd_same)) (dpa_nl (same_tf (s6.trans t7)) _ _ (nl_born _) hbv)) (.cons (.bl _) .nil)))))))) (s6.trans t7)
/-! ### _law_told -/
theorem Ru.nl_out (r : Ru) : NL r.out := by
  refine ⟨trivial, trivial, nl_ints _, nl_pr _, ?_, nl_born _, trivial, trivial⟩
  cases (if r.s.dr then r.s.s else none) <;> trivial
def spTold (K : PySem.W.Frag) : Sp := fun vs H Q _ => ∃ (t : Addr) (xs : List V) (ds : List De) (v : V) (f : Fx), vs = [.ref t, v] ∧ SqT K H t xs ∧ DpAll K H xs (ds.map De.py) ∧ (∀ d ∈ ds, d.ok) ∧ deps ds ≤ 8 ∧ Dp K H v f.py ∧ f.ok ∧ hasAll ⟨f, ⟨f.seed, false⟩, Bx0⟩ ds ∧
    ∀ t' u H', H' t' = some (.tup [u, .int (cntDs ds ⟨f, ⟨f.seed, false⟩, Bx0⟩ : Int)]) → Dp K H' u (runs ds ⟨f, ⟨f.seed, false⟩, Bx0⟩).out → Same H H' → Q (.ref t') H'
theorem run0_ok {f : Fx} (h : f.ok) : Ru.ok ⟨f, ⟨f.seed, false⟩, Bx0⟩ := ⟨h, h.seed, ⟨rfl, Nat.zero_le _, fun b hb => nomatch hb⟩⟩
theorem scTo : FnScope ["rules", "facts", "state"] ["rules", "facts"] (defScope s_law_told) := ⟨rfl, rfl, rfl, by decide +kernel, rfl, by decide +kernel, by decide +kernel⟩
theorem ok_law_told (T : Txt K w mg) : FnOk P w K mg base CX0 12 (He.fAd K ("_law_told", none)) (fdAt K (He.fAd K ("_law_told", none))) ["rules", "facts"] (spTold K) := by
  refine T.F_law_told.ok scTo (fun vs H Q E h => ?_) (fun cdv A outer s H vs Q E hr h => ?_)
  · obtain ⟨t, xs, ds, v, f, rfl, _⟩ := h
    rfl
  · obtain ⟨t, xs, ds, v, f, rfl, ht, hds, ok, dep, hv, okf, has, kk⟩ := h
    have hu := Nat.lt_of_le_of_lt (Nat.add_le_add_left (by decide : 1 ≤ 64) _) hr.units
    refine ⟨_, PSs.nox (pss_cons (ps_set (i := 2) scTo.nd rfl (Or.inl rfl) (pe_call (ok_law_state T) (hr.mono (by decide)) (by rfl) T.g_law_state (T.F_law_state).kp T.b_law_state .nil pass0 (pa_cons (pv 1) pa_nil)))
      (pss_cons (ps_expr (pe_call (ok_law_done T 8) (hr.mono (by omega)) (by rfl) T.g_law_done (T.F_law_done).kp T.b_law_done .nil pass0 (pa_cons (pv 0) (pa_cons (pv 2) pa_nil))))
      (pss_one (ps_ret (pe_tup (pa_cons (pe_call (ok_law_outcome T) (hr.mono (by decide)) (by rfl) T.g_law_outcome (T.F_law_outcome).kp T.b_law_outcome .nil pass0 (pa_cons (pv 2) pa_nil)) (pa_cons (pe_dget hu (pv 2) pe_str (fun _ _ => rfl)) pa_nil))))))), ?_⟩
    refine ⟨_, rfl, v, f, rfl, hv, okf, fun a H1 AA I1 e1 s1 na => ?_⟩
    refine ⟨_, rfl, _, rfl, t, a, xs, ds, ⟨f, ⟨f.seed, false⟩, Bx0⟩, AA, rfl, (same_tf s1).sq ht, dpa_nl (same_tf s1) _ _ (nl_des _) hds, ok, dep, run0_ok okf, has, I1, fun H2 AA2 I2 e2 fr2 => ?_⟩
    refine ⟨_, rfl, a, _, AA2, rfl, runs_ok ds _ (run0_ok okf), I2, fun u H3 du s3 => ?_⟩
    obtain ⟨kvs, hk, dg, _, _⟩ := (I2.same s3).inc
    refine ⟨_, rfl, a, .int AA2.mn, rfl, dg, (show 2 ≤ sizeLine by decide), fun p np => ?_⟩
    rw [e2, e1, Int.zero_add]
    exact kk p u _ upd_same (dp_nl (TF.of_new np) _ _ (Ru.nl_out _) du) fun b o z => new_same np _ _ (s3 _ _ (fr2 _ _ (ne_of_none z na) (s1 _ _ z)))
end
end K5
set_option maxRecDepth 100000
set_option maxHeartbeats 2000000
/-! The program's reading object. -/
namespace K5
open PySem PySem.Spec PyProof.Rows L2 KF
def rdF (th mt ol ml ms bo : V) (dx dy press : Int) (seed : V) (here below : Str) (dr gn : Bool) : List (Str × V) :=
  [("thing", th), ("dx", .int dx), ("dy", .int dy), ("own", ol), ("press", .int press), ("marks", ml), ("seed", seed), ("met", mt), ("here", .str here), ("below", .str below), ("marks_set", ms), ("drawn", .bl dr), ("births", bo), ("gone", .bl gn)]
/-- the dict of the marks that were set -/
def DkOk (kvs : List (Key × V)) (set : List (Option Int)) : Prop := (∃ ks : List Int, kvs.map (·.1) = ks.map Sum.inl ∧ ks.Nodup ∧ ∀ i, i ∈ ks ↔ ∃ (k : Nat) (n : Int), i = (k : Int) ∧ set[k]? = some (some n)) ∧ ∀ (k : Nat) (n : Int), set[k]? = some (some n) → valV kvs (.inl (k : Int)) = some (.int n)
theorem dk0 : DkOk [] (List.replicate 16 none) := by
  have no : ∀ (k : Nat) (n : Int), ¬ (List.replicate 16 (none : Option Int))[k]? = some (some n) := fun k n h => by
    have := List.eq_of_mem_replicate (List.mem_of_getElem? h)
    cases this
  exact ⟨⟨[], rfl, List.nodup_nil, fun i => ⟨fun h => (List.not_mem_nil h).elim, fun ⟨k, n, _, h⟩ => (no k n h).elim⟩⟩, fun k n h => (no k n h).elim⟩
theorem dk_put {kvs : List (Key × V)} {set : List (Option Int)} {i : Nat} {n : Int} (h : DkOk kvs set) (hi : i < set.length) : DkOk (putK kvs (.inl (i : Int)) (.int n)) (set.set i (some n)) := by
  obtain ⟨⟨ks, h1, h2, h3⟩, h4⟩ := h
  refine ⟨?_, fun k m hk => ?_⟩
  · have hany : (kvs.any fun kv => decide (kv.1 = .inl (i : Int))) = decide ((i : Int) ∈ ks) := by
      have e : (kvs.any fun kv => decide (kv.1 = .inl (i : Int))) = ((kvs.map (·.1)).any fun k => decide (k = .inl (i : Int))) := by
        rw [List.any_map]
        rfl
      rw [e, h1, List.any_map]
      rw [Bool.eq_iff_iff]
      simp
    have hmem : ∀ j, (j ∈ ks ∨ j = (i : Int)) ↔ ∃ (k : Nat) (m : Int), j = (k : Int) ∧ (set.set i (some n))[k]? = some (some m) := fun j => by
      rw [h3]
      constructor
      · rintro (⟨k, m, rfl, hk⟩ | rfl)
        · by_cases e : i = k
          · subst e
            exact ⟨i, n, rfl, List.getElem?_set_self hi⟩
          · exact ⟨k, m, rfl, by rw [List.getElem?_set_ne e]; exact hk⟩
        · exact ⟨i, n, rfl, List.getElem?_set_self hi⟩
      · rintro ⟨k, m, rfl, hk⟩
        by_cases e : i = k
        · exact .inr (by rw [e])
        · rw [List.getElem?_set_ne e] at hk
          exact .inl ⟨k, m, rfl, hk⟩
    unfold putK
    rw [hany]
    by_cases hin : (i : Int) ∈ ks
    · rw [if_pos (decide_eq_true hin)]
      refine ⟨ks, ?_, h2, fun j => ?_⟩
      · rw [← h1, List.map_map]
        refine List.map_congr_left fun kv _ => ?_
        show (if kv.1 = .inl (i : Int) then (kv.1, V.int n) else kv).1 = kv.1
        split <;> rfl
      · rw [← hmem]
        constructor
        · exact fun h => .inl h
        · rintro (h | rfl)
          · exact h
          · exact hin
    · rw [if_neg (fun z => hin (of_decide_eq_true z))]
      refine ⟨ks ++ [(i : Int)], ?_, ?_, fun j => ?_⟩
      · rw [List.map_append, h1, List.map_append]
        rfl
      · rw [List.nodup_append]
        refine ⟨h2, by simp, fun x hx y hy => ?_⟩
        simp at hy
        subst hy
        exact fun e => hin (by rw [← e]; exact hx)
      · rw [← hmem]
        simp
  · rw [valV_put]
    by_cases e : i = k
    · subst e
      rw [List.getElem?_set_self hi] at hk
      injection hk with hk
      injection hk with hk
      rw [if_pos rfl, hk]
    · rw [List.getElem?_set_ne e] at hk
      rw [if_neg (fun z => e (by injection z with z; omega))]
      exact h4 k m hk
structure Pd where
  ol : Addr
  ml : Addr
  ms : Addr
  bo : Addr
def Pst (K : PySem.W.Frag) (H : Hp) (ms bo : Addr) (x : Bx) : Prop := ∃ (kvs : List (Key × V)) (bv : List V), H ms = some (.dK kvs) ∧ DkOk kvs x.set ∧ H bo = some (.lst bv) ∧ DpAll K H bv (x.born.map intTs)
def RInv (K : PySem.W.Frag) (H : Hp) (a : Addr) (f : Fx) (s : Sd) (x : Bx) : Pd → Prop
  | ⟨ol, ml, ms, bo⟩ => ∃ (dx : Addr) (g : Fx) (th mt : V), H a = some (.ins (He.ga K "Reading") dx (rdF th mt (.ref ol) (.ref ml) (.ref ms) (.ref bo) f.dx f.dy f.press (ov s.s) f.here f.below s.dr x.gone)) ∧
    Dp K H th g.thing ∧ (g.x = f.x ∧ g.y = f.y ∧ g.rest = f.rest) ∧ Dp K H mt (.tuple (f.met.map Mt.py)) ∧ H ml = some (.lst (f.marks.map ov)) ∧ H ol = some (.lst (f.own.map V.int)) ∧ Pst K H ms bo x
theorem Pst.same {K : PySem.W.Frag} {H H' : Hp} {ms bo : Addr} {x : Bx} (h : Pst K H ms bo x) (e : Same H H') : Pst K H' ms bo x := by
  obtain ⟨kvs, bv, h1, h2, h3, h4⟩ := h
  exact ⟨kvs, bv, e _ _ h1, h2, e _ _ h3, dpa_nl (same_tf e) _ _ (nl_born _) h4⟩
theorem Pst.frm {K : PySem.W.Frag} {H H' : Hp} {a C dx ms bo : Addr} {fs : List (Str × V)} {x : Bx} (h : Pst K H ms bo x) (f : Frm a H H') (ha : H a = some (.ins C dx fs)) : Pst K H' ms bo x := by
  obtain ⟨kvs, bv, h1, h2, h3, h4⟩ := h
  have tf : TF H H' := fun c ys z => by
    rcases z with z | ⟨u, z⟩
    · exact .inl (f c _ (fun q => by rw [q, ha] at z; cases z) z)
    · exact .inr ⟨u, f c _ (fun q => by rw [q, ha] at z; cases z) z⟩
  exact ⟨kvs, bv, f _ _ (fun q => by rw [q, ha] at h1; cases h1) h1, h2, f _ _ (fun q => by rw [q, ha] at h3; cases h3) h3, dpa_nl tf _ _ (nl_born _) h4⟩
theorem Frm.tfi {a C dx : Addr} {H H' : Hp} {fs : List (Str × V)} (e : Frm a H H') (h : H a = some (.ins C dx fs)) : TF H H' := fun c ys z => by
  rcases z with z | ⟨u, z⟩
  · exact .inl (e c _ (fun q => by rw [q, h] at z; cases z) z)
  · exact .inr ⟨u, e c _ (fun q => by rw [q, h] at z; cases z) z⟩
structure JI (C : Addr) (H Hx : Hp) (a dx : Addr) (fs : List (Str × V)) : Prop where
  d : Hx a = some (.ins C dx fs)
  s : Frm a H Hx
theorem JI.tf {C : Addr} {H Hx : Hp} {a dx : Addr} {fs fs0 : List (Str × V)} (j : JI C H Hx a dx fs) (h : H a = some (.ins C dx fs0)) : TF H Hx := Frm.tfi j.s h
theorem JI.put {C : Addr} {H Hx : Hp} {a dx : Addr} {fs : List (Str × V)} (j : JI C H Hx a dx fs) (fs' : List (Str × V)) : JI C H (upd Hx a (.ins C dx fs')) a dx fs' := ⟨upd_same, j.s.trans Frm.of_upd⟩
theorem JI.new {C : Addr} {H Hx : Hp} {a dx l : Addr} {fs : List (Str × V)} (j : JI C H Hx a dx fs) (h : Hx l = none) (o : HO) : JI C H (upd Hx l o) a dx fs := ⟨new_same h _ _ j.d, j.s.trans (Frm.of_new h)⟩
section
variable {P : Program} {w : World} {K : PySem.W.Frag} {mg : Str → Option Value} {base : Heap}
def spInit (K : PySem.W.Frag) : Sp := fun vs H Q _ => ∃ (a dx : Addr) (v : V) (f : Fx), vs = [.ref a, v] ∧ H a = some (.ins (He.ga K "Reading") dx []) ∧ Dp K H v f.py ∧ f.ok ∧ ∀ H' A, RInv K H' a f ⟨f.seed, false⟩ Bx0 A → Frm a H H' → (∀ b o, b ≠ a → H b = some o → b ≠ A.ol ∧ b ≠ A.ml ∧ b ≠ A.ms ∧ b ≠ A.bo) → Q .non H'
theorem scIn : FnScope ["self", "reads", "thing", "press", "marks", "seed", "met", "here", "below"] ["self", "reads"] (defScope s_Reading_init) := ⟨rfl, rfl, rfl, by decide +kernel, rfl, by decide +kernel, by decide +kernel⟩
theorem ok_Reading_init (T : Txt K w mg) : FnOk P w K mg base CX0 1 (He.fAd K ("Reading", some "__init__")) (fdAt K (He.fAd K ("Reading", some "__init__"))) ["self", "reads"] (spInit K) := by
  refine T.F_Reading_init.ok scIn (fun vs H Q E h => ?_) (fun cdv A outer s H vs Q E hr h => ?_)
  · obtain ⟨a, dx, v, f, rfl, _⟩ := h
    rfl
  · obtain ⟨a, dx, v, f, rfl, ha, hd, hf, kk⟩ := h
    refine ⟨_, PSs.nox (pss_cons (ps_asg (pv 1) (pg_tup (by rfl) (pgs_cons (pg_name (i := 2) scIn.nd rfl (Or.inl rfl)) (pgs_cons (pg_name (i := 3) scIn.nd rfl (Or.inl rfl)) (pgs_cons (pg_name (i := 4) scIn.nd rfl (Or.inl rfl)) (pgs_cons (pg_name (i := 5) scIn.nd rfl (Or.inl rfl)) (pgs_cons (pg_name (i := 6) scIn.nd rfl (Or.inl rfl)) (pgs_cons (pg_name (i := 7) scIn.nd rfl (Or.inl rfl)) (pgs_cons (pg_name (i := 8) scIn.nd rfl (Or.inl rfl)) pgs_nil)))))))))
      (pss_cons (ps_fld (pv 0) (pv 2) rfl)
      (pss_cons (ps_fld (pv 0) (pe_ix (r := rIxT K) ix_tup (pv 2) pe_int (fun _ _ => rfl)) rfl)
      (pss_cons (ps_fld (pv 0) (pe_ix (r := rIxT K) ix_tup (pv 2) pe_int (fun _ _ => rfl)) rfl)
      (pss_cons (ps_fld (pv 0) (pe_callTy call_list_of (by rfl) T.n_list PyProof.Rows.Boot.«list» (pa_cons (pe_ix (r := rIxT K) ix_tup (pv 2) pe_int (fun _ _ => rfl)) pa_nil)) rfl)
      (pss_cons (ps_fld (pv 0) (pv 3) rfl)
      (pss_cons (ps_fld (pv 0) (pe_callTy call_list_of (by rfl) T.n_list PyProof.Rows.Boot.«list» (pa_cons (pv 4) pa_nil)) rfl)
      (pss_cons (ps_fld (pv 0) (pv 5) rfl)
      (pss_cons (ps_fld (pv 0) (pv 6) rfl)
      (pss_cons (ps_fld (pv 0) (pv 7) rfl)
      (pss_cons (ps_fld (pv 0) (pv 8) rfl)
      (pss_cons (ps_fld (pv 0) pe_dnewK rfl)
      (pss_cons (ps_fld (pv 0) pe_bl rfl)
      (pss_cons (ps_fld (pv 0) (pe_lst pa_nil) rfl)
      (pss_one (ps_fld (pv 0) pe_bl rfl)))))))))))))))), ?_⟩
    obtain ⟨r, xs, rfl, sq, all⟩ := dp_tup hd
    cases all with
    | @cons th _ _ _ hth r1 =>
    cases r1 with
    | cons hpr r2 =>
    cases r2 with
    | @cons mk _ _ _ hmk r3 =>
    cases r3 with
    | @cons se _ _ _ hse r4 =>
    cases r4 with
    | @cons mt _ _ _ hmt r5 =>
    cases r5 with
    | cons hhe r6 =>
    cases r6 with
    | cons hbe r7 =>
    cases r7
    cases hpr
    cases hhe
    cases hbe
    cases dp_oint hse
    obtain ⟨tr, txs, rfl, tsq, tall⟩ := dp_tup hth
    obtain ⟨mr, mxs, rfl, msq, mall⟩ := dp_tup hmk
    cases dpa_oints mall
    cases tall with
    | cons h1 r1 =>
    cases r1 with
    | cons h2 r2 =>
    cases r2 with
    | cons h3 r3 =>
    cases r3 with
    | cons h4 r4 =>
    cases r4 with
    | cons h5 r5 =>
    cases r5 with
    | cons h6 r6 =>
    cases r6 with
    | cons h7 r7 =>
    cases r7 with
    | @cons ow _ _ _ how r8 =>
    cases r8
    cases h1
    cases h2
    cases h3
    cases h4
    cases h5
    cases h6
    cases h7
    obtain ⟨orr, oxs, rfl, osq, oall⟩ := dp_tup how
    cases dpa_intsV oall
    refine ⟨_, rfl, r, _, rfl, sq, rfl, ?_⟩
    refine ⟨_, _, rfl, _, _, rfl, _, _, rfl, _, _, rfl, _, _, rfl, _, _, rfl, _, _, rfl, rfl, ?_⟩
    have sT : ∀ {Hx : Hp} {fs : List (Str × V)}, JI (He.ga K "Reading") H Hx a dx fs → SqT K Hx tr [.int f.kind, .int f.house, .int f.x, .int f.y, .int f.dx, .int f.dy, .int f.rest, .ref orr] := fun j => (j.tf ha).sq tsq
    have j0 : JI (He.ga K "Reading") H H a dx [] := ⟨ha, Frm.refl _ _⟩
    have e0 : putF "thing" (.ref tr) ([] : List (Str × V)) = ([("thing", .ref tr)] : List (Str × V)) := rfl
    refine ⟨_, rfl, _, rfl, a, _, dx, _, rfl, j0.d, T.k_Reading, T.a_Reading_thing, (show 0 < 1000 by decide), ?_⟩
    rw [e0]
    have j1 := JI.put j0 ([("thing", .ref tr)] : List (Str × V))
    have e1 : putF "dx" (.int f.dx) ([("thing", .ref tr)] : List (Str × V)) = ([("thing", .ref tr), ("dx", .int f.dx)] : List (Str × V)) := rfl
    refine ⟨_, rfl, tr, _, _, _, rfl, rfl, sT j1, atI_nat (j := 4) rfl, _, rfl, a, _, dx, _, rfl, j1.d, T.k_Reading, T.a_Reading_dx, (show 1 < 1000 by decide), ?_⟩
    rw [e1]
    have j2 := JI.put j1 ([("thing", .ref tr), ("dx", .int f.dx)] : List (Str × V))
    have e2 : putF "dy" (.int f.dy) ([("thing", .ref tr), ("dx", .int f.dx)] : List (Str × V)) = ([("thing", .ref tr), ("dx", .int f.dx), ("dy", .int f.dy)] : List (Str × V)) := rfl
    refine ⟨_, rfl, tr, _, _, _, rfl, rfl, sT j2, atI_nat (j := 5) rfl, _, rfl, a, _, dx, _, rfl, j2.d, T.k_Reading, T.a_Reading_dy, (show 2 < 1000 by decide), ?_⟩
    rw [e2]
    have j3 := JI.put j2 ([("thing", .ref tr), ("dx", .int f.dx), ("dy", .int f.dy)] : List (Str × V))
    refine ⟨_, rfl, tr, _, _, _, rfl, rfl, sT j3, atI_nat (j := 7) rfl, orr, _, rfl, .inr ((j3.tf ha).sq osq), fun ol nol => ?_⟩
    have ola : ol ≠ a := (ne_of_none j3.d nol).symm
    have nolH : ∀ b o, b ≠ a → H b = some o → b ≠ ol := fun b o hb z e => by
      rw [e] at z hb
      rw [j3.s _ _ hb z] at nol
      cases nol
    have j3 := JI.new j3 nol (.lst (f.own.map V.int))
    have e3 : putF "own" (.ref ol) ([("thing", .ref tr), ("dx", .int f.dx), ("dy", .int f.dy)] : List (Str × V)) = ([("thing", .ref tr), ("dx", .int f.dx), ("dy", .int f.dy), ("own", .ref ol)] : List (Str × V)) := rfl
    refine ⟨_, rfl, a, _, dx, _, rfl, j3.d, T.k_Reading, T.a_Reading_own, (show 3 < 1000 by decide), ?_⟩
    rw [e3]
    have j4 := JI.put j3 ([("thing", .ref tr), ("dx", .int f.dx), ("dy", .int f.dy), ("own", .ref ol)] : List (Str × V))
    have e4 : putF "press" (.int f.press) ([("thing", .ref tr), ("dx", .int f.dx), ("dy", .int f.dy), ("own", .ref ol)] : List (Str × V)) = ([("thing", .ref tr), ("dx", .int f.dx), ("dy", .int f.dy), ("own", .ref ol), ("press", .int f.press)] : List (Str × V)) := rfl
    refine ⟨_, rfl, _, rfl, a, _, dx, _, rfl, j4.d, T.k_Reading, T.a_Reading_press, (show 4 < 1000 by decide), ?_⟩
    rw [e4]
    have j5 := JI.put j4 ([("thing", .ref tr), ("dx", .int f.dx), ("dy", .int f.dy), ("own", .ref ol), ("press", .int f.press)] : List (Str × V))
    refine ⟨_, rfl, mr, _, rfl, .inr ((j5.tf ha).sq msq), fun ml nml => ?_⟩
    have mla : ml ≠ a := (ne_of_none j5.d nml).symm
    have nmlH : ∀ b o, b ≠ a → H b = some o → b ≠ ml := fun b o hb z e => by
      rw [e] at z hb
      rw [j5.s _ _ hb z] at nml
      cases nml
    have j5 := JI.new j5 nml (.lst (f.marks.map ov))
    have e5 : putF "marks" (.ref ml) ([("thing", .ref tr), ("dx", .int f.dx), ("dy", .int f.dy), ("own", .ref ol), ("press", .int f.press)] : List (Str × V)) = ([("thing", .ref tr), ("dx", .int f.dx), ("dy", .int f.dy), ("own", .ref ol), ("press", .int f.press), ("marks", .ref ml)] : List (Str × V)) := rfl
    refine ⟨_, rfl, a, _, dx, _, rfl, j5.d, T.k_Reading, T.a_Reading_marks, (show 5 < 1000 by decide), ?_⟩
    rw [e5]
    have j6 := JI.put j5 ([("thing", .ref tr), ("dx", .int f.dx), ("dy", .int f.dy), ("own", .ref ol), ("press", .int f.press), ("marks", .ref ml)] : List (Str × V))
    have e6 : putF "seed" (ov f.seed) ([("thing", .ref tr), ("dx", .int f.dx), ("dy", .int f.dy), ("own", .ref ol), ("press", .int f.press), ("marks", .ref ml)] : List (Str × V)) = ([("thing", .ref tr), ("dx", .int f.dx), ("dy", .int f.dy), ("own", .ref ol), ("press", .int f.press), ("marks", .ref ml), ("seed", ov f.seed)] : List (Str × V)) := rfl
    refine ⟨_, rfl, _, rfl, a, _, dx, _, rfl, j6.d, T.k_Reading, T.a_Reading_seed, (show 6 < 1000 by decide), ?_⟩
    rw [e6]
    have j7 := JI.put j6 ([("thing", .ref tr), ("dx", .int f.dx), ("dy", .int f.dy), ("own", .ref ol), ("press", .int f.press), ("marks", .ref ml), ("seed", ov f.seed)] : List (Str × V))
    have e7 : putF "met" (mt) ([("thing", .ref tr), ("dx", .int f.dx), ("dy", .int f.dy), ("own", .ref ol), ("press", .int f.press), ("marks", .ref ml), ("seed", ov f.seed)] : List (Str × V)) = ([("thing", .ref tr), ("dx", .int f.dx), ("dy", .int f.dy), ("own", .ref ol), ("press", .int f.press), ("marks", .ref ml), ("seed", ov f.seed), ("met", mt)] : List (Str × V)) := rfl
    refine ⟨_, rfl, _, rfl, a, _, dx, _, rfl, j7.d, T.k_Reading, T.a_Reading_met, (show 7 < 1000 by decide), ?_⟩
    rw [e7]
    have j8 := JI.put j7 ([("thing", .ref tr), ("dx", .int f.dx), ("dy", .int f.dy), ("own", .ref ol), ("press", .int f.press), ("marks", .ref ml), ("seed", ov f.seed), ("met", mt)] : List (Str × V))
    have e8 : putF "here" (.str f.here) ([("thing", .ref tr), ("dx", .int f.dx), ("dy", .int f.dy), ("own", .ref ol), ("press", .int f.press), ("marks", .ref ml), ("seed", ov f.seed), ("met", mt)] : List (Str × V)) = ([("thing", .ref tr), ("dx", .int f.dx), ("dy", .int f.dy), ("own", .ref ol), ("press", .int f.press), ("marks", .ref ml), ("seed", ov f.seed), ("met", mt), ("here", .str f.here)] : List (Str × V)) := rfl
    refine ⟨_, rfl, _, rfl, a, _, dx, _, rfl, j8.d, T.k_Reading, T.a_Reading_here, (show 8 < 1000 by decide), ?_⟩
    rw [e8]
    have j9 := JI.put j8 ([("thing", .ref tr), ("dx", .int f.dx), ("dy", .int f.dy), ("own", .ref ol), ("press", .int f.press), ("marks", .ref ml), ("seed", ov f.seed), ("met", mt), ("here", .str f.here)] : List (Str × V))
    have e9 : putF "below" (.str f.below) ([("thing", .ref tr), ("dx", .int f.dx), ("dy", .int f.dy), ("own", .ref ol), ("press", .int f.press), ("marks", .ref ml), ("seed", ov f.seed), ("met", mt), ("here", .str f.here)] : List (Str × V)) = ([("thing", .ref tr), ("dx", .int f.dx), ("dy", .int f.dy), ("own", .ref ol), ("press", .int f.press), ("marks", .ref ml), ("seed", ov f.seed), ("met", mt), ("here", .str f.here), ("below", .str f.below)] : List (Str × V)) := rfl
    refine ⟨_, rfl, _, rfl, a, _, dx, _, rfl, j9.d, T.k_Reading, T.a_Reading_below, (show 9 < 1000 by decide), ?_⟩
    rw [e9]
    have j10 := JI.put j9 ([("thing", .ref tr), ("dx", .int f.dx), ("dy", .int f.dy), ("own", .ref ol), ("press", .int f.press), ("marks", .ref ml), ("seed", ov f.seed), ("met", mt), ("here", .str f.here), ("below", .str f.below)] : List (Str × V))
    refine fun ms nms => ?_
    have msa : ms ≠ a := (ne_of_none j10.d nms).symm
    have nmsH : ∀ b o, b ≠ a → H b = some o → b ≠ ms := fun b o hb z e => by
      rw [e] at z hb
      rw [j10.s _ _ hb z] at nms
      cases nms
    have j10 := JI.new j10 nms (.dK [])
    have e10 : putF "marks_set" (.ref ms) ([("thing", .ref tr), ("dx", .int f.dx), ("dy", .int f.dy), ("own", .ref ol), ("press", .int f.press), ("marks", .ref ml), ("seed", ov f.seed), ("met", mt), ("here", .str f.here), ("below", .str f.below)] : List (Str × V)) = ([("thing", .ref tr), ("dx", .int f.dx), ("dy", .int f.dy), ("own", .ref ol), ("press", .int f.press), ("marks", .ref ml), ("seed", ov f.seed), ("met", mt), ("here", .str f.here), ("below", .str f.below), ("marks_set", .ref ms)] : List (Str × V)) := rfl
    refine ⟨_, rfl, a, _, dx, _, rfl, j10.d, T.k_Reading, T.a_Reading_marks_set, (show 10 < 1000 by decide), ?_⟩
    rw [e10]
    have j11 := JI.put j10 ([("thing", .ref tr), ("dx", .int f.dx), ("dy", .int f.dy), ("own", .ref ol), ("press", .int f.press), ("marks", .ref ml), ("seed", ov f.seed), ("met", mt), ("here", .str f.here), ("below", .str f.below), ("marks_set", .ref ms)] : List (Str × V))
    have e11 : putF "drawn" (.bl false) ([("thing", .ref tr), ("dx", .int f.dx), ("dy", .int f.dy), ("own", .ref ol), ("press", .int f.press), ("marks", .ref ml), ("seed", ov f.seed), ("met", mt), ("here", .str f.here), ("below", .str f.below), ("marks_set", .ref ms)] : List (Str × V)) = ([("thing", .ref tr), ("dx", .int f.dx), ("dy", .int f.dy), ("own", .ref ol), ("press", .int f.press), ("marks", .ref ml), ("seed", ov f.seed), ("met", mt), ("here", .str f.here), ("below", .str f.below), ("marks_set", .ref ms), ("drawn", .bl false)] : List (Str × V)) := rfl
    refine ⟨_, rfl, a, _, dx, _, rfl, j11.d, T.k_Reading, T.a_Reading_drawn, (show 11 < 1000 by decide), ?_⟩
    rw [e11]
    have j12 := JI.put j11 ([("thing", .ref tr), ("dx", .int f.dx), ("dy", .int f.dy), ("own", .ref ol), ("press", .int f.press), ("marks", .ref ml), ("seed", ov f.seed), ("met", mt), ("here", .str f.here), ("below", .str f.below), ("marks_set", .ref ms), ("drawn", .bl false)] : List (Str × V))
    refine ⟨(show 0 ≤ sizeLine by decide), fun bo nbo => ?_⟩
    have boa : bo ≠ a := (ne_of_none j12.d nbo).symm
    have nboH : ∀ b o, b ≠ a → H b = some o → b ≠ bo := fun b o hb z e => by
      rw [e] at z hb
      rw [j12.s _ _ hb z] at nbo
      cases nbo
    have j12 := JI.new j12 nbo (.lst [])
    have e12 : putF "births" (.ref bo) ([("thing", .ref tr), ("dx", .int f.dx), ("dy", .int f.dy), ("own", .ref ol), ("press", .int f.press), ("marks", .ref ml), ("seed", ov f.seed), ("met", mt), ("here", .str f.here), ("below", .str f.below), ("marks_set", .ref ms), ("drawn", .bl false)] : List (Str × V)) = ([("thing", .ref tr), ("dx", .int f.dx), ("dy", .int f.dy), ("own", .ref ol), ("press", .int f.press), ("marks", .ref ml), ("seed", ov f.seed), ("met", mt), ("here", .str f.here), ("below", .str f.below), ("marks_set", .ref ms), ("drawn", .bl false), ("births", .ref bo)] : List (Str × V)) := rfl
    refine ⟨_, rfl, a, _, dx, _, rfl, j12.d, T.k_Reading, T.a_Reading_births, (show 12 < 1000 by decide), ?_⟩
    rw [e12]
    have j13 := JI.put j12 ([("thing", .ref tr), ("dx", .int f.dx), ("dy", .int f.dy), ("own", .ref ol), ("press", .int f.press), ("marks", .ref ml), ("seed", ov f.seed), ("met", mt), ("here", .str f.here), ("below", .str f.below), ("marks_set", .ref ms), ("drawn", .bl false), ("births", .ref bo)] : List (Str × V))
    have e13 : putF "gone" (.bl false) ([("thing", .ref tr), ("dx", .int f.dx), ("dy", .int f.dy), ("own", .ref ol), ("press", .int f.press), ("marks", .ref ml), ("seed", ov f.seed), ("met", mt), ("here", .str f.here), ("below", .str f.below), ("marks_set", .ref ms), ("drawn", .bl false), ("births", .ref bo)] : List (Str × V)) = ([("thing", .ref tr), ("dx", .int f.dx), ("dy", .int f.dy), ("own", .ref ol), ("press", .int f.press), ("marks", .ref ml), ("seed", ov f.seed), ("met", mt), ("here", .str f.here), ("below", .str f.below), ("marks_set", .ref ms), ("drawn", .bl false), ("births", .ref bo), ("gone", .bl false)] : List (Str × V)) := rfl
    refine ⟨_, rfl, a, _, dx, _, rfl, j13.d, T.k_Reading, T.a_Reading_gone, (show 13 < 1000 by decide), ?_⟩
    rw [e13]
    have j14 := JI.put j13 ([("thing", .ref tr), ("dx", .int f.dx), ("dy", .int f.dy), ("own", .ref ol), ("press", .int f.press), ("marks", .ref ml), ("seed", ov f.seed), ("met", mt), ("here", .str f.here), ("below", .str f.below), ("marks_set", .ref ms), ("drawn", .bl false), ("births", .ref bo), ("gone", .bl false)] : List (Str × V))
    have a1 := new_same (o := .dK []) nms
    have a2 := new_same (o := .lst []) nbo
    have a3 := new_same (o := .lst (f.marks.map ov)) nml
    refine kk _ ⟨ol, ml, ms, bo⟩ ⟨dx, f, .ref tr, mt, j14.d, dp_nl (j14.tf ha) _ _ f.nl.1 hth, ⟨rfl, rfl, rfl⟩, dp_nl (j14.tf ha) _ _ (show NL (.tuple (f.met.map Mt.py)) from nl_mets _) hmt, ?_, ?_, [], [], ?_, dk0, ?_, .nil⟩ j14.s (fun b o hb z => ⟨nolH b o hb z, nmlH b o hb z, nmsH b o hb z, nboH b o hb z⟩)
    · rw [upd_ne mla, upd_ne mla]
      refine a2 _ _ ?_
      rw [upd_ne mla, upd_ne mla]
      refine a1 _ _ ?_
      iterate 5 rw [upd_ne mla]
      exact upd_same
    · rw [upd_ne ola, upd_ne ola]
      refine a2 _ _ ?_
      rw [upd_ne ola, upd_ne ola]
      refine a1 _ _ ?_
      iterate 5 rw [upd_ne ola]
      refine a3 _ _ ?_
      iterate 2 rw [upd_ne ola]
      exact upd_same
    · rw [upd_ne msa, upd_ne msa]
      refine a2 _ _ ?_
      rw [upd_ne msa, upd_ne msa]
      exact upd_same
    · rw [upd_ne boa, upd_ne boa]
      exact upd_same
end
end K5
set_option maxRecDepth 100000
set_option maxHeartbeats 2000000
/-! The program's number. -/
namespace K5
open PySem PySem.Spec PyProof.Rows L2 KF
section
variable {P : Program} {w : World} {K : PySem.W.Frag} {mg : Str → Option Value} {base : Heap}
/-! ### next_seed -/
def spNext : Sp := fun vs H Q _ => ∃ v : Int, vs = [.int v] ∧ 0 ≤ v ∧ v ≤ 65536 ∧ Q (.int ((75 * v + 74) % 65537)) H
theorem scNs : FnScope ["seed"] ["seed"] (defScope s_next_seed) := ⟨rfl, rfl, rfl, by decide +kernel, rfl, by decide +kernel, by decide +kernel⟩
theorem ok_next_seed (T : Txt K w mg) : FnOk P w K mg base CX0 1 (He.fAd K ("next_seed", none)) (fdAt K (He.fAd K ("next_seed", none))) ["seed"] spNext := by
  refine T.F_next_seed.ok scNs (fun vs H Q E h => ?_) (fun cdv A outer s H vs Q E hr h => ?_)
  · obtain ⟨v, rfl, _⟩ := h
    rfl
  · obtain ⟨v, rfl, h1, h2, k⟩ := h
    refine ⟨_, PSs.nox (pss_one (ps_ret (pe_op op_mod (pe_op op_add (pe_op op_mulW pe_int (pv 0)) pe_int) pe_int))), ?_⟩
    have hm : CMulW 75 v := lmul ⟨by decide, by decide⟩ ⟨by omega, by omega⟩
    exact ⟨_, rfl, _, _, rfl, rfl, hm, _, _, rfl, rfl, _, _, rfl, rfl, (show (0 : Int) < 65537 by decide), k⟩
/-! ### _drawn -/
def spDrawn (K : PySem.W.Frag) : Sp := fun vs H Q _ => ∃ (n : Int) (a : Addr) (f : Fx) (v : Int) (d0 : Bool) (x : Bx) (AA : Pd), vs = [.int n, .ref a] ∧ 1 ≤ n ∧ 0 ≤ v ∧ v ≤ 65536 ∧ RInv K H a f ⟨some v, d0⟩ x AA ∧ ∀ H', RInv K H' a f ⟨some ((75 * v + 74) % 65537), true⟩ x AA → Frm a H H' → Q (.int (((75 * v + 74) % 65537) % n)) H'
theorem scDr : FnScope ["many", "reading"] ["many", "reading"] (defScope s_drawn) := ⟨rfl, rfl, rfl, by decide +kernel, rfl, by decide +kernel, by decide +kernel⟩
theorem ok_drawn (T : Txt K w mg) : FnOk P w K mg base CX0 2 (He.fAd K ("_drawn", none)) (fdAt K (He.fAd K ("_drawn", none))) ["many", "reading"] (spDrawn K) := by
  refine T.F_drawn.ok scDr (fun vs H Q E h => ?_) (fun cdv A outer s H vs Q E hr h => ?_)
  · obtain ⟨n, a, f, v, dr, x, AA, rfl, _⟩ := h
    rfl
  · obtain ⟨n, a, f, v, dr, x, ⟨ol, ml, ms, bo⟩, rfl, hn, h1, h2, ⟨dx, g0, th, mt, ha, hth, hg, hmt, hml, hol, hrest⟩, k⟩ := h
    refine ⟨_, PSs.nox (pss_cons (ps_fld (pv 1) (pe_call (ok_next_seed T) (hr.mono (by decide)) (by rfl) T.g_next_seed (T.F_next_seed).kp T.b_next_seed .nil pass0 (pa_cons (pe_fld (pv 1) rfl) pa_nil)) rfl)
      (pss_cons (ps_fld (pv 1) pe_bl rfl)
      (pss_one (ps_ret (pe_op op_mod (pe_fld (pv 1) rfl) (pv 0)))))), ?_⟩
    refine ⟨_, rfl, a, _, dx, _, .int v, rfl, ha, T.k_Reading, T.a_Reading_seed, rfl, v, rfl, h1, h2, _, rfl, a, _, dx, _, rfl, ha, T.k_Reading, T.a_Reading_seed, (show 14 < 1000 by decide), ?_⟩
    obtain ⟨v', hv'⟩ : ∃ v', v' = (75 * v + 74) % 65537 := ⟨_, rfl⟩
    have ep : putF "seed" (.int ((75 * v + 74) % 65537)) (rdF th mt (.ref ol) (.ref ml) (.ref ms) (.ref bo) f.dx f.dy f.press (ov (some v)) f.here f.below dr x.gone) = rdF th mt (.ref ol) (.ref ml) (.ref ms) (.ref bo) f.dx f.dy f.press (ov (some v')) f.here f.below dr x.gone := by
      rw [← hv']
      rfl
    rw [ep]
    refine ⟨_, rfl, a, _, dx, _, rfl, upd_same, T.k_Reading, T.a_Reading_drawn, (show 14 < 1000 by decide), ?_⟩
    have ep2 : putF "drawn" (.bl true) (rdF th mt (.ref ol) (.ref ml) (.ref ms) (.ref bo) f.dx f.dy f.press (ov (some v')) f.here f.below dr x.gone) = rdF th mt (.ref ol) (.ref ml) (.ref ms) (.ref bo) f.dx f.dy f.press (ov (some v')) f.here f.below true x.gone := rfl
    rw [ep2]
    obtain ⟨H', hH'⟩ : ∃ H', H' = upd (upd H a (.ins (He.ga K "Reading") dx (rdF th mt (.ref ol) (.ref ml) (.ref ms) (.ref bo) f.dx f.dy f.press (ov (some v')) f.here f.below dr x.gone))) a (.ins (He.ga K "Reading") dx (rdF th mt (.ref ol) (.ref ml) (.ref ms) (.ref bo) f.dx f.dy f.press (ov (some v')) f.here f.below true x.gone)) := ⟨_, rfl⟩
    have fr : Frm a H H' := by
      rw [hH']
      exact Frm.of_upd.trans Frm.of_upd
    have ha' : H' a = some (.ins (He.ga K "Reading") dx (rdF th mt (.ref ol) (.ref ml) (.ref ms) (.ref bo) f.dx f.dy f.press (ov (some v')) f.here f.below true x.gone)) := by
      rw [hH']
      exact upd_same
    rw [← hH']
    have tf := Frm.tfi fr ha
    have mla : ml ≠ a := fun e => by rw [e, ha] at hml; cases hml
    have ola : ol ≠ a := fun e => by rw [e, ha] at hol; cases hol
    refine ⟨_, rfl, a, _, dx, _, .int v', rfl, ha', T.k_Reading, T.a_Reading_seed, rfl, _, rfl, _, _, rfl, rfl, (show (0 : Int) < n by omega), ?_⟩
    rw [hv']
    rw [hv'] at ha'
    exact k H' ⟨dx, g0, th, mt, ha', dp_nl tf _ _ g0.nl.1 hth, hg, dp_nl tf _ _ (show NL (.tuple (f.met.map Mt.py)) from nl_mets _) hmt, fr _ _ mla hml, fr _ _ ola hol, hrest.frm fr ha⟩ fr
/-! ### _own_of_first_met -/
def spFirst (K : PySem.W.Frag) : Sp := fun vs H Q _ => ∃ (k : Int) (i : Int) (a : Addr) (f : Fx) (s : Sd) (x : Bx) (AA : Pd), vs = [.int k, .int i, .ref a] ∧ 0 ≤ i ∧ i ≤ 3 ∧ f.ok ∧ RInv K H a f s x AA ∧ Q (.int (match (f.met.filter fun m => decide (m.kind = k)) with | [] => 0 | m :: _ => m.own.getD i.toNat 0)) H
theorem scFm : FnScope ["kind", "at", "reading", "told"] ["kind", "at", "reading"] (defScope s_own_of_first_met) := ⟨rfl, rfl, rfl, by decide +kernel, rfl, by decide +kernel, by decide +kernel⟩
theorem ok_own_of_first_met (T : Txt K w mg) : FnOk P w K mg base CX0 1 (He.fAd K ("_own_of_first_met", none)) (fdAt K (He.fAd K ("_own_of_first_met", none))) ["kind", "at", "reading"] (spFirst K) := by
  refine T.F_own_of_first_met.ok scFm (fun vs H Q E h => ?_) (fun cdv A outer s H vs Q E hr h => ?_)
  · obtain ⟨k, i, a, f, s, x, AA, rfl, _⟩ := h
    rfl
  · obtain ⟨k, i, a, f, s, x, ⟨ol, ml, ms, bo⟩, rfl, h1, h2, hf, ⟨dx, g0, th, mt, ha, hth, hg, hmt, hml, hol, hrest⟩, q⟩ := h
    refine ⟨_, PSs.nox (pss_cons (ps_for PassesOwn.never rfl (pi_tup (pe_fld (pv 2) rfl)) (pg_name (i := 3) scFm.nd rfl (Or.inl rfl)) (pss_one (ps_if (pt_cmpR op_eq (pe_ix (r := rIxT K) ix_tup (pv 3) pe_int (fun _ _ => rfl)) (pv 0) (nomark _)) (pss_one (ps_ret (pe_ix (r := rIxT K) ix_tup (pe_ix (r := rIxT K) ix_tup (pv 3) pe_int (fun _ _ => rfl)) (pv 1) (fun _ _ => rfl)))) pss_nil)))
      (pss_one (ps_ret pe_int))), ?_⟩
    obtain ⟨mr, mxs, rfl, msq, mall⟩ := dp_tup hmt
    have hxl : mxs.length = f.met.length := by rw [dpa_len mall, List.length_map]
    refine ⟨_, rfl, a, _, dx, _, .ref mr, rfl, ha, T.k_Reading, T.a_Reading_met, rfl, mr, rfl, ⟨_, msq⟩, ?_⟩
    refine for_tup (xs := mxs) (fun j σ H' => H' = H ∧ (∃ v3, σ = [some (.int k), some (.int i), some (.ref a), v3]) ∧ (f.met.take j).filter (fun m => decide (m.kind = k)) = []) ⟨rfl, ⟨_, rfl⟩, rfl⟩ (fun j σ H' _ h => by rw [h.1]; exact msq) (fun j y σ H' hy hPv => ?_) (fun σ H' hPv => ?_)
    · obtain ⟨rfl, ⟨v3, rfl⟩, hno⟩ := hPv
      have hj : j < f.met.length := by
        have := (List.getElem?_eq_some_iff.mp hy).1
        omega
      obtain ⟨v, hv, dv⟩ := dpa_get mall (show (f.met.map Mt.py)[j]? = some f.met[j].py by rw [List.getElem?_map, List.getElem?_eq_getElem hj]; rfl)
      rw [hy] at hv
      cases hv
      obtain ⟨yr, ys, rfl, ysq, yall⟩ := dp_tup dv
      cases yall with
      | cons q1 yall =>
      cases yall with
      | cons q2 yall =>
      cases yall with
      | cons q3 yall =>
      cases yall with
      | @cons ow _ _ _ q4 yall =>
      cases yall
      cases q1
      cases q2
      cases q3
      obtain ⟨orr, oxs, rfl, osq, oall⟩ := dp_tup q4
      cases dpa_intsV oall
      have ht : (f.met.take (j + 1)).filter (fun m => decide (m.kind = k)) = (f.met.take j).filter (fun m => decide (m.kind = k)) ++ (if decide (f.met[j].kind = k) = true then [f.met[j]] else []) := by
        rw [List.take_add_one, List.getElem?_eq_getElem hj, List.filter_append]
        simp [List.filter_cons]
      refine ⟨_, rfl, yr, _, _, _, rfl, rfl, ysq, atI_nat (j := 1) rfl, _, rfl, rfl, _, rfl, ?_⟩
      rw [dec_int]
      refine ite2 (fun z => ?_) (fun z => ?_)
      · obtain ⟨c, rfl⟩ : ∃ c : Nat, i = (c : Int) := ⟨i.toNat, by omega⟩
        have hc : c < f.met[j].own.length := by rw [(hf.met.2 _ (List.getElem_mem hj)).1]; omega
        refine ⟨_, rfl, yr, _, _, _, rfl, rfl, ysq, atI_nat (j := 3) rfl, _, rfl, orr, _, _, .int f.met[j].own[c], rfl, rfl, osq, atI_nat (by rw [List.getElem?_map, List.getElem?_eq_getElem hc]; rfl), ?_⟩
        have e : f.met.filter (fun m => decide (m.kind = k)) = f.met[j] :: (f.met.drop (j + 1)).filter (fun m => decide (m.kind = k)) := by
          have e0 : f.met.filter (fun m => decide (m.kind = k)) = (f.met.take (j + 1)).filter (fun m => decide (m.kind = k)) ++ (f.met.drop (j + 1)).filter (fun m => decide (m.kind = k)) := by
            rw [← List.filter_append, List.take_append_drop]
          rw [e0, ht, hno, if_pos z]
          rfl
        rw [e] at q
        have e2 : f.met[j].own.getD ((c : Int)).toNat 0 = f.met[j].own[c] := by
          rw [List.getD_eq_getElem?_getD, Int.toNat_natCast, List.getElem?_eq_getElem hc]
          rfl
        rw [← e2]
        exact q
      · refine ⟨rfl, ⟨_, rfl⟩, ?_⟩
        rw [ht, hno, if_neg z]
        rfl
    · obtain ⟨rfl, ⟨v3, rfl⟩, hno⟩ := hPv
      rw [List.take_of_length_le (by omega)] at hno
      rw [hno] at q
      exact q
/-! ### _number_of_thing -/
def spThing (K : PySem.W.Frag) : Sp := fun vs H Q _ => ∃ (w : Str) (a : Addr) (f : Fx) (s : Sd) (x : Bx) (AA : Pd), vs = [.str w, .ref a] ∧ w ∈ words ∧ RInv K H a f s x AA ∧ Q (.int (Lf.ev f (.word w) s).1) H
theorem scNt : FnScope ["name", "reading"] ["name", "reading"] (defScope s_number_of_thing) := ⟨rfl, rfl, rfl, by decide +kernel, rfl, by decide +kernel, by decide +kernel⟩
theorem ok_number_of_thing (T : Txt K w mg) : FnOk P w K mg base CX0 1 (He.fAd K ("_number_of_thing", none)) (fdAt K (He.fAd K ("_number_of_thing", none))) ["name", "reading"] (spThing K) := by
  obtain ⟨uA, gA, rA⟩ := T.c_IN_THE_AIR
  refine T.F_number_of_thing.ok scNt (fun vs H Q E h => ?_) (fun cdv A outer s H vs Q E hr h => ?_)
  · obtain ⟨w, a, f, s, x, AA, rfl, _⟩ := h
    rfl
  · obtain ⟨w, a, f, s, x, ⟨ol, ml, ms, bo⟩, rfl, hw, ⟨dx, g0, th, mt, ha, hth, hg, hmt, hml, hol, hrest⟩, q⟩ := h
    refine ⟨_, PSs.nox (pss_cons (ps_if (pt_cmpR op_eq (pv 0) pe_str (nomark _)) (pss_one (ps_ret (pe_ix (r := rIxT K) ix_tup (pe_fld (pv 1) rfl) pe_int (fun _ _ => rfl)))) pss_nil)
      (pss_cons (ps_if (pt_cmpR op_eq (pv 0) pe_str (nomark _)) (pss_one (ps_ret (pe_ix (r := rIxT K) ix_tup (pe_fld (pv 1) rfl) pe_int (fun _ _ => rfl)))) pss_nil)
      (pss_cons (ps_if (pt_cmpR op_eq (pv 0) pe_str (nomark _)) (pss_one (ps_ret (pe_fld (pv 1) rfl))) pss_nil)
      (pss_cons (ps_if (pt_cmpR op_eq (pv 0) pe_str (nomark _)) (pss_one (ps_ret (pe_fld (pv 1) rfl))) pss_nil)
      (pss_one (ps_ret (pe_ifExp (pt_cmpR op_eq (pe_ix (r := rIxT K) ix_tup (pe_fld (pv 1) rfl) pe_int (fun _ _ => rfl)) (pe_glob (v := .int (-2)) (by rfl) gA rA) (nomark _)) pe_int pe_int))))))), ?_⟩
    obtain ⟨tr, txs, rfl, tsq, tall⟩ := dp_tup hth
    obtain ⟨oo, rfl⟩ := dpa_thing tall
    simp only [words, List.mem_cons, List.not_mem_nil, or_false] at hw
    rcases hw with rfl | rfl | rfl | rfl | rfl
    · refine ⟨_, rfl, rfl, _, rfl, ite2 (fun _ => ?_) (fun z => absurd (by decide) z)⟩
      exact ⟨_, rfl, a, _, dx, _, .ref tr, rfl, ha, T.k_Reading, T.a_Reading_thing, rfl, tr, _, _, _, rfl, rfl, tsq, atI_nat (j := 2) rfl, by rw [hg.1]; exact q⟩
    · iterate 1 refine ⟨_, rfl, rfl, _, rfl, ite2 (fun z => absurd z (by decide)) (fun _ => ?_)⟩
      refine ⟨_, rfl, rfl, _, rfl, ite2 (fun _ => ?_) (fun z => absurd (by decide) z)⟩
      exact ⟨_, rfl, a, _, dx, _, .ref tr, rfl, ha, T.k_Reading, T.a_Reading_thing, rfl, tr, _, _, _, rfl, rfl, tsq, atI_nat (j := 3) rfl, by rw [hg.2.1]; exact q⟩
    · iterate 2 refine ⟨_, rfl, rfl, _, rfl, ite2 (fun z => absurd z (by decide)) (fun _ => ?_)⟩
      refine ⟨_, rfl, rfl, _, rfl, ite2 (fun _ => ?_) (fun z => absurd (by decide) z)⟩
      exact ⟨_, rfl, a, _, dx, _, .int f.dx, rfl, ha, T.k_Reading, T.a_Reading_dx, rfl, q⟩
    · iterate 3 refine ⟨_, rfl, rfl, _, rfl, ite2 (fun z => absurd z (by decide)) (fun _ => ?_)⟩
      refine ⟨_, rfl, rfl, _, rfl, ite2 (fun _ => ?_) (fun z => absurd (by decide) z)⟩
      exact ⟨_, rfl, a, _, dx, _, .int f.dy, rfl, ha, T.k_Reading, T.a_Reading_dy, rfl, q⟩
    · iterate 4 refine ⟨_, rfl, rfl, _, rfl, ite2 (fun z => absurd z (by decide)) (fun _ => ?_)⟩
      refine ⟨_, rfl, a, _, dx, _, .ref tr, rfl, ha, T.k_Reading, T.a_Reading_thing, rfl, tr, _, _, _, rfl, rfl, tsq, atI_nat (j := 6) rfl, ?_⟩
      rw [hg.2.2]
      refine ⟨rfl, _, rfl, ite2 (fun z => ?_) (fun z => ?_)⟩
      · have h := int_of z
        have e : (Lf.ev f (.word "rests") s).1 = 0 := by
          show (if f.rest = -2 then (0 : Int) else 1) = 0
          rw [if_pos h]
        rw [e] at q
        exact q
      · have h := ne_of z
        have e : (Lf.ev f (.word "rests") s).1 = 1 := by
          show (if f.rest = -2 then (0 : Int) else 1) = 1
          rw [if_neg h]
        rw [e] at q
        exact q
/-! ### _reckoned -/
def rk (k : Str) (a b : Int) : Int :=
  if k = "sum" then a + b else if k = "less" then a - b else if k = "times" then a * b else if k = "least" then (if b < a then b else a) else if k = "most" then (if a < b then b else a)
  else if b = 0 then 0 else if k = "part" then a.fdiv b else a.fmod b
def seven : List Str := ["sum", "less", "times", "least", "most", "part", "rest"]
theorem keep_rk {k : Str} (hk : k ∈ seven) {a b : Int} (ha : lim a) (hb : lim b) : keep (rk k a b) = mk2 k a b := by
  simp only [seven, List.mem_cons, List.not_mem_nil, or_false] at hk
  have h0 : keep 0 = 0 := by decide
  rcases hk with rfl | rfl | rfl | rfl | rfl | rfl | rfl
  · rfl
  · rfl
  · rfl
  · show keep (if b < a then b else a) = (if b < a then b else a)
    split
    · exact keep_id hb
    · exact keep_id ha
  · show keep (if a < b then b else a) = (if a < b then b else a)
    split
    · exact keep_id hb
    · exact keep_id ha
  · show keep (if b = 0 then 0 else a.fdiv b) = (if b = 0 then 0 else keep (a.fdiv b))
    split
    · exact h0
    · rfl
  · show keep (if b = 0 then 0 else a.fmod b) = (if b = 0 then 0 else a.fmod b)
    split
    · exact h0
    · exact keep_id (fmod_lim (by assumption) hb)
def spRk : Sp := fun vs H Q _ => ∃ (k : Str) (a b : Int), vs = [.str k, .int a, .int b] ∧ k ∈ seven ∧ lim a ∧ lim b ∧ Q (.int (rk k a b)) H
theorem scRk : FnScope ["name", "one", "other"] ["name", "one", "other"] (defScope s_reckoned) := ⟨rfl, rfl, rfl, by decide +kernel, rfl, by decide +kernel, by decide +kernel⟩
theorem ok_reckoned (T : Txt K w mg) : FnOk P w K mg base CX0 1 (He.fAd K ("_reckoned", none)) (fdAt K (He.fAd K ("_reckoned", none))) ["name", "one", "other"] spRk := by
  refine T.F_reckoned.ok scRk (fun vs H Q E h => ?_) (fun cdv A outer s H vs Q E hr h => ?_)
  · obtain ⟨k, a, b, rfl, _⟩ := h
    rfl
  · obtain ⟨k, a, b, rfl, hk, ha, hb, q⟩ := h
    refine ⟨_, PSs.nox (pss_cons (ps_if (pt_cmpR op_eq (pv 0) pe_str (nomark _)) (pss_one (ps_ret (pe_op op_add (pv 1) (pv 2)))) pss_nil)
      (pss_cons (ps_if (pt_cmpR op_eq (pv 0) pe_str (nomark _)) (pss_one (ps_ret (pe_op op_sub (pv 1) (pv 2)))) pss_nil)
      (pss_cons (ps_if (pt_cmpR op_eq (pv 0) pe_str (nomark _)) (pss_one (ps_ret (pe_op op_mulW (pv 1) (pv 2)))) pss_nil)
      (pss_cons (ps_if (pt_cmpR op_eq (pv 0) pe_str (nomark _)) (pss_one (ps_ret (pe_callB (call_min2 rfl) (by rfl) T.n_min PyProof.Rows.Boot.«min» (pa_cons (pv 1) (pa_cons (pv 2) pa_nil))))) pss_nil)
      (pss_cons (ps_if (pt_cmpR op_eq (pv 0) pe_str (nomark _)) (pss_one (ps_ret (pe_callB (call_max2 rfl) (by rfl) T.n_max PyProof.Rows.Boot.«max» (pa_cons (pv 1) (pa_cons (pv 2) pa_nil))))) pss_nil)
      (pss_cons (ps_if (pt_cmpR op_eq (pv 2) pe_int (nomark _)) (pss_one (ps_ret pe_int)) pss_nil)
      (pss_one (ps_ret (pe_ifExp (pt_cmpR op_eq (pv 0) pe_str (nomark _)) (pe_op op_fdivN (pv 1) (pv 2)) (pe_op op_modN (pv 1) (pv 2))))))))))), ?_⟩
    simp only [seven, List.mem_cons, List.not_mem_nil, or_false] at hk
    rcases hk with rfl | rfl | rfl | rfl | rfl | rfl | rfl
    all_goals repeat refine ⟨_, rfl, rfl, _, rfl, ite2 (fun z => absurd z (by decide)) (fun _ => ?_)⟩
    · refine ⟨_, rfl, rfl, _, rfl, ite2 (fun _ => ?_) (fun z => absurd (by decide) z)⟩
      exact ⟨_, rfl, _, rfl, _, _, rfl, rfl, q⟩
    · refine ⟨_, rfl, rfl, _, rfl, ite2 (fun _ => ?_) (fun z => absurd (by decide) z)⟩
      exact ⟨_, rfl, _, rfl, _, _, rfl, rfl, q⟩
    · refine ⟨_, rfl, rfl, _, rfl, ite2 (fun _ => ?_) (fun z => absurd (by decide) z)⟩
      exact ⟨_, rfl, _, rfl, _, _, rfl, rfl, lmul ha hb, q⟩
    · refine ⟨_, rfl, rfl, _, rfl, ite2 (fun _ => ?_) (fun z => absurd (by decide) z)⟩
      exact ⟨_, rfl, _, rfl, _, _, rfl, q⟩
    · refine ⟨_, rfl, rfl, _, rfl, ite2 (fun _ => ?_) (fun z => absurd (by decide) z)⟩
      exact ⟨_, rfl, _, rfl, _, _, rfl, q⟩
    · refine ⟨_, rfl, rfl, _, rfl, ite2 (fun z => ?_) (fun z => ?_)⟩
      · have e : rk "part" a b = 0 := by
          show (if b = 0 then 0 else a.fdiv b) = 0
          rw [if_pos (int_of z)]
        rw [e] at q
        exact q
      · have e : rk "part" a b = a.fdiv b := by
          show (if b = 0 then 0 else a.fdiv b) = _
          rw [if_neg (ne_of z)]
        rw [e] at q
        refine ⟨_, rfl, rfl, _, rfl, ite2 (fun _ => ?_) (fun z => absurd (by decide) z)⟩
        exact ⟨_, rfl, _, rfl, _, _, rfl, rfl, ⟨ne_of z, lab hb⟩, q⟩
    · refine ⟨_, rfl, rfl, _, rfl, ite2 (fun z => ?_) (fun z => ?_)⟩
      · have e : rk "rest" a b = 0 := by
          show (if b = 0 then 0 else a.fmod b) = 0
          rw [if_pos (int_of z)]
        rw [e] at q
        exact q
      · have e : rk "rest" a b = a.fmod b := by
          show (if b = 0 then 0 else a.fmod b) = _
          rw [if_neg (ne_of z)]
        rw [e] at q
        refine ⟨_, rfl, rfl, _, rfl, ite2 (fun z => absurd z (by decide)) (fun _ => ?_)⟩
        exact ⟨_, rfl, _, rfl, _, _, rfl, rfl, ne_of z, q⟩
/-! ### number_made -/
def spNm (K : PySem.W.Frag) : Sp := fun vs H Q _ => ∃ (k : Str) (l : Addr), vs = [.str k, .ref l] ∧ ((k = "not" ∧ ∃ a, SqL K H l [.int a] ∧ Q (.int (b01 (decide (a = 0)))) H) ∨ (k ∈ twos ∧ ∃ a b, SqL K H l [.int a, .int b] ∧ lim a ∧ lim b ∧ Q (.int (mk2 k a b)) H))
theorem scJn : FnScope ["name", "sides", "one", "other"] ["name", "sides"] (defScope s_number_made) := ⟨rfl, rfl, rfl, by decide +kernel, rfl, by decide +kernel, by decide +kernel⟩
theorem ok_number_made (T : Txt K w mg) : FnOk P w K mg base CX0 2 (He.fAd K ("number_made", none)) (fdAt K (He.fAd K ("number_made", none))) ["name", "sides"] (spNm K) := by
  obtain ⟨uM, gM, rM⟩ := T.c_MOST
  refine T.F_number_made.ok scJn (fun vs H Q E h => ?_) (fun cdv A outer s H vs Q E hr h => ?_)
  · obtain ⟨k, l, rfl, _⟩ := h
    rfl
  · obtain ⟨k, l, rfl, h⟩ := h
    refine ⟨_, PSs.nox (pss_cons (ps_set (i := 2) scJn.nd rfl (Or.inl rfl) (pe_ix (r := rIxL K) ix_list (pv 1) pe_int (fun _ _ => rfl)))
      (pss_cons (ps_if (pt_cmpR op_eq (pv 0) pe_str (nomark _)) (pss_one (ps_ret (pe_ifExp (pt_cmpR op_ne (pv 2) pe_int (nomark _)) pe_int pe_int))) pss_nil)
      (pss_cons (ps_set (i := 3) scJn.nd rfl (Or.inl rfl) (pe_ix (r := rIxL K) ix_list (pv 1) pe_int (fun _ _ => rfl)))
      (pss_cons (ps_if (pt_cmpR op_eq (pv 0) pe_str (nomark _)) (pss_one (ps_ret (pe_ifExp (PW.pt (pw_and (pt_cmpR op_ne (pv 2) pe_int (nomark _)) (pw_and1 (pt_cmpR op_ne (pv 3) pe_int (nomark _))))) pe_int pe_int))) pss_nil)
      (pss_cons (ps_if (pt_cmpR op_eq (pv 0) pe_str (nomark _)) (pss_one (ps_ret (pe_ifExp (PW.pt (pw_or (pt_cmpR op_ne (pv 2) pe_int (nomark _)) (pw_or1 (pt_cmpR op_ne (pv 3) pe_int (nomark _))))) pe_int pe_int))) pss_nil)
      (pss_cons (ps_if (pt_cmpR op_eq (pv 0) pe_str (nomark _)) (pss_one (ps_ret (pe_ifExp (pt_cmpR op_eq (pv 2) (pv 3) (nomark _)) pe_int pe_int))) pss_nil)
      (pss_cons (ps_if (pt_cmpR op_eq (pv 0) pe_str (nomark _)) (pss_one (ps_ret (pe_ifExp (pt_cmpR op_lt (pv 2) (pv 3) (nomark _)) pe_int pe_int))) pss_nil)
      (pss_one (ps_ret (pe_call (ok_kept T) (hr.mono (by decide)) (by rfl) T.g_kept (T.F_kept).kp T.b_kept .nil pass0 (pa_cons (pe_call (ok_reckoned T) (hr.mono (by decide)) (by rfl) T.g_reckoned (T.F_reckoned).kp T.b_reckoned .nil pass0 (pa_cons (pv 0) (pa_cons (pv 2) (pa_cons (pv 3) pa_nil)))) (pa_cons (pe_un un_neg (pe_glob (v := .int 999999) (by rfl) gM rM)) (pa_cons (pe_glob (v := .int 999999) (by rfl) gM rM) pa_nil))))))))))))), ?_⟩
    rcases h with ⟨rfl, a, sq, q⟩ | ⟨hk, a, b, sq, ha, hb, q⟩
    · refine ⟨_, rfl, l, _, _, _, rfl, rfl, sq, atI_nat (j := 0) rfl, ?_⟩
      refine ⟨_, rfl, rfl, _, rfl, ite2 (fun _ => ?_) (fun z => absurd (by decide) z)⟩
      refine ⟨_, rfl, rfl, _, rfl, ?_⟩
      rw [dec_int]
      refine ite2 (fun z => ?_) (fun z => ?_)
      · have zb : decide (a = 0) = false := by simpa using z
        rw [zb] at q
        exact q
      · have zb : decide (a = 0) = true := by simpa using z
        rw [zb] at q
        exact q
    simp only [twos, List.mem_cons, List.not_mem_nil, or_false] at hk
    refine ⟨_, rfl, l, _, _, _, rfl, rfl, sq, atI_nat (j := 0) rfl, ?_⟩
    rcases hk with rfl | rfl | rfl | rfl | rfl | rfl | rfl | rfl | rfl | rfl | rfl
    all_goals refine ⟨_, rfl, rfl, _, rfl, ite2 (fun z => absurd z (by decide)) (fun _ => ?_)⟩
    all_goals refine ⟨_, rfl, l, _, _, _, rfl, rfl, sq, atI_nat (j := 1) rfl, ?_⟩
    all_goals repeat refine ⟨_, rfl, rfl, _, rfl, ite2 (fun z => absurd z (by decide)) (fun _ => ?_)⟩
    · have e := keep_rk (k := "sum") (by decide) ha hb
      rw [← e] at q
      exact ⟨_, rfl, _, rfl, _, rfl, _, a, b, rfl, by decide, ha, hb, _, rfl, _, _, _, rfl, q⟩
    · have e := keep_rk (k := "less") (by decide) ha hb
      rw [← e] at q
      exact ⟨_, rfl, _, rfl, _, rfl, _, a, b, rfl, by decide, ha, hb, _, rfl, _, _, _, rfl, q⟩
    · have e := keep_rk (k := "times") (by decide) ha hb
      rw [← e] at q
      exact ⟨_, rfl, _, rfl, _, rfl, _, a, b, rfl, by decide, ha, hb, _, rfl, _, _, _, rfl, q⟩
    · have e := keep_rk (k := "part") (by decide) ha hb
      rw [← e] at q
      exact ⟨_, rfl, _, rfl, _, rfl, _, a, b, rfl, by decide, ha, hb, _, rfl, _, _, _, rfl, q⟩
    · have e := keep_rk (k := "rest") (by decide) ha hb
      rw [← e] at q
      exact ⟨_, rfl, _, rfl, _, rfl, _, a, b, rfl, by decide, ha, hb, _, rfl, _, _, _, rfl, q⟩
    · have e := keep_rk (k := "least") (by decide) ha hb
      rw [← e] at q
      exact ⟨_, rfl, _, rfl, _, rfl, _, a, b, rfl, by decide, ha, hb, _, rfl, _, _, _, rfl, q⟩
    · have e := keep_rk (k := "most") (by decide) ha hb
      rw [← e] at q
      exact ⟨_, rfl, _, rfl, _, rfl, _, a, b, rfl, by decide, ha, hb, _, rfl, _, _, _, rfl, q⟩
    · refine ⟨_, rfl, rfl, _, rfl, ite2 (fun _ => ?_) (fun z => absurd (by decide) z)⟩
      refine ⟨_, rfl, _, rfl, rfl, _, rfl, ite2 (fun z => ?_) (fun z => ?_)⟩
      · have e : mk2 "same" a b = 1 := by
          show b01 (decide (a = b)) = 1
          rw [decide_eq_true (int_of z)]
          rfl
        rw [e] at q
        exact q
      · have e : mk2 "same" a b = 0 := by
          show b01 (decide (a = b)) = 0
          rw [decide_eq_false (ne_of z)]
          rfl
        rw [e] at q
        exact q
    · refine ⟨_, rfl, rfl, _, rfl, ite2 (fun _ => ?_) (fun z => absurd (by decide) z)⟩
      refine ⟨_, rfl, _, rfl, _, _, rfl, rfl, _, rfl, ite2 (fun z => ?_) (fun z => ?_)⟩
      · have e : mk2 "below" a b = 1 := by
          show b01 (decide (a < b)) = 1
          rw [z]
          rfl
        rw [e] at q
        exact q
      · have e : mk2 "below" a b = 0 := by
          show b01 (decide (a < b)) = 0
          rw [Bool.eq_false_iff.mpr z]
          rfl
        rw [e] at q
        exact q
    · refine ⟨_, rfl, rfl, _, rfl, ite2 (fun _ => ?_) (fun z => absurd (by decide) z)⟩
      refine ⟨_, rfl, rfl, _, rfl, ite2 (fun z => ?_) (fun z => ?_)⟩
      · rw [dec_int] at z
        have za : decide (a ≠ 0) = true := by simpa using z
        refine ⟨_, rfl, rfl, _, rfl, ite2 (fun z2 => ?_) (fun z2 => ?_)⟩
        · rw [dec_int] at z2
          have zb : decide (b ≠ 0) = true := by simpa using z2
          have e : mk2 "both" a b = 1 := by
            show b01 (decide (a ≠ 0) && decide (b ≠ 0)) = 1
            rw [za, zb]
            rfl
          rw [e] at q
          exact q
        · rw [dec_int] at z2
          have zb : decide (b ≠ 0) = false := by simpa using z2
          have e : mk2 "both" a b = 0 := by
            show b01 (decide (a ≠ 0) && decide (b ≠ 0)) = 0
            rw [za, zb]
            rfl
          rw [e] at q
          exact q
      · rw [dec_int] at z
        have za : decide (a ≠ 0) = false := by simpa using z
        have e : mk2 "both" a b = 0 := by
          show b01 (decide (a ≠ 0) && decide (b ≠ 0)) = 0
          rw [za]
          rfl
        rw [e] at q
        exact iteF q
    · refine ⟨_, rfl, rfl, _, rfl, ite2 (fun _ => ?_) (fun z => absurd (by decide) z)⟩
      refine ⟨_, rfl, rfl, _, rfl, ite2 (fun z => ?_) (fun z => ?_)⟩
      · rw [dec_int] at z
        have za : decide (a ≠ 0) = true := by simpa using z
        have e : mk2 "either" a b = 1 := by
          show b01 (decide (a ≠ 0) || decide (b ≠ 0)) = 1
          rw [za]
          rfl
        rw [e] at q
        exact iteT q
      · rw [dec_int] at z
        have za : decide (a ≠ 0) = false := by simpa using z
        refine ⟨_, rfl, rfl, _, rfl, ite2 (fun z2 => ?_) (fun z2 => ?_)⟩
        · rw [dec_int] at z2
          have zb : decide (b ≠ 0) = true := by simpa using z2
          have e : mk2 "either" a b = 1 := by
            show b01 (decide (a ≠ 0) || decide (b ≠ 0)) = 1
            rw [za, zb]
            rfl
          rw [e] at q
          exact q
        · rw [dec_int] at z2
          have zb : decide (b ≠ 0) = false := by simpa using z2
          have e : mk2 "either" a b = 0 := by
            show b01 (decide (a ≠ 0) || decide (b ≠ 0)) = 0
            rw [za, zb]
            rfl
          rw [e] at q
          exact q
end
end K5
set_option maxRecDepth 100000
set_option maxHeartbeats 2000000
/-! The program's reading of a tuple, and its number. -/
namespace K5
open PySem PySem.Spec PyProof.Rows L2 KF
theorem RInv.same {K : PySem.W.Frag} {H H' : Hp} {a : Addr} {f : Fx} {s : Sd} {x : Bx} {A : Pd} (h : RInv K H a f s x A) (e : Same H H') : RInv K H' a f s x A := by
  obtain ⟨ol, ml, ms, bo⟩ := A
  obtain ⟨dx, g0, th, mt, ha, hth, hg, hmt, hml, hol, hr⟩ := h
  exact ⟨dx, g0, th, mt, e _ _ ha, dp_nl (same_tf e) _ _ g0.nl.1 hth, hg, dp_nl (same_tf e) _ _ (show NL (.tuple (f.met.map Mt.py)) from nl_mets _) hmt, e _ _ hml, e _ _ hol, hr.same e⟩
def Pd.off (A : Pd) (D : Addr) : Prop := D ≠ A.ol ∧ D ≠ A.ml ∧ D ≠ A.ms ∧ D ≠ A.bo
theorem RInv.off {K : PySem.W.Frag} {H : Hp} {a D : Addr} {f : Fx} {s : Sd} {x : Bx} {A : Pd} (h : RInv K H a f s x A) (hD : H D = none) : A.off D ∧ D ≠ a := by
  obtain ⟨ol, ml, ms, bo⟩ := A
  obtain ⟨dx, g, th, mt, ha, hth, hg, hmt, hml, hol, kvs, bv, h1, h2, h3, h4⟩ := h
  exact ⟨⟨(ne_of_none hol hD).symm, (ne_of_none hml hD).symm, (ne_of_none h1 hD).symm, (ne_of_none h3 hD).symm⟩, (ne_of_none ha hD).symm⟩
theorem RInv.put {K : PySem.W.Frag} {H : Hp} {a D : Addr} {f : Fx} {s : Sd} {x : Bx} {A : Pd} {acc : List V} {o : HO} (h : RInv K H a f s x A) (hD : H D = some (.lst acc)) (n : A.off D ∧ D ≠ a) : RInv K (upd H D o) a f s x A := by
  obtain ⟨ol, ml, ms, bo⟩ := A
  obtain ⟨⟨n1, n2, n3, n4⟩, n5⟩ := n
  obtain ⟨dx, g, th, mt, ha, hth, hg, hmt, hml, hol, kvs, bv, h1, h2, h3, h4⟩ := h
  have tf := TF.of_lst (o := o) hD
  exact ⟨dx, g, th, mt, by rw [upd_ne n5.symm]; exact ha, dp_nl tf _ _ g.nl.1 hth, hg, dp_nl tf _ _ (show NL (.tuple (f.met.map Mt.py)) from nl_mets _) hmt, by rw [upd_ne n2.symm]; exact hml, by rw [upd_ne n1.symm]; exact hol, kvs, bv, by rw [upd_ne n3.symm]; exact h1, h2, by rw [upd_ne n4.symm]; exact h3, dpa_nl tf _ _ (nl_born _) h4⟩
theorem RInv.tfd {K : PySem.W.Frag} {H H' : Hp} {a : Addr} {f : Fx} {s : Sd} {x : Bx} {A : Pd} (h : RInv K H a f s x A) (fr : Frm a H H') : TF H H' := by
  obtain ⟨ol, ml, ms, bo⟩ := A
  obtain ⟨dx, g, th, mt, ha, _⟩ := h
  exact Frm.tfi fr ha
theorem and1 : ∀ n : Nat, n < 64 → Builtin.bitAnd ((n : Nat) : Int) 1 = ((n % 2 : Nat) : Int) := by decide
section
variable {P : Program} {w : World} {K : PySem.W.Frag} {mg : Str → Option Value} {base : Heap}
def spRdn (K : PySem.W.Frag) : Sp := fun vs H Q _ => ∃ (v : V) (a : Addr) (l : Lf) (f : Fx) (s : Sd) (x : Bx) (AA : Pd), vs = [v, .ref a] ∧ Dp K H v (.tuple l.ds) ∧ l.ok ∧ f.ok ∧ sok s ∧ l.has f s ∧ RInv K H a f s x AA ∧
    ∀ H', RInv K H' a f (l.ev f s).2 x AA → Frm a H H' → Q (.int (l.ev f s).1) H'
theorem scRn : FnScope ["expression", "reading", "name", "told"] ["expression", "reading"] (defScope s_read_number) := ⟨rfl, rfl, rfl, by decide +kernel, rfl, by decide +kernel, by decide +kernel⟩
theorem ok_read_number (T : Txt K w mg) : FnOk P w K mg base CX0 3 (He.fAd K ("read_number", none)) (fdAt K (He.fAd K ("read_number", none))) ["expression", "reading"] (spRdn K) := by
  refine T.F_read_number.ok scRn (fun vs H Q E h => ?_) (fun cdv A outer s H vs Q E hr h => ?_)
  · obtain ⟨v, a, l, f, s, x, AA, rfl, _⟩ := h
    rfl
  · obtain ⟨v, a, l, f, s, x, ⟨ol, ml, ms, bo⟩, rfl, hd, ok, hf, hso, hh, hI, kk⟩ := h
    refine ⟨_, PSs.nox (pss_cons (ps_set (i := 2) scRn.nd rfl (Or.inl rfl) (pe_ix (r := rIxT K) ix_tup (pv 0) pe_int (fun _ _ => rfl)))
      (pss_cons (ps_if (pt_cmpR op_eq (pv 2) pe_str (nomark _)) (pss_one (ps_ret (pe_ix (r := rIxT K) ix_tup (pv 0) pe_int (fun _ _ => rfl)))) pss_nil)
      (pss_cons (ps_if (pt_cmpR op_eq (pv 2) pe_str (nomark _)) (pss_one (ps_ret (pe_ix (r := rIxL K) ix_list (pe_fld (pv 1) rfl) (pe_ix (r := rIxT K) ix_tup (pv 0) pe_int (fun _ _ => rfl)) (fun _ _ => rfl)))) pss_nil)
      (pss_cons (ps_if (pt_cmpR op_eq (pv 2) pe_str (nomark _)) (pss_one (ps_ret (pe_ix (r := rIxL K) ix_list (pe_fld (pv 1) rfl) (pe_ix (r := rIxT K) ix_tup (pv 0) pe_int (fun _ _ => rfl)) (fun _ _ => rfl)))) pss_nil)
      (pss_cons (ps_if (pt_cmpR op_eq (pv 2) pe_str (nomark _)) (pss_one (ps_ret (pe_op op_and (pe_op op_shr (pe_fld (pv 1) rfl) (pe_ix (r := rIxT K) ix_tup (pv 0) pe_int (fun _ _ => rfl))) pe_int))) pss_nil)
      (pss_cons (ps_if (pt_cmpR op_eq (pv 2) pe_str (nomark _)) (pss_one (ps_ret (pe_ifExp (pt_cmpR op_eq (pe_fld (pv 1) rfl) (pe_ix (r := rIxT K) ix_tup (pv 0) pe_int (fun _ _ => rfl)) (nomark _)) pe_int pe_int))) pss_nil)
      (pss_cons (ps_if (pt_cmpR op_eq (pv 2) pe_str (nomark _)) (pss_one (ps_ret (pe_ifExp (pt_cmpR op_eq (pe_fld (pv 1) rfl) (pe_ix (r := rIxT K) ix_tup (pv 0) pe_int (fun _ _ => rfl)) (nomark _)) pe_int pe_int))) pss_nil)
      (pss_cons (ps_if (pt_cmpR op_eq (pv 2) pe_str (nomark _)) (pss_one (ps_ret (pe_call (ok_drawn T) (hr.mono (by decide)) (by rfl) T.g_drawn (T.F_drawn).kp T.b_drawn .nil pass0 (pa_cons (pe_ix (r := rIxT K) ix_tup (pv 0) pe_int (fun _ _ => rfl)) (pa_cons (pv 1) pa_nil))))) pss_nil)
      (pss_cons (ps_if (pt_cmpR op_eq (pv 2) pe_str (nomark _)) (pss_one (ps_ret (pe_callB (r := Evl.rLenS K) call_len_seq (by rfl) T.n_len PyProof.Rows.Boot.«len» (pa_cons (pe_lc (own := [("told", 3)]) (g := gName 3) (by rfl) scRn.nd (pi_tup (pe_fld (pv 1) rfl)) (blkOk_by (own := [("told", 3)]) (N := ["expression", "reading", "name", "told"]) (sc := defScope s_read_number) (by decide +kernel)) (fun _ _ _ _ _ => pg_name (i := 3) scRn.nd rfl (Or.inl rfl)) (fun _ _ _ _ _ => pts_one (pt_cmpR op_eq (pe_ix (r := rIxT K) ix_tup (pv 3) pe_int (fun _ _ => rfl)) (pe_ix (r := rIxT K) ix_tup (pv 0) pe_int (fun _ _ => rfl)) (nomark _))) (fun _ _ _ _ _ => (pv 3))) pa_nil)))) pss_nil)
      (pss_cons (ps_if (pt_cmpR op_eq (pv 2) pe_str (nomark _)) (pss_one (ps_ret (pe_call (ok_own_of_first_met T) (hr.mono (by decide)) (by rfl) T.g_own_of_first_met (T.F_own_of_first_met).kp T.b_own_of_first_met .nil pass0 (pa_cons (pe_ix (r := rIxT K) ix_tup (pv 0) pe_int (fun _ _ => rfl)) (pa_cons (pe_ix (r := rIxT K) ix_tup (pv 0) pe_int (fun _ _ => rfl)) (pa_cons (pv 1) pa_nil)))))) pss_nil)
      (pss_one (ps_ret (pe_call (ok_number_of_thing T) (hr.mono (by decide)) (by rfl) T.g_number_of_thing (T.F_number_of_thing).kp T.b_number_of_thing .nil pass0 (pa_cons (pv 2) (pa_cons (pv 1) pa_nil))))))))))))))), ?_⟩
    have hI0 := hI
    obtain ⟨dx, g0, th, mt, ha, hth, hg, hmt, hml, hol, hrest⟩ := hI
    obtain ⟨ca, xs, rfl, sq, all⟩ := dp_tup hd
    rw [Lf.ds_eq] at all
    cases all with
    | cons hz all =>
    cases hz
    refine ⟨_, rfl, ca, _, _, _, rfl, rfl, sq, atI_nat (j := 0) rfl, ?_⟩
    cases l with
    | number n =>
      dsimp only [Lf.nm, Lf.args] at sq all ⊢
      cases all with
      | cons x1 r1 =>
      cases x1
      cases r1
      refine ⟨_, rfl, rfl, _, rfl, ite2 (fun _ => ?_) (fun z => absurd (by decide) z)⟩
      exact ⟨_, rfl, ca, _, _, _, rfl, rfl, sq, atI_nat (j := 1) rfl, kk H hI0 (Frm.refl _ _)⟩
    | own i =>
      dsimp only [Lf.nm, Lf.args] at sq all ⊢
      cases all with
      | cons x1 r1 =>
      cases x1
      cases r1
      iterate 1 refine ⟨_, rfl, rfl, _, rfl, ite2 (fun z => absurd z (by decide)) (fun _ => ?_)⟩
      refine ⟨_, rfl, rfl, _, rfl, ite2 (fun _ => ?_) (fun z => absurd (by decide) z)⟩
      obtain ⟨j, rfl⟩ : ∃ j : Nat, i = (j : Int) := ⟨i.toNat, by have := ok.1; omega⟩
      have hj : j < f.own.length := by have := ok.2; rw [hf.own.1]; omega
      refine ⟨_, rfl, a, _, dx, _, .ref ol, rfl, ha, T.k_Reading, T.a_Reading_own, rfl, _, rfl, ca, _, _, _, rfl, rfl, sq, atI_nat (j := 1) rfl, ol, _, _, .int f.own[j], rfl, rfl, SqL.of hol, atI_nat (by rw [List.getElem?_map, List.getElem?_eq_getElem hj]; rfl), ?_⟩
      have e : (Lf.ev f (.own (j : Int)) s).1 = f.own[j] := by
        show f.own.getD ((j : Int)).toNat 0 = _
        rw [List.getD_eq_getElem?_getD, Int.toNat_natCast, List.getElem?_eq_getElem hj]
        rfl
      have q := kk H hI0 (Frm.refl _ _)
      rw [e] at q
      exact q
    | mark i =>
      dsimp only [Lf.nm, Lf.args] at sq all ⊢
      cases all with
      | cons x1 r1 =>
      cases x1
      cases r1
      iterate 2 refine ⟨_, rfl, rfl, _, rfl, ite2 (fun z => absurd z (by decide)) (fun _ => ?_)⟩
      refine ⟨_, rfl, rfl, _, rfl, ite2 (fun _ => ?_) (fun z => absurd (by decide) z)⟩
      obtain ⟨n, hn⟩ := hh
      obtain ⟨j, rfl⟩ : ∃ j : Nat, i = (j : Int) := ⟨i.toNat, by have := ok.1; omega⟩
      rw [Int.toNat_natCast] at hn
      refine ⟨_, rfl, a, _, dx, _, .ref ml, rfl, ha, T.k_Reading, T.a_Reading_marks, rfl, _, rfl, ca, _, _, _, rfl, rfl, sq, atI_nat (j := 1) rfl, ml, _, _, .int n, rfl, rfl, SqL.of hml, atI_nat (by rw [List.getElem?_map, hn]; rfl), ?_⟩
      have e : (Lf.ev f (.mark (j : Int)) s).1 = n := by
        show (match f.marks[((j : Int)).toNat]? with | some (some n) => n | _ => 0) = n
        rw [Int.toNat_natCast, hn]
      have q := kk H hI0 (Frm.refl _ _)
      rw [e] at q
      exact q
    | word w =>
      dsimp only [Lf.nm, Lf.args] at sq all ⊢
      have hw := ok
      simp only [Lf.ok, words, List.mem_cons, List.not_mem_nil, or_false] at hw
      have fin : ∃ (w' : Str) (a' : Addr) (f' : Fx) (s' : Sd) (x' : Bx) (AA' : Pd), [V.str w, .ref a] = [.str w', .ref a'] ∧ w' ∈ words ∧ RInv K H a' f' s' x' AA' ∧ Q (.int (Lf.ev f' (.word w') s').1) H := ⟨w, a, f, s, x, _, rfl, ok, hI0, kk H hI0 (Frm.refl _ _)⟩
      rcases hw with rfl | rfl | rfl | rfl | rfl
      all_goals iterate 9 refine ⟨_, rfl, rfl, _, rfl, ite2 (fun z => absurd z (by decide)) (fun _ => ?_)⟩
      all_goals exact ⟨_, rfl, _, rfl, fin⟩
    | held b =>
      dsimp only [Lf.nm, Lf.args] at sq all ⊢
      cases all with
      | cons x1 r1 =>
      cases x1
      cases r1
      iterate 3 refine ⟨_, rfl, rfl, _, rfl, ite2 (fun z => absurd z (by decide)) (fun _ => ?_)⟩
      refine ⟨_, rfl, rfl, _, rfl, ite2 (fun _ => ?_) (fun z => absurd (by decide) z)⟩
      refine ⟨_, rfl, a, _, dx, _, .int f.press, rfl, ha, T.k_Reading, T.a_Reading_press, rfl, _, rfl, ca, _, _, _, rfl, rfl, sq, atI_nat (j := 1) rfl, _, _, rfl, rfl, ok.1, _, _, rfl, rfl, ?_⟩
      obtain ⟨p0, p1⟩ := hf.press
      obtain ⟨n, hn⟩ : ∃ n : Nat, f.press / 2 ^ b.toNat = (n : Int) := ⟨(f.press / 2 ^ b.toNat).toNat, by
        have : 0 ≤ f.press / 2 ^ b.toNat := Int.ediv_nonneg p0 (Int.le_of_lt (Int.pow_pos (by decide)))
        omega⟩
      have hn64 : n < 64 := by
        have : f.press / 2 ^ b.toNat ≤ f.press := Int.ediv_le_self _ p0
        omega
      have q := kk H hI0 (Frm.refl _ _)
      have e : (Lf.ev f (.held b) s).1 = Builtin.bitAnd (f.press / 2 ^ b.toNat) 1 := by
        show f.press / 2 ^ b.toNat % 2 = _
        rw [hn, and1 n hn64]
        omega
      rw [e] at q
      exact q
    | met k =>
      dsimp only [Lf.nm, Lf.args] at sq all ⊢
      cases all with
      | cons x1 r1 =>
      cases x1
      cases r1
      iterate 7 refine ⟨_, rfl, rfl, _, rfl, ite2 (fun z => absurd z (by decide)) (fun _ => ?_)⟩
      refine ⟨_, rfl, rfl, _, rfl, ite2 (fun _ => ?_) (fun z => absurd (by decide) z)⟩
      obtain ⟨mr, mxs, rfl, msq, mall⟩ := dp_tup hmt
      refine ⟨_, rfl, a, _, dx, _, .ref mr, rfl, ha, T.k_Reading, T.a_Reading_met, rfl, mr, rfl, ⟨_, msq⟩, fun D hD => ?_⟩
      have hxl : mxs.length = f.met.length := by rw [dpa_len mall, List.length_map]
      refine lc_tup (xs := mxs) (fun i H' => ∃ acc : List V, H' D = some (.lst acc) ∧ acc.length = ((f.met.take i).filter fun m => decide (m.kind = k)).length ∧ Same H H') ⟨[], upd_same, rfl, new_same hD⟩ (fun i H' _ h => (same_tf h.choose_spec.2.2).sq msq) (fun i y H1 hy hPv => ?_) (fun H1 hPv => ?_)
      · obtain ⟨acc, hacc, hal, sm⟩ := hPv
        have hi : i < f.met.length := by
          have := (List.getElem?_eq_some_iff.mp hy).1
          omega
        obtain ⟨v, hv, dv⟩ := dpa_get mall (show (f.met.map Mt.py)[i]? = some f.met[i].py by rw [List.getElem?_map, List.getElem?_eq_getElem hi]; rfl)
        rw [hy] at hv
        cases hv
        obtain ⟨yr, ys, rfl, ysq, yall⟩ := dp_tup dv
        cases yall with
        | cons q1 yall =>
        cases yall with
        | cons q2 yall =>
        cases q1
        cases q2
        have ysq1 := (same_tf sm).sq ysq
        have sq1 := (same_tf sm).sq sq
        refine ⟨rfl, ?_⟩
        refine ⟨_, rfl, yr, _, _, _, rfl, rfl, ysq1, atI_nat (j := 1) rfl, _, rfl, ca, _, _, _, rfl, rfl, sq1, atI_nat (j := 1) rfl, rfl, _, rfl, ?_⟩
        have ht : (f.met.take (i + 1)).filter (fun m => decide (m.kind = k)) = (f.met.take i).filter (fun m => decide (m.kind = k)) ++ (if decide (f.met[i].kind = k) = true then [f.met[i]] else []) := by
          rw [List.take_add_one, List.getElem?_eq_getElem hi, List.filter_append]
          simp [List.filter_cons]
        rw [dec_int]
        have hle : acc.length ≤ i := by
          rw [hal]
          exact Nat.le_trans (List.length_filter_le _ _) (by rw [List.length_take]; omega)
        refine ite2 (fun z => ?_) (fun z => ?_)
        · refine ⟨_, rfl, acc, hacc, ?_, _, upd_same, ?_, fun b o z => ?_⟩
          · have := hf.met.1
            exact Nat.lt_of_lt_of_le (show acc.length < 1000 by omega) (by decide)
          · rw [ht, if_pos z, List.length_append, List.length_append, hal]
            rfl
          · rw [upd_ne (ne_of_none z hD)]
            exact sm _ _ z
        · refine ⟨acc, hacc, ?_, sm⟩
          rw [ht, if_neg z, List.append_nil]
          exact hal
      obtain ⟨acc, hacc, hal, sm⟩ := hPv
      rw [List.take_of_length_le (by omega)] at hal
      refine ⟨D, acc, rfl, .inl (SqL.of hacc), ?_⟩
      have q := kk H1 (RInv.same hI0 sm) (Frm.of_same sm)
      rw [hal]
      exact q
    | metOwn k i =>
      dsimp only [Lf.nm, Lf.args] at sq all ⊢
      cases all with
      | cons x1 r1 =>
      cases r1 with
      | cons x2 r2 =>
      cases x1
      cases x2
      cases r2
      iterate 8 refine ⟨_, rfl, rfl, _, rfl, ite2 (fun z => absurd z (by decide)) (fun _ => ?_)⟩
      refine ⟨_, rfl, rfl, _, rfl, ite2 (fun _ => ?_) (fun z => absurd (by decide) z)⟩
      exact ⟨_, rfl, ca, _, _, _, rfl, rfl, sq, atI_nat (j := 1) rfl, _, rfl, ca, _, _, _, rfl, rfl, sq, atI_nat (j := 2) rfl, _, rfl, k, i, a, f, s, x, _, rfl, ok.2.2.1, ok.2.2.2, hf, hI0, kk H hI0 (Frm.refl _ _)⟩
    | here c =>
      dsimp only [Lf.nm, Lf.args] at sq all ⊢
      cases all with
      | cons x1 r1 =>
      cases x1
      cases r1
      iterate 4 refine ⟨_, rfl, rfl, _, rfl, ite2 (fun z => absurd z (by decide)) (fun _ => ?_)⟩
      refine ⟨_, rfl, rfl, _, rfl, ite2 (fun _ => ?_) (fun z => absurd (by decide) z)⟩
      refine ⟨_, rfl, a, _, dx, _, .str f.here, rfl, ha, T.k_Reading, T.a_Reading_here, rfl, _, rfl, ca, _, _, _, rfl, rfl, sq, atI_nat (j := 1) rfl, rfl, _, rfl, ?_⟩
      have q := kk H hI0 (Frm.refl _ _)
      rw [dec_str]
      refine ite2 (fun z => ?_) (fun z => ?_)
      · rw [show (Lf.ev f (.here c) s).1 = 1 by show b01 (decide (f.here = c)) = 1; rw [z]; rfl] at q
        exact q
      · rw [show (Lf.ev f (.here c) s).1 = 0 by show b01 (decide (f.here = c)) = 0; rw [Bool.eq_false_iff.mpr z]; rfl] at q
        exact q
    | under c =>
      dsimp only [Lf.nm, Lf.args] at sq all ⊢
      cases all with
      | cons x1 r1 =>
      cases x1
      cases r1
      iterate 5 refine ⟨_, rfl, rfl, _, rfl, ite2 (fun z => absurd z (by decide)) (fun _ => ?_)⟩
      refine ⟨_, rfl, rfl, _, rfl, ite2 (fun _ => ?_) (fun z => absurd (by decide) z)⟩
      refine ⟨_, rfl, a, _, dx, _, .str f.below, rfl, ha, T.k_Reading, T.a_Reading_below, rfl, _, rfl, ca, _, _, _, rfl, rfl, sq, atI_nat (j := 1) rfl, rfl, _, rfl, ?_⟩
      have q := kk H hI0 (Frm.refl _ _)
      rw [dec_str]
      refine ite2 (fun z => ?_) (fun z => ?_)
      · rw [show (Lf.ev f (.under c) s).1 = 1 by show b01 (decide (f.below = c)) = 1; rw [z]; rfl] at q
        exact q
      · rw [show (Lf.ev f (.under c) s).1 = 0 by show b01 (decide (f.below = c)) = 0; rw [Bool.eq_false_iff.mpr z]; rfl] at q
        exact q
    | drawn n =>
      dsimp only [Lf.nm, Lf.args] at sq all ⊢
      cases all with
      | cons x1 r1 =>
      cases x1
      cases r1
      iterate 6 refine ⟨_, rfl, rfl, _, rfl, ite2 (fun z => absurd z (by decide)) (fun _ => ?_)⟩
      refine ⟨_, rfl, rfl, _, rfl, ite2 (fun _ => ?_) (fun z => absurd (by decide) z)⟩
      obtain ⟨sS, sdr⟩ := s
      obtain ⟨v, hv0⟩ := hh
      dsimp only at hv0
      subst hv0
      have hv := hso v rfl
      exact ⟨_, rfl, ca, _, _, _, rfl, rfl, sq, atI_nat (j := 1) rfl, _, rfl, n, a, f, v, sdr, x, _, rfl, ok.1, hv.1, hv.2, hI0, fun H' I fr => kk H' I fr⟩
/-! ### number_in -/
def spNin (K : PySem.W.Frag) : Nat → Sp
  | 0 => fun _ _ _ _ => False
  | n + 1 => fun vs H Q _ => ∃ (v : V) (a : Addr) (e : Ex) (f : Fx) (s : Sd) (x : Bx) (AA : Pd), vs = [v, .ref a] ∧ Dp K H v e.py ∧ e.ok ∧ e.dep ≤ n + 1 ∧ f.ok ∧ sok s ∧ e.has f s ∧ RInv K H a f s x AA ∧
    ∀ H', RInv K H' a f (e.ev f s).2 x AA → Frm a H H' → Q (.int (e.ev f s).1) H'
theorem twos_in : ∀ s ∈ twos, inV (.str s) (twos.map V.str) = true := by decide
theorem words_tw : ∀ s ∈ words, inV (.str s) (twos.map V.str) = false := by decide
theorem Lf.tw (l : Lf) (ok : l.ok) : inV (.str l.nm) (twos.map V.str) = false := by
  cases l with
  | word w => exact words_tw w ok
  | _ => rfl
theorem scNi : FnScope ["expression", "reading", "name", "chosen", "part"] ["expression", "reading"] (defScope s_number_in) := ⟨rfl, rfl, rfl, by decide +kernel, rfl, by decide +kernel, by decide +kernel⟩
theorem ok_number_in (T : Txt K w mg) : ∀ n : Nat, FnOk P w K mg base CX0 (n + 4) (He.fAd K ("number_in", none)) (fdAt K (He.fAd K ("number_in", none))) ["expression", "reading"] (spNin K n)
  | 0 => ⟨fun _ _ _ _ z => z.elim, fun _ _ _ _ _ _ _ _ _ _ _ _ _ z => z.elim⟩
  | n + 1 => by
    have G := ok_number_in T n
    obtain ⟨uM, gM, rM⟩ := T.c_MOST
    refine T.F_number_in.ok scNi (fun vs H Q E h => ?_) (fun cdv A outer s H vs Q E hr h => ?_)
    · obtain ⟨v, a, e, f, s, bx, AA, rfl, _⟩ := h
      rfl
    · obtain ⟨v, a, e, f, s, bx, AA, rfl, hd, ok, hdep, hf, hso, hh, hI, kk⟩ := h
      refine ⟨_, PSs.nox (pss_cons (ps_set (i := 2) scNi.nd rfl (Or.inl rfl) (pe_ix (r := rIxT K) ix_tup (pv 0) pe_int (fun _ _ => rfl)))
      (pss_cons (ps_if (pt_cmpR op_eq (pv 2) pe_str (nomark _)) (pss_cons (ps_set (i := 3) scNi.nd rfl (Or.inl rfl) (pe_ifExp (pt_cmpR op_ne (pe_call G (hr.mono (by omega)) (by rfl) T.g_number_in (T.F_number_in).kp T.b_number_in .nil pass0 (pa_cons (pe_ix (r := rIxT K) ix_tup (pv 0) pe_int (fun _ _ => rfl)) (pa_cons (pv 1) pa_nil))) pe_int (nomark _)) pe_int pe_int))
      (pss_one (ps_ret (pe_call G (hr.mono (by omega)) (by rfl) T.g_number_in (T.F_number_in).kp T.b_number_in .nil pass0 (pa_cons (pe_ix (r := rIxT K) ix_tup (pv 0) (pv 3) (fun _ _ => rfl)) (pa_cons (pv 1) pa_nil)))))) pss_nil)
      (pss_cons (ps_if (PW.pt (pw_or (pt_cmpR op_eq (pv 2) pe_str (nomark _)) (pw_or1 (pt_cmpR (r := rIn K false) op_in_seq (pv 2) (pe_glob (v := .ref _) (by rfl) T.g_TWO_SIDED rfl) rfl)))) (pss_one (ps_ret (pe_call (ok_number_made T) (hr.mono (by omega)) (by rfl) T.g_number_made (T.F_number_made).kp T.b_number_made .nil pass0 (pa_cons (pv 2) (pa_cons (pe_lc (own := [("part", 4)]) (g := gName 4) (tt := tYes) (by rfl) scNi.nd (pi_tup (pe_slice sl_tup (pv 0) (po_some pe_int) po_none)) (blkOk_by (own := [("part", 4)]) (N := ["expression", "reading", "name", "chosen", "part"]) (sc := defScope s_number_in) (by decide +kernel)) (fun _ _ _ _ _ => pg_name (i := 4) scNi.nd rfl (Or.inl rfl)) (fun _ _ _ _ _ => pts_nil) (fun _ _ _ _ _ => (pe_call G (hr.mono (by omega)) (by rfl) T.g_number_in (T.F_number_in).kp T.b_number_in .nil pass0 (pa_cons (pv 4) (pa_cons (pv 1) pa_nil))))) pa_nil))))) pss_nil)
      (pss_one (ps_ret (pe_call (ok_kept T) (hr.mono (by omega)) (by rfl) T.g_kept (T.F_kept).kp T.b_kept .nil pass0 (pa_cons (pe_call (ok_read_number T) (hr.mono (by omega)) (by rfl) T.g_read_number (T.F_read_number).kp T.b_read_number .nil pass0 (pa_cons (pv 0) (pa_cons (pv 1) pa_nil))) (pa_cons (pe_un un_neg (pe_glob (v := .int 999999) (by rfl) gM rM)) (pa_cons (pe_glob (v := .int 999999) (by rfl) gM rM) pa_nil))))))))), ?_⟩
      have hd0 := hd
      rw [Ex.py_eq] at hd
      obtain ⟨ca, xs, rfl, sq, all⟩ := dp_tup hd
      cases all with
      | @cons v0 vs0 _ _ hz all =>
      cases hz
      have call : ∀ {H1 : Hp} {x : V} {e1 : Ex} {s1 : Sd} {Q1 : VK} {E1 : XK}, Dp K H1 x e1.py → e1.ok → e1.dep ≤ n → sok s1 → e1.has f s1 → RInv K H1 a f s1 bx AA → (∀ H', RInv K H' a f (e1.ev f s1).2 bx AA → Frm a H1 H' → Q1 (.int (e1.ev f s1).1) H') → spNin K n [x, .ref a] H1 Q1 E1 := fun {H1 x e1 s1 Q1 E1} d o dp so ha si kq => by
        obtain ⟨n, rfl⟩ : ∃ q, n = q + 1 := ⟨n - 1, by have := e1.dep_pos; omega⟩
        exact ⟨x, a, e1, f, s1, bx, AA, rfl, d, o, dp, hf, so, ha, si, kq⟩
      have tws : ∀ H, SqT K H (He.ga K "TWO_SIDED") (twos.map V.str) := T.t_TWO_SIDED
      refine ⟨_, rfl, ca, _, _, _, rfl, rfl, sq, atI_nat (j := 0) rfl, ?_⟩
      cases e with
      | leaf l =>
        obtain ⟨p1, p2⟩ := l.pn ok
        have p3 := l.tw ok
        have hd1 : Dp K H (.ref ca) (.tuple l.ds) := by
          rw [Ex.py] at hd0
          exact hd0
        have hl : l.has f s := hh l (List.mem_singleton.mpr rfl)
        refine ⟨_, rfl, rfl, _, rfl, ite2 (fun z => absurd z (nf p1)) (fun _ => ?_)⟩
        refine ⟨_, rfl, rfl, _, rfl, ite2 (fun z => absurd z (nf p2)) (fun _ => ?_)⟩
        refine ⟨_, rfl, _, _, rfl, .inr (tws _), rfl, by decide, _, rfl, ?_⟩
        refine ite2 (fun z => absurd z (nf p3)) (fun _ => ?_)
        refine ⟨_, rfl, _, rfl, _, a, l, f, s, bx, AA, rfl, hd1, ok, hf, hso, hl, hI, fun H' I fr => ⟨_, rfl, _, _, _, rfl, ?_⟩⟩
        have q := kk H' I fr
        have e : kp (-999999) 999999 (l.ev f s).1 = ((Ex.leaf l).ev f s).1 := keep_id (l.ev_lim ok f hf s)
        rw [← e] at q
        exact q
      | neg b =>
        cases all with
        | @cons v1 vs1 _ _ h1 all =>
        cases all
        refine ⟨_, rfl, rfl, _, rfl, ite2 (fun z => absurd z (by show ¬ decide (V.str "not" = V.str "pick") = true; decide)) (fun _ => ?_)⟩
        refine ⟨_, rfl, rfl, _, rfl, ite2 (fun _ => iteT ?_) (fun z => absurd (by show decide (V.str "not" = V.str "not") = true; decide) z)⟩
        refine ⟨_, rfl, _, rfl, _, rfl, ca, _, rfl, sq, fun h => absurd h.1 (by show ¬ HT.sIx 2 0 (some 1) = 0; decide), fun p np => ?_⟩
        rw [show cutV [V.str b.neg.nm, v1] (some 1) none = [v1] from rfl]
        have sp := new_same (o := .tup [v1]) np
        refine ⟨p, rfl, ⟨_, SqT.of upd_same⟩, fun D hD => ?_⟩
        have hDn : H D = none := by
          cases e : H D with
          | none => rfl
          | some o => rw [sp _ _ e] at hD; cases hD
        have sD := sp.trans (new_same (o := .lst []) hD)
        refine lc_tup (xs := [v1]) (fun i H' => (i = 0 → H' = upd (upd H p (.tup [v1])) D (.lst [])) ∧ (i = 1 → H' D = some (.lst [.int (b.ev f s).1]) ∧ RInv K H' a f (b.ev f s).2 bx AA ∧ Frm a H H') ∧ SqT K H' p [v1]) ⟨fun _ => rfl, fun h => absurd h (by decide), (same_tf (new_same hD)).sq (SqT.of upd_same)⟩ (fun i H' _ h => h.2.2) (fun i y H' hy h => ?_) (fun H' h => ?_)
        · cases i with
          | succ i => cases hy
          | zero =>
            have hy' : y = v1 := (Option.some.inj hy).symm
            subst hy'
            obtain rfl := h.1 rfl
            refine ⟨rfl, ?_⟩
            dsimp only [tYes]
            rw [if_pos rfl]
            refine ⟨_, rfl, _, rfl, call (dp_nl (same_tf sD) _ _ b.nl h1) ok (by have : b.dep + 1 ≤ n + 1 := hdep; omega) hso hh (hI.same sD) (fun H2 I2 fr2 => ?_)⟩
            have hD2 : H2 D = some (.lst []) := fr2 D _ (hI.off hDn).2 upd_same
            refine ⟨[], hD2, by decide, fun h => absurd h (by simp), fun _ => ⟨upd_same, I2.put hD2 (hI.off hDn), fun q o hq z => ?_⟩, (TF.of_lst hD2).sq ?_⟩
            · rw [upd_ne (ne_of_none z hDn)]
              exact fr2 q o hq (sD _ _ z)
            · exact ((hI.same sD).tfd fr2).sq ((same_tf (new_same hD)).sq (SqT.of upd_same))
        · obtain ⟨hl, hI2, fr2⟩ := h.2.1 rfl
          exact ⟨_, D, rfl, .inl ⟨rfl, _, SqL.of hl, kk H' hI2 fr2⟩⟩
      | two k b c =>
        cases all with
        | @cons v1 vs1 _ _ h1 all =>
        cases all with
        | @cons v2 vs2 _ _ h2 all =>
        cases all
        obtain ⟨p1, p2, p3⟩ := twos_pn k ok.1
        have hd12 : Nat.max b.dep c.dep + 1 ≤ n + 1 := hdep
        have hb := Nat.le_max_left b.dep c.dep
        have hc := Nat.le_max_right b.dep c.dep
        have hbh : b.has f s := fun l hl => hh l (List.mem_append_left _ hl)
        have hch : c.has f (b.ev f s).2 := fun l hl => l.has_on (hh l (List.mem_append_right _ hl)) b
        refine ⟨_, rfl, rfl, _, rfl, ite2 (fun z => absurd z (nf p1)) (fun _ => ?_)⟩
        refine ⟨_, rfl, rfl, _, rfl, ite2 (fun z => absurd z (nf p2)) (fun _ => ?_)⟩
        refine ⟨_, rfl, _, _, rfl, .inr (tws _), rfl, by decide, _, rfl, ite2 (fun _ => ?_) (fun z => absurd (twos_in k ok.1) z)⟩
        refine ⟨_, rfl, _, rfl, _, rfl, ca, _, rfl, sq, fun h => absurd h.1 (by show ¬ HT.sIx 3 0 (some 1) = 0; decide), fun p np => ?_⟩
        rw [show cutV [V.str (Ex.two k b c).nm, v1, v2] (some 1) none = [v1, v2] from rfl]
        have sp := new_same (o := .tup [v1, v2]) np
        refine ⟨p, rfl, ⟨_, SqT.of upd_same⟩, fun D hD => ?_⟩
        have hDn : H D = none := by
          cases e : H D with
          | none => rfl
          | some o => rw [sp _ _ e] at hD; cases hD
        have sD := sp.trans (new_same (o := .lst []) hD)
        have naD : D ≠ a := (hI.off hDn).2
        refine lc_tup (xs := [v1, v2]) (fun i H' => (i = 0 → H' D = some (.lst []) ∧ RInv K H' a f s bx AA) ∧ (i = 1 → H' D = some (.lst [.int (b.ev f s).1]) ∧ RInv K H' a f (b.ev f s).2 bx AA) ∧ (i = 2 → H' D = some (.lst [.int (b.ev f s).1, .int (c.ev f (b.ev f s).2).1]) ∧ RInv K H' a f (c.ev f (b.ev f s).2).2 bx AA) ∧ SqT K H' p [v1, v2] ∧ Frm a H H' ∧ TF H H')
          ⟨fun _ => ⟨upd_same, hI.same sD⟩, fun h => absurd h (by decide), fun h => absurd h (by decide), (same_tf (new_same hD)).sq (SqT.of upd_same), Frm.of_same sD, same_tf sD⟩ (fun i H' _ h => h.2.2.2.1) (fun i y H' hy h => ?_) (fun H' h => ?_)
        · obtain ⟨g0, g1, _, gs, gf, gt⟩ := h
          match i, hy with
          | 0, hy =>
            have hy' : y = v1 := (Option.some.inj hy).symm
            subst hy'
            obtain ⟨hl, hI1⟩ := g0 rfl
            refine ⟨rfl, ?_⟩
            dsimp only [tYes]
            rw [if_pos rfl]
            refine ⟨_, rfl, _, rfl, call (dp_nl gt _ _ b.nl h1) ok.2.1 (Nat.le_trans hb (Nat.le_of_succ_le_succ hd12)) hso hbh hI1 (fun H2 I2 fr2 => ?_)⟩
            have hD2 := fr2 D _ naD hl
            have t2 := hI1.tfd fr2
            refine ⟨[], hD2, by decide, fun h => absurd h (by simp), fun _ => ⟨upd_same, I2.put hD2 (hI.off hDn)⟩, fun h => absurd h (by simp), (TF.of_lst hD2).sq (t2.sq gs), fun q o hq z => ?_, (gt.trans t2).trans (TF.of_lst hD2)⟩
            rw [upd_ne (ne_of_none z hDn)]
            exact fr2 q o hq (gf q o hq z)
          | 1, hy =>
            have hy' : y = v2 := (Option.some.inj hy).symm
            subst hy'
            obtain ⟨hl, hI1⟩ := g1 rfl
            refine ⟨rfl, ?_⟩
            dsimp only [tYes]
            rw [if_pos rfl]
            refine ⟨_, rfl, _, rfl, call (dp_nl gt _ _ c.nl h2) ok.2.2 (Nat.le_trans hc (Nat.le_of_succ_le_succ hd12)) (b.ev_sok f hso) hch hI1 (fun H2 I2 fr2 => ?_)⟩
            have hD2 := fr2 D _ naD hl
            have t2 := hI1.tfd fr2
            refine ⟨_, hD2, (show 1 < sizeLine by decide), fun h => absurd h (by simp), fun h => absurd h (by simp), fun _ => ⟨upd_same, I2.put hD2 (hI.off hDn)⟩, (TF.of_lst hD2).sq (t2.sq gs), fun q o hq z => ?_, (gt.trans t2).trans (TF.of_lst hD2)⟩
            rw [upd_ne (ne_of_none z hDn)]
            exact fr2 q o hq (gf q o hq z)
          | i + 2, hy => cases hy
        · obtain ⟨hl, hI2⟩ := h.2.2.1 rfl
          exact ⟨_, D, rfl, .inr ⟨ok.1, _, _, SqL.of hl, b.ev_lim f hf ok.2.1 s, c.ev_lim f hf ok.2.2 _, kk H' hI2 h.2.2.2.2.1⟩⟩
      | pick b c d =>
        cases all with
        | @cons v1 vs1 _ _ h1 all =>
        cases all with
        | @cons v2 vs2 _ _ h2 all =>
        cases all with
        | @cons v3 vs3 _ _ h3 all =>
        cases all
        have hd12 : Nat.max b.dep (Nat.max c.dep d.dep) + 1 ≤ n + 1 := hdep
        have hd12 := Nat.le_of_succ_le_succ hd12
        have hb := Nat.le_trans (Nat.le_max_left b.dep (Nat.max c.dep d.dep)) hd12
        have hcd := Nat.le_trans (Nat.le_max_right b.dep (Nat.max c.dep d.dep)) hd12
        have hc := Nat.le_trans (Nat.le_max_left c.dep d.dep) hcd
        have hdd := Nat.le_trans (Nat.le_max_right c.dep d.dep) hcd
        have hbh : b.has f s := fun l hl => hh l (List.mem_append_left _ hl)
        have hch : c.has f (b.ev f s).2 := fun l hl => l.has_on (hh l (List.mem_append_right _ (List.mem_append_left _ hl))) b
        have hdh : d.has f (b.ev f s).2 := fun l hl => l.has_on (hh l (List.mem_append_right _ (List.mem_append_right _ hl))) b
        refine ⟨_, rfl, rfl, _, rfl, ite2 (fun _ => ?_) (fun z => absurd (by show decide (V.str "pick" = V.str "pick") = true; decide) z)⟩
        refine ⟨_, rfl, ca, _, _, _, rfl, rfl, sq, atI_nat (j := 1) rfl, _, rfl, call h1 ok.1 hb hso hbh hI (fun H1 I1 fr1 => ?_)⟩
        have tf := hI.tfd fr1
        have sq1 := tf.sq sq
        refine ⟨rfl, _, rfl, ite2 (fun z => ?_) (fun z => ?_)⟩
        · have e1 : (Ex.pick b c d).ev f s = c.ev f (b.ev f s).2 := by
            show (if (b.ev f s).1 ≠ 0 then c.ev f (b.ev f s).2 else d.ev f (b.ev f s).2) = _
            rw [dec_int] at z
            rw [if_pos (by simpa using z)]
          rw [e1] at kk
          exact ⟨_, rfl, _, rfl, ca, _, _, _, rfl, rfl, sq1, atI_nat (j := 2) rfl, _, rfl, call (dp_nl tf _ _ c.nl h2) ok.2.1 hc (b.ev_sok f hso) hch I1 (fun H2 I2 fr2 => kk H2 I2 (fr1.trans fr2))⟩
        · have e1 : (Ex.pick b c d).ev f s = d.ev f (b.ev f s).2 := by
            show (if (b.ev f s).1 ≠ 0 then c.ev f (b.ev f s).2 else d.ev f (b.ev f s).2) = _
            rw [dec_int] at z
            rw [if_neg (by simpa using z)]
          rw [e1] at kk
          exact ⟨_, rfl, _, rfl, ca, _, _, _, rfl, rfl, sq1, atI_nat (j := 3) rfl, _, rfl, call (dp_nl tf _ _ d.nl h3) ok.2.2 hdd (b.ev_sok f hso) hdh I1 (fun H2 I2 fr2 => kk H2 I2 (fr1.trans fr2))⟩
end
end K5
set_option maxRecDepth 100000
set_option maxHeartbeats 2000000
/-! The program's forms. -/
namespace KF
open PySem PySem.Spec PyProof.Rows L2
def tKGet (K : PySem.W.Frag) (d : Addr) (to ty : TE) : TE := fun σ H Q => to σ H fun x H1 => x = .ref d ∧ ty σ H1 fun y H2 => ∃ (z : Str) (r : Option Value) (v : V), y = .str z ∧ PySem.W.nsIn K d z = some r ∧ RelV v (r.getD .none) ∧ Q v H2
section
variable {X : Cx} {o e : Expr} {apos cpos : Pos} {to ty : TE} {d : Addr} {es : Array DictEntry} {n : Nat}
theorem pe_kget (D : KDict X.K X.w d es n) (ho : PE X o to) (he : PE X e ty) (m : M1 X o "get" apos e cpos) : PE X (.Call (.Attribute o "get" apos) [e] [] cpos) (tKGet X.K d to ty) := by
  refine ⟨fun pins s σ H Q I h => ?_⟩
  refine wpAny_Call_method m.base m.few m.line PySem.F.plainAttrs_dict PySem.F.slot_dict_get PySem.F.type_dict_get (thn (ho.run pins s σ H _ I h) fun u s1 ⟨x, H1, I1, rx, ex, q1⟩ => ?_)
  subst ex
  obtain rfl : u = Value.ref d := rx
  have mo := PySem.W.mapOf_K (prog := X.prog) (w := X.w) I1.kIn D.at_ D.lit
  refine ⟨mo.typeIs, fun b q => ?_, ?_⟩
  · cases q
    exact ⟨_, I1.kIn _ _ D.at_, rfl⟩
  rw [m.trees]
  refine Calls.callWith_builtin rfl (Calls.evalArgs_plain (Calls.spliced_cons (thn (he.run pins s1 σ H1 _ I1 q1) fun iv s2 ⟨y, H2, I2, ry, z, r, v, ey, en, rv, q2⟩ => Calls.spliced_nil ?_)))
  subst ey
  obtain ⟨t, rfl⟩ := ry
  have mo2 := PySem.W.mapOf_K (prog := X.prog) (w := X.w) I2.kIn D.at_ D.lit
  refine call_meetsIn PySem.F.slot_dict_get mo2.typeIs PySem.F.entry_dict_get (PySem.F.args_dict_get_2 _ _) (meets_dict_get (PySem.strKind X.prog X.w) d (PySem.strKind_is X.prog X.w z t) D.low) ⟨_, mo2, ?_⟩
  rw [PySem.W.find_K D.at_ en]
  exact ⟨v, H2, I2.tok _, rv, q2⟩
theorem ix_kdict (D : KDict X.K X.w d es n) : IxR X (fun x y H Q => ∃ (z : Str) (u0 : Value) (v0 : V), x = .ref d ∧ y = .str z ∧ PySem.W.nsIn X.K d z = some (some u0) ∧ RelV v0 u0 ∧ Q v0 H) := by
  intro value slice pins s σ H x y v u Q I rx ry h hs
  obtain ⟨z, u0, v0, rfl, rfl, e, r, q⟩ := h
  cases rx
  obtain ⟨t, rfl⟩ := ry
  refine tail_any (kd_type D I) PySem.F.slot_dict_getitem.lookup ?_ hs
  exact wpAny_getItem_of (PySem.strKind_is X.prog X.w z t) (PySem.W.mapOf_K (prog := X.prog) I.kIn D.at_ D.lit) (PySem.W.find_K D.at_ e) ⟨v0, H, I.tok _, r, q⟩
end
end KF
namespace K5
open PySem PySem.Spec PyProof.Rows L2 KF
section
variable {P : Program} {w : World} {K : PySem.W.Frag} {mg : Str → Option Value} {base : Heap}
theorem nf' {b : Bool} (h : b = false) : ¬ b = true := by rw [h]; decide
def spWhole : Sp := fun vs H Q _ => ∃ n : Int, vs = [.int n] ∧ Q (.bl true) H
theorem scWh : FnScope ["told"] ["told"] (defScope s_is_whole) := ⟨rfl, rfl, rfl, by decide +kernel, rfl, by decide +kernel, by decide +kernel⟩
theorem ok_is_whole (T : Txt K w mg) : FnOk P w K mg base CX0 1 (He.fAd K ("is_whole", none)) (fdAt K (He.fAd K ("is_whole", none))) ["told"] spWhole := by
  refine T.F_is_whole.ok scWh (fun vs H Q E h => ?_) (fun cdv A outer s H vs Q E hr h => ?_)
  · obtain ⟨n, rfl, _⟩ := h
    rfl
  · obtain ⟨n, rfl, q⟩ := h
    refine ⟨_, PSs.nox (pss_one (ps_ret (pe_and (pe_callB (r := rIsi K) call_isi (by rfl) T.n_isinstance PyProof.Rows.Boot.«isinstance» (pa_cons (pv 0) (pa_cons (pe_bltn (v := .ty "int") (by rfl) T.n_int PyProof.Rows.Boot.«int» rfl) pa_nil))) (pe_one (pe_not (pe_callB (r := rIsi K) call_isi (by rfl) T.n_isinstance PyProof.Rows.Boot.«isinstance» (pa_cons (pv 0) (pa_cons (pe_bltn (v := .ty "bool") (by rfl) T.n_bool PyProof.Rows.Boot.«bool» rfl) pa_nil)))))))), ?_⟩
    refine ⟨_, rfl, _, _, _, _, _, rfl, .ty "int", .base (.int n), kit_ty (r := true) (by decide +kernel), _, rfl, iteT ?_⟩
    exact ⟨_, rfl, _, _, _, _, _, rfl, .ty "bool", .base (.int n), kit_ty (r := false) (by decide +kernel), _, rfl, q⟩
def spBetween : Sp := fun vs H Q _ => ∃ n lo hi : Int, vs = [.int n, .int lo, .int hi] ∧ lo ≤ n ∧ n ≤ hi ∧ Q (.bl true) H
theorem scBe : FnScope ["told", "low", "high"] ["told", "low", "high"] (defScope s_is_between) := ⟨rfl, rfl, rfl, by decide +kernel, rfl, by decide +kernel, by decide +kernel⟩
theorem ok_is_between (T : Txt K w mg) : FnOk P w K mg base CX0 2 (He.fAd K ("is_between", none)) (fdAt K (He.fAd K ("is_between", none))) ["told", "low", "high"] spBetween := by
  refine T.F_is_between.ok scBe (fun vs H Q E h => ?_) (fun cdv A outer s H vs Q E hr h => ?_)
  · obtain ⟨n, lo, hi, rfl, _⟩ := h
    rfl
  · obtain ⟨n, lo, hi, rfl, h1, h2, q⟩ := h
    refine ⟨_, PSs.nox (pss_one (ps_ret (pe_and (pe_call (ok_is_whole T) (hr.mono (by decide)) (by rfl) T.g_is_whole (T.F_is_whole).kp T.b_is_whole .nil pass0 (pa_cons (pv 0) pa_nil)) (pe_one (pe_chain op_le op_le (pv 1) (pv 0) (pv 2)))))), ?_⟩
    refine ⟨_, rfl, n, rfl, _, rfl, iteT ?_⟩
    refine ⟨_, rfl, _, rfl, _, _, rfl, rfl, _, rfl, ite2 (fun _ => ?_) (fun z => absurd (decide_eq_true h1) z)⟩
    refine ⟨_, rfl, _, _, rfl, rfl, ?_⟩
    show Q (V.bl (decide (n ≤ hi))) H
    rw [decide_eq_true h2]
    exact q
def spSign : Sp := fun vs H Q _ => ∃ c : Str, vs = [.str c] ∧ c ∈ signs ∧ Q (.bl true) H
theorem scSg : FnScope ["told"] ["told"] (defScope s_is_sign) := ⟨rfl, rfl, rfl, by decide +kernel, rfl, by decide +kernel, by decide +kernel⟩
theorem ok_is_sign (T : Txt K w mg) : FnOk P w K mg base CX0 1 (He.fAd K ("is_sign", none)) (fdAt K (He.fAd K ("is_sign", none))) ["told"] spSign := by
  obtain ⟨uS, gS, rS⟩ := T.c_SIGNS
  refine T.F_is_sign.ok scSg (fun vs H Q E h => ?_) (fun cdv A outer s H vs Q E hr h => ?_)
  · obtain ⟨c, rfl, _⟩ := h
    rfl
  · obtain ⟨c, rfl, hc, q⟩ := h
    refine ⟨_, PSs.nox (pss_one (ps_ret (pe_and (pe_callB (r := rIsi K) call_isi (by rfl) T.n_isinstance PyProof.Rows.Boot.«isinstance» (pa_cons (pv 0) (pa_cons (pe_bltn (v := .ty "str") (by rfl) T.n_str PyProof.Rows.Boot.«str» rfl) pa_nil))) (pe_and (pe_cmpR op_eq (pe_callB call_len_str (by rfl) T.n_len PyProof.Rows.Boot.«len» (pa_cons (pv 0) pa_nil)) pe_int (nomark _)) (pe_one (pe_cmpR op_in_sign (pv 0) (pe_glob (v := .str ".#=<>^wg") (by rfl) gS rS) rfl)))))), ?_⟩
    simp only [signs, List.mem_cons, List.not_mem_nil, or_false] at hc
    rcases hc with rfl | rfl | rfl | rfl | rfl | rfl | rfl | rfl
    all_goals refine ⟨_, rfl, _, _, _, _, _, rfl, .ty "str", .base (.str _), kit_ty (r := true) (by decide +kernel), _, rfl, iteT ?_⟩
    all_goals refine ⟨_, rfl, _, rfl, (by decide), rfl, _, rfl, iteT ?_⟩
    all_goals refine ⟨_, rfl, _, _, rfl, rfl, ?_⟩
    all_goals exact q
/-! ### _is_single -/
def snOk (s : Str) (d : PyData) : Prop := match d with
  | .str c => s = "sign" ∧ c ∈ signs
  | .int n => ∃ lo hi, (s, [He.Dv.int lo, He.Dv.int hi]) ∈ v_RANGES ∧ lo ≤ n ∧ n ≤ hi
  | _ => False
def spSn (K : PySem.W.Frag) : Sp := fun vs H Q _ => ∃ (s : Str) (v : V) (d : PyData), vs = [.str s, v] ∧ Dp K H v d ∧ snOk s d ∧ Q (.bl true) H
theorem scSn : FnScope ["wanted", "part", "low", "high"] ["wanted", "part"] (defScope s_is_single) := ⟨rfl, rfl, rfl, by decide +kernel, rfl, by decide +kernel, by decide +kernel⟩
theorem ranges_sign : ∀ q ∈ v_RANGES, decide (V.str q.1 = V.str "sign") = false := by decide
theorem ok_is_single (T : Txt K w mg) : FnOk P w K mg base CX0 3 (He.fAd K ("_is_single", none)) (fdAt K (He.fAd K ("_is_single", none))) ["wanted", "part"] (spSn K) := by
  obtain ⟨es, n, DR⟩ := T.t_RANGES
  refine T.F_is_single.ok scSn (fun vs H Q E h => ?_) (fun cdv A outer s H vs Q E hr h => ?_)
  · obtain ⟨s, v, d, rfl, _⟩ := h
    rfl
  · obtain ⟨s, v, d, rfl, hd, hs, q⟩ := h
    refine ⟨_, PSs.nox (pss_cons (ps_if (pt_cmpR op_eq (pv 0) pe_str (nomark _)) (pss_one (ps_ret (pe_call (ok_is_sign T) (hr.mono (by decide)) (by rfl) T.g_is_sign (T.F_is_sign).kp T.b_is_sign .nil pass0 (pa_cons (pv 1) pa_nil)))) pss_nil)
      (pss_cons (ps_asg (pe_ix (ix_kdict DR) (pe_glob (v := .ref (He.ga K "RANGES")) (by rfl) T.g_RANGES rfl) (pv 0) (fun _ _ => rfl)) (pg_tup (by rfl) (pgs_cons (pg_name (i := 2) scSn.nd rfl (Or.inl rfl)) (pgs_cons (pg_name (i := 3) scSn.nd rfl (Or.inl rfl)) pgs_nil))))
      (pss_one (ps_ret (pe_call (ok_is_between T) (hr.mono (by decide)) (by rfl) T.g_is_between (T.F_is_between).kp T.b_is_between .nil pass0 (pa_cons (pv 1) (pa_cons (pv 2) (pa_cons (pv 3) pa_nil)))))))), ?_⟩
    cases d with
    | str c =>
      obtain ⟨rfl, hc⟩ := hs
      cases hd
      refine ⟨_, rfl, rfl, _, rfl, ite2 (fun _ => ?_) (fun z => absurd (by decide) z)⟩
      exact ⟨_, rfl, c, rfl, hc, q⟩
    | int i =>
      obtain ⟨lo, hi, hm, h1, h2⟩ := hs
      cases hd
      refine ⟨_, rfl, rfl, _, rfl, ite2 (fun z => absurd z (nf' (ranges_sign _ hm))) (fun _ => ?_)⟩
      obtain ⟨hn, hsq⟩ := T.u_RANGES _ hm
      refine ⟨_, rfl, s, _, .ref (dtA K "RANGES" s), rfl, rfl, hn, rfl, ?_⟩
      refine ⟨_, _, rfl, hsq H, rfl, ?_⟩
      refine ⟨_, _, rfl, _, _, rfl, rfl, ?_⟩
      exact ⟨_, rfl, _, rfl, _, rfl, i, lo, hi, rfl, h1, h2, q⟩
    | none => exact hs.elim
    | bool _ => exact hs.elim
    | list _ => exact hs.elim
    | tuple _ => exact hs.elim
    | dict _ => exact hs.elim
end
end K5
set_option maxRecDepth 100000
set_option maxHeartbeats 2000000
/-! The program's forms of an expression. -/
namespace K5
open PySem PySem.Spec PyProof.Rows L2 KF
def fit (s : Str) (d : PyData) : Prop := snOk s d ∧ decide (V.str s = V.str "part") = false ∧ decide (V.str s = V.str "deeds") = false
def Nd.isd : Nd → Bool
  | .deed _ => true
  | .tree _ => false
def Nd.kd (x : Nd) : PyData := .tuple [x.py, .bool x.isd]
theorem nl_kd : ∀ xs : List Nd, NLs (xs.map Nd.kd)
  | [] => trivial
  | x :: xs => ⟨⟨x.nl, trivial, trivial⟩, nl_kd xs⟩
def Nd.form (x : Nd) : List Str := x.sg.map (·.1) ++ x.ch.map Ch.word
def Nd.forms (x : Nd) : List (Str × List He.Dv) := if x.isd then v_DEED_FORMS else v_EXPRESSION_FORMS
theorem Lf.fits (l : Lf) (ok : l.ok) : ∀ p ∈ l.sg, fit p.1 p.2 := by
  have one : ∀ {s : Str} {d : PyData}, fit s d → ∀ p ∈ [(s, d)], fit p.1 p.2 := fun h p hp => by
    rw [List.mem_singleton.mp hp]
    exact h
  cases l with
  | number n => exact one ⟨⟨-9999, 9999, (by unfold v_RANGES; repeat (first | exact List.Mem.head _ | apply List.Mem.tail)), ok.1, ok.2⟩, by rfl, by rfl⟩
  | own n => exact one ⟨⟨0, 3, (by unfold v_RANGES; repeat (first | exact List.Mem.head _ | apply List.Mem.tail)), ok.1, ok.2⟩, by rfl, by rfl⟩
  | mark n => exact one ⟨⟨0, 15, (by unfold v_RANGES; repeat (first | exact List.Mem.head _ | apply List.Mem.tail)), ok.1, ok.2⟩, by rfl, by rfl⟩
  | word w => intro p hp; cases hp
  | held n => exact one ⟨⟨0, 5, (by unfold v_RANGES; repeat (first | exact List.Mem.head _ | apply List.Mem.tail)), ok.1, ok.2⟩, by rfl, by rfl⟩
  | met n => exact one ⟨⟨0, 7, (by unfold v_RANGES; repeat (first | exact List.Mem.head _ | apply List.Mem.tail)), ok.1, ok.2⟩, by rfl, by rfl⟩
  | metOwn k i =>
    intro p hp
    rcases List.mem_cons.mp hp with h | h
    · rw [h]
      exact ⟨⟨0, 7, (by unfold v_RANGES; repeat (first | exact List.Mem.head _ | apply List.Mem.tail)), ok.1, ok.2.1⟩, by rfl, by rfl⟩
    · rw [List.mem_singleton.mp h]
      exact ⟨⟨0, 3, (by unfold v_RANGES; repeat (first | exact List.Mem.head _ | apply List.Mem.tail)), ok.2.2.1, ok.2.2.2⟩, by rfl, by rfl⟩
  | here c => exact one ⟨⟨rfl, ok⟩, by rfl, by rfl⟩
  | under c => exact one ⟨⟨rfl, ok⟩, by rfl, by rfl⟩
  | drawn n => exact one ⟨⟨1, 99, (by unfold v_RANGES; repeat (first | exact List.Mem.head _ | apply List.Mem.tail)), ok.1, ok.2⟩, by rfl, by rfl⟩
theorem Nd.fits (x : Nd) (ok : x.ok) : ∀ p ∈ x.sg, fit p.1 p.2 := by
  cases x with
  | tree e =>
    cases e with
    | leaf l => exact l.fits ok
    | _ => intro p hp; cases hp
  | deed d =>
    cases d with
    | own i a =>
      intro p hp
      rw [Nd.ok, De.ok] at ok
      rw [List.mem_singleton.mp hp]
      exact ⟨⟨0, 3, (by unfold v_RANGES; repeat (first | exact List.Mem.head _ | apply List.Mem.tail)), ok.1, ok.2.1⟩, by rfl, by rfl⟩
    | mark i a =>
      intro p hp
      rw [Nd.ok, De.ok] at ok
      rw [List.mem_singleton.mp hp]
      exact ⟨⟨0, 15, (by unfold v_RANGES; repeat (first | exact List.Mem.head _ | apply List.Mem.tail)), ok.1, ok.2.1⟩, by rfl, by rfl⟩
    | born k a b c d =>
      intro p hp
      rw [Nd.ok, De.ok] at ok
      rw [List.mem_singleton.mp hp]
      exact ⟨⟨0, 7, (by unfold v_RANGES; repeat (first | exact List.Mem.head _ | apply List.Mem.tail)), ok.1, ok.2.1⟩, by rfl, by rfl⟩
    | go a b => intro p hp; cases hp
    | gone => intro p hp; cases hp
    | when a ds es => intro p hp; cases hp
theorem words_form : ∀ w ∈ words, (w, ([] : List He.Dv)) ∈ v_EXPRESSION_FORMS := by
  intro k hk
  simp only [words, List.mem_cons, List.not_mem_nil, or_false] at hk
  rcases hk with rfl | rfl | rfl | rfl | rfl
  all_goals (unfold v_EXPRESSION_FORMS; repeat (first | exact List.Mem.head _ | apply List.Mem.tail))
theorem twos_form : ∀ k ∈ twos, (k, [He.Dv.str "part", He.Dv.str "part"]) ∈ v_EXPRESSION_FORMS := by
  intro k hk
  simp only [twos, List.mem_cons, List.not_mem_nil, or_false] at hk
  rcases hk with rfl | rfl | rfl | rfl | rfl | rfl | rfl | rfl | rfl | rfl | rfl
  all_goals (unfold v_EXPRESSION_FORMS; repeat (first | exact List.Mem.head _ | apply List.Mem.tail))
theorem Nd.form_mem (x : Nd) (ok : x.ok) : (x.nm, x.form.map He.Dv.str) ∈ x.forms := by
  cases x with
  | deed d =>
    show _ ∈ v_DEED_FORMS
    cases d with
    | own i a => show (("own" : Str), [He.Dv.str "own", He.Dv.str "part"]) ∈ v_DEED_FORMS; unfold v_DEED_FORMS; repeat (first | exact List.Mem.head _ | apply List.Mem.tail)
    | mark i a => show (("mark" : Str), [He.Dv.str "mark", He.Dv.str "part"]) ∈ v_DEED_FORMS; unfold v_DEED_FORMS; repeat (first | exact List.Mem.head _ | apply List.Mem.tail)
    | go a b => show (("go" : Str), [He.Dv.str "part", He.Dv.str "part"]) ∈ v_DEED_FORMS; unfold v_DEED_FORMS; repeat (first | exact List.Mem.head _ | apply List.Mem.tail)
    | born k a b c d => show (("born" : Str), [He.Dv.str "kind", He.Dv.str "part", He.Dv.str "part", He.Dv.str "part", He.Dv.str "part"]) ∈ v_DEED_FORMS; unfold v_DEED_FORMS; repeat (first | exact List.Mem.head _ | apply List.Mem.tail)
    | gone => show (("gone" : Str), []) ∈ v_DEED_FORMS; unfold v_DEED_FORMS; repeat (first | exact List.Mem.head _ | apply List.Mem.tail)
    | when a ds es => show (("when" : Str), [He.Dv.str "part", He.Dv.str "deeds", He.Dv.str "deeds"]) ∈ v_DEED_FORMS; unfold v_DEED_FORMS; repeat (first | exact List.Mem.head _ | apply List.Mem.tail)
  | tree e =>
    show _ ∈ v_EXPRESSION_FORMS
    cases e with
    | neg a => show (("not" : Str), [He.Dv.str "part"]) ∈ v_EXPRESSION_FORMS; unfold v_EXPRESSION_FORMS; repeat (first | exact List.Mem.head _ | apply List.Mem.tail)
    | two k a b => exact twos_form k ok.1
    | pick a b c => show (("pick" : Str), [He.Dv.str "part", He.Dv.str "part", He.Dv.str "part"]) ∈ v_EXPRESSION_FORMS; unfold v_EXPRESSION_FORMS; repeat (first | exact List.Mem.head _ | apply List.Mem.tail)
    | leaf l =>
      cases l with
      | word w => exact words_form w ok
      | number n => show (("number" : Str), [He.Dv.str "number"]) ∈ v_EXPRESSION_FORMS; unfold v_EXPRESSION_FORMS; repeat (first | exact List.Mem.head _ | apply List.Mem.tail)
      | own n => show (("own" : Str), [He.Dv.str "own"]) ∈ v_EXPRESSION_FORMS; unfold v_EXPRESSION_FORMS; repeat (first | exact List.Mem.head _ | apply List.Mem.tail)
      | mark n => show (("mark" : Str), [He.Dv.str "mark"]) ∈ v_EXPRESSION_FORMS; unfold v_EXPRESSION_FORMS; repeat (first | exact List.Mem.head _ | apply List.Mem.tail)
      | held n => show (("held" : Str), [He.Dv.str "key"]) ∈ v_EXPRESSION_FORMS; unfold v_EXPRESSION_FORMS; repeat (first | exact List.Mem.head _ | apply List.Mem.tail)
      | met n => show (("met" : Str), [He.Dv.str "kind"]) ∈ v_EXPRESSION_FORMS; unfold v_EXPRESSION_FORMS; repeat (first | exact List.Mem.head _ | apply List.Mem.tail)
      | metOwn n m => show (("met own" : Str), [He.Dv.str "kind", He.Dv.str "own"]) ∈ v_EXPRESSION_FORMS; unfold v_EXPRESSION_FORMS; repeat (first | exact List.Mem.head _ | apply List.Mem.tail)
      | here n => show (("here" : Str), [He.Dv.str "sign"]) ∈ v_EXPRESSION_FORMS; unfold v_EXPRESSION_FORMS; repeat (first | exact List.Mem.head _ | apply List.Mem.tail)
      | under n => show (("under" : Str), [He.Dv.str "sign"]) ∈ v_EXPRESSION_FORMS; unfold v_EXPRESSION_FORMS; repeat (first | exact List.Mem.head _ | apply List.Mem.tail)
      | drawn n => show (("drawn" : Str), [He.Dv.str "draw"]) ∈ v_EXPRESSION_FORMS; unfold v_EXPRESSION_FORMS; repeat (first | exact List.Mem.head _ | apply List.Mem.tail)
theorem nl_get : ∀ {ds : List PyData} {i : Nat}, NLs ds → (h : i < ds.length) → NL ds[i]
  | d :: ds, 0, h, _ => h.1
  | d :: ds, i + 1, h, hi => nl_get (ds := ds) h.2 (Nat.lt_of_succ_lt_succ hi)
theorem Nd.form_len (x : Nd) : x.form.length = x.args.length := by
  rw [Nd.form, Nd.args_len, List.length_append, List.length_map, List.length_map]
theorem Nd.form_sg (x : Nd) (i : Nat) (h : i < x.sg.length) : x.form[i]? = some x.sg[i].1 ∧ x.args[i]? = some x.sg[i].2 := by
  rw [Nd.form, Nd.args, List.getElem?_append_left (by rw [List.length_map]; exact h), List.getElem?_append_left (by rw [List.length_map]; exact h), List.getElem?_map, List.getElem?_map, List.getElem?_eq_getElem h]
  exact ⟨rfl, rfl⟩
theorem Nd.form_ch (x : Nd) (j : Nat) (h : j < x.ch.length) : x.form[x.sg.length + j]? = some x.ch[j].word := by
  rw [Nd.form, List.getElem?_append_right (by rw [List.length_map]; omega), List.length_map, Nat.add_sub_cancel_left, List.getElem?_map, List.getElem?_eq_getElem h]
  rfl
/-- what the first parts hold -/
def Nd.upTo (x : Nd) (i : Nat) : List Nd := (x.ch.take (i - x.sg.length)).flatMap Ch.kids
theorem Nd.upTo_sg (x : Nd) (i : Nat) (h : i < x.sg.length) : x.upTo (i + 1) = x.upTo i := by
  rw [Nd.upTo, Nd.upTo, show i + 1 - x.sg.length = 0 by omega, show i - x.sg.length = 0 by omega]
theorem Nd.upTo_ch (x : Nd) (j : Nat) (h : j < x.ch.length) : x.upTo (x.sg.length + j + 1) = x.upTo (x.sg.length + j) ++ x.ch[j].kids := by
  rw [Nd.upTo, Nd.upTo, show x.sg.length + j + 1 - x.sg.length = j + 1 by omega, show x.sg.length + j - x.sg.length = j by omega, List.take_add_one, List.getElem?_eq_getElem h, List.flatMap_append]
  simp
theorem Nd.upTo_all (x : Nd) : x.upTo x.args.length = x.kids := by
  rw [Nd.upTo, Nd.args_len, show x.sg.length + x.ch.length - x.sg.length = x.ch.length by omega, List.take_length]
  rfl
theorem Nd.upTo_nsz (x : Nd) (i : Nat) : (x.upTo i).length ≤ nsz x.kids := by
  have h : x.kids = x.upTo i ++ (x.ch.drop (i - x.sg.length)).flatMap Ch.kids := by
    rw [Nd.upTo, ← List.flatMap_append, List.take_append_drop]
    rfl
  rw [h, nsz_app]
  have := len_nsz (x.upTo i)
  omega
section
variable {P : Program} {w : World} {K : PySem.W.Frag} {mg : Str → Option Value} {base : Heap}
def spParts (K : PySem.W.Frag) : Sp := fun vs H Q _ => ∃ (v : V) (e : Nd), vs = [v, .bl e.isd] ∧ Dp K H v e.py ∧ e.ok ∧ e.size ≤ 100 ∧
    ∀ (p : Addr) pv H', H' p = some (.lst pv) → DpAll K H' pv (e.kids.map Nd.kd) → Same H H' → H p = none → Q (.ref p) H'
theorem scPp : FnScope ["told", "is_deed", "form", "parts", "wanted", "part", "deed"] ["told", "is_deed"] (defScope s_parts) := ⟨rfl, rfl, rfl, by decide +kernel, rfl, by decide +kernel, by decide +kernel⟩
theorem ok_parts (T : Txt K w mg) : FnOk P w K mg base CX0 4 (He.fAd K ("_parts", none)) (fdAt K (He.fAd K ("_parts", none))) ["told", "is_deed"] (spParts K) := by
  obtain ⟨es, n, DE⟩ := T.t_EXPRESSION_FORMS
  obtain ⟨es2, n2, DD⟩ := T.t_DEED_FORMS
  refine T.F_parts.ok scPp (fun vs H Q E h => ?_) (fun cdv A outer s H vs Q E hr h => ?_)
  · obtain ⟨v, e, rfl, _⟩ := h
    rfl
  · obtain ⟨v, e, rfl, hd, ok, hz, k⟩ := h
    refine ⟨_, PSs.nox (pss_cons (ps_if (PW.pt (pw_or (pt_not (pt_val (pe_callB (r := rIsi K) call_isi (by rfl) T.n_isinstance PyProof.Rows.Boot.«isinstance» (pa_cons (pv 0) (pa_cons (pe_bltn (v := .ty "tuple") (by rfl) T.n_tuple PyProof.Rows.Boot.«tuple» rfl) pa_nil))))) (pw_or (pt_not (pt_truth (pv 0) (by intro _; rfl))) (pw_or1 (pt_not (pt_val (pe_callB (r := rIsi K) call_isi (by rfl) T.n_isinstance PyProof.Rows.Boot.«isinstance» (pa_cons (pe_ix (r := rIxT K) ix_tup (pv 0) pe_int (fun _ _ => rfl)) (pa_cons (pe_bltn (v := .ty "str") (by rfl) T.n_str PyProof.Rows.Boot.«str» rfl) pa_nil))))))))) (pss_one (ps_ret pe_non)) pss_nil)
      (pss_cons (ps_set (i := 2) scPp.nd rfl (Or.inl rfl) (pe_ifExp (pt_val (pv 1)) (pe_kget DD (pe_glob (v := .ref (He.ga K "DEED_FORMS")) (by rfl) T.g_DEED_FORMS rfl) (pe_ix (r := rIxT K) ix_tup (pv 0) pe_int (fun _ _ => rfl)) ⟨rfl, rfl, rfl, rfl⟩) (pe_kget DE (pe_glob (v := .ref (He.ga K "EXPRESSION_FORMS")) (by rfl) T.g_EXPRESSION_FORMS rfl) (pe_ix (r := rIxT K) ix_tup (pv 0) pe_int (fun _ _ => rfl)) ⟨rfl, rfl, rfl, rfl⟩)))
      (pss_cons (ps_if (PW.pt (pw_or (pt_cmpR op_isN (pv 2) pe_non (nomark _)) (pw_or1 (pt_cmpR op_ne (pe_callB (r := Evl.rLenS K) call_len_seq (by rfl) T.n_len PyProof.Rows.Boot.«len» (pa_cons (pv 2) pa_nil)) (pe_op op_sub (pe_callB (r := Evl.rLenS K) call_len_seq (by rfl) T.n_len PyProof.Rows.Boot.«len» (pa_cons (pv 0) pa_nil)) pe_int) (nomark _))))) (pss_one (ps_ret pe_non)) pss_nil)
      (pss_cons (ps_set (i := 3) scPp.nd rfl (Or.inl rfl) (pe_lst pa_nil))
      (pss_cons (ps_for PassesOwn.never rfl (RZ.pi_zipA (by rfl) T.n_zip (pa_cons (pv 2) (pa_cons (pe_slice sl_tup (pv 0) (po_some pe_int) po_none) pa_nil))) (pg_tup (by rfl) (pgs_cons (pg_name (i := 4) scPp.nd rfl (Or.inl rfl)) (pgs_cons (pg_name (i := 5) scPp.nd rfl (Or.inl rfl)) pgs_nil))) (pss_one (ps_if (pt_cmpR op_eq (pv 4) pe_str (nomark _)) (pss_one (ps_expr (pe_bm PySem.F.plainAttrs_list PySem.F.slot_list_append PySem.F.type_list_append mt_append (pv 3) (pa_cons (pe_tup (pa_cons (pv 5) (pa_cons pe_bl pa_nil))) pa_nil)))) (pss_one (ps_if (pt_cmpR op_eq (pv 4) pe_str (nomark _)) (pss_cons (ps_if (pt_not (pt_val (pe_callB (r := rIsi K) call_isi (by rfl) T.n_isinstance PyProof.Rows.Boot.«isinstance» (pa_cons (pv 5) (pa_cons (pe_bltn (v := .ty "tuple") (by rfl) T.n_tuple PyProof.Rows.Boot.«tuple» rfl) pa_nil))))) (pss_one (ps_ret pe_non)) pss_nil)
      (pss_one (ps_expr (pe_bm PySem.F.plainAttrs_list PySem.F.slot_list_extend PySem.F.type_list_extend mt_extend (pv 3) (pa_cons (pe_lc (own := [("deed", 6)]) (g := gName 6) (tt := tYes) (by rfl) scPp.nd (pi_tup (pv 5)) (blkOk_by (own := [("deed", 6)]) (N := ["told", "is_deed", "form", "parts", "wanted", "part", "deed"]) (sc := defScope s_parts) (by decide +kernel)) (fun _ _ _ _ _ => pg_name (i := 6) scPp.nd rfl (Or.inl rfl)) (fun _ _ _ _ _ => pts_nil) (fun _ _ _ _ _ => (pe_tup (pa_cons (pv 6) (pa_cons pe_bl pa_nil))))) pa_nil))))) (pss_one (ps_if (pt_not (pt_val (pe_call (ok_is_single T) (hr.mono (by decide)) (by rfl) T.g_is_single (T.F_is_single).kp T.b_is_single .nil pass0 (pa_cons (pv 4) (pa_cons (pv 5) pa_nil))))) (pss_one (ps_ret pe_non)) pss_nil)))))))
      (pss_one (ps_ret (pv 3)))))))), ?_⟩
    have hm := e.form_mem ok
    have hfl := e.form_len
    obtain ⟨fs, hfs⟩ : ∃ fs, fs = e.form := ⟨_, rfl⟩
    rw [← hfs] at hm hfl
    obtain ⟨fp, hfget, hsq⟩ : ∃ fp : Addr, (if e.isd = true then PySem.W.nsIn K (He.ga K "DEED_FORMS") e.nm = some (some (.ref fp)) else PySem.W.nsIn K (He.ga K "EXPRESSION_FORMS") e.nm = some (some (.ref fp))) ∧ ∀ H, SqT K H fp ((fs.map He.Dv.str).map (He.Dv.v K)) := by
      unfold Nd.forms at hm
      cases hisd : e.isd with
      | true =>
        rw [hisd] at hm
        obtain ⟨h1, h2⟩ := T.u_DEED_FORMS _ hm
        exact ⟨_, h1, h2⟩
      | false =>
        rw [hisd] at hm
        obtain ⟨h1, h2⟩ := T.u_EXPRESSION_FORMS _ hm
        exact ⟨_, h1, h2⟩
    have hfv : (fs.map He.Dv.str).map (He.Dv.v K) = fs.map V.str := by
      rw [List.map_map]
      rfl
    rw [hfv] at hsq
    rw [Nd.py_eq] at hd
    obtain ⟨ca, xs, rfl, sq, all⟩ := dp_tup hd
    cases all with
    | @cons v0 vs0 _ _ hz0 all =>
    cases hz0
    have hal : vs0.length = e.args.length := dpa_len all
    have ha9 : e.args.length ≤ 9 := by
      have := e.args_len
      have := e.sg_len
      have := e.ch_len
      omega
    refine ⟨_, rfl, _, _, _, _, _, rfl, .ty "tuple", ty_tup sq, kit_ty (r := true) (by decide +kernel), _, rfl, iteF ?_⟩
    refine ⟨_, rfl, true, ?_, iteF ?_⟩
    · exact .inr (.inl ⟨_, sq, rfl⟩)
    refine ⟨_, rfl, ca, _, _, _, rfl, rfl, sq, atI_nat (j := 0) rfl, _, _, _, _, _, rfl, .ty "str", .base (.str _), kit_ty (r := true) (by decide +kernel), _, rfl, iteF ?_⟩
    refine ⟨_, rfl, e.isd, rfl, ?_⟩
    have hfl2 : fs.length = e.args.length := hfl
    cases hisd : e.isd with
    | true =>
      rw [hisd] at hfget
      refine iteT ⟨rfl, _, rfl, ca, _, _, _, rfl, rfl, sq, atI_nat (j := 0) rfl, e.nm, _, .ref fp, rfl, hfget, rfl, ?_⟩
      refine ⟨_, rfl, rfl, _, rfl, ite2 (fun z => nomatch of_decide_eq_true z) (fun _ => ?_)⟩
      refine ⟨_, rfl, _, _, rfl, .inr (hsq H), _, rfl, ca, _, rfl, .inr sq, _, _, rfl, rfl, rfl, _, rfl, ?_⟩
      have hlen : ((fs.map V.str).length : Int) = (((V.str e.nm :: vs0).length : Nat) : Int) - 1 := by
        rw [List.length_map, List.length_cons, hal, hfl]
        omega
      have hne : (!decide (V.int ((fs.map V.str).length : Int) = V.int ((((V.str e.nm :: vs0).length : Nat) : Int) - 1))) = false := by
        rw [hlen, decide_eq_true rfl]
        rfl
      refine ite2 (fun z => absurd z (nf' hne)) (fun _ => ?_)
      refine ⟨(show 0 ≤ sizeLine by decide), fun p np => ?_⟩
      have s1 := new_same (o := .lst []) np
      have sq1 := (same_tf s1).sq sq
      refine ⟨_, rfl, _, rfl, _, rfl, ca, _, rfl, sq1, fun h => ?_, fun q nq => ?_⟩
      · have h1 := h.1
        rw [show (1 : Int) = ((1 : Nat) : Int) from rfl, HT.sIx_nat, List.length_cons] at h1
        omega
      have s2 := new_same (o := .tup (cutV (V.str e.nm :: vs0) (some 1) none)) nq
      have hcut : cutV (V.str e.nm :: vs0) (some 1) none = vs0 := by
        unfold cutV
        rw [show (1 : Int) = ((1 : Nat) : Int) from rfl, HT.sIx_nat, HT.sIx_none, List.length_cons, Nat.min_eq_left (by omega)]
        simp
      rw [hcut] at s2 ⊢
      have hvl : (fs.map V.str).length = vs0.length := by rw [List.length_map, hfl, hal]
      have hp2 : (upd (upd H p (.lst [])) q (.tup vs0)) p = some (.lst []) := s2 _ _ upd_same
      have sqq : SqT K (upd (upd H p (.lst [])) q (.tup vs0)) q vs0 := SqT.of upd_same
      have all2 := dpa_nl (same_tf (s1.trans s2)) _ _ (e.args_nl) all
      refine ⟨_, q, fs.map V.str, vs0, rfl, .inr ⟨hsq _, sqq, ?_⟩⟩
      refine RZ.for_zipT hvl (fun i σ H' => ∃ (v4 v5 v6 : Option V) (pv : List V), σ = [some (.ref ca), some (.bl true), some (.ref fp), some (.ref p), v4, v5, v6] ∧ H' p = some (.lst pv) ∧ DpAll K H' pv ((e.upTo i).map Nd.kd) ∧ SqT K H' q vs0 ∧ DpAll K H' vs0 e.args ∧ Same H H') ⟨_, _, _, [], rfl, hp2, by rw [show e.upTo 0 = [] by rw [Nd.upTo, Nat.zero_sub, List.take_zero]; rfl]; exact .nil, sqq, all2, s1.trans s2⟩ (fun i σ H' h => ?_) (fun i x y Tt σ H' hx hy hPv nT => ?_) (fun σ H' hPv => ?_)
      · obtain ⟨_, _, _, _, _, _, _, h4, _⟩ := h
        exact ⟨hsq _, h4⟩
      · obtain ⟨v4, v5, v6, pv, rfl, hp', hpv, hq', hall', hs'⟩ := hPv
        rw [List.getElem?_map] at hx
        cases hg : fs[i]? with
        | none => rw [hg] at hx; cases hx
        | some s0 =>
          rw [hg] at hx
          cases hx
          have hi : i < vs0.length := (List.getElem?_eq_some_iff.mp hy).1
          have hia : i < e.args.length := by omega
          obtain ⟨v', hv', dv'⟩ := dpa_get hall' (List.getElem?_eq_getElem hia)
          rw [hy] at hv'
          cases hv'
          have sT := new_same (o := .tup [.str s0, y]) nT
          refine ⟨Tt, _, rfl, SqT.of upd_same, rfl, _, _, rfl, _, _, rfl, rfl, ?_⟩
          have hpT := sT _ _ hp'
          rcases Nat.lt_or_ge i e.sg.length with hsgi | hsgi
          · obtain ⟨h1, h2⟩ := e.form_sg i hsgi
            have ft := e.fits ok _ (List.getElem_mem hsgi)
            rw [hfs, h1] at hg
            injection hg with hg
            rw [List.getElem?_eq_getElem hia] at h2
            injection h2 with h2
            obtain ⟨f1, f2, f3⟩ := ft
            rw [hg] at f1 f2 f3
            rw [← h2] at f1
            refine ⟨_, rfl, rfl, _, rfl, ite2 (fun z => absurd z (nf' f2)) (fun _ => ?_)⟩
            refine ⟨_, rfl, rfl, _, rfl, ite2 (fun z => absurd z (nf' f3)) (fun _ => ?_)⟩
            refine ⟨_, rfl, _, rfl, s0, y, _, rfl, dp_nl (same_tf sT) _ _ (nl_get e.args_nl hia) dv', f1, _, rfl, iteF ?_⟩
            refine ⟨_, _, _, pv, rfl, hpT, ?_, (same_tf sT).sq hq', dpa_nl (same_tf sT) _ _ e.args_nl hall', hs'.trans sT⟩
            rw [e.upTo_sg i hsgi]
            exact dpa_nl (same_tf sT) _ _ (nl_kd _) hpv
          · obtain ⟨j, rfl⟩ : ∃ j, i = e.sg.length + j := ⟨i - e.sg.length, by omega⟩
            have hj : j < e.ch.length := by
              have := e.args_len
              omega
            have h1 := e.form_ch j hj
            have h2 := e.args_ch j hj
            rw [hfs, h1] at hg
            injection hg with hg
            rw [List.getElem?_eq_getElem hia] at h2
            injection h2 with h2
            have hup := e.upTo_ch j hj
            have hpl : pv.length ≤ 100 := by
              have h3 := e.upTo_nsz (e.sg.length + j)
              have h4 := e.kids_size
              rw [dpa_len hpv, List.length_map]
              omega
            rw [h2] at dv'
            cases hc : e.ch[j] with
            | pt x =>
              rw [hc] at hg hup dv'
              have hg : ("part" : Str) = s0 := hg
              subst hg
              refine ⟨_, rfl, rfl, _, rfl, ite2 (fun _ => ?_) (fun z => absurd (by decide) z)⟩
              refine ⟨_, rfl, .inl ⟨rfl, _, SqL.of hpT⟩, _, rfl, (show 2 ≤ sizeLine by decide), fun t nt => ?_⟩
              have st := new_same (o := .tup [y, .bl false]) nt
              have hpt := st _ _ hpT
              have tf := TF.of_lst (o := .lst (pv ++ [.ref t])) hpt
              have tfa := (same_tf (sT.trans st)).trans tf
              refine ⟨p, pv, .ref t, rfl, rfl, hpt, Nat.lt_of_le_of_lt hpl (by decide), _, _, _, pv ++ [.ref t], rfl, upd_same, ?_, tfa.sq hq', dpa_nl tfa _ _ e.args_nl hall', fun b o z => ?_⟩
              · rw [hup, List.map_append]
                exact dpa_snoc (dpa_nl tfa _ _ (nl_kd _) hpv) (.tup (tf.sq (SqT.of upd_same)) (.cons (dp_nl tfa _ _ x.nl dv') (.cons (.bl _) .nil)))
              · rw [upd_ne (ne_of_none z np)]
                exact st _ _ (sT _ _ (hs' _ _ z))
            | ds l =>
              rw [hc] at hg hup dv'
              have hg : ("deeds" : Str) = s0 := hg
              subst hg
              refine ⟨_, rfl, rfl, _, rfl, ite2 (fun z => absurd z (by decide)) (fun _ => ?_)⟩
              refine ⟨_, rfl, rfl, _, rfl, ite2 (fun _ => ?_) (fun z => absurd (by decide) z)⟩
              obtain ⟨lr, lv, rfl, lsq, lall⟩ := dp_tup dv'
              have lsqT := (same_tf sT).sq lsq
              refine ⟨_, rfl, _, _, _, _, _, rfl, .ty "tuple", ty_tup lsqT, kit_ty (r := true) (by decide +kernel), _, rfl, iteF ?_⟩
              refine ⟨_, rfl, .inl ⟨rfl, _, SqL.of hpT⟩, _, rfl, lr, rfl, ⟨_, lsqT⟩, fun D hD => ?_⟩
              have hlv : lv.length = l.length := by rw [dpa_len lall, List.length_map]
              have hll : l.length ≤ 100 := by
                have h3 := e.upTo_nsz (e.sg.length + j + 1)
                have h4 := e.kids_size
                rw [hup, List.length_append, Ch.kids, List.length_map] at h3
                omega
              refine lc_tup (xs := lv) (fun i H' => ∃ acc, H' D = some (.lst acc) ∧ DpAll K H' acc (((l.take i).map Nd.deed).map Nd.kd) ∧ Same _ H') ⟨[], upd_same, .nil, new_same hD⟩ (fun i H' _ h => (same_tf h.choose_spec.2.2).sq lsqT) (fun i y H2 hy hPv => ?_) (fun H2 hPv => ?_)
              · obtain ⟨acc, hacc, hda, sm⟩ := hPv
                have hi : i < l.length := by
                  rw [← hlv]
                  exact (List.getElem?_eq_some_iff.mp hy).1
                obtain ⟨v, hv, dv⟩ := dpa_get lall (show (l.map De.py)[i]? = some l[i].py by rw [List.getElem?_map, List.getElem?_eq_getElem hi]; rfl)
                rw [hy] at hv
                cases hv
                refine ⟨rfl, ?_⟩
                dsimp only [tYes]
                rw [if_pos rfl]
                refine ⟨_, rfl, (show 2 ≤ sizeLine by decide), fun t2 nt2 => ?_⟩
                have st2 := new_same (o := .tup [y, .bl true]) nt2
                have hacc2 := st2 _ _ hacc
                have tfx := TF.of_lst (o := .lst (acc ++ [.ref t2])) hacc2
                refine ⟨acc, hacc2, ?_, acc ++ [.ref t2], upd_same, ?_, fun b o z => ?_⟩
                · rw [dpa_len hda, List.length_map, List.length_map, List.length_take]
                  exact Nat.lt_of_lt_of_le (show min i l.length < 100000 by omega) (by decide)
                · rw [List.map_map, take_map _ _ _ hi, ← List.map_map]
                  refine dpa_snoc (dpa_nl ((same_tf st2).trans tfx) _ _ (nl_kd _) hda) ?_
                  exact .tup (tfx.sq (SqT.of upd_same)) (.cons (dp_nl ((same_tf ((sT.trans sm).trans st2)).trans tfx) _ _ (De.nl _) dv) (.cons (.bl _) .nil))
                · rw [upd_ne (ne_of_none z hD)]
                  exact st2 _ _ (sm _ _ z)
              obtain ⟨acc, hacc, hda, sm⟩ := hPv
              rw [List.take_of_length_le (by omega)] at hda
              have hp8 := sm _ _ hpT
              have tf8 := TF.of_lst (o := .lst (pv ++ acc)) hp8
              have tf := (same_tf (sT.trans sm)).trans tf8
              refine ⟨p, D, pv, acc, rfl, rfl, hp8, hacc, ?_, _, _, _, pv ++ acc, rfl, upd_same, ?_, tf.sq hq', dpa_nl tf _ _ e.args_nl hall', fun b o z => ?_⟩
              · have e1 : acc.length = l.length := by rw [dpa_len hda, List.length_map, List.length_map]
                exact Nat.le_trans (show pv.length + acc.length ≤ 200000 by omega) (by decide)
              · rw [hup, List.map_append]
                exact dpa_app (dpa_nl tf8 _ _ (nl_kd _) hda) (dpa_nl tf _ _ (nl_kd _) hpv)
              · rw [upd_ne (ne_of_none z np)]
                exact sm _ _ (sT _ _ (hs' _ _ z))
      · obtain ⟨v4, v5, v6, pv, rfl, hp', hpv, hq', hall', hs'⟩ := hPv
        rw [List.length_map, hfl, e.upTo_all] at hpv
        exact ⟨_, rfl, k p pv H' hp' hpv hs' np⟩
    | false =>
      rw [hisd] at hfget
      refine iteF ⟨rfl, _, rfl, ca, _, _, _, rfl, rfl, sq, atI_nat (j := 0) rfl, e.nm, _, .ref fp, rfl, hfget, rfl, ?_⟩
      refine ⟨_, rfl, rfl, _, rfl, ite2 (fun z => nomatch of_decide_eq_true z) (fun _ => ?_)⟩
      refine ⟨_, rfl, _, _, rfl, .inr (hsq H), _, rfl, ca, _, rfl, .inr sq, _, _, rfl, rfl, rfl, _, rfl, ?_⟩
      have hlen : ((fs.map V.str).length : Int) = (((V.str e.nm :: vs0).length : Nat) : Int) - 1 := by
        rw [List.length_map, List.length_cons, hal, hfl]
        omega
      have hne : (!decide (V.int ((fs.map V.str).length : Int) = V.int ((((V.str e.nm :: vs0).length : Nat) : Int) - 1))) = false := by
        rw [hlen, decide_eq_true rfl]
        rfl
      refine ite2 (fun z => absurd z (nf' hne)) (fun _ => ?_)
      refine ⟨(show 0 ≤ sizeLine by decide), fun p np => ?_⟩
      have s1 := new_same (o := .lst []) np
      have sq1 := (same_tf s1).sq sq
      refine ⟨_, rfl, _, rfl, _, rfl, ca, _, rfl, sq1, fun h => ?_, fun q nq => ?_⟩
      · have h1 := h.1
        rw [show (1 : Int) = ((1 : Nat) : Int) from rfl, HT.sIx_nat, List.length_cons] at h1
        omega
      have s2 := new_same (o := .tup (cutV (V.str e.nm :: vs0) (some 1) none)) nq
      have hcut : cutV (V.str e.nm :: vs0) (some 1) none = vs0 := by
        unfold cutV
        rw [show (1 : Int) = ((1 : Nat) : Int) from rfl, HT.sIx_nat, HT.sIx_none, List.length_cons, Nat.min_eq_left (by omega)]
        simp
      rw [hcut] at s2 ⊢
      have hvl : (fs.map V.str).length = vs0.length := by rw [List.length_map, hfl, hal]
      have hp2 : (upd (upd H p (.lst [])) q (.tup vs0)) p = some (.lst []) := s2 _ _ upd_same
      have sqq : SqT K (upd (upd H p (.lst [])) q (.tup vs0)) q vs0 := SqT.of upd_same
      have all2 := dpa_nl (same_tf (s1.trans s2)) _ _ (e.args_nl) all
      refine ⟨_, q, fs.map V.str, vs0, rfl, .inr ⟨hsq _, sqq, ?_⟩⟩
      refine RZ.for_zipT hvl (fun i σ H' => ∃ (v4 v5 v6 : Option V) (pv : List V), σ = [some (.ref ca), some (.bl false), some (.ref fp), some (.ref p), v4, v5, v6] ∧ H' p = some (.lst pv) ∧ DpAll K H' pv ((e.upTo i).map Nd.kd) ∧ SqT K H' q vs0 ∧ DpAll K H' vs0 e.args ∧ Same H H') ⟨_, _, _, [], rfl, hp2, by rw [show e.upTo 0 = [] by rw [Nd.upTo, Nat.zero_sub, List.take_zero]; rfl]; exact .nil, sqq, all2, s1.trans s2⟩ (fun i σ H' h => ?_) (fun i x y Tt σ H' hx hy hPv nT => ?_) (fun σ H' hPv => ?_)
      · obtain ⟨_, _, _, _, _, _, _, h4, _⟩ := h
        exact ⟨hsq _, h4⟩
      · obtain ⟨v4, v5, v6, pv, rfl, hp', hpv, hq', hall', hs'⟩ := hPv
        rw [List.getElem?_map] at hx
        cases hg : fs[i]? with
        | none => rw [hg] at hx; cases hx
        | some s0 =>
          rw [hg] at hx
          cases hx
          have hi : i < vs0.length := (List.getElem?_eq_some_iff.mp hy).1
          have hia : i < e.args.length := by omega
          obtain ⟨v', hv', dv'⟩ := dpa_get hall' (List.getElem?_eq_getElem hia)
          rw [hy] at hv'
          cases hv'
          have sT := new_same (o := .tup [.str s0, y]) nT
          refine ⟨Tt, _, rfl, SqT.of upd_same, rfl, _, _, rfl, _, _, rfl, rfl, ?_⟩
          have hpT := sT _ _ hp'
          rcases Nat.lt_or_ge i e.sg.length with hsgi | hsgi
          · obtain ⟨h1, h2⟩ := e.form_sg i hsgi
            have ft := e.fits ok _ (List.getElem_mem hsgi)
            rw [hfs, h1] at hg
            injection hg with hg
            rw [List.getElem?_eq_getElem hia] at h2
            injection h2 with h2
            obtain ⟨f1, f2, f3⟩ := ft
            rw [hg] at f1 f2 f3
            rw [← h2] at f1
            refine ⟨_, rfl, rfl, _, rfl, ite2 (fun z => absurd z (nf' f2)) (fun _ => ?_)⟩
            refine ⟨_, rfl, rfl, _, rfl, ite2 (fun z => absurd z (nf' f3)) (fun _ => ?_)⟩
            refine ⟨_, rfl, _, rfl, s0, y, _, rfl, dp_nl (same_tf sT) _ _ (nl_get e.args_nl hia) dv', f1, _, rfl, iteF ?_⟩
            refine ⟨_, _, _, pv, rfl, hpT, ?_, (same_tf sT).sq hq', dpa_nl (same_tf sT) _ _ e.args_nl hall', hs'.trans sT⟩
            rw [e.upTo_sg i hsgi]
            exact dpa_nl (same_tf sT) _ _ (nl_kd _) hpv
          · obtain ⟨j, rfl⟩ : ∃ j, i = e.sg.length + j := ⟨i - e.sg.length, by omega⟩
            have hj : j < e.ch.length := by
              have := e.args_len
              omega
            have h1 := e.form_ch j hj
            have h2 := e.args_ch j hj
            rw [hfs, h1] at hg
            injection hg with hg
            rw [List.getElem?_eq_getElem hia] at h2
            injection h2 with h2
            have hup := e.upTo_ch j hj
            have hpl : pv.length ≤ 100 := by
              have h3 := e.upTo_nsz (e.sg.length + j)
              have h4 := e.kids_size
              rw [dpa_len hpv, List.length_map]
              omega
            rw [h2] at dv'
            cases hc : e.ch[j] with
            | pt x =>
              rw [hc] at hg hup dv'
              have hg : ("part" : Str) = s0 := hg
              subst hg
              refine ⟨_, rfl, rfl, _, rfl, ite2 (fun _ => ?_) (fun z => absurd (by decide) z)⟩
              refine ⟨_, rfl, .inl ⟨rfl, _, SqL.of hpT⟩, _, rfl, (show 2 ≤ sizeLine by decide), fun t nt => ?_⟩
              have st := new_same (o := .tup [y, .bl false]) nt
              have hpt := st _ _ hpT
              have tf := TF.of_lst (o := .lst (pv ++ [.ref t])) hpt
              have tfa := (same_tf (sT.trans st)).trans tf
              refine ⟨p, pv, .ref t, rfl, rfl, hpt, Nat.lt_of_le_of_lt hpl (by decide), _, _, _, pv ++ [.ref t], rfl, upd_same, ?_, tfa.sq hq', dpa_nl tfa _ _ e.args_nl hall', fun b o z => ?_⟩
              · rw [hup, List.map_append]
                exact dpa_snoc (dpa_nl tfa _ _ (nl_kd _) hpv) (.tup (tf.sq (SqT.of upd_same)) (.cons (dp_nl tfa _ _ x.nl dv') (.cons (.bl _) .nil)))
              · rw [upd_ne (ne_of_none z np)]
                exact st _ _ (sT _ _ (hs' _ _ z))
            | ds l =>
              rw [hc] at hg hup dv'
              have hg : ("deeds" : Str) = s0 := hg
              subst hg
              refine ⟨_, rfl, rfl, _, rfl, ite2 (fun z => absurd z (by decide)) (fun _ => ?_)⟩
              refine ⟨_, rfl, rfl, _, rfl, ite2 (fun _ => ?_) (fun z => absurd (by decide) z)⟩
              obtain ⟨lr, lv, rfl, lsq, lall⟩ := dp_tup dv'
              have lsqT := (same_tf sT).sq lsq
              refine ⟨_, rfl, _, _, _, _, _, rfl, .ty "tuple", ty_tup lsqT, kit_ty (r := true) (by decide +kernel), _, rfl, iteF ?_⟩
              refine ⟨_, rfl, .inl ⟨rfl, _, SqL.of hpT⟩, _, rfl, lr, rfl, ⟨_, lsqT⟩, fun D hD => ?_⟩
              have hlv : lv.length = l.length := by rw [dpa_len lall, List.length_map]
              have hll : l.length ≤ 100 := by
                have h3 := e.upTo_nsz (e.sg.length + j + 1)
                have h4 := e.kids_size
                rw [hup, List.length_append, Ch.kids, List.length_map] at h3
                omega
              refine lc_tup (xs := lv) (fun i H' => ∃ acc, H' D = some (.lst acc) ∧ DpAll K H' acc (((l.take i).map Nd.deed).map Nd.kd) ∧ Same _ H') ⟨[], upd_same, .nil, new_same hD⟩ (fun i H' _ h => (same_tf h.choose_spec.2.2).sq lsqT) (fun i y H2 hy hPv => ?_) (fun H2 hPv => ?_)
              · obtain ⟨acc, hacc, hda, sm⟩ := hPv
                have hi : i < l.length := by
                  rw [← hlv]
                  exact (List.getElem?_eq_some_iff.mp hy).1
                obtain ⟨v, hv, dv⟩ := dpa_get lall (show (l.map De.py)[i]? = some l[i].py by rw [List.getElem?_map, List.getElem?_eq_getElem hi]; rfl)
                rw [hy] at hv
                cases hv
                refine ⟨rfl, ?_⟩
                dsimp only [tYes]
                rw [if_pos rfl]
                refine ⟨_, rfl, (show 2 ≤ sizeLine by decide), fun t2 nt2 => ?_⟩
                have st2 := new_same (o := .tup [y, .bl true]) nt2
                have hacc2 := st2 _ _ hacc
                have tfx := TF.of_lst (o := .lst (acc ++ [.ref t2])) hacc2
                refine ⟨acc, hacc2, ?_, acc ++ [.ref t2], upd_same, ?_, fun b o z => ?_⟩
                · rw [dpa_len hda, List.length_map, List.length_map, List.length_take]
                  exact Nat.lt_of_lt_of_le (show min i l.length < 100000 by omega) (by decide)
                · rw [List.map_map, take_map _ _ _ hi, ← List.map_map]
                  refine dpa_snoc (dpa_nl ((same_tf st2).trans tfx) _ _ (nl_kd _) hda) ?_
                  exact .tup (tfx.sq (SqT.of upd_same)) (.cons (dp_nl ((same_tf ((sT.trans sm).trans st2)).trans tfx) _ _ (De.nl _) dv) (.cons (.bl _) .nil))
                · rw [upd_ne (ne_of_none z hD)]
                  exact st2 _ _ (sm _ _ z)
              obtain ⟨acc, hacc, hda, sm⟩ := hPv
              rw [List.take_of_length_le (by omega)] at hda
              have hp8 := sm _ _ hpT
              have tf8 := TF.of_lst (o := .lst (pv ++ acc)) hp8
              have tf := (same_tf (sT.trans sm)).trans tf8
              refine ⟨p, D, pv, acc, rfl, rfl, hp8, hacc, ?_, _, _, _, pv ++ acc, rfl, upd_same, ?_, tf.sq hq', dpa_nl tf _ _ e.args_nl hall', fun b o z => ?_⟩
              · have e1 : acc.length = l.length := by rw [dpa_len hda, List.length_map, List.length_map]
                exact Nat.le_trans (show pv.length + acc.length ≤ 200000 by omega) (by decide)
              · rw [hup, List.map_append]
                exact dpa_app (dpa_nl tf8 _ _ (nl_kd _) hda) (dpa_nl tf _ _ (nl_kd _) hpv)
              · rw [upd_ne (ne_of_none z np)]
                exact sm _ _ (sT _ _ (hs' _ _ z))
      · obtain ⟨v4, v5, v6, pv, rfl, hp', hpv, hq', hall', hs'⟩ := hPv
        rw [List.length_map, hfl, e.upTo_all] at hpv
        exact ⟨_, rfl, k p pv H' hp' hpv hs' np⟩
end
end K5
set_option maxRecDepth 100000
set_option maxHeartbeats 2000000
/-! Whether it is a script. -/
namespace K5
open PySem PySem.Spec PyProof.Rows L2 KF
structure Ms where
  x : Nd
  n : Nat
def Ms.py (i : Ms) : PyData := .tuple [i.x.py, .bool i.x.isd, .int (i.n : Int)]
theorem nls_ms : ∀ is : List Ms, NLs (is.map Ms.py)
  | [] => trivial
  | i :: is => ⟨⟨i.x.nl, trivial, trivial, trivial⟩, nls_ms is⟩
def msz (is : List Ms) : Nat := nsz (is.map (·.x))
theorem msz_app (is js : List Ms) : msz (is ++ js) = msz is + msz js := by
  rw [msz, List.map_append, nsz_app]
  rfl
theorem msz_one (i : Ms) : msz [i] = i.x.size := by simp [msz, nsz]
theorem msz_kids (x : Nd) (n : Nat) : msz (x.kids.map fun y => ⟨y, n⟩) + 1 = x.size := by
  rw [← x.kids_size, msz, List.map_map]
  have : ((fun i : Ms => i.x) ∘ fun y => (⟨y, n⟩ : Ms)) = id := rfl
  rw [this, List.map_id]
theorem len_msz (is : List Ms) : is.length ≤ msz is := by
  have := len_nsz (is.map (·.x))
  rw [List.length_map] at this
  exact this
theorem Nd.dep_pos : ∀ x : Nd, 1 ≤ x.dep
  | .deed d => by cases d <;> simp [Nd.dep, De.dep]
  | .tree e => by cases e <;> simp [Nd.dep, Ex.dep]
def MsInv (K : PySem.W.Frag) (p : Addr) (N : Nat) (H0 : Hp) (m : Nat) (σ : L2.St) (H' : Hp) : Prop := ∃ (v0 : V) (dp : Int) (v4 v5 v6 v7 v8 v9 v10 : Option V) (sz : Nat) (ws : List Ms) (wv : List V), σ = [some v0, some (.ref p), some (.int (sz : Int)), some (.int dp), v4, v5, v6, v7, v8, v9, v10] ∧ H' p = some (.lst wv) ∧ DpAll K H' wv (ws.map Ms.py) ∧ (∀ i ∈ ws, i.x.ok ∧ i.x.dep + i.n ≤ 9) ∧ m = msz ws ∧ sz + msz ws = N ∧ Same H0 H'
section
variable {P : Program} {w : World} {K : PySem.W.Frag} {mg : Str → Option Value} {base : Heap}
def spMs (K : PySem.W.Frag) : Sp := fun vs H Q _ => ∃ (t : Addr) (xs : List V) (ds : List De), vs = [.ref t] ∧ SqT K H t xs ∧ DpAll K H xs (ds.map De.py) ∧ (∀ d ∈ ds, d.ok) ∧ szs ds ≤ 60 ∧ deps ds ≤ 8 ∧ ∀ q a b H', Same H H' → H' q = some (.tup [.int a, .int b]) → Q (.ref q) H'
theorem scMs : FnScope ["script", "waiting", "size", "depth", "told", "is_deed", "deep", "parts", "deed", "part", "part_is_deed"] ["script"] (defScope s_measured) := ⟨rfl, rfl, rfl, by decide +kernel, rfl, by decide +kernel, by decide +kernel⟩
theorem ok_measured (T : Txt K w mg) : FnOk P w K mg base CX0 5 (He.fAd K ("measured", none)) (fdAt K (He.fAd K ("measured", none))) ["script"] (spMs K) := by
  obtain ⟨u1, g1, r1⟩ := T.c_MOST_TUPLES
  obtain ⟨u2, g2, r2⟩ := T.c_MOST_DEEP
  refine T.F_measured.ok scMs (fun vs H Q E h => ?_) (fun cdv A outer s H vs Q E hr h => ?_)
  · obtain ⟨t, xs, ds, rfl, _⟩ := h
    rfl
  · obtain ⟨t, xs, ds, rfl, ht, hd, ok, hz, hdp, k⟩ := h
    refine ⟨_, PSs.nox (pss_cons (ps_if (pt_not (pt_val (pe_callB (r := rIsi K) call_isi (by rfl) T.n_isinstance PyProof.Rows.Boot.«isinstance» (pa_cons (pv 0) (pa_cons (pe_bltn (v := .ty "tuple") (by rfl) T.n_tuple PyProof.Rows.Boot.«tuple» rfl) pa_nil))))) (pss_one (ps_ret pe_non)) pss_nil)
      (pss_cons (ps_setLc (i := 1) (own := [("deed", 8)]) (g := gName 8) (tt := tYes) (by rfl) scMs.nd rfl rfl (sw_true rfl rfl rfl (by decide +kernel)) (pi_tup (pv 0)) (blkOk_by (own := [("deed", 8)]) (N := ["script", "waiting", "size", "depth", "told", "is_deed", "deep", "parts", "deed", "part", "part_is_deed"]) (sc := defScope s_measured) (by decide +kernel)) (fun _ _ _ _ _ => pg_name (i := 8) scMs.nd rfl (Or.inl rfl)) (fun _ _ _ _ _ => pts_nil) (fun _ _ _ _ _ => (pe_tup (pa_cons (pv 8) (pa_cons pe_bl (pa_cons pe_int pa_nil))))))
      (pss_cons (ps_set (i := 2) scMs.nd rfl (Or.inl rfl) pe_int)
      (pss_cons (ps_set (i := 3) scMs.nd rfl (Or.inl rfl) pe_int)
      (pss_cons (ps_while PassesOwn.never (pt_truth (pv 1) (by intro _; rfl)) (pss_cons (ps_asg (pe_bm0 PySem.F.plainAttrs_list PySem.F.slot_list_pop PySem.F.type_list_pop mt_pop (pv 1)) (pg_tup (by rfl) (pgs_cons (pg_name (i := 4) scMs.nd rfl (Or.inl rfl)) (pgs_cons (pg_name (i := 5) scMs.nd rfl (Or.inl rfl)) (pgs_cons (pg_name (i := 6) scMs.nd rfl (Or.inr rfl)) pgs_nil)))))
      (pss_cons (ps_set (i := 7) scMs.nd rfl (Or.inl rfl) (pe_call (ok_parts T) (hr.mono (by decide)) (by rfl) T.g_parts (T.F_parts).kp T.b_parts .nil pass0 (pa_cons (pv 4) (pa_cons (pv 5) pa_nil))))
      (pss_cons (ps_aug (i := 2) scMs.nd rfl (Or.inl rfl) pe_int ip_add)
      (pss_cons (ps_if (PW.pt (pw_or (pt_cmpR op_isN (pv 7) pe_non (nomark _)) (pw_or (pt_cmpR op_gt (pv 2) (pe_glob (v := .int 60) (by rfl) g1 r1) (nomark _)) (pw_or1 (pt_cmpR op_gt (pv 6) (pe_glob (v := .int 8) (by rfl) g2 r2) (nomark _)))))) (pss_one (ps_ret pe_non)) pss_nil)
      (pss_cons (ps_set (i := 3) scMs.nd rfl (Or.inl rfl) (pe_callB (call_max2 rfl) (by rfl) T.n_max PyProof.Rows.Boot.«max» (pa_cons (pv 3) (pa_cons (pv 6) pa_nil))))
      (pss_one (ps_expr (pe_bm PySem.F.plainAttrs_list PySem.F.slot_list_extend PySem.F.type_list_extend mt_extend (pv 1) (pa_cons (pe_lc (own := [("part", 9), ("part_is_deed", 10)]) (g := gTup K 2 (gCons (gName 9) (gCons (gName 10) gNil))) (tt := tYes) (by rfl) scMs.nd (pi_list (pv 7)) (blkOk_by (own := [("part", 9), ("part_is_deed", 10)]) (N := ["script", "waiting", "size", "depth", "told", "is_deed", "deep", "parts", "deed", "part", "part_is_deed"]) (sc := defScope s_measured) (by decide +kernel)) (fun _ _ _ _ _ => (pg_tup (by rfl) (pgs_cons (pg_name (i := 9) scMs.nd rfl (Or.inl rfl)) (pgs_cons (pg_name (i := 10) scMs.nd rfl (Or.inl rfl)) pgs_nil)))) (fun _ _ _ _ _ => pts_nil) (fun _ _ _ _ _ => (pe_tup (pa_cons (pv 9) (pa_cons (pv 10) (pa_cons (pe_op op_add (pv 6) pe_int) pa_nil)))))) pa_nil))))))))))
      (pss_one (ps_ret (pe_tup (pa_cons (pv 2) (pa_cons (pv 3) pa_nil)))))))))), ?_⟩
    refine ⟨_, rfl, _, _, _, _, _, rfl, .ty "tuple", ty_tup ht, kit_ty (r := true) (by decide +kernel), _, rfl, iteF ?_⟩
    refine ⟨_, rfl, t, rfl, ⟨_, ht⟩, fun D hD => ?_⟩
    have hlv : xs.length = ds.length := by rw [dpa_len hd, List.length_map]
    have hll : ds.length ≤ 60 := by
      have h1 := len_nsz (ds.map Nd.deed)
      rw [List.length_map, nsz_deeds] at h1
      omega
    refine lc_tup (xs := xs) (fun i H' => ∃ acc, H' D = some (.lst acc) ∧ DpAll K H' acc (((ds.take i).map fun d => (⟨.deed d, 1⟩ : Ms)).map Ms.py) ∧ Same H H') ⟨[], upd_same, .nil, new_same hD⟩ (fun i H' _ h => (same_tf h.choose_spec.2.2).sq ht) (fun i y H' hy hPv => ?_) (fun H1 hPv => ?_)
    · obtain ⟨acc, hacc, hda, sm⟩ := hPv
      have hi : i < ds.length := by
        rw [← hlv]
        exact (List.getElem?_eq_some_iff.mp hy).1
      obtain ⟨v, hv, dv⟩ := dpa_get hd (show (ds.map De.py)[i]? = some ds[i].py by rw [List.getElem?_map, List.getElem?_eq_getElem hi]; rfl)
      rw [hy] at hv
      cases hv
      refine ⟨rfl, ?_⟩
      dsimp only [tYes]
      rw [if_pos rfl]
      refine ⟨_, rfl, (show 3 ≤ sizeLine by decide), fun t2 nt2 => ?_⟩
      have st2 := new_same (o := .tup [y, .bl true, .int 1]) nt2
      have hacc2 := st2 _ _ hacc
      have tfx := TF.of_lst (o := .lst (acc ++ [.ref t2])) hacc2
      refine ⟨acc, hacc2, ?_, acc ++ [.ref t2], upd_same, ?_, fun b o z => ?_⟩
      · rw [dpa_len hda, List.length_map, List.length_map, List.length_take]
        exact Nat.lt_of_lt_of_le (show min i ds.length < 100000 by omega) (by decide)
      · rw [List.map_map, take_map _ _ _ hi, ← List.map_map]
        refine dpa_snoc (dpa_nl ((same_tf st2).trans tfx) _ _ (nls_ms _) hda) ?_
        exact .tup (tfx.sq (SqT.of upd_same)) (.cons (dp_nl ((same_tf (sm.trans st2)).trans tfx) _ _ (De.nl _) dv) (.cons (.bl _) (.cons (.int _) .nil)))
      · rw [upd_ne (ne_of_none z hD)]
        exact st2 _ _ (sm _ _ z)
    obtain ⟨acc, hacc, hda, sm⟩ := hPv
    rw [List.take_of_length_le (by omega)] at hda
    have hsz : msz (ds.map fun d => (⟨.deed d, 1⟩ : Ms)) = szs ds := by
      rw [msz, List.map_map, ← nsz_deeds]
      rfl
    refine ⟨MsInv K D (szs ds) H, ⟨msz (ds.map fun d => (⟨.deed d, 1⟩ : Ms)), .ref t, 0, _, _, _, _, _, _, _, 0, _, _, rfl, hacc, hda, fun i hi => ?_, rfl, by rw [hsz]; omega, sm⟩, fun m σ H2 hW => ?_⟩
    · obtain ⟨d, hd2, rfl⟩ := List.mem_map.mp hi
      have := (deps_le ds).mp hdp d hd2
      exact ⟨ok d hd2, by show d.dep + 1 ≤ 9; omega⟩
    obtain ⟨v0, dp, v4, v5, v6, v7, v8, v9, v10, sz, ws, wv, rfl, hp2, hw2, okw, hm, hN, sm2⟩ := hW
    refine ⟨_, rfl, _, .inl ⟨wv, SqL.of hp2, rfl⟩, ?_⟩
    rcases List.eq_nil_or_concat ws with h | ⟨ws0, i, h⟩
    · subst h
      cases hw2
      refine iteF ⟨_, rfl, _, rfl, (show 2 ≤ sizeLine by decide), fun q nq => k q _ _ _ (sm2.trans (new_same nq)) upd_same⟩
    · subst h
      rw [List.concat_eq_append] at hw2 okw hm hN
      rw [List.map_append] at hw2
      obtain ⟨wv0, y, rfl, hw3, hy⟩ := dpa_split hw2
      have hne : (!(wv0 ++ [y]).isEmpty) = true := by cases wv0 <;> rfl
      rw [hne]
      refine iteT ⟨fun σ' H' => ∃ m', m' < m ∧ MsInv K D (szs ds) H m' σ' H', fun _ _ h => h, ?_⟩
      have tfp : TF H2 (upd H2 D (.lst wv0)) := TF.of_lst hp2
      have oki := okw i (by simp)
      refine ⟨_, rfl, .inl ⟨rfl, _, SqL.of hp2⟩, D, _, y, rfl, rfl, hp2, by simp, ?_⟩
      rw [List.dropLast_concat]
      have hy2 := dp_nl tfp _ _ (nls_ms [i]).1 hy
      have hw4 := dpa_nl tfp _ _ (nls_ms ws0) hw3
      have hD3 : (upd H2 D (.lst wv0)) D = some (.lst wv0) := upd_same
      have sm3 : Same H (upd H2 D (.lst wv0)) := fun b o z => by
        rw [upd_ne (ne_of_none z hD)]
        exact sm2 _ _ z
      obtain ⟨H3, hH3⟩ : ∃ H3, H3 = upd H2 D (.lst wv0) := ⟨_, rfl⟩
      rw [← hH3] at hy2 hw4 hD3 sm3 ⊢
      obtain ⟨ix, n⟩ := i
      obtain ⟨b, ys, rfl, hsq, hall⟩ := dp_tup hy2
      cases hall with
      | @cons xv _ _ _ hxv hall =>
      cases hall with
      | cons hb hall =>
      cases hall with
      | cons hn hall =>
      cases hall
      cases hb
      cases hn
      rw [msz_app, msz_one] at hm hN
      dsimp only at oki hm hN hxv
      have hip := ix.size_pos
      have hn8 : n ≤ 8 := by
        have := ix.dep_pos
        omega
      refine ⟨b, _, rfl, hsq, rfl, _, _, rfl, _, _, rfl, _, _, rfl, rfl, ?_⟩
      refine ⟨_, rfl, _, rfl, xv, ix, rfl, hxv, oki.1, by omega, fun q pv H4 hq hpv s4 nq => ?_⟩
      have hD4 := s4 _ _ hD3
      have hqD : q ≠ D := (ne_of_none hD3 nq).symm
      refine ⟨_, rfl, _, _, rfl, rfl, ?_⟩
      refine ⟨_, rfl, rfl, _, rfl, ite2 (fun z => nomatch of_decide_eq_true z) (fun _ => ?_)⟩
      refine ⟨_, rfl, _, _, rfl, rfl, _, rfl, ite2 (fun z => absurd (show (60 : Int) < (sz : Int) + 1 from of_decide_eq_true z) (by omega)) (fun _ => ?_)⟩
      refine ⟨_, rfl, _, _, rfl, rfl, _, rfl, ite2 (fun z => absurd (show (8 : Int) < (n : Int) from of_decide_eq_true z) (by omega)) (fun _ => ?_)⟩
      refine ⟨_, rfl, _, rfl, _, _, rfl, ?_⟩
      refine ⟨_, rfl, .inl ⟨rfl, _, SqL.of hD4⟩, _, rfl, q, rfl, ⟨_, SqL.of hq⟩, fun D2 hD2 => ?_⟩
      have hpl : pv.length = ix.kids.length := by rw [dpa_len hpv, List.length_map]
      have hkl : ix.kids.length ≤ 100 := by
        have h1 := len_nsz ix.kids
        have h2 := ix.kids_size
        omega
      refine lc_list (xs := pv) (fun j H' => ∃ acc, H' D2 = some (.lst acc) ∧ DpAll K H' acc (((ix.kids.take j).map fun y => (⟨y, n + 1⟩ : Ms)).map Ms.py) ∧ Same H4 H') ⟨[], upd_same, .nil, new_same hD2⟩ (fun j H' _ h => SqL.of (h.choose_spec.2.2 _ _ hq)) (fun j z H' hz2 hPv => ?_) (fun H5 hPv => ?_)
      · obtain ⟨acc, hacc, hda, sm5⟩ := hPv
        have hj : j < ix.kids.length := by
          rw [← hpl]
          exact (List.getElem?_eq_some_iff.mp hz2).1
        obtain ⟨v', hv', dv'⟩ := dpa_get hpv (show (ix.kids.map Nd.kd)[j]? = some (ix.kids[j]).kd by rw [List.getElem?_map, List.getElem?_eq_getElem hj]; rfl)
        rw [hz2] at hv'
        cases hv'
        obtain ⟨t3, ts, rfl, tsq, tall⟩ := dp_tup dv'
        cases tall with
        | @cons kv _ _ _ hkv tall =>
        cases tall with
        | cons hb tall =>
        cases tall
        cases hb
        refine ⟨t3, _, rfl, (same_tf sm5).sq tsq, rfl, _, _, rfl, _, _, rfl, rfl, rfl, ?_⟩
        dsimp only [tYes]
        rw [if_pos rfl]
        refine ⟨_, rfl, _, rfl, _, rfl, _, _, rfl, rfl, (show 3 ≤ sizeLine by decide), fun t2 nt2 => ?_⟩
        have st2 := new_same (o := .tup [kv, .bl (ix.kids[j]).isd, .int ((n : Int) + 1)]) nt2
        have hacc2 := st2 _ _ hacc
        have tfx := TF.of_lst (o := .lst (acc ++ [.ref t2])) hacc2
        refine ⟨acc, hacc2, ?_, acc ++ [.ref t2], upd_same, ?_, fun b o z => ?_⟩
        · rw [dpa_len hda, List.length_map, List.length_map, List.length_take]
          exact Nat.lt_of_lt_of_le (show min j ix.kids.length < 100000 by omega) (by decide)
        · rw [List.map_map, take_map _ _ _ hj, ← List.map_map]
          refine dpa_snoc (dpa_nl ((same_tf st2).trans tfx) _ _ (nls_ms _) hda) ?_
          exact .tup (tfx.sq (SqT.of upd_same)) (.cons (dp_nl ((same_tf (sm5.trans st2)).trans tfx) _ _ (Nd.nl _) hkv) (.cons (.bl _) (.cons (.int _) .nil)))
        · rw [upd_ne (ne_of_none z hD2)]
          exact st2 _ _ (sm5 _ _ z)
      obtain ⟨acc, hacc, hda, sm5⟩ := hPv
      rw [List.take_of_length_le (by omega)] at hda
      have hD5 := sm5 _ _ hD4
      have tf5 := TF.of_lst (o := .lst (wv0 ++ acc)) hD5
      have tf := (same_tf (s4.trans sm5)).trans tf5
      have hks := msz_kids ix (n + 1)
      have hwl : wv0.length ≤ 60 := by
        have h1 := len_msz ws0
        rw [dpa_len hw3, List.length_map]
        omega
      refine ⟨D, D2, wv0, acc, rfl, rfl, hD5, hacc, ?_, ?_⟩
      · have e1 : acc.length = ix.kids.length := by rw [dpa_len hda, List.length_map, List.length_map]
        exact Nat.le_trans (show wv0.length + acc.length ≤ 200000 by omega) (by decide)
      refine ⟨msz (ws0 ++ ix.kids.map fun y => ⟨y, n + 1⟩), by rw [msz_app]; omega, v0, _, _, _, _, _, _, _, _, sz + 1, ws0 ++ ix.kids.map fun y => ⟨y, n + 1⟩, wv0 ++ acc, rfl, upd_same, ?_, fun x hx => ?_, rfl, by rw [msz_app]; omega, fun b o z => ?_⟩
      · rw [List.map_append]
        exact dpa_app (dpa_nl tf5 _ _ (nls_ms _) hda) (dpa_nl tf _ _ (nls_ms _) hw4)
      · rcases List.mem_append.mp hx with hx | hx
        · exact okw x (by simp [hx])
        · obtain ⟨y, hy, rfl⟩ := List.mem_map.mp hx
          have h1 := ix.kids_dep y hy
          exact ⟨ix.kids_ok oki.1 y hy, by show y.dep + (n + 1) ≤ 9; omega⟩
      · rw [upd_ne (ne_of_none z hD)]
        exact sm5 _ _ (s4 _ _ (sm3 _ _ z))
end
end K5
set_option maxRecDepth 100000
set_option maxHeartbeats 2000000
/-! The program's deeds. -/
namespace K5
open PySem PySem.Spec PyProof.Rows L2 KF
/-- all stands but a reading and its lists -/
def FrA (A : Pd) (a : Addr) (H H' : Hp) : Prop := ∀ b o, b ≠ a → A.off b → H b = some o → H' b = some o
theorem FrA.refl (A : Pd) (a : Addr) (H : Hp) : FrA A a H H := fun _ _ _ _ h => h
theorem FrA.trans {A : Pd} {a : Addr} {H H1 H2 : Hp} (f : FrA A a H H1) (g : FrA A a H1 H2) : FrA A a H H2 := fun b o n m h => g b o n m (f b o n m h)
theorem FrA.of_frm {A : Pd} {a : Addr} {H H' : Hp} (f : Frm a H H') : FrA A a H H' := fun b o n _ h => f b o n h
theorem take2 {α : Type} {l : List α} {x : α} (h : l.length = 2) : (l ++ [x]).take 2 = l := by
  rw [List.take_append_of_le_length (by omega), List.take_of_length_le (by omega)]
section
variable {P : Program} {w : World} {K : PySem.W.Frag} {mg : Str → Option Value} {base : Heap}
def spDd (K : PySem.W.Frag) : Sp := fun vs H Q _ => ∃ (v : V) (p a : Addr) (d : De) (rest : List PyData) (ns : List Int) (r : Ru) (AA : Pd), vs = [v, .ref p, .ref a] ∧ Dp K H v (.tuple (d.hd ++ rest)) ∧ H p = some (.lst (ns.map V.int)) ∧ ns.length = d.exs.length ∧ d.hok ∧ d.flat ∧ r.ok ∧ RInv K H a r.f r.s r.x AA ∧
    ∀ H', RInv K H' a (d.put ns r).f (d.put ns r).s (d.put ns r).x AA → TF H H' → FrA AA a H H' → Q .non H'
theorem scDd : FnScope ["deed", "numbers", "reading", "name", "away", "way", "number"] ["deed", "numbers", "reading"] (defScope s_do_deed) := ⟨rfl, rfl, rfl, by decide +kernel, rfl, by decide +kernel, by decide +kernel⟩
theorem ok_do_deed (T : Txt K w mg) : FnOk P w K mg base CX0 2 (He.fAd K ("do_deed", none)) (fdAt K (He.fAd K ("do_deed", none))) ["deed", "numbers", "reading"] (spDd K) := by
  obtain ⟨u1, g1, r1⟩ := T.c_MOST_SET
  obtain ⟨u2, g2, r2⟩ := T.c_MOST_WAY
  obtain ⟨u3, g3, r3⟩ := T.c_MOST_AWAY
  obtain ⟨u4, g4, r4⟩ := T.c_MOST_BIRTHS
  refine T.F_do_deed.ok scDd (fun vs H Q E h => ?_) (fun cdv A outer s H vs Q E hr h => ?_)
  · obtain ⟨v, p, a, d, rest, ns, r, AA, rfl, _⟩ := h
    rfl
  · obtain ⟨v, p, a, d, rest, ns, r, ⟨ol, ml, ms, bo⟩, rfl, hd, hp, hl, dok, dfl, rok, hI, kk⟩ := h
    have hu := Nat.lt_of_le_of_lt (Nat.add_le_add_left (by decide : 1 ≤ 64) _) hr.units
    refine ⟨_, PSs.nox (pss_cons (ps_set (i := 3) scDd.nd rfl (Or.inl rfl) (pe_ix (r := rIxT K) ix_tup (pv 0) pe_int (fun _ _ => rfl)))
      (pss_one (ps_if (pt_cmpR op_eq (pv 3) pe_str (nomark _)) (pss_one (ps_asg (pe_call (ok_kept T) (hr.mono (by decide)) (by rfl) T.g_kept (T.F_kept).kp T.b_kept .nil pass0 (pa_cons (pe_ix (r := rIxL K) ix_list (pv 1) pe_int (fun _ _ => rfl)) (pa_cons (pe_un un_neg (pe_glob (v := .int 999) (by rfl) g1 r1)) (pa_cons (pe_glob (v := .int 999) (by rfl) g1 r1) pa_nil)))) (pg_sub (pe_fld (pv 2) rfl) (pe_ix (r := rIxT K) ix_tup (pv 0) pe_int (fun _ _ => rfl)) set_list))) (pss_one (ps_if (pt_cmpR op_eq (pv 3) pe_str (nomark _)) (pss_cons (ps_asg (pe_call (ok_kept T) (hr.mono (by decide)) (by rfl) T.g_kept (T.F_kept).kp T.b_kept .nil pass0 (pa_cons (pe_ix (r := rIxL K) ix_list (pv 1) pe_int (fun _ _ => rfl)) (pa_cons (pe_un un_neg (pe_glob (v := .int 999) (by rfl) g1 r1)) (pa_cons (pe_glob (v := .int 999) (by rfl) g1 r1) pa_nil)))) (pg_sub (pe_fld (pv 2) rfl) (pe_ix (r := rIxT K) ix_tup (pv 0) pe_int (fun _ _ => rfl)) set_list))
      (pss_one (ps_dput hu (pe_fld (pv 2) rfl) (pe_ix (r := rIxT K) ix_tup (pv 0) pe_int (fun _ _ => rfl)) (pe_ix (r := rIxL K) ix_list (pe_fld (pv 2) rfl) (pe_ix (r := rIxT K) ix_tup (pv 0) pe_int (fun _ _ => rfl)) (fun _ _ => rfl)) rfl))) (pss_one (ps_if (pt_cmpR op_eq (pv 3) pe_str (nomark _)) (pss_cons (ps_fld (pv 2) (pe_call (ok_kept T) (hr.mono (by decide)) (by rfl) T.g_kept (T.F_kept).kp T.b_kept .nil pass0 (pa_cons (pe_ix (r := rIxL K) ix_list (pv 1) pe_int (fun _ _ => rfl)) (pa_cons (pe_un un_neg (pe_glob (v := .int 7) (by rfl) g2 r2)) (pa_cons (pe_glob (v := .int 7) (by rfl) g2 r2) pa_nil)))) rfl)
      (pss_one (ps_fld (pv 2) (pe_call (ok_kept T) (hr.mono (by decide)) (by rfl) T.g_kept (T.F_kept).kp T.b_kept .nil pass0 (pa_cons (pe_ix (r := rIxL K) ix_list (pv 1) pe_int (fun _ _ => rfl)) (pa_cons (pe_un un_neg (pe_glob (v := .int 7) (by rfl) g2 r2)) (pa_cons (pe_glob (v := .int 7) (by rfl) g2 r2) pa_nil)))) rfl))) (pss_one (ps_if (pt_cmpR op_eq (pv 3) pe_str (nomark _)) (pss_one (ps_fld (pv 2) pe_bl rfl)) (pss_one (ps_if (pt_cmpR op_lt (pe_callB (r := Evl.rLenS K) call_len_seq (by rfl) T.n_len PyProof.Rows.Boot.«len» (pa_cons (pe_fld (pv 2) rfl) pa_nil)) (pe_glob (v := .int 2) (by rfl) g4 r4) (nomark _)) (pss_cons (ps_setLc (i := 4) (own := [("number", 6)]) (g := gName 6) (tt := tYes) (by rfl) scDd.nd rfl rfl (sw_true rfl rfl rfl (by decide +kernel)) (pi_list (pe_slice sl_list (pv 1) po_none (po_some pe_int))) (blkOk_by (own := [("number", 6)]) (N := ["deed", "numbers", "reading", "name", "away", "way", "number"]) (sc := defScope s_do_deed) (by decide +kernel)) (fun _ _ _ _ _ => pg_name (i := 6) scDd.nd rfl (Or.inl rfl)) (fun _ _ _ _ _ => pts_nil) (fun _ _ _ _ _ => (pe_call (ok_kept T) (hr.mono (by decide)) (by rfl) T.g_kept (T.F_kept).kp T.b_kept .nil pass0 (pa_cons (pv 6) (pa_cons (pe_un un_neg (pe_glob (v := .int 64) (by rfl) g3 r3)) (pa_cons (pe_glob (v := .int 64) (by rfl) g3 r3) pa_nil))))))
      (pss_cons (ps_setLc (i := 5) (own := [("number", 6)]) (g := gName 6) (tt := tYes) (by rfl) scDd.nd rfl rfl (sw_true rfl rfl rfl (by decide +kernel)) (pi_list (pe_slice sl_list (pv 1) (po_some pe_int) po_none)) (blkOk_by (own := [("number", 6)]) (N := ["deed", "numbers", "reading", "name", "away", "way", "number"]) (sc := defScope s_do_deed) (by decide +kernel)) (fun _ _ _ _ _ => pg_name (i := 6) scDd.nd rfl (Or.inl rfl)) (fun _ _ _ _ _ => pts_nil) (fun _ _ _ _ _ => (pe_call (ok_kept T) (hr.mono (by decide)) (by rfl) T.g_kept (T.F_kept).kp T.b_kept .nil pass0 (pa_cons (pv 6) (pa_cons (pe_un un_neg (pe_glob (v := .int 7) (by rfl) g2 r2)) (pa_cons (pe_glob (v := .int 7) (by rfl) g2 r2) pa_nil))))))
      (pss_one (ps_expr (pe_bm PySem.F.plainAttrs_list PySem.F.slot_list_append PySem.F.type_list_append mt_append (pe_fld (pv 2) rfl) (pa_cons (pe_tup (pa_cons (pe_ix (r := rIxT K) ix_tup (pv 0) pe_int (fun _ _ => rfl)) (StX.pa_star (pv 4) (StX.pa_star (pv 5) pa_nil)))) pa_nil)))))) pss_nil))))))))))), ?_⟩
    obtain ⟨f, s, x⟩ := r
    obtain ⟨okf, oks, okx⟩ := rok
    dsimp only at okf oks okx hI
    have hI0 := hI
    obtain ⟨dx, g0, th, mt, ha, hth, hg, hmt, hml, hol, kvs, bv, hms, hdk, hbo, hbv⟩ := hI
    have mla : ml ≠ a := fun e => by rw [e, ha] at hml; cases hml
    have ola : ol ≠ a := fun e => by rw [e, ha] at hol; cases hol
    have msa : ms ≠ a := fun e => by rw [e, ha] at hms; cases hms
    have boa : bo ≠ a := fun e => by rw [e, ha] at hbo; cases hbo
    have pa : p ≠ a := fun e => by rw [e, ha] at hp; cases hp
    have msl : ms ≠ ml := fun e => by rw [e, hml] at hms; cases hms
    have mso : ms ≠ ol := fun e => by rw [e, hol] at hms; cases hms
    have msb : ms ≠ bo := fun e => by rw [e, hbo] at hms; cases hms
    have hbl : bv.length = x.born.length := by rw [dpa_len hbv, List.length_map]
    have hb2 := okx.born
    have llen : ∀ {q r : Addr} {xs ys : List V}, H q = some (.lst xs) → H r = some (.lst ys) → xs.length ≠ ys.length → q ≠ r := fun h1 h2 n e => by
      rw [e, h2] at h1
      injection h1 with h1
      injection h1 with h1
      exact n (by rw [h1])
    have olml : ol ≠ ml := llen hol hml (by rw [List.length_map, List.length_map, okf.own.1, okf.marks.1]; decide)
    have olbo : ol ≠ bo := llen hol hbo (by rw [List.length_map, okf.own.1]; omega)
    have mlbo : ml ≠ bo := llen hml hbo (by rw [List.length_map, okf.marks.1]; omega)
    have nlm : NL (.tuple (f.met.map Mt.py)) := nl_mets _
    have fin : ∀ (H' : Hp) (r' : Ru) (kvs' : List (Key × V)) (bv' : List V), TF H H' → FrA ⟨ol, ml, ms, bo⟩ a H H' → H' a = some (.ins (He.ga K "Reading") dx (rdF th mt (.ref ol) (.ref ml) (.ref ms) (.ref bo) r'.f.dx r'.f.dy r'.f.press (ov r'.s.s) r'.f.here r'.f.below r'.s.dr r'.x.gone)) → (r'.f.x = f.x ∧ r'.f.y = f.y ∧ r'.f.rest = f.rest) → r'.f.met = f.met → H' ml = some (.lst (r'.f.marks.map ov)) → H' ol = some (.lst (r'.f.own.map V.int)) → H' ms = some (.dK kvs') → DkOk kvs' r'.x.set → H' bo = some (.lst bv') → DpAll K H' bv' (r'.x.born.map intTs) → RInv K H' a r'.f r'.s r'.x ⟨ol, ml, ms, bo⟩ := fun H' r' kvs' bv' tf fr ha' hx hm h1 h2 h3 h4 h5 h6 =>
      ⟨dx, g0, th, mt, ha', dp_nl tf _ _ g0.nl.1 hth, ⟨by rw [hx.1]; exact hg.1, by rw [hx.2.1]; exact hg.2.1, by rw [hx.2.2]; exact hg.2.2⟩, by rw [hm]; exact dp_nl tf _ _ nlm hmt, h1, h2, kvs', bv', h3, h4, h5, h6⟩
    cases d with
    | when a ds es => exact dfl.elim
    | gone =>
      rw [De.hd] at hd
      obtain ⟨ca, xs, rfl, sq, all⟩ := dp_tup hd
      cases all with
      | cons h1 r1 =>
      cases h1
      refine ⟨_, rfl, ca, _, _, _, rfl, rfl, sq, atI_nat (j := 0) rfl, ?_⟩
      iterate 3 refine ⟨_, rfl, rfl, _, rfl, ite2 (fun z => absurd z (by decide)) (fun _ => ?_)⟩
      refine ⟨_, rfl, rfl, _, rfl, ite2 (fun _ => ?_) (fun z => absurd (by decide) z)⟩
      refine ⟨_, rfl, a, _, dx, _, rfl, ha, T.k_Reading, T.a_Reading_gone, (show 14 < 1000 by decide), ?_⟩
      have e1 : putF "gone" (.bl true) (rdF th mt (.ref ol) (.ref ml) (.ref ms) (.ref bo) f.dx f.dy f.press (ov s.s) f.here f.below s.dr x.gone) = rdF th mt (.ref ol) (.ref ml) (.ref ms) (.ref bo) f.dx f.dy f.press (ov s.s) f.here f.below s.dr true := rfl
      rw [e1]
      have fr := Frm.of_upd (H := H) (d := a) (o := .ins (He.ga K "Reading") dx (rdF th mt (.ref ol) (.ref ml) (.ref ms) (.ref bo) f.dx f.dy f.press (ov s.s) f.here f.below s.dr true))
      have tf := Frm.tfi fr ha
      exact kk _ (fin _ _ kvs bv tf (.of_frm fr) upd_same ⟨rfl, rfl, rfl⟩ rfl (fr _ _ mla hml) (fr _ _ ola hol) (fr _ _ msa hms) hdk (fr _ _ boa hbo) (dpa_nl tf _ _ (nl_born _) hbv)) tf (.of_frm fr)
    | go b c =>
      rw [De.hd] at hd
      obtain ⟨ca, xs, rfl, sq, all⟩ := dp_tup hd
      cases all with
      | cons h1 r1 =>
      cases h1
      obtain ⟨n, m, rfl⟩ : ∃ n m, ns = [n, m] := by
        match ns, hl with
        | [n, m], _ => exact ⟨n, m, rfl⟩
      refine ⟨_, rfl, ca, _, _, _, rfl, rfl, sq, atI_nat (j := 0) rfl, ?_⟩
      iterate 2 refine ⟨_, rfl, rfl, _, rfl, ite2 (fun z => absurd z (by decide)) (fun _ => ?_)⟩
      refine ⟨_, rfl, rfl, _, rfl, ite2 (fun _ => ?_) (fun z => absurd (by decide) z)⟩
      have e1 : putF "dx" (.int (kp (-7) 7 n)) (rdF th mt (.ref ol) (.ref ml) (.ref ms) (.ref bo) f.dx f.dy f.press (ov s.s) f.here f.below s.dr x.gone) = rdF th mt (.ref ol) (.ref ml) (.ref ms) (.ref bo) (kp (-7) 7 n) f.dy f.press (ov s.s) f.here f.below s.dr x.gone := rfl
      have e2 : putF "dy" (.int (kp (-7) 7 m)) (rdF th mt (.ref ol) (.ref ml) (.ref ms) (.ref bo) (kp (-7) 7 n) f.dy f.press (ov s.s) f.here f.below s.dr x.gone) = rdF th mt (.ref ol) (.ref ml) (.ref ms) (.ref bo) (kp (-7) 7 n) (kp (-7) 7 m) f.press (ov s.s) f.here f.below s.dr x.gone := rfl
      refine ⟨_, rfl, p, _, _, _, rfl, rfl, SqL.of hp, atI_nat (j := 0) rfl, _, rfl, n, -7, 7, rfl, _, rfl, a, _, dx, _, rfl, ha, T.k_Reading, T.a_Reading_dx, (show 14 < 1000 by decide), ?_⟩
      rw [e1]
      refine ⟨_, rfl, p, _, _, _, rfl, rfl, SqL.of (by rw [upd_ne pa]; exact hp), atI_nat (j := 1) rfl, _, rfl, m, -7, 7, rfl, _, rfl, a, _, dx, _, rfl, upd_same, T.k_Reading, T.a_Reading_dy, (show 14 < 1000 by decide), ?_⟩
      rw [e2]
      have fr := (Frm.of_upd (H := H) (d := a) (o := .ins (He.ga K "Reading") dx (rdF th mt (.ref ol) (.ref ml) (.ref ms) (.ref bo) (kp (-7) 7 n) f.dy f.press (ov s.s) f.here f.below s.dr x.gone))).trans (Frm.of_upd (o := .ins (He.ga K "Reading") dx (rdF th mt (.ref ol) (.ref ml) (.ref ms) (.ref bo) (kp (-7) 7 n) (kp (-7) 7 m) f.press (ov s.s) f.here f.below s.dr x.gone)))
      have tf := Frm.tfi fr ha
      exact kk _ (fin _ _ kvs bv tf (.of_frm fr) upd_same ⟨rfl, rfl, rfl⟩ rfl (fr _ _ mla hml) (fr _ _ ola hol) (fr _ _ msa hms) hdk (fr _ _ boa hbo) (dpa_nl tf _ _ (nl_born _) hbv)) tf (.of_frm fr)
    | own i b =>
      rw [De.hd] at hd
      obtain ⟨ca, xs, rfl, sq, all⟩ := dp_tup hd
      cases all with
      | cons h1 r1 =>
      cases r1 with
      | cons h2 r2 =>
      cases h1
      cases h2
      obtain ⟨n, rfl⟩ : ∃ n, ns = [n] := by
        match ns, hl with
        | [n], _ => exact ⟨n, rfl⟩
      rw [De.hok] at dok
      obtain ⟨j, rfl⟩ : ∃ j : Nat, i = (j : Int) := ⟨i.toNat, by omega⟩
      have hj : j < 4 := by omega
      refine ⟨_, rfl, ca, _, _, _, rfl, rfl, sq, atI_nat (j := 0) rfl, ?_⟩
      refine ⟨_, rfl, rfl, _, rfl, ite2 (fun _ => ?_) (fun z => absurd (by decide) z)⟩
      refine ⟨_, rfl, p, _, _, _, rfl, rfl, SqL.of hp, atI_nat (j := 0) rfl, _, rfl, n, -999, 999, rfl, ?_⟩
      refine ⟨_, rfl, a, _, dx, _, .ref ol, rfl, ha, T.k_Reading, T.a_Reading_own, rfl, _, rfl, ca, _, _, _, rfl, rfl, sq, atI_nat (j := 1) rfl, ol, _, _, j, rfl, rfl, hol, Evl.ixN_nat (by rw [List.length_map, okf.own.1]; exact hj), ?_⟩
      have tf := TF.of_lst (o := .lst ((f.own.map V.int).set j (.int (kp (-999) 999 n)))) hol
      have fr : FrA ⟨ol, ml, ms, bo⟩ a H (upd H ol (.lst ((f.own.map V.int).set j (.int (kp (-999) 999 n))))) := fun b o _ hb z => by
        rw [upd_ne hb.1]
        exact z
      refine kk _ (fin _ _ kvs bv tf fr (by rw [upd_ne ola.symm]; exact ha) ⟨rfl, rfl, rfl⟩ rfl (by rw [upd_ne olml.symm]; exact hml) ?_ (by rw [upd_ne mso]; exact hms) hdk (by rw [upd_ne olbo.symm]; exact hbo) (dpa_nl tf _ _ (nl_born _) hbv)) tf fr
      rw [upd_same]
      show some (HO.lst ((f.own.map V.int).set j _)) = some (HO.lst ((f.own.set ((j : Int)).toNat _).map V.int))
      rw [List.map_set, Int.toNat_natCast]
    | mark i b =>
      rw [De.hd] at hd
      obtain ⟨ca, xs, rfl, sq, all⟩ := dp_tup hd
      cases all with
      | cons h1 r1 =>
      cases r1 with
      | cons h2 r2 =>
      cases h1
      cases h2
      obtain ⟨n, rfl⟩ : ∃ n, ns = [n] := by
        match ns, hl with
        | [n], _ => exact ⟨n, rfl⟩
      rw [De.hok] at dok
      obtain ⟨j, rfl⟩ : ∃ j : Nat, i = (j : Int) := ⟨i.toNat, by omega⟩
      have hj : j < 16 := by omega
      refine ⟨_, rfl, ca, _, _, _, rfl, rfl, sq, atI_nat (j := 0) rfl, ?_⟩
      iterate 1 refine ⟨_, rfl, rfl, _, rfl, ite2 (fun z => absurd z (by decide)) (fun _ => ?_)⟩
      refine ⟨_, rfl, rfl, _, rfl, ite2 (fun _ => ?_) (fun z => absurd (by decide) z)⟩
      refine ⟨_, rfl, p, _, _, _, rfl, rfl, SqL.of hp, atI_nat (j := 0) rfl, _, rfl, n, -999, 999, rfl, ?_⟩
      refine ⟨_, rfl, a, _, dx, _, .ref ml, rfl, ha, T.k_Reading, T.a_Reading_marks, rfl, _, rfl, ca, _, _, _, rfl, rfl, sq, atI_nat (j := 1) rfl, ml, _, _, j, rfl, rfl, hml, Evl.ixN_nat (by rw [List.length_map, okf.marks.1]; exact hj), ?_⟩
      have tf := TF.of_lst (o := .lst ((f.marks.map ov).set j (.int (kp (-999) 999 n)))) hml
      have hml1 : (upd H ml (.lst ((f.marks.map ov).set j (.int (kp (-999) 999 n))))) ml = some (.lst ((f.marks.map ov).set j (.int (kp (-999) 999 n)))) := upd_same
      have ha1 := (show (upd H ml (.lst ((f.marks.map ov).set j (.int (kp (-999) 999 n))))) a = H a from upd_ne mla.symm).trans ha
      have hms1 := (show (upd H ml (.lst ((f.marks.map ov).set j (.int (kp (-999) 999 n))))) ms = H ms from upd_ne msl).trans hms
      have hbo1 := (show (upd H ml (.lst ((f.marks.map ov).set j (.int (kp (-999) 999 n))))) bo = H bo from upd_ne mlbo.symm).trans hbo
      have hol1 := (show (upd H ml (.lst ((f.marks.map ov).set j (.int (kp (-999) 999 n))))) ol = H ol from upd_ne olml).trans hol
      have fr : FrA ⟨ol, ml, ms, bo⟩ a H (upd H ml (.lst ((f.marks.map ov).set j (.int (kp (-999) 999 n))))) := fun b o _ hb z => by
        rw [upd_ne hb.2.1]
        exact z
      obtain ⟨H1, hH1⟩ : ∃ X, X = upd H ml (.lst ((f.marks.map ov).set j (.int (kp (-999) 999 n)))) := ⟨_, rfl⟩
      rw [← hH1] at tf hml1 ha1 hms1 hbo1 hol1 fr
      dsimp only
      rw [← hH1]
      refine ⟨_, rfl, a, _, dx, _, .ref ml, rfl, ha1, T.k_Reading, T.a_Reading_marks, rfl, _, rfl, ca, _, _, _, rfl, rfl, tf.sq sq, atI_nat (j := 1) rfl, ml, _, _, .int (kp (-999) 999 n), rfl, rfl, SqL.of hml1, atI_nat (by rw [List.getElem?_set_self (by rw [List.length_map, okf.marks.1]; exact hj)]), ?_⟩
      have hkl : kvs.length ≤ 16 := by
        obtain ⟨⟨ks, h1, h2, h3⟩, _⟩ := hdk
        have h4 := nodup_len 16 ks h2 (fun x hx => by
          obtain ⟨k, m, rfl, hk⟩ := (h3 x).mp hx
          have := (List.getElem?_eq_some_iff.mp hk).1
          rw [okx.set] at this
          omega)
        have h5 := congrArg List.length h1
        rw [List.length_map, List.length_map] at h5
        omega
      refine ⟨_, rfl, a, _, dx, _, .ref ms, rfl, ha1, T.k_Reading, T.a_Reading_marks_set, rfl, _, rfl, ca, _, _, _, rfl, rfl, tf.sq sq, atI_nat (j := 1) rfl, ms, _, rfl, DPut.k (k := .inl (j : Int)) hms1 (Nat.lt_of_le_of_lt hkl (by decide)), ?_⟩
      have tf2 := tf.trans (Frm.tfd (Frm.of_upd (d := ms) (o := .dK (putK kvs (.inl (j : Int)) (.int (kp (-999) 999 n))))) hms1)
      have fr2 : FrA ⟨ol, ml, ms, bo⟩ a H (upd H1 ms (.dK (putK kvs (.inl (j : Int)) (.int (kp (-999) 999 n))))) := fun b o hb1 hb z => by
        rw [upd_ne hb.2.2.1]
        exact fr b o hb1 hb z
      refine kk _ (fin _ _ _ bv tf2 fr2 (by rw [upd_ne msa.symm]; exact ha1) ⟨rfl, rfl, rfl⟩ rfl ?_ (by rw [upd_ne mso.symm]; exact hol1) upd_same (dk_put hdk (by rw [okx.set]; exact hj)) (by rw [upd_ne msb.symm]; exact hbo1) (dpa_nl tf2 _ _ (nl_born _) hbv)) tf2 fr2
      rw [upd_ne msl.symm, hml1]
      show some (HO.lst ((f.marks.map ov).set j _)) = some (HO.lst ((f.marks.set ((j : Int)).toNat _).map ov))
      rw [List.map_set, Int.toNat_natCast]
      rfl
    | born k b c e h =>
      rw [De.hd] at hd
      obtain ⟨ca, xs, rfl, sq, all⟩ := dp_tup hd
      cases all with
      | cons h1 r1 =>
      cases r1 with
      | cons h2 r2 =>
      cases h1
      cases h2
      obtain ⟨n1, n2, n3, n4, rfl⟩ : ∃ n1 n2 n3 n4, ns = [n1, n2, n3, n4] := by
        match ns, hl with
        | [n1, n2, n3, n4], _ => exact ⟨n1, n2, n3, n4, rfl⟩
      refine ⟨_, rfl, ca, _, _, _, rfl, rfl, sq, atI_nat (j := 0) rfl, ?_⟩
      iterate 4 refine ⟨_, rfl, rfl, _, rfl, ite2 (fun z => absurd z (by decide)) (fun _ => ?_)⟩
      refine ⟨_, rfl, a, _, dx, _, .ref bo, rfl, ha, T.k_Reading, T.a_Reading_births, rfl, bo, _, rfl, .inl (SqL.of hbo), _, _, rfl, rfl, _, rfl, ite2 (fun z => ?_) (fun z => ?_)⟩
      · have hlt : x.born.length < 2 := by
          have := of_decide_eq_true z
          omega
        have e12 : cutV ([n1, n2, n3, n4].map V.int) none (some 2) = [n1, n2].map V.int := rfl
        have e34 : cutV ([n1, n2, n3, n4].map V.int) (some 2) none = [n3, n4].map V.int := rfl
        refine ⟨_, rfl, (2 : Int), rfl, p, _, rfl, SqL.of hp, fun q1 nq1 => ⟨q1, rfl, ⟨_, SqL.of upd_same⟩, fun D1 nD1 => ?_⟩⟩
        have s1 := new_same (o := .lst (cutV ([n1, n2, n3, n4].map V.int) none (some 2))) nq1
        have sD1 := new_same (o := .lst []) nD1
        refine lc_list (xs := [n1, n2].map V.int) (fun i H' => H' D1 = some (.lst (([n1, n2].take i).map fun n => V.int (kp (-64) 64 n))) ∧ H' q1 = some (.lst ([n1, n2].map V.int)) ∧ Same H H') ⟨upd_same, sD1 _ _ (by rw [upd_same, e12]), s1.trans sD1⟩ (fun i H' _ h => SqL.of h.2.1) (fun i y H' hy hPv => ?_) (fun H1 hPv => ?_)
        · obtain ⟨hD, hq, sm⟩ := hPv
          rw [List.getElem?_map] at hy
          cases hg : ([n1, n2])[i]? with
          | none => rw [hg] at hy; cases hy
          | some n =>
            rw [hg] at hy
            cases hy
            have hi := (List.getElem?_eq_some_iff.mp hg).1
            refine ⟨rfl, ?_⟩
            dsimp only [tYes]
            rw [if_pos rfl]
            have hqD : q1 ≠ D1 := ne_of_none upd_same nD1
            have sn := fun (b : Addr) (o : HO) (z : H b = some o) => z
            refine ⟨_, rfl, _, rfl, n, -64, 64, rfl, _, hD, ?_, ?_, ?_, fun b o z => ?_⟩
            · exact Nat.lt_of_lt_of_le (show _ < 100 by rw [List.length_map, List.length_take]; simp at hi ⊢; omega) (by decide)
            · rw [upd_same, List.take_add_one, hg, List.map_append]
              rfl
            · rw [upd_ne hqD]
              exact hq
            · rw [upd_ne ?_]
              · exact sm _ _ z
              · intro e
                rw [e] at z
                have := s1 _ _ z
                rw [nD1] at this
                cases this
        obtain ⟨hD1, _, sH1⟩ := hPv
        have hp1 := sH1 _ _ hp
        refine ⟨_, rfl, (2 : Int), rfl, p, _, rfl, SqL.of hp1, fun q2 nq2 => ⟨q2, rfl, ⟨_, SqL.of upd_same⟩, fun D2 nD2 => ?_⟩⟩
        have s2 := new_same (o := .lst (cutV ([n1, n2, n3, n4].map V.int) (some 2) none)) nq2
        have sD2 := new_same (o := .lst []) nD2
        refine lc_list (xs := [n3, n4].map V.int) (fun i H' => H' D2 = some (.lst (([n3, n4].take i).map fun n => V.int (kp (-7) 7 n))) ∧ H' q2 = some (.lst ([n3, n4].map V.int)) ∧ Same H1 H') ⟨upd_same, sD2 _ _ (by rw [upd_same, e34]), s2.trans sD2⟩ (fun i H' _ h => SqL.of h.2.1) (fun i y H' hy hPv => ?_) (fun H2 hPv => ?_)
        · obtain ⟨hD, hq, sm⟩ := hPv
          rw [List.getElem?_map] at hy
          cases hg : ([n3, n4])[i]? with
          | none => rw [hg] at hy; cases hy
          | some n =>
            rw [hg] at hy
            cases hy
            have hi := (List.getElem?_eq_some_iff.mp hg).1
            refine ⟨rfl, ?_⟩
            dsimp only [tYes]
            rw [if_pos rfl]
            have hqD : q2 ≠ D2 := ne_of_none upd_same nD2
            have sn := fun (b : Addr) (o : HO) (z : H b = some o) => z
            refine ⟨_, rfl, _, rfl, n, -7, 7, rfl, _, hD, ?_, ?_, ?_, fun b o z => ?_⟩
            · exact Nat.lt_of_lt_of_le (show _ < 100 by rw [List.length_map, List.length_take]; simp at hi ⊢; omega) (by decide)
            · rw [upd_same, List.take_add_one, hg, List.map_append]
              rfl
            · rw [upd_ne hqD]
              exact hq
            · rw [upd_ne ?_]
              · exact sm _ _ z
              · intro e
                rw [e] at z
                have := s2 _ _ z
                rw [nD2] at this
                cases this
        obtain ⟨hD2, _, sH2⟩ := hPv
        have S2 := sH1.trans sH2
        refine ⟨_, rfl, a, _, dx, _, .ref bo, rfl, S2 _ _ ha, T.k_Reading, T.a_Reading_births, rfl, .inl ⟨rfl, _, SqL.of (S2 _ _ hbo)⟩, _, rfl, ca, _, _, _, rfl, rfl, (same_tf S2).sq sq, atI_nat (j := 1) rfl, _, rfl, D1, _, rfl, .inr (SqL.of (sH2 _ _ hD1)), _, rfl, D2, _, rfl, .inr (SqL.of hD2), (show 5 ≤ sizeLine by decide), fun t nt => ?_⟩
        have s3 := new_same (o := .tup [V.int k, V.int (kp (-64) 64 n1), V.int (kp (-64) 64 n2), V.int (kp (-7) 7 n3), V.int (kp (-7) 7 n4)]) nt
        have S3 := S2.trans s3
        have ht3 : (upd H2 t (.tup [V.int k, V.int (kp (-64) 64 n1), V.int (kp (-64) 64 n2), V.int (kp (-7) 7 n3), V.int (kp (-7) 7 n4)])) t = some (.tup [V.int k, V.int (kp (-64) 64 n1), V.int (kp (-64) 64 n2), V.int (kp (-7) 7 n3), V.int (kp (-7) 7 n4)]) := upd_same
        have hbo3 := S3 _ _ hbo
        refine ⟨bo, bv, .ref t, rfl, rfl, hbo3, Nat.lt_of_lt_of_le (show bv.length < 100 by omega) (by decide), ?_⟩
        have tf3 := TF.of_lst (o := .lst (bv ++ [.ref t])) hbo3
        have tf := (same_tf S3).trans tf3
        have fr : FrA ⟨ol, ml, ms, bo⟩ a H (upd (upd H2 t (.tup [V.int k, V.int (kp (-64) 64 n1), V.int (kp (-64) 64 n2), V.int (kp (-7) 7 n3), V.int (kp (-7) 7 n4)])) bo (.lst (bv ++ [.ref t]))) := fun b o _ hb z => by
          rw [upd_ne hb.2.2.2]
          exact S3 _ _ z
        refine kk _ (fin _ _ kvs (bv ++ [.ref t]) tf fr (by rw [upd_ne boa.symm]; exact S3 _ _ ha) ⟨rfl, rfl, rfl⟩ rfl (by rw [upd_ne mlbo]; exact S3 _ _ hml) (by rw [upd_ne olbo]; exact S3 _ _ hol) (by rw [upd_ne msb]; exact S3 _ _ hms) hdk upd_same ?_) tf fr
        show DpAll K _ _ (((x.born ++ [[k, kp (-64) 64 n1, kp (-64) 64 n2, kp (-7) 7 n3, kp (-7) 7 n4]]).take 2).map intTs)
        have et : (x.born ++ [[k, kp (-64) 64 n1, kp (-64) 64 n2, kp (-7) 7 n3, kp (-7) 7 n4]]).take 2 = x.born ++ [[k, kp (-64) 64 n1, kp (-64) 64 n2, kp (-7) 7 n3, kp (-7) 7 n4]] := List.take_of_length_le (by rw [List.length_append, List.length_singleton]; omega)
        rw [et, List.map_append]
        exact dpa_snoc (dpa_nl tf _ _ (nl_born _) hbv) (.tup (tf3.sq (SqT.of ht3)) (.cons (.int _) (.cons (.int _) (.cons (.int _) (.cons (.int _) (.cons (.int _) .nil))))))
      · have hlt : x.born.length = 2 := by
          have : ¬ ((bv.length : Int) < 2) := fun u => z (decide_eq_true u)
          omega
        refine kk H ?_ (TF.refl _) (.refl _ _ _)
        show RInv K H a f s { x with born := (x.born ++ [[k, kp (-64) 64 n1, kp (-64) 64 n2, kp (-7) 7 n3, kp (-7) 7 n4]]).take 2 } _
        rw [take2 hlt]
        exact hI0
end
end K5
set_option maxRecDepth 100000
set_option maxHeartbeats 2000000
/-! What the program tells. -/
namespace K5
open PySem PySem.Spec PyProof.Rows L2 KF
def valO (set : List (Option Int)) (i : Int) : Int := match set[i.toNat]? with
  | some (some n) => n
  | _ => 0
theorem keys_canon {set : List (Option Int)} {ks ys : List Int} (hn : ks.Nodup) (hk : ∀ i, i ∈ ks ↔ ∃ (k : Nat) (n : Int), i = (k : Int) ∧ set[k]? = some (some n)) (hp : ys.Perm ks) (hs : ys.Pairwise (· ≤ ·)) : ys.map (fun i => (i, valO set i)) = canonR 0 set := by
  have yn : ys.Nodup := hp.nodup_iff.mpr hn
  refine pairs_uniq ?_ (canon_sorted _ _) fun p => ?_
  · refine List.pairwise_map.mpr ?_
    have yn2 : ys.Pairwise (fun a b => a ≠ b) := yn
    exact hs.imp₂ (fun a b h1 h2 => by show a < b; omega) yn2
  · obtain ⟨i, n⟩ := p
    rw [canon_mem, List.mem_map]
    constructor
    · rintro ⟨j, hj, e⟩
      injection e with e1 e2
      subst e1
      obtain ⟨k, m, rfl, hk2⟩ := (hk j).mp (hp.mem_iff.mp hj)
      refine ⟨k, by simp, ?_⟩
      rw [← e2, valO, Int.toNat_natCast, hk2]
    · rintro ⟨k, rfl, hk2⟩
      refine ⟨(k : Int), hp.mem_iff.mpr ((hk _).mpr ⟨k, n, rfl, hk2⟩), ?_⟩
      rw [valO, Int.toNat_natCast, hk2]
      simp
section
variable {P : Program} {w : World} {K : PySem.W.Frag} {mg : Str → Option Value} {base : Heap}
def spTb (K : PySem.W.Frag) : Sp := fun vs H Q _ => ∃ (a : Addr) (r : Ru) (AA : Pd), vs = [.ref a] ∧ r.ok ∧ RInv K H a r.f r.s r.x AA ∧ ∀ v H', Dp K H' v r.out → Same H H' → Q v H'
theorem scTb : FnScope ["reading", "marks", "seed", "births", "mark"] ["reading"] (defScope s_told_by) := ⟨rfl, rfl, rfl, by decide +kernel, rfl, by decide +kernel, by decide +kernel⟩
theorem ok_told_by (T : Txt K w mg) : FnOk P w K mg base CX0 1 (He.fAd K ("told_by", none)) (fdAt K (He.fAd K ("told_by", none))) ["reading"] (spTb K) := by
  refine T.F_told_by.ok scTb (fun vs H Q E h => ?_) (fun cdv A outer s H vs Q E hr h => ?_)
  · obtain ⟨a, r, AA, rfl, _⟩ := h
    rfl
  · obtain ⟨a, r, ⟨ol, ml, ms, bo⟩, rfl, rok, hI, kk⟩ := h
    have hu := Nat.lt_of_le_of_lt (Nat.add_le_add_left (by decide : 1 ≤ 64) _) hr.units
    refine ⟨_, PSs.nox (pss_cons (ps_set (i := 1) scTb.nd rfl (Or.inl rfl) (pe_callTy call_tuple_of (by rfl) T.n_tuple PyProof.Rows.Boot.«tuple» (pa_cons (pe_lc (own := [("mark", 4)]) (g := gName 4) (tt := tYes) (by rfl) scTb.nd (pi_list (pe_callB (call_sortedDI (by rfl)) (by rfl) T.n_sorted PyProof.Rows.Boot.«sorted» (pa_cons (pe_fld (pv 0) rfl) pa_nil))) (blkOk_by (own := [("mark", 4)]) (N := ["reading", "marks", "seed", "births", "mark"]) (sc := defScope s_told_by) (by decide +kernel)) (fun _ _ _ _ _ => pg_name (i := 4) scTb.nd rfl (Or.inl rfl)) (fun _ _ _ _ _ => pts_nil) (fun _ _ _ _ _ => (pe_tup (pa_cons (pv 4) (pa_cons (pe_dget hu (show PE _ _ (tFld K (tVar 0) "marks_set") from pe_fld (pv 0) rfl) (pv 4) (fun _ _ => rfl)) pa_nil))))) pa_nil)))
      (pss_cons (ps_set (i := 2) scTb.nd rfl (Or.inl rfl) (pe_ifExp (pt_val (pe_fld (pv 0) rfl)) (pe_fld (pv 0) rfl) pe_non))
      (pss_cons (ps_set (i := 3) scTb.nd rfl (Or.inl rfl) (pe_callTy call_tuple_of (by rfl) T.n_tuple PyProof.Rows.Boot.«tuple» (pa_cons (pe_fld (pv 0) rfl) pa_nil)))
      (pss_one (ps_ret (pe_tup (pa_cons (pe_fld (pv 0) rfl) (pa_cons (pe_fld (pv 0) rfl) (pa_cons (pe_callTy call_tuple_of (by rfl) T.n_tuple PyProof.Rows.Boot.«tuple» (pa_cons (pe_fld (pv 0) rfl) pa_nil)) (pa_cons (pv 1) (pa_cons (pv 2) (pa_cons (pv 3) (pa_cons (pe_fld (pv 0) rfl) pa_nil))))))))))))), ?_⟩
    obtain ⟨dx, g0, th, mt, ha, hth, hg, hmt, hml, hol, kvs, bv, hms, hdk, hbo, hbv⟩ := hI
    obtain ⟨f, ⟨sd, dr⟩, x⟩ := r
    dsimp only at ha hg hmt hml hol hdk hbv
    have okx := rok.x
    dsimp only at okx
    obtain ⟨⟨ks, hks, ksn, hkm⟩, hkv⟩ := hdk
    have hkl : ks.length ≤ 16 := nodup_len 16 ks ksn (fun x hx => by
      obtain ⟨k, m, rfl, hk⟩ := (hkm x).mp hx
      have := (List.getElem?_eq_some_iff.mp hk).1
      rw [okx.set] at this
      omega)
    refine ⟨_, rfl, a, _, dx, _, .ref ms, rfl, ha, T.k_Reading, T.a_Reading_marks_set, rfl, ms, kvs, ks, rfl, .inl hms, hks, by omega, fun ys p hp hs np => ⟨p, rfl, ⟨_, SqL.of upd_same⟩, fun D hD => ?_⟩⟩
    have s1 := new_same (o := .lst (ys.map V.int)) np
    have hpp : (upd H p (.lst (ys.map V.int))) p = some (.lst (ys.map V.int)) := upd_same
    obtain ⟨H1, hH1⟩ : ∃ X, X = upd H p (.lst (ys.map V.int)) := ⟨_, rfl⟩
    rw [← hH1] at s1 hpp hD ⊢
    have hyl : ys.length ≤ 16 := by rw [hp.length_eq]; exact hkl
    refine lc_list (xs := ys.map V.int) (fun j H' => ∃ acc, H' D = some (.lst acc) ∧ DpAll K H' acc (((ys.take j).map fun i => (i, valO x.set i)).map prT) ∧ Same H1 H') ⟨[], upd_same, .nil, new_same hD⟩ (fun j H' _ h => SqL.of (h.choose_spec.2.2 _ _ hpp)) (fun j y H' hy hPv => ?_) (fun H2 hPv => ?_)
    · obtain ⟨acc, hacc, hda, sm⟩ := hPv
      rw [List.getElem?_map] at hy
      cases hg2 : ys[j]? with
      | none => rw [hg2] at hy; cases hy
      | some i =>
        rw [hg2] at hy
        cases hy
        have hj := (List.getElem?_eq_some_iff.mp hg2).1
        obtain ⟨k, n, rfl, hk⟩ := (hkm i).mp (hp.mem_iff.mp (List.mem_of_getElem? hg2))
        have hval : valO x.set (k : Int) = n := by rw [valO, Int.toNat_natCast, hk]
        refine ⟨rfl, ?_⟩
        dsimp only [tYes]
        rw [if_pos rfl]
        have hg3 : DGet H' ms (.int (k : Int)) (some (.int n)) := by
          rw [← hkv k n hk]
          exact DGet.k (k := .inl (k : Int)) (sm _ _ (s1 _ _ hms))
        refine ⟨_, rfl, _, rfl, a, _, dx, _, .ref ms, rfl, sm _ _ (s1 _ _ ha), T.k_Reading, T.a_Reading_marks_set, rfl, _, rfl, ms, .int n, rfl, hg3, (show 2 ≤ sizeLine by decide), fun t nt => ?_⟩
        have st := new_same (o := .tup [.int (k : Int), .int n]) nt
        have hacc2 := st _ _ hacc
        have tfx := TF.of_lst (o := .lst (acc ++ [.ref t])) hacc2
        refine ⟨acc, hacc2, ?_, acc ++ [.ref t], upd_same, ?_, fun b o z => ?_⟩
        · rw [dpa_len hda, List.length_map, List.length_map, List.length_take]
          exact Nat.lt_of_lt_of_le (show min j ys.length < 100 by omega) (by decide)
        · rw [List.map_map, take_map _ _ _ hj, ← List.map_map]
          refine dpa_snoc (dpa_nl ((same_tf st).trans tfx) _ _ (nl_pr _) hda) ?_
          have e : ys[j] = (k : Int) := by
            rw [List.getElem?_eq_getElem hj] at hg2
            injection hg2
          show Dp K _ _ (.tuple [.int ys[j], .int (valO x.set ys[j])])
          rw [e, hval]
          exact .tup (tfx.sq (SqT.of upd_same)) (.cons (.int _) (.cons (.int _) .nil))
        · rw [upd_ne (ne_of_none z hD)]
          exact st _ _ (sm _ _ z)
    obtain ⟨acc, hacc, hda, sm⟩ := hPv
    rw [List.take_of_length_le (by rw [List.length_map]; exact Nat.le_refl _), keys_canon ksn hkm hp hs] at hda
    have S2 := s1.trans sm
    refine ⟨D, acc, rfl, .inl ⟨SqL.of hacc, fun l3 nl3 => ?_⟩⟩
    have w3 := new_same (o := .tup acc) nl3
    have h3 : (upd H2 l3 (.tup acc)) l3 = some (.tup acc) := upd_same
    have hda3 := dpa_nl (same_tf w3) _ _ (nl_pr _) hda
    have S3 := S2.trans w3
    obtain ⟨H3, hH3⟩ : ∃ X, X = upd H2 l3 (.tup acc) := ⟨_, rfl⟩
    rw [← hH3] at h3 hda3 S3 ⊢
    refine ⟨_, rfl, a, _, dx, _, .bl dr, rfl, S3 _ _ ha, T.k_Reading, T.a_Reading_drawn, rfl, dr, rfl, ?_⟩
    cases dr with
    | true =>
      refine iteT ⟨_, rfl, a, _, dx, _, ov sd, rfl, S3 _ _ ha, T.k_Reading, T.a_Reading_seed, rfl, ?_⟩
      refine ⟨_, rfl, a, _, dx, _, .ref bo, rfl, S3 _ _ ha, T.k_Reading, T.a_Reading_births, rfl, bo, _, rfl, .inl ⟨SqL.of (S3 _ _ hbo), fun l5 nl5 => ?_⟩⟩
      have w5 := new_same (o := .tup bv) nl5
      have S5 := S3.trans w5
      refine ⟨_, rfl, a, _, dx, _, .int f.dx, rfl, S5 _ _ ha, T.k_Reading, T.a_Reading_dx, rfl, _, rfl, a, _, dx, _, .int f.dy, rfl, S5 _ _ ha, T.k_Reading, T.a_Reading_dy, rfl, _, rfl, a, _, dx, _, .ref ol, rfl, S5 _ _ ha, T.k_Reading, T.a_Reading_own, rfl, ol, _, rfl, .inl ⟨SqL.of (S5 _ _ hol), fun l1 nl1 => ?_⟩⟩
      have w1 := new_same (o := .tup (f.own.map V.int)) nl1
      have S1 := S5.trans w1
      refine ⟨_, rfl, _, rfl, _, rfl, _, rfl, a, _, dx, _, .bl x.gone, rfl, S1 _ _ ha, T.k_Reading, T.a_Reading_gone, rfl, (show 7 ≤ sizeLine by decide), fun q nq => ?_⟩
      have w7 := new_same (o := .tup [.int f.dx, .int f.dy, .ref l1, .ref l3, ov sd, .ref l5, .bl x.gone]) nq
      have S7 := S1.trans w7
      refine kk (.ref q) _ (.tup (SqT.of upd_same) (.cons (.int _) (.cons (.int _) (.cons (.tup (SqT.of (w7 _ _ upd_same)) (dpa_ints f.own)) (.cons (.tup (SqT.of (((w5.trans w1).trans w7) _ _ h3)) (dpa_nl (same_tf ((w5.trans w1).trans w7)) _ _ (nl_pr _) hda3)) (.cons (dp_oi sd) (.cons (.tup (SqT.of ((w1.trans w7) _ _ upd_same)) (dpa_nl (same_tf S7) _ _ (nl_born _) hbv)) (.cons (.bl _) .nil)))))))) S7
    | false =>
      refine iteF ?_
      refine ⟨_, rfl, a, _, dx, _, .ref bo, rfl, S3 _ _ ha, T.k_Reading, T.a_Reading_births, rfl, bo, _, rfl, .inl ⟨SqL.of (S3 _ _ hbo), fun l5 nl5 => ?_⟩⟩
      have w5 := new_same (o := .tup bv) nl5
      have S5 := S3.trans w5
      refine ⟨_, rfl, a, _, dx, _, .int f.dx, rfl, S5 _ _ ha, T.k_Reading, T.a_Reading_dx, rfl, _, rfl, a, _, dx, _, .int f.dy, rfl, S5 _ _ ha, T.k_Reading, T.a_Reading_dy, rfl, _, rfl, a, _, dx, _, .ref ol, rfl, S5 _ _ ha, T.k_Reading, T.a_Reading_own, rfl, ol, _, rfl, .inl ⟨SqL.of (S5 _ _ hol), fun l1 nl1 => ?_⟩⟩
      have w1 := new_same (o := .tup (f.own.map V.int)) nl1
      have S1 := S5.trans w1
      refine ⟨_, rfl, _, rfl, _, rfl, _, rfl, a, _, dx, _, .bl x.gone, rfl, S1 _ _ ha, T.k_Reading, T.a_Reading_gone, rfl, (show 7 ≤ sizeLine by decide), fun q nq => ?_⟩
      have w7 := new_same (o := .tup [.int f.dx, .int f.dy, .ref l1, .ref l3, ov none, .ref l5, .bl x.gone]) nq
      have S7 := S1.trans w7
      refine kk (.ref q) _ (.tup (SqT.of upd_same) (.cons (.int _) (.cons (.int _) (.cons (.tup (SqT.of (w7 _ _ upd_same)) (dpa_ints f.own)) (.cons (.tup (SqT.of (((w5.trans w1).trans w7) _ _ h3)) (dpa_nl (same_tf ((w5.trans w1).trans w7)) _ _ (nl_pr _) hda3)) (.cons (dp_oi none) (.cons (.tup (SqT.of ((w1.trans w7) _ _ upd_same)) (dpa_nl (same_tf S7) _ _ (nl_born _) hbv)) (.cons (.bl _) .nil)))))))) S7
end
end K5
set_option maxRecDepth 100000
set_option maxHeartbeats 2000000
/-! The code of a script. -/
namespace K5
open PySem PySem.Spec PyProof.Rows L2 KF
inductive Th where
  | push (n : Int)
  | read (l : Lf)
  | act (d : De)
  | over (n : Nat)
  | nought (n : Nat)
  | op (k : Str)
def Th.ds : Th → List PyData
  | .push n => [.str "push", .int n]
  | .read l => [.str "read", .tuple l.ds]
  | .act d => d.hd
  | .over n => [.str "over", .int (n : Int)]
  | .nought n => [.str "nought", .int (n : Int)]
  | .op k => [.str "do", .str k]
def Th.py (t : Th) : PyData := .tuple t.ds
theorem De.hd_nl (d : De) : NLs d.hd := by cases d <;> simp [De.hd, NLs, NL]
theorem Th.nl (t : Th) : NL t.py := by
  cases t with
  | read l => exact ⟨trivial, l.nl, trivial⟩
  | act d => exact d.hd_nl
  | _ => simp [Th.py, Th.ds, NL, NLs]
theorem nls_th : ∀ ts : List Th, NLs (ts.map Th.py)
  | [] => trivial
  | t :: ts => ⟨t.nl, nls_th ts⟩
def fork (a b : List Th) : List Th := .nought (a.length + 1) :: (a ++ .over b.length :: b)
def codeL : Lf → List Th
  | .number n => [.push n]
  | l => [.read l]
def codeE : Ex → List Th
  | .leaf l => codeL l
  | .neg a => codeE a ++ [.op "not"]
  | .two k a b => (codeE a ++ codeE b) ++ [.op k]
  | .pick a b c => codeE a ++ fork (codeE b) (codeE c)
def codeF (d : De) : List Th := d.exs.flatMap codeE ++ [.act d]
mutual
def codeD : De → List Th
  | .own i a => codeF (.own i a)
  | .mark i a => codeF (.mark i a)
  | .go a b => codeF (.go a b)
  | .born k a b c d => codeF (.born k a b c d)
  | .gone => codeF .gone
  | .when a ds es => codeE a ++ fork (codeDs ds) (codeDs es)
def codeDs : List De → List Th
  | [] => []
  | d :: ds => codeD d ++ codeDs ds
end
theorem nls_take : ∀ (ds : List PyData) (k : Nat), NLs ds → NLs (ds.take k)
  | [], k, _ => by rw [List.take_nil]; trivial
  | d :: ds, 0, _ => trivial
  | d :: ds, k + 1, h => ⟨h.1, nls_take ds k h.2⟩
theorem nl_getE : ∀ {ds : List PyData} {i : Nat}, NLs ds → (h : i < ds.length) → NL ds[i]
  | d :: ds, 0, h, _ => h.1
  | d :: ds, i + 1, h, hi => nl_getE (ds := ds) h.2 (Nat.lt_of_succ_lt_succ hi)
theorem codeD_flat (d : De) (h : d.flat) : codeD d = codeF d := by
  cases d with
  | when a ds es => exact h.elim
  | _ => rw [codeD]
theorem codeDs_snoc (d : De) : ∀ ds : List De, codeDs (ds ++ [d]) = codeDs ds ++ codeD d
  | [] => by simp [codeDs]
  | x :: ds => by simp [codeDs, codeDs_snoc d ds]
theorem fork_len (a b : List Th) : (fork a b).length = a.length + b.length + 2 := by
  simp [fork]
  omega
theorem codeE_ne (e : Ex) : codeE e ≠ [] := by
  cases e with
  | leaf l => cases l <;> simp [codeE, codeL]
  | _ => simp [codeE, fork]
theorem words_num : ∀ s ∈ words, decide (V.str s = V.str "number") = false := by decide
theorem twos_num : ∀ s ∈ twos, decide (V.str s = V.str "number") = false := by decide
theorem Lf.num (l : Lf) (ok : l.ok) : (∃ n, l = .number n) ∨ (decide (V.str l.nm = V.str "number") = false ∧ codeL l = [.read l]) := by
  cases l with
  | number n => exact .inl ⟨n, rfl⟩
  | word w => exact .inr ⟨words_num w ok, rfl⟩
  | _ => exact .inr ⟨by rfl, rfl⟩
theorem Lf.args_atom (l : Lf) : ∀ x ∈ l.args, (∃ s, x = .str s) ∨ ∃ i, x = .int i := by
  intro x hx
  cases l <;> simp only [Lf.args, List.mem_cons, List.not_mem_nil, or_false] at hx
  case metOwn k i =>
    rcases hx with rfl | rfl
    · exact .inr ⟨_, rfl⟩
    · exact .inr ⟨_, rfl⟩
  case here c => exact .inl ⟨_, hx⟩
  case under c => exact .inl ⟨_, hx⟩
  all_goals exact .inr ⟨_, hx⟩
theorem codeL_len (l : Lf) : (codeL l).length = 1 := by cases l <;> rfl
theorem codeE_len : ∀ e : Ex, (codeE e).length ≤ 2 * e.size
  | .leaf l => by rw [codeE, codeL_len, Ex.size]; omega
  | .neg a => by
    have := codeE_len a
    rw [codeE, List.length_append, List.length_singleton, Ex.size]
    omega
  | .two k a b => by
    have := codeE_len a
    have := codeE_len b
    rw [codeE, List.length_append, List.length_append, List.length_singleton, Ex.size]
    omega
  | .pick a b c => by
    have := codeE_len a
    have := codeE_len b
    have := codeE_len c
    rw [codeE, List.length_append, fork_len, Ex.size]
    omega
mutual
theorem codeD_len : ∀ d : De, (codeD d).length ≤ 2 * d.size
  | .own i a => by
    have := codeE_len a
    rw [codeD, De.size]
    simp [codeF, De.exs]
    omega
  | .mark i a => by
    have := codeE_len a
    rw [codeD, De.size]
    simp [codeF, De.exs]
    omega
  | .go a b => by
    have := codeE_len a
    have := codeE_len b
    rw [codeD, De.size]
    simp [codeF, De.exs]
    omega
  | .born k a b c d => by
    have := codeE_len a
    have := codeE_len b
    have := codeE_len c
    have := codeE_len d
    rw [codeD, De.size]
    simp [codeF, De.exs]
    omega
  | .gone => by
    rw [codeD, De.size]
    simp [codeF, De.exs]
  | .when a ds es => by
    have := codeE_len a
    have := codeDs_len ds
    have := codeDs_len es
    rw [codeD, List.length_append, fork_len, De.size]
    omega
theorem codeDs_len : ∀ ds : List De, (codeDs ds).length ≤ 2 * szs ds
  | [] => by simp [codeDs]
  | d :: ds => by
    have := codeD_len d
    have := codeDs_len ds
    rw [codeDs, List.length_append, szs]
    omega
end
section
variable {P : Program} {w : World} {K : PySem.W.Frag} {mg : Str → Option Value} {base : Heap}
/-- a tuple of things, that is there or new -/
def Cd (K : PySem.W.Frag) (H : Hp) (t : Addr) (ts : List Th) : Prop := ∃ vs, SqT K H t vs ∧ DpAll K H vs (ts.map Th.py)
theorem Cd.tf {K : PySem.W.Frag} {H H' : Hp} {t : Addr} {ts : List Th} (h : Cd K H t ts) (e : TF H H') : Cd K H' t ts := by
  obtain ⟨vs, h1, h2⟩ := h
  exact ⟨vs, e.sq h1, dpa_nl e _ _ (nls_th _) h2⟩
/-- t + u -/
theorem Cd.cat {K : PySem.W.Frag} {H : Hp} {a b : Addr} {xs ys : List Th} {Q : VK} (ha : Cd K H a xs) (hb : Cd K H b ys) (hl : xs.length + ys.length ≤ 1000) (k : ∀ t H', Same H H' → Cd K H' t (xs ++ ys) → Q (.ref t) H') : rCatA K (.ref a) (.ref b) H Q := by
  obtain ⟨vs, h1, h2⟩ := ha
  obtain ⟨ws, g1, g2⟩ := hb
  have l1 : vs.length = xs.length := by rw [dpa_len h2, List.length_map]
  have l2 : ws.length = ys.length := by rw [dpa_len g2, List.length_map]
  have e1 : vs = [] → xs = [] := fun e => List.eq_nil_of_length_eq_zero (by rw [← l1, e]; rfl)
  have e2 : ws = [] → ys = [] := fun e => List.eq_nil_of_length_eq_zero (by rw [← l2, e]; rfl)
  refine ⟨a, b, vs, ws, rfl, rfl, h1, g1, Nat.le_trans (show vs.length + ws.length ≤ 1000 by omega) (by decide), fun e => ?_, fun _ e => ?_, fun _ _ p np => ?_⟩
  · refine k b H (Same.refl _) ⟨ws, g1, ?_⟩
    rw [e1 e]
    exact g2
  · refine k a H (Same.refl _) ⟨vs, h1, ?_⟩
    rw [e2 e, List.append_nil]
    exact h2
  · have tf := TF.of_new (o := .tup (vs ++ ws)) np
    refine k p _ (new_same np) ⟨vs ++ ws, SqT.of upd_same, ?_⟩
    rw [List.map_append]
    exact dpa_app (dpa_nl tf _ _ (nls_th _) g2) (dpa_nl tf _ _ (nls_th _) h2)
/-- (thing,) -/
theorem Cd.one {K : PySem.W.Frag} {H : Hp} {p : Addr} {v : V} {t : Th} (np : H p = none) (hv : Dp K H v t.py) : Cd K (upd H p (.tup [v])) p [t] := ⟨[v], SqT.of upd_same, .cons (dp_nl (TF.of_new np) _ _ t.nl hv) .nil⟩
/-! ### _fork -/
def spFk (K : PySem.W.Frag) : Sp := fun vs H Q _ => ∃ (a b : Addr) (xs ys : List Th), vs = [.ref a, .ref b] ∧ Cd K H a xs ∧ Cd K H b ys ∧ xs.length + ys.length ≤ 500 ∧ ∀ t H', Same H H' → Cd K H' t (fork xs ys) → Q (.ref t) H'
theorem scFk : FnScope ["one", "other"] ["one", "other"] (defScope s_fork) := ⟨rfl, rfl, rfl, by decide +kernel, rfl, by decide +kernel, by decide +kernel⟩
theorem ok_fork (T : Txt K w mg) : FnOk P w K mg base CX0 1 (He.fAd K ("_fork", none)) (fdAt K (He.fAd K ("_fork", none))) ["one", "other"] (spFk K) := by
  refine T.F_fork.ok scFk (fun vs H Q E h => ?_) (fun cdv A outer s H vs Q E hr h => ?_)
  · obtain ⟨a, b, xs, ys, rfl, _⟩ := h
    rfl
  · obtain ⟨a, b, xs, ys, rfl, ha, hb, hl, kk⟩ := h
    refine ⟨_, PSs.nox (pss_one (ps_ret (pe_op (show OpR _ _ (rCatA K) from op_catA) (pe_op (show OpR _ _ (rCatA K) from op_catA) (pe_op (show OpR _ _ (rCatA K) from op_catA) (pe_tup (pa_cons (pe_tup (pa_cons pe_str (pa_cons (pe_op op_add (pe_callB (r := Evl.rLenS K) call_len_seq (by rfl) T.n_len PyProof.Rows.Boot.«len» (pa_cons (pv 0) pa_nil)) pe_int) pa_nil))) pa_nil)) (pv 0)) (pe_tup (pa_cons (pe_tup (pa_cons pe_str (pa_cons (pe_callB (r := Evl.rLenS K) call_len_seq (by rfl) T.n_len PyProof.Rows.Boot.«len» (pa_cons (pv 1) pa_nil)) pa_nil))) pa_nil))) (pv 1)))), ?_⟩
    have ha0 := ha
    have hb0 := hb
    obtain ⟨va, sa, da⟩ := ha
    obtain ⟨vb, sb, db⟩ := hb
    have la : va.length = xs.length := by rw [dpa_len da, List.length_map]
    have lb : vb.length = ys.length := by rw [dpa_len db, List.length_map]
    refine ⟨_, rfl, a, va, rfl, .inr sa, _, _, rfl, rfl, (show 2 ≤ sizeLine by decide), fun t1 n1 => ⟨(show 1 ≤ sizeLine by decide), fun t2 n2 => ?_⟩⟩
    have s1 := new_same (o := .tup [.str "nought", .int ((va.length : Int) + 1)]) n1
    have s2 := new_same (o := .tup [.ref t1]) n2
    have c2 : Cd K _ t2 [.nought (xs.length + 1)] := Cd.one n2 (show Dp K _ (.ref t1) (Th.nought (xs.length + 1)).py from .tup (SqT.of upd_same) (.cons (.str _) (.cons (by rw [la]; exact .int _) .nil)))
    refine ⟨_, rfl, Cd.cat c2 (ha0.tf (same_tf (s1.trans s2))) (by rw [List.length_singleton]; omega) fun t3 H3 s3 c3 => ?_⟩
    have S3 := (s1.trans s2).trans s3
    refine ⟨_, rfl, b, vb, rfl, .inr ((same_tf S3).sq sb), (show 2 ≤ sizeLine by decide), fun t4 n4 => ⟨(show 1 ≤ sizeLine by decide), fun t5 n5 => ?_⟩⟩
    have s4 := new_same (o := .tup [.str "over", .int (vb.length : Int)]) n4
    have s5 := new_same (o := .tup [.ref t4]) n5
    have c5 : Cd K _ t5 [.over ys.length] := Cd.one n5 (show Dp K _ (.ref t4) (Th.over ys.length).py from .tup (SqT.of upd_same) (.cons (.str _) (.cons (by rw [lb]; exact .int _) .nil)))
    refine Cd.cat (c3.tf (same_tf (s4.trans s5))) c5 (by rw [List.length_append, List.length_singleton, List.length_singleton]; omega) fun t6 H6 s6 c6 => ?_
    have S6 := S3.trans ((s4.trans s5).trans s6)
    refine ⟨_, rfl, Cd.cat c6 (hb0.tf (same_tf S6)) (by rw [List.length_append, List.length_append, List.length_singleton, List.length_singleton]; omega) fun t7 H7 s7 c7 => kk t7 H7 (S6.trans s7) ?_⟩
    have e : fork xs ys = [.nought (xs.length + 1)] ++ xs ++ [.over ys.length] ++ ys := by simp [fork]
    rw [e]
    exact c7
/-! ### _code_of -/
def spCe (K : PySem.W.Frag) : Nat → Sp
  | 0 => fun _ _ _ _ => False
  | n + 1 => fun vs H Q _ => ∃ (v : V) (e : Ex), vs = [v] ∧ Dp K H v e.py ∧ e.ok ∧ e.dep ≤ n + 1 ∧ e.size ≤ 100 ∧ ∀ t H', Same H H' → Cd K H' t (codeE e) → Q (.ref t) H'
def sumE : List Ex → Nat
  | [] => 0
  | e :: es => e.size + sumE es
def spCp (K : PySem.W.Frag) (n : Nat) : Sp := fun vs H Q _ => ∃ (c : Addr) (cx : List V) (hd : List PyData) (es : List Ex), vs = [.ref c] ∧ SqT K H c cx ∧ DpAll K H cx (hd ++ es.map Ex.py) ∧ (∀ x ∈ hd, (∃ s, x = .str s) ∨ ∃ i, x = .int i) ∧ (∀ e ∈ es, e.ok ∧ e.dep ≤ n) ∧ sumE es ≤ 100 ∧
    ∀ t H', Same H H' → Cd K H' t (es.flatMap codeE) → Q (.ref t) H'
theorem sumE_take : ∀ (es : List Ex) {j : Nat} (h : j < es.length), sumE (es.take (j + 1)) = sumE (es.take j) + (es[j]).size
  | e :: es, 0, _ => by simp [sumE]
  | e :: es, j + 1, h => by
    have := sumE_take es (Nat.lt_of_succ_lt_succ h)
    simp only [List.take_succ_cons, sumE, this, List.getElem_cons_succ]
    omega
theorem sumE_le : ∀ (es : List Ex) (j : Nat), sumE (es.take j) ≤ sumE es
  | [], j => by simp [sumE]
  | e :: es, 0 => by simp [sumE]
  | e :: es, j + 1 => by
    have := sumE_le es j
    simp only [List.take_succ_cons, sumE]
    omega
theorem codes_len : ∀ es : List Ex, (es.flatMap codeE).length ≤ 2 * sumE es
  | [] => by simp
  | e :: es => by
    have := codeE_len e
    have := codes_len es
    rw [List.flatMap_cons, List.length_append, sumE]
    omega
theorem flat_take (es : List Ex) {j : Nat} (h : j < es.length) : (es.take (j + 1)).flatMap codeE = (es.take j).flatMap codeE ++ codeE es[j] := by
  rw [List.take_add_one, List.getElem?_eq_getElem h, List.flatMap_append]
  simp
theorem scCp : FnScope ["told", "code", "part"] ["told"] (defScope s_code_of_parts) := ⟨rfl, rfl, rfl, by decide +kernel, rfl, by decide +kernel, by decide +kernel⟩
theorem ok_code_of_parts (T : Txt K w mg) (n : Nat) (G : FnOk P w K mg base CX0 (2 * n + 2) (He.fAd K ("_code_of", none)) (fdAt K (He.fAd K ("_code_of", none))) ["expression"] (spCe K n)) : FnOk P w K mg base CX0 (2 * n + 3) (He.fAd K ("_code_of_parts", none)) (fdAt K (He.fAd K ("_code_of_parts", none))) ["told"] (spCp K n) := by
  refine T.F_code_of_parts.ok scCp (fun vs H Q E h => ?_) (fun cdv A outer s H vs Q E hr h => ?_)
  · obtain ⟨c, cx, hd, es, rfl, _⟩ := h
    rfl
  · obtain ⟨c, cx, hd, es, rfl, sq, all, hat, hes, hsz, kk⟩ := h
    refine ⟨_, PSs.nox (pss_cons (ps_set (i := 1) scCp.nd rfl (Or.inl rfl) (pe_tup pa_nil))
      (pss_cons (ps_for PassesOwn.never rfl (pi_tup (pv 0)) (pg_name (i := 2) scCp.nd rfl (Or.inl rfl)) (pss_one (ps_if (pt_val (pe_callB (r := rIsi K) call_isi (by rfl) T.n_isinstance PyProof.Rows.Boot.«isinstance» (pa_cons (pv 2) (pa_cons (pe_bltn (v := .ty "tuple") (by rfl) T.n_tuple PyProof.Rows.Boot.«tuple» rfl) pa_nil)))) (pss_one (ps_aug (i := 1) scCp.nd rfl (Or.inl rfl) (pe_call G (hr.mono (by omega)) (by rfl) T.g_code_of (T.F_code_of).kp T.b_code_of .nil pass0 (pa_cons (pv 2) pa_nil)) KI.ip_catA)) pss_nil)))
      (pss_one (ps_ret (pv 1))))), ?_⟩
    have hcl : cx.length = hd.length + es.length := by rw [dpa_len all, List.length_append, List.length_map]
    refine ⟨(show 0 ≤ sizeLine by decide), fun t0 n0 => ?_⟩
    have s0 := new_same (o := .tup []) n0
    have c0 : Cd K (upd H t0 (.tup [])) t0 [] := ⟨[], SqT.of upd_same, .nil⟩
    refine ⟨_, rfl, c, rfl, ⟨_, (same_tf s0).sq sq⟩, ?_⟩
    refine for_tup (xs := cx) (fun j σ H' => ∃ (t : Addr) (v2 : Option V), σ = [some (.ref c), some (.ref t), v2] ∧ Same H H' ∧ Cd K H' t ((es.take (j - hd.length)).flatMap codeE)) ⟨t0, none, rfl, s0, by rw [Nat.zero_sub, List.take_zero]; exact c0⟩ (fun j σ H' _ h => by obtain ⟨_, _, _, s, _⟩ := h; exact (same_tf s).sq sq) (fun j y σ H1 hy hPv => ?_) (fun σ H1 hPv => ?_)
    · obtain ⟨t, v2, rfl, s1, c1⟩ := hPv
      have hjl := (List.getElem?_eq_some_iff.mp hy).1
      rcases Nat.lt_or_ge j hd.length with hj | hj
      · obtain ⟨v, hv, dv⟩ := dpa_get all (show (hd ++ es.map Ex.py)[j]? = some hd[j] by rw [List.getElem?_append_left hj, List.getElem?_eq_getElem hj])
        rw [hy] at hv
        cases hv
        have e1 : j + 1 - hd.length = j - hd.length := by omega
        rw [e1]
        rcases hat _ (List.getElem_mem hj) with ⟨s2, hs⟩ | ⟨i2, hs⟩
        · rw [hs] at dv
          cases dv
          exact ⟨_, rfl, _, _, _, _, _, rfl, .ty "tuple", .base (.str _), kit_ty (r := false) (by decide +kernel), _, rfl, iteF ⟨t, _, rfl, s1, c1⟩⟩
        · rw [hs] at dv
          cases dv
          exact ⟨_, rfl, _, _, _, _, _, rfl, .ty "tuple", .base (.int _), kit_ty (r := false) (by decide +kernel), _, rfl, iteF ⟨t, _, rfl, s1, c1⟩⟩
      · obtain ⟨q, rfl⟩ : ∃ q, j = hd.length + q := ⟨j - hd.length, by omega⟩
        have hq : q < es.length := by omega
        obtain ⟨v, hv, dv⟩ := dpa_get all (show (hd ++ es.map Ex.py)[hd.length + q]? = some es[q].py by rw [List.getElem?_append_right (by omega), Nat.add_sub_cancel_left, List.getElem?_map, List.getElem?_eq_getElem hq]; rfl)
        rw [hy] at hv
        cases hv
        obtain ⟨eok, edp⟩ := hes _ (List.getElem_mem hq)
        have dv' := dp_nl (same_tf s1) _ _ (Ex.nl _) dv
        have dv2 := dv'
        rw [Ex.py_eq] at dv2
        obtain ⟨yr, ys, rfl, ysq, _⟩ := dp_tup dv2
        refine ⟨_, rfl, _, _, _, _, _, rfl, .ty "tuple", ty_tup ysq, kit_ty (r := true) (by decide +kernel), _, rfl, iteT ?_⟩
        rw [show hd.length + q - hd.length = q by omega] at c1
        rw [show hd.length + q + 1 - hd.length = q + 1 by omega]
        have z1 := sumE_take es hq
        have z2 := sumE_le es (q + 1)
        refine ⟨_, rfl, ?_⟩
        obtain ⟨n, rfl⟩ : ∃ m, n = m + 1 := ⟨n - 1, by have := Ex.dep_pos es[q]; omega⟩
        refine ⟨_, rfl, _, es[q], rfl, dv', eok, edp, by omega, fun t2 H2 s2 c2 => ?_⟩
        have l1 := codes_len (es.take q)
        have l2 := codeE_len es[q]
        refine Cd.cat (c1.tf (same_tf s2)) c2 (by omega) fun t3 H3 s3 c3 => ?_
        refine ⟨t3, _, rfl, (s1.trans s2).trans s3, ?_⟩
        rw [flat_take es hq]
        exact c3
    · obtain ⟨t, v2, rfl, s1, c1⟩ := hPv
      rw [List.take_of_length_le (by omega)] at c1
      exact ⟨_, rfl, kk t H1 s1 c1⟩
theorem scCe : FnScope ["expression", "name", "code"] ["expression"] (defScope s_code_of) := ⟨rfl, rfl, rfl, by decide +kernel, rfl, by decide +kernel, by decide +kernel⟩
theorem ok_code_of (T : Txt K w mg) : ∀ n : Nat, FnOk P w K mg base CX0 (2 * n + 2) (He.fAd K ("_code_of", none)) (fdAt K (He.fAd K ("_code_of", none))) ["expression"] (spCe K n)
  | 0 => ⟨fun _ _ _ _ z => z.elim, fun _ _ _ _ _ _ _ _ _ _ _ _ _ z => z.elim⟩
  | n + 1 => by
    have G := ok_code_of T n
    have GP := ok_code_of_parts (P := P) (base := base) T n G
    refine T.F_code_of.ok scCe (fun vs H Q E h => ?_) (fun cdv A outer s H vs Q E hr h => ?_)
    · obtain ⟨v, e, rfl, _⟩ := h
      rfl
    · obtain ⟨v, e, rfl, hd, ok, hdep, hsz, kk⟩ := h
      refine ⟨_, PSs.nox (pss_cons (ps_set (i := 1) scCe.nd rfl (Or.inl rfl) (pe_ix (r := rIxT K) ix_tup (pv 0) pe_int (fun _ _ => rfl)))
      (pss_cons (ps_if (pt_cmpR op_eq (pv 1) pe_str (nomark _)) (pss_one (ps_ret (pe_tup (pa_cons (pe_tup (pa_cons pe_str (pa_cons (pe_ix (r := rIxT K) ix_tup (pv 0) pe_int (fun _ _ => rfl)) pa_nil))) pa_nil)))) pss_nil)
      (pss_cons (ps_if (pt_cmpR op_eq (pv 1) pe_str (nomark _)) (pss_one (ps_ret (pe_op (show OpR _ _ (rCatA K) from op_catA) (pe_call G (hr.mono (by omega)) (by rfl) T.g_code_of (T.F_code_of).kp T.b_code_of .nil pass0 (pa_cons (pe_ix (r := rIxT K) ix_tup (pv 0) pe_int (fun _ _ => rfl)) pa_nil)) (pe_call (ok_fork T) (hr.mono (by omega)) (by rfl) T.g_fork (T.F_fork).kp T.b_fork .nil pass0 (pa_cons (pe_call G (hr.mono (by omega)) (by rfl) T.g_code_of (T.F_code_of).kp T.b_code_of .nil pass0 (pa_cons (pe_ix (r := rIxT K) ix_tup (pv 0) pe_int (fun _ _ => rfl)) pa_nil)) (pa_cons (pe_call G (hr.mono (by omega)) (by rfl) T.g_code_of (T.F_code_of).kp T.b_code_of .nil pass0 (pa_cons (pe_ix (r := rIxT K) ix_tup (pv 0) pe_int (fun _ _ => rfl)) pa_nil)) pa_nil)))))) pss_nil)
      (pss_cons (ps_set (i := 2) scCe.nd rfl (Or.inl rfl) (pe_call GP (hr.mono (by omega)) (by rfl) T.g_code_of_parts (T.F_code_of_parts).kp T.b_code_of_parts .nil pass0 (pa_cons (pv 0) pa_nil)))
      (pss_one (ps_ret (pe_ifExp (pt_truth (pv 2) (by intro _; rfl)) (pe_op (show OpR _ _ (rCatA K) from op_catA) (pv 2) (pe_tup (pa_cons (pe_tup (pa_cons pe_str (pa_cons (pv 1) pa_nil))) pa_nil))) (pe_tup (pa_cons (pe_tup (pa_cons pe_str (pa_cons (pv 0) pa_nil))) pa_nil))))))))), ?_⟩
      have hd0 := hd
      rw [Ex.py_eq] at hd
      obtain ⟨ca, xs, rfl, sq, all⟩ := dp_tup hd
      have all0 := all
      cases all with
      | @cons v0 vs0 _ _ hz all =>
      cases hz
      have call : ∀ {H1 : Hp} {x : V} {e1 : Ex} {Q1 : VK} {E1 : XK}, Dp K H1 x e1.py → e1.ok → e1.dep ≤ n → e1.size ≤ 100 → (∀ t H', Same H1 H' → Cd K H' t (codeE e1) → Q1 (.ref t) H') → spCe K n [x] H1 Q1 E1 := fun {H1 x e1 Q1 E1} d o dp sz kq => by
        obtain ⟨n, rfl⟩ : ∃ q, n = q + 1 := ⟨n - 1, by have := e1.dep_pos; omega⟩
        exact ⟨x, e1, rfl, d, o, dp, sz, kq⟩
      refine ⟨_, rfl, ca, _, _, _, rfl, rfl, sq, atI_nat (j := 0) rfl, ?_⟩
      have parts : ∀ (es : List Ex), e.args = es.map Ex.py ∨ (es = [] ∧ ∀ x ∈ e.args, (∃ s, x = .str s) ∨ ∃ i, x = .int i) → ∃ hd : List PyData, DpAll K H (.str e.nm :: vs0) (hd ++ es.map Ex.py) ∧ ∀ x ∈ hd, (∃ s, x = .str s) ∨ ∃ i, x = .int i := fun es h1 => by
        rcases h1 with h1 | ⟨rfl, h1⟩
        · refine ⟨[.str e.nm], ?_, fun x hx => .inl ⟨_, List.mem_singleton.mp hx⟩⟩
          rw [← h1]
          exact all0
        · refine ⟨.str e.nm :: e.args, by rw [List.map_nil, List.append_nil]; exact all0, fun x hx => ?_⟩
          rcases List.mem_cons.mp hx with hx | hx
          · exact .inl ⟨_, hx⟩
          · exact h1 x hx
      cases e with
      | leaf l =>
        obtain ⟨p1, _⟩ := l.pn ok
        rcases l.num ok with ⟨m, rfl⟩ | ⟨hn, hc⟩
        · cases all with
          | cons h1 all =>
          cases h1
          refine ⟨_, rfl, rfl, _, rfl, ite2 (fun _ => ?_) (fun z => absurd (by show decide (V.str "number" = V.str "number") = true; decide) z)⟩
          refine ⟨_, rfl, ca, _, _, _, rfl, rfl, sq, atI_nat (j := 1) rfl, (show 2 ≤ sizeLine by decide), fun t1 n1 => ⟨(show 1 ≤ sizeLine by decide), fun t2 n2 => ?_⟩⟩
          exact kk t2 _ ((new_same n1).trans (new_same n2)) (Cd.one n2 (show Dp K _ (.ref t1) (Th.push m).py from .tup (SqT.of upd_same) (.cons (.str _) (.cons (.int _) .nil))))
        · refine ⟨_, rfl, rfl, _, rfl, ite2 (fun z => absurd z (nf hn)) (fun _ => ?_)⟩
          refine ⟨_, rfl, rfl, _, rfl, ite2 (fun z => absurd z (nf p1)) (fun _ => ?_)⟩
          obtain ⟨hd2, a1, a2⟩ := parts [] (.inr ⟨rfl, l.args_atom⟩)
          refine ⟨_, rfl, ca, _, hd2, [], rfl, sq, a1, a2, (fun x hx => (List.not_mem_nil hx).elim), (Nat.zero_le _), fun t1 H1 s1 c1 => ?_⟩
          obtain ⟨vs, sv, dvs⟩ := c1
          cases dvs
          refine ⟨_, rfl, _, .inr (.inl ⟨_, sv, rfl⟩), iteF ?_⟩
          have hd1 := dp_nl (same_tf s1) _ _ (show NL (Ex.leaf l).py from Ex.nl _) hd0
          refine ⟨_, rfl, (show 2 ≤ sizeLine by decide), fun t2 n2 => ⟨(show 1 ≤ sizeLine by decide), fun t3 n3 => ?_⟩⟩
          refine kk t3 _ (s1.trans ((new_same n2).trans (new_same n3))) ?_
          rw [codeE, hc]
          rw [Ex.py] at hd1
          exact Cd.one n3 (show Dp K _ (.ref t2) (Th.read l).py from .tup (SqT.of upd_same) (.cons (.str _) (.cons (dp_nl (TF.of_new n2) _ _ (show NL (.tuple l.ds) from l.nl) hd1) .nil)))
      | neg b =>
        refine ⟨_, rfl, rfl, _, rfl, ite2 (fun z => absurd z (by show ¬ decide (V.str "not" = V.str "number") = true; decide)) (fun _ => ?_)⟩
        refine ⟨_, rfl, rfl, _, rfl, ite2 (fun z => absurd z (by show ¬ decide (V.str "not" = V.str "pick") = true; decide)) (fun _ => ?_)⟩
        obtain ⟨hd2, a1, a2⟩ := parts [b] (.inl rfl)
        refine ⟨_, rfl, ca, _, hd2, [b], rfl, sq, a1, a2, (fun x hx => by rw [List.mem_singleton.mp hx]; exact ⟨ok, by have : b.dep + 1 ≤ n + 1 := hdep; omega⟩), (by rw [Ex.size] at hsz; simp only [sumE]; omega), fun t1 H1 s1 c1 => ?_⟩
        have l1 := codeE_len b
        rw [Ex.size] at hsz
        have hne : ([b]).flatMap codeE ≠ [] := by
          intro e
          rw [List.flatMap_cons] at e
          exact codeE_ne _ (List.append_eq_nil_iff.mp e).1
        obtain ⟨vs, sv, dvs⟩ := c1
        have hvs : (!vs.isEmpty) = true := by
          cases vs with
          | nil =>
            cases hm : ([b]).flatMap codeE with
            | nil => exact absurd hm hne
            | cons a b => rw [hm] at dvs; cases dvs
          | cons a b => rfl
        refine ⟨_, rfl, _, .inr (.inl ⟨_, sv, rfl⟩), ?_⟩
        rw [hvs]
        refine iteT ⟨_, rfl, _, rfl, (show 2 ≤ sizeLine by decide), fun t2 n2 => ⟨(show 1 ≤ sizeLine by decide), fun t3 n3 => ?_⟩⟩
        have s2 := new_same (o := .tup [.str "do", .str "not"]) n2
        have s3 := new_same (o := .tup [.ref t2]) n3
        have c3 : Cd K _ t3 [.op "not"] := Cd.one n3 (show Dp K _ (.ref t2) (Th.op "not").py from .tup (SqT.of upd_same) (.cons (.str _) (.cons (.str _) .nil)))
        refine Cd.cat (Cd.tf ⟨vs, sv, dvs⟩ (same_tf (s2.trans s3))) c3 (by simp; omega) fun t4 H4 s4 c4 => kk t4 H4 ((s1.trans (s2.trans s3)).trans s4) ?_
        rw [codeE]
        simpa using c4
      | two k b c =>
        obtain ⟨p1, p2, p3⟩ := twos_pn k ok.1
        have hd12 := Nat.le_of_succ_le_succ (show Nat.max b.dep c.dep + 1 ≤ n + 1 from hdep)
        refine ⟨_, rfl, rfl, _, rfl, ite2 (fun z => absurd z (nf (twos_num k ok.1))) (fun _ => ?_)⟩
        refine ⟨_, rfl, rfl, _, rfl, ite2 (fun z => absurd z (nf p1)) (fun _ => ?_)⟩
        rw [Ex.size] at hsz
        obtain ⟨hd2, a1, a2⟩ := parts [b, c] (.inl rfl)
        refine ⟨_, rfl, ca, _, hd2, [b, c], rfl, sq, a1, a2, (fun x hx => by
          simp only [List.mem_cons, List.not_mem_nil, or_false] at hx
          rcases hx with rfl | rfl
          · exact ⟨ok.2.1, Nat.le_trans (Nat.le_max_left _ _) hd12⟩
          · exact ⟨ok.2.2, Nat.le_trans (Nat.le_max_right _ _) hd12⟩), (by simp only [sumE]; omega), fun t1 H1 s1 c1 => ?_⟩
        have l1 := codeE_len b
        have l2 := codeE_len c
        have hne : ([b, c]).flatMap codeE ≠ [] := by
          intro e
          rw [List.flatMap_cons] at e
          exact codeE_ne _ (List.append_eq_nil_iff.mp e).1
        obtain ⟨vs, sv, dvs⟩ := c1
        have hvs : (!vs.isEmpty) = true := by
          cases vs with
          | nil =>
            cases hm : ([b, c]).flatMap codeE with
            | nil => exact absurd hm hne
            | cons a b => rw [hm] at dvs; cases dvs
          | cons a b => rfl
        refine ⟨_, rfl, _, .inr (.inl ⟨_, sv, rfl⟩), ?_⟩
        rw [hvs]
        refine iteT ⟨_, rfl, _, rfl, (show 2 ≤ sizeLine by decide), fun t2 n2 => ⟨(show 1 ≤ sizeLine by decide), fun t3 n3 => ?_⟩⟩
        have s2 := new_same (o := .tup [.str "do", .str k]) n2
        have s3 := new_same (o := .tup [.ref t2]) n3
        have c3 : Cd K _ t3 [.op k] := Cd.one n3 (show Dp K _ (.ref t2) (Th.op k).py from .tup (SqT.of upd_same) (.cons (.str _) (.cons (.str _) .nil)))
        refine Cd.cat (Cd.tf ⟨vs, sv, dvs⟩ (same_tf (s2.trans s3))) c3 (by simp; omega) fun t4 H4 s4 c4 => kk t4 H4 ((s1.trans (s2.trans s3)).trans s4) ?_
        rw [codeE]
        simpa using c4
      | pick b c d =>
        cases all with
        | @cons v1 vs1 _ _ h1 all =>
        cases all with
        | @cons v2 vs2 _ _ h2 all =>
        cases all with
        | @cons v3 vs3 _ _ h3 all =>
        cases all
        have hd12 := Nat.le_of_succ_le_succ (show Nat.max b.dep (Nat.max c.dep d.dep) + 1 ≤ n + 1 from hdep)
        have hb := Nat.le_trans (Nat.le_max_left b.dep (Nat.max c.dep d.dep)) hd12
        have hcd := Nat.le_trans (Nat.le_max_right b.dep (Nat.max c.dep d.dep)) hd12
        have hc := Nat.le_trans (Nat.le_max_left c.dep d.dep) hcd
        have hdd := Nat.le_trans (Nat.le_max_right c.dep d.dep) hcd
        rw [Ex.size] at hsz
        have l1 := codeE_len b
        have l2 := codeE_len c
        have l3 := codeE_len d
        refine ⟨_, rfl, rfl, _, rfl, ite2 (fun z => absurd z (by show ¬ decide (V.str "pick" = V.str "number") = true; decide)) (fun _ => ?_)⟩
        refine ⟨_, rfl, rfl, _, rfl, ite2 (fun _ => ?_) (fun z => absurd (by show decide (V.str "pick" = V.str "pick") = true; decide) z)⟩
        refine ⟨_, rfl, ca, _, _, _, rfl, rfl, sq, atI_nat (j := 1) rfl, call h1 ok.1 hb (by omega) (fun t1 H1 s1 c1 => ?_)⟩
        have tf1 := same_tf s1
        refine ⟨_, rfl, ca, _, _, _, rfl, rfl, tf1.sq sq, atI_nat (j := 2) rfl, call (dp_nl tf1 _ _ c.nl h2) ok.2.1 hc (by omega) (fun t2 H2 s2 c2 => ?_)⟩
        have tf2 := same_tf (s1.trans s2)
        refine ⟨_, rfl, ca, _, _, _, rfl, rfl, tf2.sq sq, atI_nat (j := 3) rfl, call (dp_nl tf2 _ _ d.nl h3) ok.2.2 hdd (by omega) (fun t3 H3 s3 c3 => ?_)⟩
        refine ⟨t2, t3, codeE c, codeE d, rfl, c2.tf (same_tf s3), c3, by omega, fun t4 H4 s4 c4 => ?_⟩
        refine Cd.cat (c1.tf (same_tf ((s2.trans s3).trans s4))) c4 (by rw [fork_len]; omega) fun t5 H5 s5 c5 => kk t5 H5 ((((s1.trans s2).trans s3).trans s4).trans s5) ?_
        rw [codeE]
        exact c5
/-! ### _code_of_deeds -/
def spCs (K : PySem.W.Frag) : Nat → Sp
  | 0 => fun _ _ _ _ => False
  | n + 1 => fun vs H Q _ => ∃ (t : Addr) (xs : List V) (ds : List De), vs = [.ref t] ∧ SqT K H t xs ∧ DpAll K H xs (ds.map De.py) ∧ (∀ d ∈ ds, d.ok) ∧ deps ds ≤ n + 1 ∧ szs ds ≤ 100 ∧ ∀ t H', Same H H' → Cd K H' t (codeDs ds) → Q (.ref t) H'
theorem szs_take : ∀ (ds : List De) {i : Nat} (h : i < ds.length), szs (ds.take (i + 1)) = szs (ds.take i) + (ds[i]).size
  | d :: ds, 0, _ => by simp [szs]
  | d :: ds, i + 1, h => by
    have := szs_take ds (Nat.lt_of_succ_lt_succ h)
    simp only [List.take_succ_cons, szs, this, List.getElem_cons_succ]
    omega
theorem szs_le : ∀ (ds : List De) (j : Nat), szs (ds.take j) ≤ szs ds
  | [], j => by simp [szs]
  | d :: ds, 0 => by simp [szs]
  | d :: ds, j + 1 => by
    have := szs_le ds j
    simp only [List.take_succ_cons, szs]
    omega
theorem codeDs_take (ds : List De) {i : Nat} (h : i < ds.length) : codeDs (ds.take (i + 1)) = codeDs (ds.take i) ++ codeD ds[i] := by
  rw [List.take_add_one, List.getElem?_eq_getElem h]
  exact codeDs_snoc _ _
theorem flat_sum (d : De) (h : d.flat) : sumE d.exs + 1 = d.size := by
  cases d with
  | when a ds es => exact h.elim
  | _ => simp only [De.exs, sumE, De.size] <;> omega
theorem scCs : FnScope ["deeds", "code", "deed", "part"] ["deeds"] (defScope s_code_of_deeds) := ⟨rfl, rfl, rfl, by decide +kernel, rfl, by decide +kernel, by decide +kernel⟩
theorem ok_code_of_deeds (T : Txt K w mg) : ∀ n : Nat, FnOk P w K mg base CX0 (2 * n + 3) (He.fAd K ("_code_of_deeds", none)) (fdAt K (He.fAd K ("_code_of_deeds", none))) ["deeds"] (spCs K n)
  | 0 => ⟨fun _ _ _ _ z => z.elim, fun _ _ _ _ _ _ _ _ _ _ _ _ _ z => z.elim⟩
  | n + 1 => by
    have G := ok_code_of_deeds T n
    have GE := ok_code_of (P := P) (base := base) T n
    have GP := ok_code_of_parts (P := P) (base := base) T n GE
    refine T.F_code_of_deeds.ok scCs (fun vs H Q E h => ?_) (fun cdv A outer s H vs Q E hr h => ?_)
    · obtain ⟨t, xs, ds, rfl, _⟩ := h
      rfl
    · obtain ⟨t, xs, ds, rfl, ht, hds, ok, hdp, hsz, kk⟩ := h
      refine ⟨_, PSs.nox (pss_cons (ps_set (i := 1) scCs.nd rfl (Or.inl rfl) (pe_tup pa_nil))
      (pss_cons (ps_for PassesOwn.never rfl (pi_tup (pv 0)) (pg_name (i := 2) scCs.nd rfl (Or.inl rfl)) (pss_one (ps_if (pt_cmpR op_eq (pe_ix (r := rIxT K) ix_tup (pv 2) pe_int (fun _ _ => rfl)) pe_str (nomark _)) (pss_one (ps_aug (i := 1) scCs.nd rfl (Or.inl rfl) (pe_op (show OpR _ _ (rCatA K) from op_catA) (pe_call GE (hr.mono (by omega)) (by rfl) T.g_code_of (T.F_code_of).kp T.b_code_of .nil pass0 (pa_cons (pe_ix (r := rIxT K) ix_tup (pv 2) pe_int (fun _ _ => rfl)) pa_nil)) (pe_call (ok_fork T) (hr.mono (by omega)) (by rfl) T.g_fork (T.F_fork).kp T.b_fork .nil pass0 (pa_cons (pe_call G (hr.mono (by omega)) (by rfl) T.g_code_of_deeds (T.F_code_of_deeds).kp T.b_code_of_deeds .nil pass0 (pa_cons (pe_ix (r := rIxT K) ix_tup (pv 2) pe_int (fun _ _ => rfl)) pa_nil)) (pa_cons (pe_call G (hr.mono (by omega)) (by rfl) T.g_code_of_deeds (T.F_code_of_deeds).kp T.b_code_of_deeds .nil pass0 (pa_cons (pe_ix (r := rIxT K) ix_tup (pv 2) pe_int (fun _ _ => rfl)) pa_nil)) pa_nil)))) KI.ip_catA)) (pss_one (ps_aug (i := 1) scCs.nd rfl (Or.inl rfl) (pe_op (show OpR _ _ (rCatA K) from op_catA) (pe_call GP (hr.mono (by omega)) (by rfl) T.g_code_of_parts (T.F_code_of_parts).kp T.b_code_of_parts .nil pass0 (pa_cons (pv 2) pa_nil)) (pe_tup (pa_cons (pe_callTy call_tuple_of (by rfl) T.n_tuple PyProof.Rows.Boot.«tuple» (pa_cons (pe_lc (own := [("part", 3)]) (g := gName 3) (by rfl) scCs.nd (pi_tup (pv 2)) (blkOk_by (own := [("part", 3)]) (N := ["deeds", "code", "deed", "part"]) (sc := defScope s_code_of_deeds) (by decide +kernel)) (fun _ _ _ _ _ => pg_name (i := 3) scCs.nd rfl (Or.inl rfl)) (fun _ _ _ _ _ => pts_one (pt_not (pt_val (pe_callB (r := rIsi K) call_isi (by rfl) T.n_isinstance PyProof.Rows.Boot.«isinstance» (pa_cons (pv 3) (pa_cons (pe_bltn (v := .ty "tuple") (by rfl) T.n_tuple PyProof.Rows.Boot.«tuple» rfl) pa_nil)))))) (fun _ _ _ _ _ => (pv 3))) pa_nil)) pa_nil))) KI.ip_catA)))))
      (pss_one (ps_ret (pv 1))))), ?_⟩
      have hxl : xs.length = ds.length := by rw [dpa_len hds, List.length_map]
      refine ⟨(show 0 ≤ sizeLine by decide), fun t0 n0 => ?_⟩
      have s0 := new_same (o := .tup []) n0
      have c0 : Cd K (upd H t0 (.tup [])) t0 [] := ⟨[], SqT.of upd_same, .nil⟩
      refine ⟨_, rfl, t, rfl, ⟨_, (same_tf s0).sq ht⟩, ?_⟩
      refine for_tup (xs := xs) (fun j σ H' => ∃ (t1 : Addr) (v2 v3 : Option V), σ = [some (.ref t), some (.ref t1), v2, v3] ∧ Same H H' ∧ Cd K H' t1 (codeDs (ds.take j))) ⟨t0, none, _, rfl, s0, by rw [List.take_zero, codeDs]; exact c0⟩ (fun j σ H' _ h => by obtain ⟨_, _, _, _, s, _⟩ := h; exact (same_tf s).sq ht) (fun j y σ H1 hy hPv => ?_) (fun σ H1 hPv => ?_)
      · obtain ⟨t1, v2, v3, rfl, s1, c1⟩ := hPv
        have hj : j < ds.length := by
          rw [← hxl]
          exact (List.getElem?_eq_some_iff.mp hy).1
        rw [codeDs_take ds hj]
        have z1 := szs_take ds hj
        have z2 := szs_le ds (j + 1)
        have z3 := codeDs_len (ds.take j)
        obtain ⟨v, hv, dv⟩ := dpa_get hds (show (ds.map De.py)[j]? = some ds[j].py by rw [List.getElem?_map, List.getElem?_eq_getElem hj]; rfl)
        rw [hy] at hv
        cases hv
        have dok := ok _ (List.getElem_mem hj)
        have ddep := (deps_le ds).mp hdp _ (List.getElem_mem hj)
        have hdv := dp_nl (same_tf s1) _ _ (De.nl _) dv
        obtain ⟨d, hd⟩ : ∃ d, d = ds[j] := ⟨_, rfl⟩
        rw [← hd] at dok ddep hdv z1 ⊢
        clear dv hd
        rcases d.cases with dfl | ⟨b, es, fs, rfl⟩
        · obtain ⟨nm, rest, hnm, hwhen⟩ := d.hd_nm dfl
          have hfs := flat_sum d dfl
          rw [d.py_flat dfl] at hdv
          obtain ⟨ca, cx, rfl, sq1, all⟩ := dp_tup hdv
          have h0 : cx[0]? = some (.str nm) := by
            rw [hnm] at all
            exact dpa_str0 all
          refine ⟨_, rfl, ca, _, _, _, rfl, rfl, sq1, atI_nat (j := 0) h0, rfl, _, rfl, ite2 (fun z => absurd z (nf hwhen)) (fun _ => ?_)⟩
          refine ⟨_, rfl, _, rfl, ca, cx, d.hd, d.exs, rfl, sq1, all, d.hd_atom, (fun e he => ⟨d.exs_ok dok e he, by have := d.exs_dep e he; omega⟩), by omega, fun t2 H2 s2 c2 => ?_⟩
          have sq2 := (same_tf s2).sq sq1
          refine ⟨_, rfl, ca, rfl, ⟨_, sq2⟩, fun D hD => ?_⟩
          have hcl : cx.length = d.hd.length + d.exs.length := by rw [dpa_len all, List.length_append, List.length_map]
          refine lc_tup (xs := cx) (fun j H' => ∃ acc, H' D = some (.lst acc) ∧ DpAll K H' acc (d.hd.take j) ∧ Same H2 H') ⟨[], upd_same, .nil, new_same hD⟩ (fun j H' _ h => (same_tf h.choose_spec.2.2).sq sq2) (fun j y H' hy hPv => ?_) (fun H3 hPv => ?_)
          · obtain ⟨acc, hacc, hda, sm⟩ := hPv
            refine ⟨rfl, ?_⟩
            have hjl := (List.getElem?_eq_some_iff.mp hy).1
            rcases Nat.lt_or_ge j d.hd.length with hj2 | hj2
            · obtain ⟨v, hv, dv⟩ := dpa_get all (show (d.hd ++ d.exs.map Ex.py)[j]? = some d.hd[j] by rw [List.getElem?_append_left hj2, List.getElem?_eq_getElem hj2])
              rw [hy] at hv
              cases hv
              have tf := TF.of_lst (o := .lst (acc ++ [y])) hacc
              have push : Dp K H1 y d.hd[j] → ∃ ys, H' D = some (.lst ys) ∧ ys.length < sizeLine ∧ ∃ acc', (upd H' D (.lst (ys ++ [y]))) D = some (.lst acc') ∧ DpAll K (upd H' D (.lst (ys ++ [y]))) acc' (d.hd.take (j + 1)) ∧ Same H2 (upd H' D (.lst (ys ++ [y]))) := fun dv => by
                refine ⟨acc, hacc, ?_, acc ++ [y], upd_same, ?_, fun b o z => ?_⟩
                · rw [dpa_len hda, List.length_take]
                  have := d.hd_len
                  exact Nat.lt_of_lt_of_le (show min j d.hd.length < 100 by omega) (by decide)
                · rw [List.take_add_one, List.getElem?_eq_getElem hj2]
                  have nlh : NLs d.hd := d.hd_nl
                  exact dpa_snoc (dpa_nl tf _ _ (nls_take _ _ nlh) hda) (dp_nl ((same_tf (s2.trans sm)).trans tf) _ _ (nl_getE nlh hj2) dv)
                · rw [upd_ne (ne_of_none z hD)]
                  exact sm _ _ z
              rcases d.hd_atom _ (List.getElem_mem hj2) with ⟨s3, hs⟩ | ⟨i3, hs⟩
              · have dv0 := dv
                rw [hs] at dv
                cases dv
                exact ⟨_, rfl, _, _, _, _, _, rfl, .ty "tuple", .base (.str _), kit_ty (r := false) (by decide +kernel), _, rfl, iteT ⟨_, rfl, push dv0⟩⟩
              · have dv0 := dv
                rw [hs] at dv
                cases dv
                exact ⟨_, rfl, _, _, _, _, _, rfl, .ty "tuple", .base (.int _), kit_ty (r := false) (by decide +kernel), _, rfl, iteT ⟨_, rfl, push dv0⟩⟩
            · obtain ⟨q, rfl⟩ : ∃ q, j = d.hd.length + q := ⟨j - d.hd.length, by omega⟩
              have hq : q < d.exs.length := by omega
              obtain ⟨v, hv, dv⟩ := dpa_get all (show (d.hd ++ d.exs.map Ex.py)[d.hd.length + q]? = some d.exs[q].py by rw [List.getElem?_append_right (by omega), Nat.add_sub_cancel_left, List.getElem?_map, List.getElem?_eq_getElem hq]; rfl)
              rw [hy] at hv
              cases hv
              have dv2 := dp_nl (same_tf (s2.trans sm)) _ _ (Ex.nl _) dv
              rw [Ex.py_eq] at dv2
              obtain ⟨yr, ys, rfl, ysq, _⟩ := dp_tup dv2
              refine ⟨_, rfl, _, _, _, _, _, rfl, .ty "tuple", ty_tup ysq, kit_ty (r := true) (by decide +kernel), _, rfl, iteF ⟨acc, hacc, ?_, sm⟩⟩
              rw [List.take_of_length_le (by omega)] at hda ⊢
              exact hda
          obtain ⟨acc, hacc, hda, sm⟩ := hPv
          rw [List.take_of_length_le (by omega)] at hda
          refine ⟨D, acc, rfl, .inl ⟨SqL.of hacc, fun l nl => ⟨(show 1 ≤ sizeLine by decide), fun t3 n3 => ?_⟩⟩⟩
          have sl := new_same (o := .tup acc) nl
          have s3 := new_same (o := .tup [.ref l]) n3
          have c3 : Cd K _ t3 [.act d] := Cd.one n3 (show Dp K _ (.ref l) (Th.act d).py from .tup (SqT.of upd_same) (dpa_nl (same_tf sl) _ _ d.hd_nl hda))
          have l1 := codes_len d.exs
          refine Cd.cat (c2.tf (same_tf ((sm.trans sl).trans s3))) c3 (by rw [List.length_singleton]; omega) fun t4 H4 s4 c4 => ?_
          have S4 := (((s2.trans sm).trans sl).trans s3).trans s4
          refine Cd.cat (c1.tf (same_tf S4)) c4 (by rw [List.length_append, List.length_singleton]; omega) fun t5 H5 s5 c5 => ?_
          refine ⟨t5, _, _, rfl, s1.trans (S4.trans s5), ?_⟩
          rw [codeD_flat d dfl]
          exact c5
        · rw [De.py] at hdv
          rw [De.ok] at dok
          rw [De.dep] at ddep
          rw [De.size] at z1
          have ddep := Nat.le_of_succ_le_succ ddep
          have d1 := Nat.le_trans (Nat.le_max_left b.dep (Nat.max (deps es) (deps fs))) ddep
          have d23 := Nat.le_trans (Nat.le_max_right b.dep (Nat.max (deps es) (deps fs))) ddep
          have d2 := Nat.le_trans (Nat.le_max_left (deps es) (deps fs)) d23
          have d3 := Nat.le_trans (Nat.le_max_right (deps es) (deps fs)) d23
          obtain ⟨ca, cx, rfl, sq1, all⟩ := dp_tup hdv
          cases all with
          | cons h0 all =>
          cases all with
          | @cons wb _ _ _ hb all =>
          cases all with
          | @cons we _ _ _ he all =>
          cases all with
          | @cons wf _ _ _ hf all =>
          cases all
          cases h0
          obtain ⟨n, rfl⟩ : ∃ q, n = q + 1 := ⟨n - 1, by have := b.dep_pos; omega⟩
          obtain ⟨ea, ex, rfl, esq, eall⟩ := dp_tup he
          obtain ⟨fa, fx, rfl, fsq, fall⟩ := dp_tup hf
          rw [pys_eq] at eall fall
          have l1 := codeE_len b
          have l2 := codeDs_len es
          have l3 := codeDs_len fs
          refine ⟨_, rfl, ca, _, _, _, rfl, rfl, sq1, atI_nat (j := 0) rfl, rfl, _, rfl, ite2 (fun _ => ?_) (fun z => absurd (by decide) z)⟩
          refine ⟨_, rfl, _, rfl, ca, _, _, _, rfl, rfl, sq1, atI_nat (j := 1) rfl, wb, b, rfl, hb, dok.1, d1, by omega, fun t2 H2 s2 c2 => ?_⟩
          have tf2 := same_tf s2
          refine ⟨_, rfl, ca, _, _, _, rfl, rfl, tf2.sq sq1, atI_nat (j := 2) rfl, ea, ex, es, rfl, tf2.sq esq, dpa_nl tf2 _ _ (nl_des _) eall, (oks_iff es).mp dok.2.1, d2, by omega, fun t3 H3 s3 c3 => ?_⟩
          have tf3 := same_tf (s2.trans s3)
          refine ⟨_, rfl, ca, _, _, _, rfl, rfl, tf3.sq sq1, atI_nat (j := 3) rfl, fa, fx, fs, rfl, tf3.sq fsq, dpa_nl tf3 _ _ (nl_des _) fall, (oks_iff fs).mp dok.2.2, d3, by omega, fun t4 H4 s4 c4 => ?_⟩
          refine ⟨t3, t4, _, _, rfl, c3.tf (same_tf s4), c4, by omega, fun t5 H5 s5 c5 => ?_⟩
          refine Cd.cat (c2.tf (same_tf ((s3.trans s4).trans s5))) c5 (by rw [fork_len]; omega) fun t6 H6 s6 c6 => ?_
          have S6 := (((s2.trans s3).trans s4).trans s5).trans s6
          refine Cd.cat (c1.tf (same_tf S6)) c6 (by rw [List.length_append, fork_len]; omega) fun t7 H7 s7 c7 => ?_
          refine ⟨t7, _, _, rfl, s1.trans (S6.trans s7), ?_⟩
          rw [codeD]
          exact c7
      · obtain ⟨t1, v2, v3, rfl, s1, c1⟩ := hPv
        rw [List.take_of_length_le (by omega)] at c1
        exact ⟨_, rfl, kk t1 H1 s1 c1⟩
end
end K5
set_option maxRecDepth 100000
set_option maxHeartbeats 2000000
/-! The row of numbers. -/
namespace K5
open PySem PySem.Spec PyProof.Rows L2 KF
def Th.ar : Th → Nat
  | .push _ => 0
  | .read _ => 0
  | .act d => d.exs.length
  | .over _ => 0
  | .nought _ => 1
  | .op k => if k = "not" then 1 else 2
def opv (k : Str) : List Int → Int
  | [a] => b01 (decide (a = 0))
  | a :: b :: _ => mk2 k a b
  | [] => 0
/-- what a thing does: things left out, numbers laid down, the reading -/
def Th.st (t : Th) (tk : List Int) (r : Ru) : Nat × List Int × Ru := match t with
  | .push n => (0, [n], r)
  | .read l => (0, [(l.ev r.f r.s).1], ⟨r.f, (l.ev r.f r.s).2, r.x⟩)
  | .act d => (0, [], d.put tk r)
  | .over n => (n, [], r)
  | .nought n => (if tk.headD 0 = 0 then n else 0, [], r)
  | .op k => (0, [opv k tk], r)
def Th.sok (t : Th) (r : Ru) : Prop := match t with
  | .push n => lim n
  | .read l => l.ok ∧ l.has r.f r.s
  | .act d => d.hok ∧ d.flat
  | .over _ => True
  | .nought _ => True
  | .op k => k = "not" ∨ k ∈ twos
section
variable {P : Program} {w : World} {K : PySem.W.Frag} {mg : Str → Option Value} {base : Heap}
def spTk (K : PySem.W.Frag) : Sp := fun vs H Q _ => ∃ (v : V) (t : Th), vs = [v] ∧ Dp K H v t.py ∧ (∀ d, t = .act d → d.flat) ∧ Q (.int (t.ar : Int)) H
theorem scTk : FnScope ["thing"] ["thing"] (defScope s_taken_by) := ⟨rfl, rfl, rfl, by decide +kernel, rfl, by decide +kernel, by decide +kernel⟩
theorem ok_taken_by (T : Txt K w mg) : FnOk P w K mg base CX0 1 (He.fAd K ("taken_by", none)) (fdAt K (He.fAd K ("taken_by", none))) ["thing"] (spTk K) := by
  obtain ⟨es, n, DT⟩ := T.t_TAKEN
  refine T.F_taken_by.ok scTk (fun vs H Q E h => ?_) (fun cdv A outer s H vs Q E hr h => ?_)
  · obtain ⟨v, t, rfl, _⟩ := h
    rfl
  · obtain ⟨v, t, rfl, hd, hfl, kk⟩ := h
    refine ⟨_, PSs.nox (pss_cons (ps_if (pt_cmpR op_eq (pe_ix (r := rIxT K) ix_tup (pv 0) pe_int (fun _ _ => rfl)) pe_str (nomark _)) (pss_one (ps_ret (pe_ifExp (pt_cmpR op_eq (pe_ix (r := rIxT K) ix_tup (pv 0) pe_int (fun _ _ => rfl)) pe_str (nomark _)) pe_int pe_int))) pss_nil)
      (pss_one (ps_ret (pe_ix (ix_kdict DT) (pe_glob (v := .ref (He.ga K "TAKEN")) (by rfl) T.g_TAKEN rfl) (pe_ix (r := rIxT K) ix_tup (pv 0) pe_int (fun _ _ => rfl)) (fun _ _ => rfl))))), ?_⟩
    obtain ⟨ca, xs, rfl, sq, all⟩ := dp_tup hd
    have sel : (∃ k, t = .op k) ∨ ∃ nm m rest q, t.ds = .str nm :: rest ∧ (t.ar : Int) = m ∧ decide (V.str nm = V.str "do") = false ∧ PySem.W.nsIn K (He.ga K "TAKEN") nm = some (some (.int m q)) := by
      have tab : ∀ (nm : Str) (m : Int) (rest : List PyData), (nm, m) ∈ v_TAKEN → t.ds = .str nm :: rest → (t.ar : Int) = m → decide (V.str nm = V.str "do") = false → (∃ k, t = .op k) ∨ ∃ nm m rest q, t.ds = .str nm :: rest ∧ (t.ar : Int) = m ∧ decide (V.str nm = V.str "do") = false ∧ PySem.W.nsIn K (He.ga K "TAKEN") nm = some (some (.int m q)) := fun nm m rest h1 h2 h3 h4 => by
        obtain ⟨q, hq⟩ := T.u_TAKEN _ h1
        exact .inr ⟨nm, m, rest, q, h2, h3, h4, hq⟩
      cases t with
      | op k => exact .inl ⟨k, rfl⟩
      | act d =>
        cases d with
        | own i a => exact tab "own" 1 _ (by decide) rfl rfl rfl
        | mark i a => exact tab "mark" 1 _ (by decide) rfl rfl rfl
        | go a b => exact tab "go" 2 _ (by decide) rfl rfl rfl
        | born k a b c d => exact tab "born" 4 _ (by decide) rfl rfl rfl
        | gone => exact tab "gone" 0 _ (by decide) rfl rfl rfl
        | when a b c => exact (hfl _ rfl).elim
      | push n => exact tab "push" 0 _ (by decide) rfl rfl rfl
      | read l => exact tab "read" 0 _ (by decide) rfl rfl rfl
      | over n => exact tab "over" 0 _ (by decide) rfl rfl rfl
      | nought n => exact tab "nought" 1 _ (by decide) rfl rfl rfl
    rcases sel with ⟨k, rfl⟩ | ⟨nm, m, rest, q, h2, h3, h4, hq⟩
    · cases all with
      | cons h0 all =>
      cases all with
      | cons h1 all =>
      cases all
      cases h0
      cases h1
      refine ⟨_, rfl, ca, _, _, _, rfl, rfl, sq, atI_nat (j := 0) rfl, rfl, _, rfl, ite2 (fun z => ?_) (fun z => absurd (by decide) z)⟩
      have e2 : k = "not" ∨ decide (V.str k = V.str "not") = false := by
        by_cases e : k = "not"
        · exact .inl e
        · exact .inr (decide_eq_false (fun z => e (by cases z; rfl)))
      rcases e2 with rfl | e2
      · exact ⟨_, rfl, ca, _, _, _, rfl, rfl, sq, atI_nat (j := 1) rfl, rfl, _, rfl, iteT kk⟩
      · have ar : Th.ar (.op k) = 2 := if_neg (fun e => by rw [e] at e2; exact absurd e2 (by decide))
        rw [ar] at kk
        refine ⟨_, rfl, ca, _, _, _, rfl, rfl, sq, atI_nat (j := 1) rfl, rfl, _, rfl, ?_⟩
        show ite _ _ _ 
        rw [e2]
        exact kk
    · have h0 : xs[0]? = some (.str nm) := by
        rw [h2] at all
        exact dpa_str0 all
      exact ⟨_, rfl, ca, _, _, _, rfl, rfl, sq, atI_nat (j := 0) h0, rfl, _, rfl, ite2 (fun z => absurd z (nf h4)) (fun _ => ⟨_, rfl, ca, _, _, _, rfl, rfl, sq, atI_nat (j := 0) h0, _, _, .int m, rfl, rfl, hq, ⟨q, rfl⟩, by rw [h3] at kk; exact kk⟩)⟩
/-! ### _left_out -/
theorem De.hd_nm5 (d : De) (h : d.flat) : ∃ nm rest, d.hd = .str nm :: rest ∧ decide (V.str nm = V.str "over") = false ∧ decide (V.str nm = V.str "nought") = false ∧ decide (V.str nm = V.str "push") = false ∧ decide (V.str nm = V.str "read") = false ∧ decide (V.str nm = V.str "do") = false := by
  cases d with
  | when a ds es => exact h.elim
  | _ => exact ⟨_, _, rfl, by rfl, by rfl, by rfl, by rfl, by rfl⟩
def FrP (A : Pd) (a p : Addr) (H H' : Hp) : Prop := ∀ b o, b ≠ a → b ≠ p → A.off b → H b = some o → H' b = some o
theorem FrP.refl (A : Pd) (a p : Addr) (H : Hp) : FrP A a p H H := fun _ _ _ _ _ h => h
theorem FrP.trans {A : Pd} {a p : Addr} {H H1 H2 : Hp} (f : FrP A a p H H1) (g : FrP A a p H1 H2) : FrP A a p H H2 := fun b o n m q h => g b o n m q (f b o n m q h)
theorem FrP.of_frm {A : Pd} {a p : Addr} {H H' : Hp} (f : Frm a H H') : FrP A a p H H' := fun b o n _ _ h => f b o n h
theorem FrP.of_fra {A : Pd} {a p : Addr} {H H' : Hp} (f : FrA A a H H') : FrP A a p H H' := fun b o n _ m h => f b o n m h
theorem FrP.of_upd {A : Pd} {a p : Addr} {H : Hp} {o : HO} : FrP A a p H (upd H p o) := fun b o _ m _ h => by rw [upd_ne m]; exact h
theorem FrP.of_new {A : Pd} {a p q : Addr} {H : Hp} {o : HO} (h : H q = none) : FrP A a p H (upd H q o) := fun b _ _ _ _ z => by rw [upd_ne (ne_of_none z h)]; exact z
def spLo (K : PySem.W.Frag) : Sp := fun vs H Q _ => ∃ (v : V) (p a : Addr) (t : Th) (lo tk : List Int) (r : Ru) (AA : Pd), vs = [v, .ref p, .ref a] ∧ Dp K H v t.py ∧ H p = some (.lst ((lo ++ tk).map V.int)) ∧ tk.length = t.ar ∧ lo.length + tk.length ≤ 900 ∧ (∀ n ∈ tk, lim n) ∧ r.ok ∧ t.sok r ∧ AA.off p ∧ p ≠ a ∧ RInv K H a r.f r.s r.x AA ∧
    ∀ H', H' p = some (.lst ((lo ++ (t.st tk r).2.1).map V.int)) → RInv K H' a (t.st tk r).2.2.f (t.st tk r).2.2.s (t.st tk r).2.2.x AA → TF H H' → FrP AA a p H H' → Q (.int ((t.st tk r).1 : Int)) H'
theorem scLo : FnScope ["thing", "row", "reading", "end", "taken", "name"] ["thing", "row", "reading"] (defScope s_left_out) := ⟨rfl, rfl, rfl, by decide +kernel, rfl, by decide +kernel, by decide +kernel⟩
theorem ok_left_out (T : Txt K w mg) : FnOk P w K mg base CX0 6 (He.fAd K ("_left_out", none)) (fdAt K (He.fAd K ("_left_out", none))) ["thing", "row", "reading"] (spLo K) := by
  refine T.F_left_out.ok scLo (fun vs H Q E h => ?_) (fun cdv A outer s H vs Q E hr h => ?_)
  · obtain ⟨v, p, a, t, lo, tk, r, AA, rfl, _⟩ := h
    rfl
  · obtain ⟨v, p, a, t, lo, tk, r, AA, rfl, hd, hp, htk, hlen, hlim, rok, tok, offp, npa, hI, kk⟩ := h
    refine ⟨_, PSs.nox (pss_cons (ps_set (i := 3) scLo.nd rfl (Or.inl rfl) (pe_op op_sub (pe_callB (r := Evl.rLenS K) call_len_seq (by rfl) T.n_len PyProof.Rows.Boot.«len» (pa_cons (pv 1) pa_nil)) (pe_call (ok_taken_by T) (hr.mono (by omega)) (by rfl) T.g_taken_by (T.F_taken_by).kp T.b_taken_by .nil pass0 (pa_cons (pv 0) pa_nil))))
      (pss_cons (ps_set (i := 4) scLo.nd rfl (Or.inl rfl) (pe_slice sl_list (pv 1) (po_some (pv 3)) po_none))
      (pss_cons (KI.ps_delS (pv 1) (po_some (pv 3)))
      (pss_cons (ps_set (i := 5) scLo.nd rfl (Or.inl rfl) (pe_ix (r := rIxT K) ix_tup (pv 0) pe_int (fun _ _ => rfl)))
      (pss_cons (ps_if (pt_cmpR op_eq (pv 5) pe_str (nomark _)) (pss_one (ps_ret (pe_ix (r := rIxT K) ix_tup (pv 0) pe_int (fun _ _ => rfl)))) pss_nil)
      (pss_cons (ps_if (pt_cmpR op_eq (pv 5) pe_str (nomark _)) (pss_one (ps_ret (pe_ifExp (pt_cmpR op_eq (pe_ix (r := rIxL K) ix_list (pv 4) pe_int (fun _ _ => rfl)) pe_int (nomark _)) (pe_ix (r := rIxT K) ix_tup (pv 0) pe_int (fun _ _ => rfl)) pe_int))) pss_nil)
      (pss_cons (ps_if (pt_cmpR op_eq (pv 5) pe_str (nomark _)) (pss_one (ps_expr (pe_bm PySem.F.plainAttrs_list PySem.F.slot_list_append PySem.F.type_list_append mt_append (pv 1) (pa_cons (pe_ix (r := rIxT K) ix_tup (pv 0) pe_int (fun _ _ => rfl)) pa_nil)))) (pss_one (ps_if (pt_cmpR op_eq (pv 5) pe_str (nomark _)) (pss_one (ps_expr (pe_bm PySem.F.plainAttrs_list PySem.F.slot_list_append PySem.F.type_list_append mt_append (pv 1) (pa_cons (pe_call (ok_number_in T 1) (hr.mono (by omega)) (by rfl) T.g_number_in (T.F_number_in).kp T.b_number_in .nil pass0 (pa_cons (pe_ix (r := rIxT K) ix_tup (pv 0) pe_int (fun _ _ => rfl)) (pa_cons (pv 2) pa_nil))) pa_nil)))) (pss_one (ps_if (pt_cmpR op_eq (pv 5) pe_str (nomark _)) (pss_one (ps_expr (pe_bm PySem.F.plainAttrs_list PySem.F.slot_list_append PySem.F.type_list_append mt_append (pv 1) (pa_cons (pe_call (ok_number_made T) (hr.mono (by omega)) (by rfl) T.g_number_made (T.F_number_made).kp T.b_number_made .nil pass0 (pa_cons (pe_ix (r := rIxT K) ix_tup (pv 0) pe_int (fun _ _ => rfl)) (pa_cons (pv 4) pa_nil))) pa_nil)))) (pss_one (ps_expr (pe_call (ok_do_deed T) (hr.mono (by omega)) (by rfl) T.g_do_deed (T.F_do_deed).kp T.b_do_deed .nil pass0 (pa_cons (pv 0) (pa_cons (pv 4) (pa_cons (pv 2) pa_nil)))))))))))
      (pss_one (ps_ret pe_int))))))))), ?_⟩
    have hll : (lo.map V.int).length = lo.length := List.length_map ..
    have hap : (lo ++ tk).map V.int = lo.map V.int ++ tk.map V.int := List.map_append
    rw [hap] at hp
    have hcut : cutV (lo.map V.int ++ tk.map V.int) (some (lo.length : Int)) none = tk.map V.int := by
      unfold cutV
      rw [HT.sIx_nat, HT.sIx_none, List.length_append, List.length_map, List.length_map, Nat.min_eq_left (by omega), List.drop_append_of_le_length (by rw [hll]; omega), List.drop_of_length_le (by rw [hll]; omega), List.nil_append]
      exact List.take_of_length_le (by rw [List.length_map]; omega)
    have htake : (lo.map V.int ++ tk.map V.int).take lo.length = lo.map V.int := by
      rw [← hll]
      exact List.take_left
    have hsub : ((lo.map V.int ++ tk.map V.int).length : Int) - (t.ar : Int) = (lo.length : Int) := by
      rw [List.length_append, List.length_map, List.length_map, htk]
      omega
    have hfl : ∀ d, t = .act d → d.flat := fun d e => by subst e; exact tok.2
    refine ⟨_, rfl, p, _, rfl, .inl (SqL.of hp), _, rfl, v, t, rfl, hd, hfl, _, _, rfl, rfl, ?_⟩
    dsimp only
    rw [hsub]
    refine ⟨_, rfl, _, rfl, _, rfl, p, _, rfl, SqL.of hp, fun q nq => ?_⟩
    rw [hcut]
    have sq := new_same (o := .lst (tk.map V.int)) nq
    have hpq : p ≠ q := ne_of_none hp nq
    have hp1 := sq _ _ hp
    refine ⟨_, rfl, _, rfl, _, rfl, p, _, lo.length, rfl, rfl, hp1, by rw [List.length_append, hll]; omega, ?_⟩
    rw [htake]
    have t1 : TF H (upd (upd H q (.lst (tk.map V.int))) p (.lst (lo.map V.int))) := (same_tf sq).trans (TF.of_lst hp1)
    have hp2 : (upd (upd H q (.lst (tk.map V.int))) p (.lst (lo.map V.int))) p = some (.lst (lo.map V.int)) := upd_same
    have hq2 : (upd (upd H q (.lst (tk.map V.int))) p (.lst (lo.map V.int))) q = some (.lst (tk.map V.int)) := by rw [upd_ne hpq.symm]; exact upd_same
    have I2 : RInv K (upd (upd H q (.lst (tk.map V.int))) p (.lst (lo.map V.int))) a r.f r.s r.x AA := (hI.same sq).put hp1 ⟨offp, npa⟩
    have f2 : FrP AA a p H (upd (upd H q (.lst (tk.map V.int))) p (.lst (lo.map V.int))) := (FrP.of_new nq).trans FrP.of_upd
    have hd2 := dp_nl t1 _ _ t.nl hd
    obtain ⟨H2, hH2⟩ : ∃ H2, H2 = upd (upd H q (.lst (tk.map V.int))) p (.lst (lo.map V.int)) := ⟨_, rfl⟩
    have offq := hI.off nq
    rw [← hH2] at t1 hp2 hq2 I2 f2 hd2 ⊢
    clear hp1 hp hd hI sq nq
    obtain ⟨ca, cx, rfl, sc, all⟩ := dp_tup hd2
    have push : ∀ (n : Int) (r' : Ru) (H3 : Hp), (t.st tk r) = (0, [n], r') → Frm a H2 H3 → RInv K H3 a r'.f r'.s r'.x AA → ∃ l xs y, V.ref p = .ref l ∧ [V.int n] = [y] ∧ H3 l = some (.lst xs) ∧ xs.length < sizeLine ∧ Q (.int 0) (upd H3 l (.lst (xs ++ [y]))) := fun n r' H3 e f3 I3 => by
      rw [e] at kk
      have hp3 := f3 _ _ npa hp2
      refine ⟨p, _, _, rfl, rfl, hp3, Nat.lt_of_lt_of_le (show (lo.map V.int).length < 1000 by omega) (by decide), ?_⟩
      refine kk _ ?_ (I3.put hp3 ⟨offp, npa⟩) ((t1.trans (I2.tfd f3)).trans (TF.of_lst hp3)) ((f2.trans (.of_frm f3)).trans FrP.of_upd)
      rw [upd_same, List.map_append]
      rfl
    cases t with
    | push n =>
      cases all with
      | cons h0 all =>
      cases all with
      | @cons v1 _ _ _ h1 all =>
      cases all
      cases h0
      cases h1
      refine ⟨_, rfl, ca, _, _, _, rfl, rfl, sc, atI_nat (j := 0) rfl, ?_⟩
      refine ⟨_, rfl, rfl, _, rfl, ite2 (fun z => absurd z (by show ¬ decide (V.str "push" = V.str "over") = true; decide)) (fun _ => ?_)⟩
      refine ⟨_, rfl, rfl, _, rfl, ite2 (fun z => absurd z (by show ¬ decide (V.str "push" = V.str "nought") = true; decide)) (fun _ => ?_)⟩
      refine ⟨_, rfl, rfl, _, rfl, ite2 (fun _ => ?_) (fun z => absurd (by show decide (V.str "push" = V.str "push") = true; decide) z)⟩
      refine ⟨_, rfl, .inl ⟨rfl, _, SqL.of hp2⟩, _, rfl, ca, _, _, _, rfl, rfl, sc, atI_nat (j := 1) rfl, ?_⟩
      obtain ⟨l, xs, y, e1, e2, e3, e4, e5⟩ := push n r H2 rfl (Frm.refl _ _) I2
      exact ⟨l, xs, y, e1, e2, e3, e4, e5⟩
    | read l =>
      cases all with
      | cons h0 all =>
      cases all with
      | @cons v1 _ _ _ h1 all =>
      cases all
      cases h0
      refine ⟨_, rfl, ca, _, _, _, rfl, rfl, sc, atI_nat (j := 0) rfl, ?_⟩
      refine ⟨_, rfl, rfl, _, rfl, ite2 (fun z => absurd z (by show ¬ decide (V.str "read" = V.str "over") = true; decide)) (fun _ => ?_)⟩
      refine ⟨_, rfl, rfl, _, rfl, ite2 (fun z => absurd z (by show ¬ decide (V.str "read" = V.str "nought") = true; decide)) (fun _ => ?_)⟩
      refine ⟨_, rfl, rfl, _, rfl, ite2 (fun z => absurd z (by show ¬ decide (V.str "read" = V.str "push") = true; decide)) (fun _ => ?_)⟩
      refine ⟨_, rfl, rfl, _, rfl, ite2 (fun _ => ?_) (fun z => absurd (by show decide (V.str "read" = V.str "read") = true; decide) z)⟩
      refine ⟨_, rfl, .inl ⟨rfl, _, SqL.of hp2⟩, _, rfl, ca, _, _, _, rfl, rfl, sc, atI_nat (j := 1) rfl, _, rfl, v1, a, .leaf l, r.f, r.s, r.x, AA, rfl, (by rw [Ex.py]; exact h1), tok.1, by rw [Ex.dep]; decide, rok.f, rok.s, (fun x hx => by rw [List.mem_singleton.mp hx]; exact tok.2), I2, fun H3 I3 f3 => ?_⟩
      exact push (l.ev r.f r.s).1 ⟨r.f, (l.ev r.f r.s).2, r.x⟩ H3 rfl f3 I3
    | act d =>
      obtain ⟨nm, rest, hnm, e1, e2, e3, e4, e5⟩ := d.hd_nm5 tok.2
      have h0 : cx[0]? = some (.str nm) := by
        have all' : DpAll K H2 cx d.hd := all
        rw [hnm] at all'
        exact dpa_str0 all'
      refine ⟨_, rfl, ca, _, _, _, rfl, rfl, sc, atI_nat (j := 0) h0, ?_⟩
      refine ⟨_, rfl, rfl, _, rfl, ite2 (fun z => absurd z (nf e1)) (fun _ => ?_)⟩
      refine ⟨_, rfl, rfl, _, rfl, ite2 (fun z => absurd z (nf e2)) (fun _ => ?_)⟩
      refine ⟨_, rfl, rfl, _, rfl, ite2 (fun z => absurd z (nf e3)) (fun _ => ?_)⟩
      refine ⟨_, rfl, rfl, _, rfl, ite2 (fun z => absurd z (nf e4)) (fun _ => ?_)⟩
      refine ⟨_, rfl, rfl, _, rfl, ite2 (fun z => absurd z (nf e5)) (fun _ => ?_)⟩
      refine ⟨_, rfl, _, rfl, _, rfl, .ref ca, q, a, d, [], tk, r, AA, rfl, (by rw [List.append_nil]; exact hd2), hq2, htk, tok.1, tok.2, rok, I2, fun H3 I3 tf3 f3 => ?_⟩
      refine kk _ ?_ I3 (t1.trans tf3) (f2.trans (.of_fra f3))
      show H3 p = some (.lst ((lo ++ []).map V.int))
      rw [List.append_nil]
      exact f3 _ _ npa offp hp2
    | over n =>
      cases all with
      | cons h0 all =>
      cases all with
      | @cons v1 _ _ _ h1 all =>
      cases all
      cases h0
      cases h1
      refine ⟨_, rfl, ca, _, _, _, rfl, rfl, sc, atI_nat (j := 0) rfl, ?_⟩
      refine ⟨_, rfl, rfl, _, rfl, ite2 (fun _ => ?_) (fun z => absurd (by show decide (V.str "over" = V.str "over") = true; decide) z)⟩
      refine ⟨_, rfl, ca, _, _, _, rfl, rfl, sc, atI_nat (j := 1) rfl, ?_⟩
      refine kk _ ?_ I2 t1 f2
      show H2 p = some (.lst ((lo ++ []).map V.int))
      rw [List.append_nil]
      exact hp2
    | nought n =>
      cases all with
      | cons h0 all =>
      cases all with
      | @cons v1 _ _ _ h1 all =>
      cases all
      cases h0
      cases h1
      refine ⟨_, rfl, ca, _, _, _, rfl, rfl, sc, atI_nat (j := 0) rfl, ?_⟩
      refine ⟨_, rfl, rfl, _, rfl, ite2 (fun z => absurd z (by show ¬ decide (V.str "nought" = V.str "over") = true; decide)) (fun _ => ?_)⟩
      refine ⟨_, rfl, rfl, _, rfl, ite2 (fun _ => ?_) (fun z => absurd (by show decide (V.str "nought" = V.str "nought") = true; decide) z)⟩
      obtain ⟨m, rfl⟩ : ∃ m, tk = [m] := by
        match tk, htk with
        | [m], _ => exact ⟨m, rfl⟩
      have fin : (Th.st (.nought n) [m] r).1 = (if m = 0 then n else 0) → Q (.int (if m = 0 then (n : Int) else 0)) H2 := fun _ => by
        have := kk H2 (by show H2 p = some (.lst ((lo ++ []).map V.int)); rw [List.append_nil]; exact hp2) I2 t1 f2
        have e : (((Th.st (.nought n) [m] r).1 : Nat) : Int) = (if m = 0 then (n : Int) else 0) := by
          show (((if m = 0 then n else 0) : Nat) : Int) = _
          split <;> rfl
        rw [e] at this
        exact this
      have fin := fin rfl
      refine ⟨_, rfl, q, _, _, _, rfl, rfl, SqL.of hq2, atI_nat (j := 0) rfl, rfl, _, rfl, ?_⟩
      rw [dec_int]
      refine ite2 (fun z => ?_) (fun z => ?_)
      · rw [if_pos (of_decide_eq_true z)] at fin
        exact ⟨_, rfl, ca, _, _, _, rfl, rfl, sc, atI_nat (j := 1) rfl, fin⟩
      · rw [if_neg (fun e => z (decide_eq_true e))] at fin
        exact fin
    | op k =>
      cases all with
      | cons h0 all =>
      cases all with
      | @cons v1 _ _ _ h1 all =>
      cases all
      cases h0
      cases h1
      refine ⟨_, rfl, ca, _, _, _, rfl, rfl, sc, atI_nat (j := 0) rfl, ?_⟩
      refine ⟨_, rfl, rfl, _, rfl, ite2 (fun z => absurd z (by show ¬ decide (V.str "do" = V.str "over") = true; decide)) (fun _ => ?_)⟩
      refine ⟨_, rfl, rfl, _, rfl, ite2 (fun z => absurd z (by show ¬ decide (V.str "do" = V.str "nought") = true; decide)) (fun _ => ?_)⟩
      refine ⟨_, rfl, rfl, _, rfl, ite2 (fun z => absurd z (by show ¬ decide (V.str "do" = V.str "push") = true; decide)) (fun _ => ?_)⟩
      refine ⟨_, rfl, rfl, _, rfl, ite2 (fun z => absurd z (by show ¬ decide (V.str "do" = V.str "read") = true; decide)) (fun _ => ?_)⟩
      refine ⟨_, rfl, rfl, _, rfl, ite2 (fun _ => ?_) (fun z => absurd (by show decide (V.str "do" = V.str "do") = true; decide) z)⟩
      refine ⟨_, rfl, .inl ⟨rfl, _, SqL.of hp2⟩, _, rfl, ca, _, _, _, rfl, rfl, sc, atI_nat (j := 1) rfl, _, rfl, k, q, rfl, ?_⟩
      rcases (show k = "not" ∨ k ∈ twos from tok) with rfl | hk
      · obtain ⟨m, rfl⟩ : ∃ m, tk = [m] := by
          match tk, htk with
          | [m], _ => exact ⟨m, rfl⟩
        exact .inl ⟨rfl, m, SqL.of hq2, push (b01 (decide (m = 0))) r H2 rfl (Frm.refl _ _) I2⟩
      · have har : Th.ar (.op k) = 2 := if_neg (fun e => by rw [e] at hk; exact absurd hk (by decide))
        rw [har] at htk
        obtain ⟨m, n, rfl⟩ : ∃ m n, tk = [m, n] := by
          match tk, htk with
          | [m, n], _ => exact ⟨m, n, rfl⟩
        exact .inr ⟨hk, m, n, SqL.of hq2, hlim m (by simp), hlim n (by simp), push (mk2 k m n) r H2 rfl (Frm.refl _ _) I2⟩
end
end K5
set_option maxRecDepth 100000
set_option maxHeartbeats 2000000
/-! The row of numbers over the code of a script. -/
namespace K5
open PySem PySem.Spec PyProof.Rows L2 KF
theorem Th.st_ok (t : Th) (tk : List Int) (r : Ru) (h : r.ok) (so : t.sok r) : (t.st tk r).2.2.ok := by
  cases t with
  | push n => exact h
  | read l => exact ⟨h.f, l.ev_sok _ h.s, h.x⟩
  | act d => exact De.put_ok d _ _ h
  | over n => exact h
  | nought n => exact h
  | op k => exact h
/-- k things done -/
inductive Go (c : List Th) : Nat → Nat → List Int → Ru → Nat → List Int → Ru → Prop
  | stop {i w r} : Go c 0 i w r i w r
  | step {k i lo tk r t j w' r'} (ht : c[i]? = some t) (so : t.sok r) (ar : tk.length = t.ar) (le : lo.length + tk.length ≤ 900) (li : ∀ n ∈ tk, lim n) (g : Go c k (i + 1 + (t.st tk r).1) (lo ++ (t.st tk r).2.1) (t.st tk r).2.2 j w' r') : Go c (k + 1) i (lo ++ tk) r j w' r'
theorem Go.trans {c : List Th} {k k' i j j' : Nat} {w w1 w' : List Int} {r r1 r' : Ru} (g : Go c k i w r j w1 r1) : Go c k' j w1 r1 j' w' r' → Go c (k + k') i w r j' w' r' := by
  induction g with
  | stop => intro h; rw [Nat.zero_add]; exact h
  | step ht so ar le li g ih =>
    intro h
    rw [Nat.succ_add]
    exact .step ht so ar le li (ih h)
theorem Go.one {c : List Th} {i : Nat} {lo tk : List Int} {r : Ru} {t : Th} (ht : c[i]? = some t) (so : t.sok r) (ar : tk.length = t.ar) (le : lo.length + tk.length ≤ 900) (li : ∀ n ∈ tk, lim n) : Go c 1 i (lo ++ tk) r (i + 1 + (t.st tk r).1) (lo ++ (t.st tk r).2.1) (t.st tk r).2.2 := .step ht so ar le li .stop
/-- xs stand in c from i on -/
def Sub (c : List Th) (i : Nat) (xs : List Th) : Prop := ∀ j t, xs[j]? = some t → c[i + j]? = some t
theorem Sub.left {c xs ys : List Th} {i : Nat} (h : Sub c i (xs ++ ys)) : Sub c i xs := fun j t z => h j t (by
  rw [List.getElem?_append_left (List.getElem?_eq_some_iff.mp z).1]
  exact z)
theorem Sub.right {c xs ys : List Th} {i : Nat} (h : Sub c i (xs ++ ys)) : Sub c (i + xs.length) ys := fun j t z => by
  rw [Nat.add_assoc]
  refine h _ _ ?_
  rw [List.getElem?_append_right (by omega), Nat.add_sub_cancel_left]
  exact z
theorem Sub.head {c xs : List Th} {i : Nat} {t : Th} (h : Sub c i (t :: xs)) : c[i]? = some t := h 0 t rfl
theorem Sub.tail {c xs : List Th} {i : Nat} {t : Th} (h : Sub c i (t :: xs)) : Sub c (i + 1) xs := fun j u z => by
  rw [Nat.add_assoc, Nat.add_comm 1]
  exact h (j + 1) u z
theorem goFork {c A B : List Th} {i k k' : Nat} {m : Int} {w w' : List Int} {r r' : Ru} (s : Sub c i (fork A B)) (lm : lim m) (le : w.length + 1 ≤ 900)
    (ha : m ≠ 0 → Sub c (i + 1) A → Go c k (i + 1) w r (i + 1 + A.length) w' r') (hl : m ≠ 0 → w'.length ≤ 900) (hb : m = 0 → Sub c (i + 1 + A.length + 1) B → Go c k' (i + 1 + A.length + 1) w r (i + 1 + A.length + 1 + B.length) w' r') :
    Go c (if m ≠ 0 then k + 2 else k' + 1) i (w ++ [m]) r (i + (fork A B).length) w' r' := by
  have hn := s.head
  have st := s.tail
  have sa := st.left
  have so := st.right
  have g1 := Go.one (lo := w) (tk := [m]) (r := r) hn trivial rfl le (fun n hn => by rw [List.mem_singleton.mp hn]; exact lm)
  rw [fork_len]
  by_cases e : m = 0
  · subst e
    rw [if_neg (by simp)]
    have e1 : (Th.st (.nought (A.length + 1)) [0] r) = (A.length + 1, [], r) := rfl
    rw [e1, List.append_nil] at g1
    have g2 := hb rfl so.tail
    rw [Nat.add_comm k' 1, show i + (A.length + B.length + 2) = i + 1 + A.length + 1 + B.length by omega]
    exact g1.trans g2
  · rw [if_pos e]
    have e1 : (Th.st (.nought (A.length + 1)) [m] r) = (0, [], r) := by
      show (if m = 0 then A.length + 1 else 0, _, _) = _
      rw [if_neg e]
    rw [e1, List.append_nil] at g1
    have g2 := ha e sa
    have g3 := Go.one (lo := w') (tk := []) (r := r') so.head trivial rfl (hl e) (fun n hn => by cases hn)
    have e3 : (Th.st (.over B.length) [] r') = (B.length, [], r') := rfl
    rw [e3, List.append_nil] at g3
    rw [show k + 2 = 1 + (k + 1) by omega, show i + (A.length + B.length + 2) = i + 1 + A.length + 1 + B.length by omega]
    exact g1.trans (g2.trans g3)
theorem Ex.size_pos (e : Ex) : 1 ≤ e.size := by cases e <;> simp only [Ex.size] <;> omega
theorem has_on {f : Fx} {s : Sd} {e : Ex} (h : e.has f s) (a : Ex) : e.has f (a.ev f s).2 := fun l hl => l.has_on (h l hl) a
theorem goE {c : List Th} {f : Fx} {x : Bx} (hf : f.ok) : ∀ (e : Ex) (i : Nat) (w : List Int) (s : Sd), e.ok → sok s → e.has f s → Sub c i (codeE e) → w.length + e.size ≤ 900 →
    Go c (e.cnt f s) i w ⟨f, s, x⟩ (i + (codeE e).length) (w ++ [(e.ev f s).1]) ⟨f, (e.ev f s).2, x⟩
  | .leaf l, i, w, s, ok, so, has, sub, le => by
    rw [Ex.size] at le
    rcases l.num ok with ⟨n, rfl⟩ | ⟨_, hc⟩
    · have g := Go.one (lo := w) (tk := []) (r := ⟨f, s, x⟩) (t := .push n) sub.head (show lim n from ⟨Int.le_trans (by decide) ok.1, Int.le_trans ok.2 (by decide)⟩) rfl (by simp; omega) (fun n hn => by cases hn)
      rw [List.append_nil] at g
      exact g
    · rw [codeE, hc] at sub ⊢
      have g := Go.one (lo := w) (tk := []) (r := ⟨f, s, x⟩) (t := .read l) sub.head ⟨ok, has l (by rw [Ex.leaves]; simp)⟩ rfl (by simp; omega) (fun n hn => by cases hn)
      rw [List.append_nil] at g
      exact g
  | .neg a, i, w, s, ok, so, has, sub, le => by
    rw [Ex.size] at le
    rw [codeE] at sub ⊢
    have g1 := goE (x := x) hf a i w s ok so has sub.left (by omega)
    have g2 := Go.one (lo := w) (tk := [(a.ev f s).1]) (r := ⟨f, (a.ev f s).2, x⟩) (t := .op "not") sub.right.head (.inl rfl) rfl (by simp; omega) (fun n hn => by rw [List.mem_singleton.mp hn]; exact a.ev_lim f hf ok s)
    have g := g1.trans g2
    rw [List.length_append, ← Nat.add_assoc]
    exact g
  | .two k a b, i, w, s, ok, so, has, sub, le => by
    have pa := a.size_pos
    have pb := b.size_pos
    rw [Ex.size] at le
    rw [codeE] at sub ⊢
    have ha : a.has f s := fun l hl => has l (by rw [Ex.leaves]; simp [hl])
    have hb : b.has f s := fun l hl => has l (by rw [Ex.leaves]; simp [hl])
    have g1 := goE (x := x) hf a i w s ok.2.1 so ha sub.left.left (by omega)
    have g2 := goE (x := x) hf b (i + (codeE a).length) (w ++ [(a.ev f s).1]) (a.ev f s).2 ok.2.2 (a.ev_sok f so) (has_on hb a) sub.left.right (by simp; omega)
    have hk : Th.ar (.op k) = 2 := if_neg (fun e => by have h2 := ok.1; rw [e] at h2; exact absurd h2 (by decide))
    have g3 := Go.one (lo := w) (tk := [(a.ev f s).1, (b.ev f (a.ev f s).2).1]) (r := ⟨f, (b.ev f (a.ev f s).2).2, x⟩) (t := .op k) sub.right.head (.inr ok.1) hk.symm (by simp; omega) (fun n hn => by
      simp only [List.mem_cons, List.not_mem_nil, or_false] at hn
      rcases hn with rfl | rfl
      · exact a.ev_lim f hf ok.2.1 s
      · exact b.ev_lim f hf ok.2.2 _)
    rw [List.append_assoc] at g2
    rw [List.length_append, ← Nat.add_assoc] at g3
    have g := (g1.trans g2).trans g3
    rw [List.length_append, List.length_append, ← Nat.add_assoc, ← Nat.add_assoc]
    exact g
  | .pick a b d, i, w, s, ok, so, has, sub, le => by
    have pa := a.size_pos
    have pb := b.size_pos
    rw [Ex.size] at le
    rw [codeE] at sub ⊢
    have ha : a.has f s := fun l hl => has l (by rw [Ex.leaves]; simp [hl])
    have hb : b.has f s := fun l hl => has l (by rw [Ex.leaves]; simp [hl])
    have hd : d.has f s := fun l hl => has l (by rw [Ex.leaves]; simp [hl])
    have g1 := goE (x := x) hf a i w s ok.1 so ha sub.left (by omega)
    have g2 := goFork (k := b.cnt f (a.ev f s).2) (k' := d.cnt f (a.ev f s).2) (w := w) (w' := w ++ [((Ex.pick a b d).ev f s).1]) (r := ⟨f, (a.ev f s).2, x⟩) (r' := ⟨f, ((Ex.pick a b d).ev f s).2, x⟩) (m := (a.ev f s).1) sub.right (a.ev_lim f hf ok.1 s) (by omega) (fun z su => by
      have e : (Ex.pick a b d).ev f s = b.ev f (a.ev f s).2 := if_pos z
      rw [e]
      exact goE hf b _ w _ ok.2.1 (a.ev_sok f so) (has_on hb a) su (by omega)) (fun _ => by simp; omega) (fun z su => by
      have e : (Ex.pick a b d).ev f s = d.ev f (a.ev f s).2 := if_neg (fun u => u z)
      rw [e]
      exact goE hf d _ w _ ok.2.2 (a.ev_sok f so) (has_on hd a) su (by omega))
    have g := g1.trans g2
    rw [List.length_append, ← Nat.add_assoc]
    exact g
theorem goEs {c : List Th} {f : Fx} {x : Bx} (hf : f.ok) : ∀ (es : List Ex) (i : Nat) (w : List Int) (s : Sd), (∀ e ∈ es, e.ok) → sok s → (∀ e ∈ es, e.has f s) → Sub c i (es.flatMap codeE) → w.length + sumE es ≤ 800 →
    Go c (cntE f es s) i w ⟨f, s, x⟩ (i + (es.flatMap codeE).length) (w ++ (evs f es s).1) ⟨f, (evs f es s).2, x⟩
  | [], i, w, s, _, _, _, _, _ => by
    simp only [evs, List.append_nil, List.flatMap_nil, List.length_nil, Nat.add_zero]
    exact .stop
  | e :: es, i, w, s, ok, so, has, sub, le => by
    rw [sumE] at le
    have pos := e.size_pos
    rw [List.flatMap_cons] at sub ⊢
    have g1 := goE (x := x) hf e i w s (ok e (by simp)) so (has e (by simp)) sub.left (by omega)
    have g2 := goEs (x := x) hf es (i + (codeE e).length) (w ++ [(e.ev f s).1]) (e.ev f s).2 (fun a ha => ok a (by simp [ha])) (e.ev_sok f so) (fun a ha => has_on (has a (by simp [ha])) e) sub.right (by simp; omega)
    have g := g1.trans g2
    rw [List.append_assoc] at g
    rw [List.length_append, ← Nat.add_assoc]
    exact g
theorem goF {c : List Th} (d : De) (hd : d.flat) (i : Nat) (r : Ru) (ok : d.ok) (rok : r.ok) (has : d.has r) (sub : Sub c i (codeD d)) (le : d.size ≤ 700) : Go c (d.cnt r) i [] r (i + (codeD d).length) [] (d.run r) := by
  rw [codeD_flat d hd, codeF] at sub ⊢
  rw [d.cnt_flat hd, d.run_flat hd]
  have hs := flat_sum d hd
  have eh : ∀ e ∈ d.exs, e.has r.f r.s := fun e he l hl => has l (by rw [d.exs_leaves hd]; exact List.mem_flatMap.mpr ⟨e, he, hl⟩)
  have g1 := goEs (x := r.x) rok.f d.exs i [] r.s (d.exs_ok ok) rok.s eh sub.left (by simp; omega)
  have g2 := Go.one (lo := []) (tk := (evs r.f d.exs r.s).1) (r := ⟨r.f, (evs r.f d.exs r.s).2, r.x⟩) (t := .act d) sub.right.head ⟨d.hok_of ok, hd⟩ (evs_len _ _ _) (by rw [evs_len]; have := d.exs_len; simp; omega) (evs_lim _ rok.f _ _ (d.exs_ok ok))
  rw [List.nil_append] at g1
  have g := g1.trans g2
  rw [List.length_append, ← Nat.add_assoc]
  exact g
mutual
theorem goD {c : List Th} : ∀ (d : De) (i : Nat) (r : Ru), d.ok → r.ok → d.has r → Sub c i (codeD d) → d.size ≤ 700 → Go c (d.cnt r) i [] r (i + (codeD d).length) [] (d.run r)
  | .own j a, i, r, ok, rok, has, sub, le => goF (.own j a) trivial i r ok rok has sub le
  | .mark j a, i, r, ok, rok, has, sub, le => goF (.mark j a) trivial i r ok rok has sub le
  | .go a b, i, r, ok, rok, has, sub, le => goF (.go a b) trivial i r ok rok has sub le
  | .born k a b c d, i, r, ok, rok, has, sub, le => goF (.born k a b c d) trivial i r ok rok has sub le
  | .gone, i, r, ok, rok, has, sub, le => goF (.gone) trivial i r ok rok has sub le
  | .when a ds es, i, r, ok, rok, has, sub, le => by
    rw [De.size] at le
    rw [De.ok] at ok
    rw [codeD] at sub ⊢
    rw [De.cnt, De.run]
    have ha : a.has r.f r.s := fun l hl => has l (by rw [De.leaves]; simp [hl])
    have hds : hasAll ⟨r.f, (a.ev r.f r.s).2, r.x⟩ ds := fun l hl => l.has_on (has l (by rw [De.leaves]; simp [hl])) a
    have hes : hasAll ⟨r.f, (a.ev r.f r.s).2, r.x⟩ es := fun l hl => l.has_on (has l (by rw [De.leaves]; simp [hl])) a
    have rok' : Ru.ok ⟨r.f, (a.ev r.f r.s).2, r.x⟩ := ⟨rok.f, a.ev_sok _ rok.s, rok.x⟩
    have g1 := goE (x := r.x) rok.f a i [] r.s ok.1 rok.s ha sub.left (by simp; omega)
    rw [List.nil_append] at g1
    have g2 := goFork (k := cntDs ds ⟨r.f, (a.ev r.f r.s).2, r.x⟩) (k' := cntDs es ⟨r.f, (a.ev r.f r.s).2, r.x⟩) (w := []) (w' := []) (r := ⟨r.f, (a.ev r.f r.s).2, r.x⟩) (r' := if (a.ev r.f r.s).1 ≠ 0 then runs ds ⟨r.f, (a.ev r.f r.s).2, r.x⟩ else runs es ⟨r.f, (a.ev r.f r.s).2, r.x⟩) (m := (a.ev r.f r.s).1) sub.right (a.ev_lim _ rok.f ok.1 _) (by decide) (fun z su => by
      rw [if_pos z]
      exact goDs ds _ _ ((oks_iff ds).mp ok.2.1) rok' hds su (by omega)) (fun _ => by decide) (fun z su => by
      rw [if_neg (fun u => u z)]
      exact goDs es _ _ ((oks_iff es).mp ok.2.2) rok' hes su (by omega))
    have g := g1.trans g2
    rw [List.length_append, ← Nat.add_assoc]
    exact g
theorem goDs {c : List Th} : ∀ (ds : List De) (i : Nat) (r : Ru), (∀ d ∈ ds, d.ok) → r.ok → hasAll r ds → Sub c i (codeDs ds) → szs ds ≤ 700 → Go c (cntDs ds r) i [] r (i + (codeDs ds).length) [] (runs ds r)
  | [], i, r, _, _, _, _, _ => by
    rw [cntDs, codeDs, runs]
    exact .stop
  | d :: ds, i, r, ok, rok, has, sub, le => by
    rw [szs] at le
    rw [codeDs] at sub ⊢
    rw [cntDs, runs]
    have hd : d.has r := fun l hl => has l (by rw [lvs]; simp [hl])
    have hds : hasAll (d.run r) ds := fun l hl => d.run_up r l (has l (by rw [lvs]; simp [hl]))
    have g1 := goD d i r (ok d (by simp)) rok hd sub.left (by omega)
    have g2 := goDs ds (i + (codeD d).length) (d.run r) (fun x hx => ok x (by simp [hx])) (d.run_ok r rok) hds sub.right (by omega)
    rw [List.length_append, ← Nat.add_assoc]
    exact g1.trans g2
end
theorem go_all (ds : List De) (r : Ru) (ok : ∀ d ∈ ds, d.ok) (rok : r.ok) (has : hasAll r ds) (le : szs ds ≤ 700) : Go (codeDs ds) (cntDs ds r) 0 [] r (codeDs ds).length [] (runs ds r) := by
  have g := goDs (c := codeDs ds) ds 0 r ok rok has (fun j t z => by rw [Nat.zero_add]; exact z) le
  rw [Nat.zero_add] at g
  exact g
end K5
set_option maxRecDepth 100000
set_option maxHeartbeats 2000000
/-! The program runs the code. -/
namespace K5
open PySem PySem.Spec PyProof.Rows L2 KF
theorem Go.ok {c : List Th} {k i j : Nat} {w w' : List Int} {r r' : Ru} (g : Go c k i w r j w' r') : r.ok → r'.ok := by
  induction g with
  | stop => exact id
  | step ht so ar le li g ih => exact fun h => ih (Th.st_ok _ _ _ h so)
section
variable {P : Program} {w : World} {K : PySem.W.Frag} {mg : Str → Option Value} {base : Heap}
def spUr (K : PySem.W.Frag) : Sp := fun vs H Q _ => ∃ (t : Addr) (c : List Th) (v : V) (f : Fx) (k : Nat) (w' : List Int) (r' : Ru), vs = [.ref t, v] ∧ Cd K H t c ∧ Dp K H v f.py ∧ f.ok ∧ Go c k 0 [] ⟨f, ⟨f.seed, false⟩, Bx0⟩ c.length w' r' ∧
    ∀ p u H', H' p = some (.tup [u, .int (k : Int)]) → Dp K H' u r'.out → Same H H' → Q (.ref p) H'
theorem scUr : FnScope ["code", "reads", "reading", "row", "place", "many"] ["code", "reads"] (defScope s_ran) := ⟨rfl, rfl, rfl, by decide +kernel, rfl, by decide +kernel, by decide +kernel⟩
theorem ok_ran (T : Txt K w mg) : FnOk P w K mg base CX0 7 (He.fAd K ("_ran", none)) (fdAt K (He.fAd K ("_ran", none))) ["code", "reads"] (spUr K) := by
  refine T.F_ran.ok scUr (fun vs H Q E h => ?_) (fun cdv A outer s H vs Q E hr h => ?_)
  · obtain ⟨t, c, v, f, k, w', r', rfl, _⟩ := h
    rfl
  · obtain ⟨t, c, v, f, k, w', r', rfl, hc, hv, okf, g, kk⟩ := h
    refine ⟨_, PSs.nox (pss_cons (ps_set (i := 2) scUr.nd rfl (Or.inl rfl) (pe_make T.m_Reading (ok_Reading_init T) (hr.mono (by decide)) (by rfl) T.g_Reading T.b_Reading_init .nil pass0 (pa_cons (pv 1) pa_nil)))
      (pss_cons (ps_set (i := 3) scUr.nd rfl (Or.inl rfl) (pe_lst pa_nil))
      (pss_cons (ps_set (i := 4) scUr.nd rfl (Or.inl rfl) pe_int)
      (pss_cons (ps_set (i := 5) scUr.nd rfl (Or.inl rfl) pe_int)
      (pss_cons (ps_while PassesOwn.never (pt_cmpR op_lt (pv 4) (pe_callB (r := Evl.rLenS K) call_len_seq (by rfl) T.n_len PyProof.Rows.Boot.«len» (pa_cons (pv 0) pa_nil)) (nomark _)) (pss_cons (ps_aug (i := 4) scUr.nd rfl (Or.inl rfl) (pe_op op_add pe_int (pe_call (ok_left_out T) (hr.mono (by omega)) (by rfl) T.g_left_out (T.F_left_out).kp T.b_left_out .nil pass0 (pa_cons (pe_ix (r := rIxT K) ix_tup (pv 0) (pv 4) (fun _ _ => rfl)) (pa_cons (pv 3) (pa_cons (pv 2) pa_nil))))) ip_add)
      (pss_one (ps_aug (i := 5) scUr.nd rfl (Or.inl rfl) pe_int ip_add))))
      (pss_one (ps_ret (pe_tup (pa_cons (pe_call (ok_told_by T) (hr.mono (by omega)) (by rfl) T.g_told_by (T.F_told_by).kp T.b_told_by .nil pass0 (pa_cons (pv 2) pa_nil)) (pa_cons (pv 5) pa_nil)))))))))), ?_⟩
    refine ⟨_, rfl, fun a dx na ndx ne => ?_⟩
    have f0 : Frm a H (upd (upd H dx (.own a)) a (.ins (He.ga K "Reading") dx [])) := (Frm.of_new ndx).trans Frm.of_upd
    have t0 : TF H (upd (upd H dx (.own a)) a (.ins (He.ga K "Reading") dx [])) := (TF.of_new ndx).trans (TF.of_new (by rw [upd_ne ne.symm]; exact na))
    refine ⟨a, dx, v, f, rfl, upd_same, dp_nl t0 _ _ f.nl hv, okf, fun H2 A2 RI f1 fresh => ⟨rfl, ?_⟩⟩
    have t1 : TF H H2 := t0.trans (Frm.tfi f1 upd_same)
    refine ⟨(show 0 ≤ sizeLine by decide), fun p np => ?_⟩
    have hp0 : (upd H2 p (.lst [])) p = some (.lst ([] : List V)) := upd_same
    have off := RI.off np
    have I0 := RI.same (new_same (o := .lst []) np)
    have F0 : FrP A2 a p H2 (upd H2 p (.lst [])) := FrP.of_new np
    have T0 : TF H (upd H2 p (.lst [])) := t1.trans (TF.of_new np)
    obtain ⟨H3, hH3⟩ : ∃ H3, H3 = upd H2 p (.lst []) := ⟨_, rfl⟩
    rw [← hH3] at hp0 I0 F0 T0 ⊢
    refine ⟨fun m σ H' => ∃ (i q : Nat) (wl : List Int) (r : Ru), σ = [some (.ref t), some v, some (.ref a), some (.ref p), some (.int (i : Int)), some (.int (q : Int))] ∧ q + m = k ∧ Go c m i wl r c.length w' r' ∧ H' p = some (.lst (wl.map V.int)) ∧ r.ok ∧ RInv K H' a r.f r.s r.x A2 ∧ TF H H' ∧ FrP A2 a p H2 H', ⟨k, 0, 0, [], _, rfl, Nat.zero_add k, g, hp0, run0_ok okf, I0, T0, F0⟩, fun m σ H4 hW => ?_⟩
    obtain ⟨i, q, wl, r, rfl, hq, g1, hp4, rok, I4, T4, F4⟩ := hW
    obtain ⟨vs, sv, dvs⟩ := hc.tf T4
    have hvl : vs.length = c.length := by rw [dpa_len dvs, List.length_map]
    refine ⟨_, rfl, _, rfl, t, _, rfl, .inr sv, _, _, rfl, rfl, _, rfl, ?_⟩
    rw [hvl]
    generalize hz : c.length = z at g1
    cases g1 with
    | stop =>
      have e : decide ((i : Int) < (i : Int)) = false := decide_eq_false (by omega)
      rw [e, if_neg (by decide)]
      have hqk : q = k := hq
      subst hqk
      refine ⟨_, rfl, a, r', A2, rfl, rok, I4, fun u H5 du s5 => ⟨_, rfl, (show 2 ≤ sizeLine by decide), fun p2 np2 => ?_⟩⟩
      refine kk p2 u _ upd_same (dp_nl (TF.of_new np2) _ _ (Ru.nl_out _) du) fun b o hb => ?_
      have hba : b ≠ a := ne_of_none hb na
      have z0 := f0 b o hba hb
      have z1 := f1 b o hba z0
      have hbp : b ≠ p := ne_of_none z1 np
      have z2 := s5 _ _ (F4 b o hba hbp (fresh b o hba z0) z1)
      rw [upd_ne (ne_of_none z2 np2)]
      exact z2
    | @step m1 _ lo tk _ th _ _ _ ht so ar le li g2 =>
      subst hz
      have hi := (List.getElem?_eq_some_iff.mp ht).1
      have e : decide ((i : Int) < (c.length : Int)) = true := decide_eq_true (by omega)
      rw [e, if_pos rfl]
      refine ⟨_, fun _ _ h => h, ?_⟩
      obtain ⟨vi, hvi, dvi⟩ := dpa_get dvs (show (c.map Th.py)[i]? = some th.py by rw [List.getElem?_map, ht]; rfl)
      refine ⟨_, rfl, _, rfl, _, rfl, t, _, _, vi, rfl, rfl, sv, atI_nat hvi, _, rfl, _, rfl, vi, p, a, th, lo, tk, r, A2, rfl, dvi, hp4, ar, le, li, rok, so, off.1, off.2, I4, fun H5 hp5 I5 tf5 f5 => ?_⟩
      refine ⟨_, _, rfl, rfl, _, _, rfl, rfl, _, rfl, _, _, rfl, rfl, m1, Nat.lt_succ_self m1, i + 1 + (th.st tk r).1, q + 1, _, _, ?_, by omega, g2, hp5, Th.st_ok _ _ _ rok so, I5, T4.trans tf5, F4.trans f5⟩
      have e2 : ((i + 1 + (th.st tk r).1 : Nat) : Int) = (i : Int) + (1 + ((th.st tk r).1 : Int)) := by omega
      rw [e2]
      rfl
/-! ### _need_script, run -/
def spNd (K : PySem.W.Frag) : Sp := fun vs H Q _ => ∃ (t : Addr) (xs : List V) (ds : List De), vs = [.ref t] ∧ SqT K H t xs ∧ DpAll K H xs (ds.map De.py) ∧ (∀ d ∈ ds, d.ok) ∧ szs ds ≤ 60 ∧ deps ds ≤ 8 ∧ ∀ H', Same H H' → Q .non H'
theorem scNd : FnScope ["script"] ["script"] (defScope s_need_script) := ⟨rfl, rfl, rfl, by decide +kernel, rfl, by decide +kernel, by decide +kernel⟩
theorem ok_need_script (T : Txt K w mg) : FnOk P w K mg base CX0 6 (He.fAd K ("_need_script", none)) (fdAt K (He.fAd K ("_need_script", none))) ["script"] (spNd K) := by
  refine T.F_need_script.ok scNd (fun vs H Q E h => ?_) (fun cdv A outer s H vs Q E hr h => ?_)
  · obtain ⟨t, xs, ds, rfl, _⟩ := h
    rfl
  · obtain ⟨t, xs, ds, rfl, ht, hds, ok, sz, dep, kk⟩ := h
    refine ⟨_, PSs.nox (pss_one (ps_if (pt_cmpR op_isN (pe_call (ok_measured T) (hr.mono (by omega)) (by rfl) T.g_measured (T.F_measured).kp T.b_measured .nil pass0 (pa_cons (pv 0) pa_nil)) pe_non (nomark _)) (pss_one ps_never) pss_nil)), ?_⟩
    refine ⟨_, rfl, t, xs, ds, rfl, ht, hds, ok, sz, dep, fun q a b H' s1 hq => ?_⟩
    refine ⟨rfl, _, rfl, ite2 (fun z => nomatch of_decide_eq_true z) (fun _ => ?_)⟩
    exact kk H' s1
end
end K5
set_option maxRecDepth 100000
set_option maxHeartbeats 2000000
/-! Equal, and of one kind. -/
namespace K5
open PySem PySem.Spec PyProof.Rows L2 KF
def AlOk : Nat → PyData → Prop
  | 0, d => match d with
    | .none => True
    | .int _ => True
    | .bool _ => True
    | .str _ => True
    | _ => False
  | n + 1, d => match d with
    | .none => True
    | .int _ => True
    | .bool _ => True
    | .str _ => True
    | .tuple ds => ds.length ≤ 200 ∧ NLs ds ∧ ∀ e ∈ ds, AlOk n e
    | _ => False
theorem nl_get' : ∀ {ds : List PyData} {i : Nat}, NLs ds → (h : i < ds.length) → NL ds[i]
  | d :: ds, 0, h, _ => h.1
  | d :: ds, i + 1, h, hi => nl_get' (ds := ds) h.2 (Nat.lt_of_succ_lt_succ hi)
def spAlike (K : PySem.W.Frag) (n : Nat) : Sp := fun vs H Q _ => ∃ (v1 v2 : V) (d : PyData), vs = [v1, v2] ∧ Dp K H v1 d ∧ Dp K H v2 d ∧ AlOk n d ∧ ∀ H', Same H H' → Q (.bl true) H'
def spAl (K : PySem.W.Frag) : Nat → Sp
  | 0 => fun _ _ _ _ => False
  | n + 1 => spAlike K n
section
variable {P : Program} {w : World} {K : PySem.W.Frag} {mg : Str → Option Value} {base : Heap}
theorem scAl : FnScope ["found", "due", "k"] ["found", "due"] (defScope s_law_alike) := ⟨rfl, rfl, rfl, by decide +kernel, rfl, by decide +kernel, by decide +kernel⟩
theorem ok_law_alike (T : Txt K w mg) : ∀ n : Nat, FnOk P w K mg base CX0 n (He.fAd K ("_law_alike", none)) (fdAt K (He.fAd K ("_law_alike", none))) ["found", "due"] (spAl K n)
  | 0 => ⟨fun _ _ _ _ z => z.elim, fun _ _ _ _ _ _ _ _ _ _ _ _ _ z => z.elim⟩
  | n + 1 => by
    have G := ok_law_alike T n
    refine T.F_law_alike.ok scAl (fun vs H Q E h => ?_) (fun cdv A outer s H vs Q E hr h => ?_)
    · obtain ⟨v1, v2, d, rfl, _⟩ := h
      rfl
    · obtain ⟨v1, v2, d, rfl, h1, h2, hp, k⟩ := h
      refine ⟨_, PSs.nox (pss_cons (ps_if (pt_cmpR op_isN (pv 1) pe_non (nomark _)) (pss_one (ps_ret (pe_cmpR op_isN (pv 0) pe_non (nomark _)))) pss_nil)
      (pss_cons (ps_if (pt_cmpR (op_isT true) (pv 1) pe_bl (nomark _)) (pss_one (ps_ret (pe_cmpR (op_isT true) (pv 0) pe_bl (nomark _)))) pss_nil)
      (pss_cons (ps_if (pt_cmpR (op_isT false) (pv 1) pe_bl (nomark _)) (pss_one (ps_ret (pe_cmpR (op_isT false) (pv 0) pe_bl (nomark _)))) pss_nil)
      (pss_cons (ps_if (pt_val (pe_callB (r := rIsi K) call_isi (by rfl) T.n_isinstance PyProof.Rows.Boot.«isinstance» (pa_cons (pv 1) (pa_cons (pe_bltn (v := .ty "str") (by rfl) T.n_str PyProof.Rows.Boot.«str» rfl) pa_nil)))) (pss_one (ps_ret (pe_and (pe_callB (r := rIsi K) call_isi (by rfl) T.n_isinstance PyProof.Rows.Boot.«isinstance» (pa_cons (pv 0) (pa_cons (pe_bltn (v := .ty "str") (by rfl) T.n_str PyProof.Rows.Boot.«str» rfl) pa_nil))) (pe_one (pe_cmpR op_eq (pv 0) (pv 1) (nomark _)))))) pss_nil)
      (pss_cons (ps_if (pt_val (pe_callB (r := rIsi K) call_isi (by rfl) T.n_isinstance PyProof.Rows.Boot.«isinstance» (pa_cons (pv 1) (pa_cons (pe_bltn (v := .ty "int") (by rfl) T.n_int PyProof.Rows.Boot.«int» rfl) pa_nil)))) (pss_one (ps_ret (pe_and (pe_callB (r := rIsi K) call_isi (by rfl) T.n_isinstance PyProof.Rows.Boot.«isinstance» (pa_cons (pv 0) (pa_cons (pe_bltn (v := .ty "int") (by rfl) T.n_int PyProof.Rows.Boot.«int» rfl) pa_nil))) (pe_and (pe_not (pe_callB (r := rIsi K) call_isi (by rfl) T.n_isinstance PyProof.Rows.Boot.«isinstance» (pa_cons (pv 0) (pa_cons (pe_bltn (v := .ty "bool") (by rfl) T.n_bool PyProof.Rows.Boot.«bool» rfl) pa_nil)))) (pe_one (pe_cmpR op_eq (pv 0) (pv 1) (nomark _))))))) pss_nil)
      (pss_cons (ps_if (PW.pt (pw_or (pt_not (pt_val (pe_callB (r := rIsi K) call_isi (by rfl) T.n_isinstance PyProof.Rows.Boot.«isinstance» (pa_cons (pv 0) (pa_cons (pe_bltn (v := .ty "tuple") (by rfl) T.n_tuple PyProof.Rows.Boot.«tuple» rfl) pa_nil))))) (pw_or1 (pt_cmpR op_ne (pe_callB (r := Evl.rLenS K) call_len_seq (by rfl) T.n_len PyProof.Rows.Boot.«len» (pa_cons (pv 0) pa_nil)) (pe_callB (r := Evl.rLenS K) call_len_seq (by rfl) T.n_len PyProof.Rows.Boot.«len» (pa_cons (pv 1) pa_nil)) (nomark _))))) (pss_one (ps_ret pe_bl)) pss_nil)
      (pss_one (ps_ret (pe_callB (cr_all rfl) (by rfl) T.n_all PyProof.Rows.Boot.«all» (pa_cons (pe_lc (own := [("k", 2)]) (g := gName 2) (tt := tYes) (by rfl) scAl.nd (pi_range1 (by rfl) T.n_range (pa_cons (pe_callB (r := Evl.rLenS K) call_len_seq (by rfl) T.n_len PyProof.Rows.Boot.«len» (pa_cons (pv 1) pa_nil)) pa_nil)) (blkOk_by (own := [("k", 2)]) (N := ["found", "due", "k"]) (sc := defScope s_law_alike) (by decide +kernel)) (fun _ _ _ _ _ => pg_name (i := 2) scAl.nd rfl (Or.inl rfl)) (fun _ _ _ _ _ => pts_nil) (fun _ _ _ _ _ => (pe_call G (hr.mono (by omega)) (by rfl) T.g_law_alike (T.F_law_alike).kp T.b_law_alike .nil pass0 (pa_cons (pe_ix (r := rIxT K) ix_tup (pv 0) (pv 2) (fun _ _ => rfl)) (pa_cons (pe_ix (r := rIxT K) ix_tup (pv 1) (pv 2) (fun _ _ => rfl)) pa_nil))))) pa_nil)))))))))), ?_⟩
      cases d with
      | none =>
        cases h1
        cases h2
        exact ⟨_, rfl, rfl, _, rfl, ite2 (fun _ => ⟨_, rfl, rfl, k H (Same.refl H)⟩) (fun z => (z rfl).elim)⟩
      | bool c =>
        cases h1
        cases h2
        refine ⟨_, rfl, rfl, _, rfl, ite2 (fun z => nomatch (of_decide_eq_true z)) (fun _ => ?_)⟩
        cases c with
        | true =>
          refine ⟨_, rfl, rfl, _, rfl, ite2 (fun _ => ⟨_, rfl, rfl, ?_⟩) (fun z => (z rfl).elim)⟩
          rw [decide_eq_true (rfl : V.bl true = V.bl true)]
          exact k H (Same.refl H)
        | false =>
          refine ⟨_, rfl, rfl, _, rfl, ite2 (fun z => nomatch (of_decide_eq_true z)) (fun _ => ?_)⟩
          refine ⟨_, rfl, rfl, _, rfl, ite2 (fun _ => ⟨_, rfl, rfl, ?_⟩) (fun z => (z rfl).elim)⟩
          rw [decide_eq_true (rfl : V.bl false = V.bl false)]
          exact k H (Same.refl H)
      | str x =>
        cases h1
        cases h2
        refine ⟨_, rfl, rfl, _, rfl, ite2 (fun z => nomatch (of_decide_eq_true z)) (fun _ => ?_)⟩
        refine ⟨_, rfl, rfl, _, rfl, ite2 (fun z => nomatch (of_decide_eq_true z)) (fun _ => ?_)⟩
        refine ⟨_, rfl, rfl, _, rfl, ite2 (fun z => nomatch (of_decide_eq_true z)) (fun _ => ?_)⟩
        refine ⟨_, rfl, _, _, _, _, _, rfl, .ty "str", .base (.str x), kit_ty (r := true) (by decide +kernel), _, rfl, iteT ?_⟩
        refine ⟨_, rfl, _, _, _, _, _, rfl, .ty "str", .base (.str x), kit_ty (r := true) (by decide +kernel), _, rfl, iteT ⟨_, rfl, _, rfl, rfl, ?_⟩⟩
        rw [decide_eq_true (rfl : V.str x = V.str x)]
        exact k H (Same.refl H)
      | int i =>
        cases h1
        cases h2
        refine ⟨_, rfl, rfl, _, rfl, ite2 (fun z => nomatch (of_decide_eq_true z)) (fun _ => ?_)⟩
        refine ⟨_, rfl, rfl, _, rfl, ite2 (fun z => nomatch (of_decide_eq_true z)) (fun _ => ?_)⟩
        refine ⟨_, rfl, rfl, _, rfl, ite2 (fun z => nomatch (of_decide_eq_true z)) (fun _ => ?_)⟩
        refine ⟨_, rfl, _, _, _, _, _, rfl, .ty "str", .base (.int i), kit_ty (r := false) (by decide +kernel), _, rfl, iteF ?_⟩
        refine ⟨_, rfl, _, _, _, _, _, rfl, .ty "int", .base (.int i), kit_ty (r := true) (by decide +kernel), _, rfl, iteT ?_⟩
        refine ⟨_, rfl, _, _, _, _, _, rfl, .ty "int", .base (.int i), kit_ty (r := true) (by decide +kernel), _, rfl, iteT ?_⟩
        refine ⟨_, rfl, _, _, _, _, _, rfl, .ty "bool", .base (.int i), kit_ty (r := false) (by decide +kernel), _, rfl, _, rfl, iteT ⟨_, rfl, _, rfl, rfl, ?_⟩⟩
        rw [decide_eq_true (rfl : V.int i = V.int i)]
        exact k H (Same.refl H)
      | list ds => cases n <;> exact hp.elim
      | dict ds => cases n <;> exact hp.elim
      | tuple ds =>
        cases n with
        | zero => exact hp.elim
        | succ m =>
          cases h1 with
          | @tup p xs _ q1 a1 =>
            cases h2 with
            | @tup q ys _ q2 a2 =>
              have l1 := dpa_len a1
              have l2 := dpa_len a2
              refine ⟨_, rfl, rfl, _, rfl, ite2 (fun z => nomatch (of_decide_eq_true z)) (fun _ => ?_)⟩
              refine ⟨_, rfl, rfl, _, rfl, ite2 (fun z => nomatch (of_decide_eq_true z)) (fun _ => ?_)⟩
              refine ⟨_, rfl, rfl, _, rfl, ite2 (fun z => nomatch (of_decide_eq_true z)) (fun _ => ?_)⟩
              refine ⟨_, rfl, _, _, _, _, _, rfl, .ty "str", ty_tup q2, kit_ty (r := false) (by decide +kernel), _, rfl, iteF ?_⟩
              refine ⟨_, rfl, _, _, _, _, _, rfl, .ty "int", ty_tup q2, kit_ty (r := false) (by decide +kernel), _, rfl, iteF ?_⟩
              refine ⟨_, rfl, _, _, _, _, _, rfl, .ty "tuple", ty_tup q1, kit_ty (r := true) (by decide +kernel), _, rfl, iteF ?_⟩
              refine ⟨_, rfl, _, _, rfl, .inr q1, _, rfl, _, _, rfl, .inr q2, rfl, _, rfl, ?_⟩
              rw [l1, l2, decide_eq_true (rfl : V.int (ds.length : Int) = V.int (ds.length : Int))]
              refine iteF ?_
              refine ⟨_, rfl, q, ys, rfl, .inr q2, (ys.length : Int), rfl, ?_⟩
              have hlen : ds.length ≤ 200 := hp.1
              refine ⟨by omega, by omega, fun D hD => ?_⟩
              have hN : ((ys.length : Int)).toNat = ds.length := by omega
              rw [hN]
              refine lc_range (lo := 0) (n := ds.length) (fun i H' => Same H H' ∧ H' D = some (.lst ((List.replicate i true).map V.bl))) ⟨new_same hD, upd_same⟩ (fun i H' hi hPv => ?_) (fun H' hPv => ?_)
              · obtain ⟨s1, hl⟩ := hPv
                have he : ds[i]? = some ds[i] := List.getElem?_eq_getElem hi
                obtain ⟨v1, e1, d1⟩ := dpa_get a1 he
                obtain ⟨v2, e2, d2⟩ := dpa_get a2 he
                have tf : TF H H' := fun c zs z => by
                  rcases z with z | ⟨u, z⟩
                  · exact .inl (s1 _ _ z)
                  · exact .inr ⟨u, s1 _ _ z⟩
                have hr2 : AlOk m ds[i] := hp.2.2 _ (List.getElem_mem hi)
                have nl2 : NL ds[i] := nl_get' hp.2.1 hi
                refine ⟨rfl, ?_⟩
                show tCall (spAl K (m + 1)) [] E0 (tCons (tOp (rIxT K) (tVar 0) (tVar 2)) (tCons (tOp (rIxT K) (tVar 1) (tVar 2)) tNil)) _ _ _
                refine ⟨_, rfl, _, rfl, p, xs, _, v1, rfl, rfl, tf.sq q1, at_of (j := i) (by omega) e1, _, rfl, _, rfl, q, ys, _, v2, rfl, rfl, tf.sq q2, at_of (j := i) (by omega) e2, ?_⟩
                refine ⟨v1, v2, ds[i], rfl, dp_nl tf _ _ nl2 d1, dp_nl tf _ _ nl2 d2, hr2, fun H2 s2 => ⟨_, s2 _ _ hl, ?_, fun b o z => ?_, ?_⟩⟩
                · rw [List.length_map, List.length_replicate]
                  exact Nat.lt_of_lt_of_le (show i < 1000 by omega) (by decide)
                · rw [upd_ne (ne_of_none z hD)]
                  exact s2 _ _ (s1 _ _ z)
                · rw [upd_same, List.replicate_succ', List.map_append]
                  rfl
              · obtain ⟨s1, hl⟩ := hPv
                refine ⟨D, _, rfl, SqL.of hl, ?_⟩
                have e : (List.replicate ds.length true).all id = true := by simp
                rw [e]
                exact k H' s1
end
end K5
set_option maxRecDepth 100000
set_option maxHeartbeats 2000000
/-! The program looks at a code. -/
namespace K5
open PySem PySem.Spec PyProof.Rows L2 KF
theorem Lf.py_leaf (l : Lf) : (Ex.leaf l).py = .tuple l.ds := by rw [Ex.py]
theorem walk_zipT {K : PySem.W.Frag} {a b : Addr} {xs ys : List V} (hl : xs.length = ys.length) : L2.Walk (RZ.ItzT K a b) xs.length (fun H => SqT K H a xs ∧ SqT K H b ys) (L2.YPair (fun i => xs[i]?) (fun i => ys[i]?)) := by
  refine ⟨fun i H hi q => ?_, fun _ q => ⟨xs, ys, q.1, q.2, .inl (Nat.le_refl _)⟩, fun i H v H' _ q y => ?_⟩
  · have h2 : i < ys.length := by omega
    exact ⟨xs, ys, _, _, q.1, q.2, List.getElem?_eq_getElem hi, List.getElem?_eq_getElem h2⟩
  · obtain ⟨T, x, z, h1, h2, h3, h4, h5⟩ := y
    exact ⟨T, x, z, h1, h2, h3, h4 xs q.1, h5 ys q.2⟩
section
variable {P : Program} {w : World} {K : PySem.W.Frag} {mg : Str → Option Value} {base : Heap}
/-! ### is_form_of_expression, of a leaf -/
def FInv (K : PySem.W.Frag) (p : Addr) (v : V) (H0 : Hp) (m : Nat) (σ : L2.St) (H' : Hp) : Prop := ∃ (v2 v3 v4 : Option V), σ = [some v, some (.ref p), v2, v3, v4] ∧ ((m = 1 ∧ H' p = some (.lst [v])) ∨ (m = 0 ∧ H' p = some (.lst []))) ∧ Same H0 H'
def spIf (K : PySem.W.Frag) : Sp := fun vs H Q _ => ∃ (v : V) (l : Lf), vs = [v] ∧ Dp K H v (.tuple l.ds) ∧ l.ok ∧ ∀ H', Same H H' → Q (.bl true) H'
theorem scIf : FnScope ["told", "waiting", "parts", "part", "_"] ["told"] (defScope s_is_form_of_expression) := ⟨rfl, rfl, rfl, by decide +kernel, rfl, by decide +kernel, by decide +kernel⟩
theorem ok_is_form_of_expression (T : Txt K w mg) : FnOk P w K mg base CX0 5 (He.fAd K ("is_form_of_expression", none)) (fdAt K (He.fAd K ("is_form_of_expression", none))) ["told"] (spIf K) := by
  refine T.F_is_form_of_expression.ok scIf (fun vs H Q E h => ?_) (fun cdv A outer s H vs Q E hr h => ?_)
  · obtain ⟨v, l, rfl, _⟩ := h
    rfl
  · obtain ⟨v, l, rfl, hd, ok, kk⟩ := h
    refine ⟨_, PSs.nox (pss_cons (ps_set (i := 1) scIf.nd rfl (Or.inl rfl) (pe_lst (pa_cons (pv 0) pa_nil)))
      (pss_cons (ps_while PassesOwn.never (pt_truth (pv 1) (by intro _; rfl)) (pss_cons (ps_set (i := 2) scIf.nd rfl (Or.inl rfl) (pe_call (ok_parts T) (hr.mono (by omega)) (by rfl) T.g_parts (T.F_parts).kp T.b_parts .nil pass0 (pa_cons (pe_bm0 PySem.F.plainAttrs_list PySem.F.slot_list_pop PySem.F.type_list_pop mt_pop (pv 1)) (pa_cons pe_bl pa_nil))))
      (pss_cons (ps_if (pt_cmpR op_isN (pv 2) pe_non (nomark _)) (pss_one (ps_ret pe_bl)) pss_nil)
      (pss_one (ps_expr (pe_bm PySem.F.plainAttrs_list PySem.F.slot_list_extend PySem.F.type_list_extend mt_extend (pv 1) (pa_cons (pe_lc (own := [("part", 3), ("_", 4)]) (g := gTup K 2 (gCons (gName 3) (gCons (gName 4) gNil))) (tt := tYes) (by rfl) scIf.nd (pi_list (pv 2)) (blkOk_by (own := [("part", 3), ("_", 4)]) (N := ["told", "waiting", "parts", "part", "_"]) (sc := defScope s_is_form_of_expression) (by decide +kernel)) (fun _ _ _ _ _ => (pg_tup (by rfl) (pgs_cons (pg_name (i := 3) scIf.nd rfl (Or.inl rfl)) (pgs_cons (pg_name (i := 4) scIf.nd rfl (Or.inl rfl)) pgs_nil)))) (fun _ _ _ _ _ => pts_nil) (fun _ _ _ _ _ => (pv 3))) pa_nil)))))))
      (pss_one (ps_ret pe_bl)))), ?_⟩
    refine ⟨_, rfl, (show 1 ≤ sizeLine by decide), fun p np => ?_⟩
    refine ⟨FInv K p v H, ⟨1, none, none, none, rfl, .inl ⟨rfl, upd_same⟩, new_same np⟩, fun m σ H1 hW => ?_⟩
    obtain ⟨v2, v3, v4, rfl, hm, sm⟩ := hW
    rcases hm with ⟨rfl, hp1⟩ | ⟨rfl, hp1⟩
    · refine ⟨_, rfl, _, .inl ⟨[v], SqL.of hp1, rfl⟩, iteT ⟨fun σ' H' => ∃ m', m' < 1 ∧ FInv K p v H m' σ' H', fun _ _ h => h, ?_⟩⟩
      refine ⟨_, rfl, .inl ⟨rfl, _, SqL.of hp1⟩, p, _, v, rfl, rfl, hp1, rfl, ?_⟩
      have tf := TF.of_lst (o := .lst ([v] : List V).dropLast) hp1
      have hp2 : (upd H1 p (.lst ([v] : List V).dropLast)) p = some (.lst []) := upd_same
      have sm2 : Same H (upd H1 p (.lst ([v] : List V).dropLast)) := fun b o z => by rw [upd_ne (ne_of_none z np)]; exact sm _ _ z
      have hd2 := dp_nl ((same_tf sm).trans tf) _ _ (show NL (.tuple l.ds) from l.nl) hd
      obtain ⟨H2, hH2⟩ : ∃ X, X = upd H1 p (.lst ([v] : List V).dropLast) := ⟨_, rfl⟩
      rw [← hH2] at hp2 sm2 hd2 ⊢
      refine ⟨v, .tree (.leaf l), rfl, (show Dp K H2 v (Ex.leaf l).py by rw [l.py_leaf]; exact hd2), ok, (by show (Ex.leaf l).size ≤ 100; rw [Ex.size]; decide), fun q pv H3 hq hpv s3 nq => ?_⟩
      have hpv0 : pv = [] := by
        have := dpa_len hpv
        exact List.eq_nil_of_length_eq_zero this
      subst hpv0
      have hp3 := s3 _ _ hp2
      refine ⟨_, rfl, rfl, _, rfl, ite2 (fun z => nomatch of_decide_eq_true z) (fun _ => ?_)⟩
      refine ⟨_, rfl, .inl ⟨rfl, _, SqL.of hp3⟩, _, rfl, q, rfl, ⟨_, SqL.of hq⟩, fun D hD => ?_⟩
      refine lc_list (xs := []) (fun i H' => H' D = some (.lst []) ∧ Same H3 H') ⟨upd_same, new_same hD⟩ (fun i H' _ h => SqL.of (h.2 _ _ hq)) (fun i z H' hz2 hPv => by cases hz2) (fun H4 hPv => ?_)
      obtain ⟨hD4, s4⟩ := hPv
      have hp4 := s4 _ _ hp3
      refine ⟨p, D, [], [], rfl, rfl, hp4, hD4, by decide, 0, by decide, _, _, _, rfl, .inr ⟨rfl, upd_same⟩, fun b o z => ?_⟩
      rw [upd_ne (ne_of_none z np)]
      exact s4 _ _ (s3 _ _ (sm2 _ _ z))
    · refine ⟨_, rfl, _, .inl ⟨[], SqL.of hp1, rfl⟩, iteF (kk H1 sm)⟩
/-! ### _is_reading -/
theorem scIr : FnScope ["told", "part"] ["told"] (defScope s_is_reading) := ⟨rfl, rfl, rfl, by decide +kernel, rfl, by decide +kernel, by decide +kernel⟩
def spIr (K : PySem.W.Frag) : Sp := fun vs H Q _ => ∃ (v : V) (l : Lf), vs = [v] ∧ Dp K H v (.tuple l.ds) ∧ l.ok ∧ (∀ n, l ≠ .number n) ∧ ∀ H', Same H H' → Q (.bl true) H'
theorem ok_is_reading (T : Txt K w mg) : FnOk P w K mg base CX0 6 (He.fAd K ("_is_reading", none)) (fdAt K (He.fAd K ("_is_reading", none))) ["told"] (spIr K) := by
  refine T.F_is_reading.ok scIr (fun vs H Q E h => ?_) (fun cdv A outer s H vs Q E hr h => ?_)
  · obtain ⟨v, l, rfl, _⟩ := h
    rfl
  · obtain ⟨v, l, rfl, hd, ok, hnn, kk⟩ := h
    refine ⟨_, PSs.nox (pss_cons (ps_if (PW.pt (pw_or (pt_not (pt_val (pe_call (ok_is_form_of_expression T) (hr.mono (by decide)) (by rfl) T.g_is_form_of_expression (T.F_is_form_of_expression).kp T.b_is_form_of_expression .nil pass0 (pa_cons (pv 0) pa_nil)))) (pw_or1 (pt_cmpR op_eq (pe_ix (r := rIxT K) ix_tup (pv 0) pe_int (fun _ _ => rfl)) pe_str (nomark _))))) (pss_one (ps_ret pe_bl)) pss_nil)
      (pss_one (ps_ret (pe_not (pe_callB (cr_any rfl) (by rfl) T.n_any PyProof.Rows.Boot.«any» (pa_cons (pe_lc (own := [("part", 1)]) (g := gName 1) (tt := tYes) (by rfl) scIr.nd (pi_tup (pv 0)) (blkOk_by (own := [("part", 1)]) (N := ["told", "part"]) (sc := defScope s_is_reading) (by decide +kernel)) (fun _ _ _ _ _ => pg_name (i := 1) scIr.nd rfl (Or.inl rfl)) (fun _ _ _ _ _ => pts_nil) (fun _ _ _ _ _ => (pe_callB (r := rIsi K) call_isi (by rfl) T.n_isinstance PyProof.Rows.Boot.«isinstance» (pa_cons (pv 1) (pa_cons (pe_bltn (v := .ty "tuple") (by rfl) T.n_tuple PyProof.Rows.Boot.«tuple» rfl) pa_nil))))) pa_nil)))))), ?_⟩
    refine ⟨_, rfl, v, l, rfl, hd, ok, fun H1 s1 => ⟨true, rfl, ?_⟩⟩
    have hd1 := dp_nl (same_tf s1) _ _ (show NL (.tuple l.ds) from l.nl) hd
    rw [Lf.ds_eq] at hd1
    obtain ⟨ca, cx, rfl, sq, all⟩ := dp_tup hd1
    have h0 := dpa_str0 all
    have hn : decide (V.str l.nm = V.str "number") = false := by
      rcases l.num ok with ⟨n, h⟩ | h
      · exact absurd h (hnn n)
      · exact h.1
    refine iteF ⟨_, rfl, ca, _, _, _, rfl, rfl, sq, atI_nat (j := 0) h0, rfl, _, rfl, ite2 (fun z => absurd z (nf hn)) (fun _ => ?_)⟩
    refine ⟨_, rfl, ca, rfl, ⟨_, sq⟩, fun D hD => ?_⟩
    have hcl : cx.length = l.args.length + 1 := dpa_len all
    refine lc_tup (xs := cx) (fun j H' => H' D = some (.lst ((List.replicate j false).map V.bl)) ∧ Same H1 H') ⟨upd_same, new_same hD⟩ (fun j H' _ h => (same_tf h.2).sq sq) (fun j y H' hy hPv => ?_) (fun H2 hPv => ?_)
    · obtain ⟨hDl, sm⟩ := hPv
      have hjl := (List.getElem?_eq_some_iff.mp hy).1
      have atom : (∃ s, y = .str s) ∨ ∃ i, y = .int i := by
        obtain ⟨v, hv, dv⟩ := dpa_get all (show (PyData.str l.nm :: l.args)[j]? = some ((PyData.str l.nm :: l.args)[j]'(by rw [List.length_cons]; omega)) from List.getElem?_eq_getElem _)
        rw [hy] at hv
        cases hv
        rcases List.mem_cons.mp (List.getElem_mem (show j < (PyData.str l.nm :: l.args).length by rw [List.length_cons]; omega)) with h | h
        · rw [h] at dv
          cases dv
          exact .inl ⟨_, rfl⟩
        · rcases l.args_atom _ h with ⟨s, hs⟩ | ⟨i, hs⟩
          · rw [hs] at dv
            cases dv
            exact .inl ⟨_, rfl⟩
          · rw [hs] at dv
            cases dv
            exact .inr ⟨_, rfl⟩
      have al4 : l.args.length ≤ 4 := by cases l <;> simp [Lf.args]
      have fin : ∃ ys, H' D = some (.lst ys) ∧ ys.length < sizeLine ∧ (upd H' D (.lst (ys ++ [.bl false]))) D = some (.lst ((List.replicate (j + 1) false).map V.bl)) ∧ Same H1 (upd H' D (.lst (ys ++ [.bl false]))) := by
        refine ⟨_, hDl, ?_, ?_, fun b o z => ?_⟩
        · rw [List.length_map, List.length_replicate]
          exact Nat.lt_of_lt_of_le (show j < 100 by omega) (by decide)
        · rw [upd_same, List.replicate_succ', List.map_append]
          rfl
        · rw [upd_ne (ne_of_none z hD)]
          exact sm _ _ z
      refine ⟨rfl, ?_⟩
      dsimp only [tYes]
      rw [if_pos rfl]
      rcases atom with ⟨s, rfl⟩ | ⟨i, rfl⟩
      · exact ⟨_, rfl, _, _, _, _, _, rfl, .ty "tuple", .base (.str _), kit_ty (r := false) (by decide +kernel), fin⟩
      · exact ⟨_, rfl, _, _, _, _, _, rfl, .ty "tuple", .base (.int _), kit_ty (r := false) (by decide +kernel), fin⟩
    obtain ⟨hDl, sm⟩ := hPv
    refine ⟨D, _, rfl, SqL.of hDl, ?_⟩
    have e : (List.replicate cx.length false).any id = false := by simp
    rw [e]
    exact ⟨false, rfl, kk H2 (s1.trans sm)⟩
/-! ### _is_part -/
def prOk (s : Str) (d : PyData) : Prop := (s = "pushed" ∧ ∃ n, d = .int n ∧ lim n) ∨ (s = "reading" ∧ ∃ l : Lf, d = .tuple l.ds ∧ l.ok ∧ ∀ n, l ≠ .number n) ∨ (s = "joining" ∧ ∃ k, d = .str k ∧ (k = "not" ∨ k ∈ twos)) ∨ (s = "many" ∧ ∃ n : Nat, d = .int (n : Int)) ∨ ∃ n lo hi, d = .int n ∧ (s, [He.Dv.int lo, He.Dv.int hi]) ∈ v_RANGES ∧ lo ≤ n ∧ n ≤ hi
def spIp (K : PySem.W.Frag) : Sp := fun vs H Q _ => ∃ (s : Str) (v : V) (d : PyData), vs = [.str s, v] ∧ Dp K H v d ∧ prOk s d ∧ ∀ H', Same H H' → Q (.bl true) H'
theorem twos_not : ∀ s ∈ twos, decide (V.str s = V.str "not") = false := by decide
theorem ranges_part : ∀ q ∈ v_RANGES, decide (V.str q.1 = V.str "pushed") = false ∧ decide (V.str q.1 = V.str "reading") = false ∧ decide (V.str q.1 = V.str "joining") = false ∧ decide (V.str q.1 = V.str "many") = false := by decide
theorem scIp : FnScope ["wanted", "part", "low", "high"] ["wanted", "part"] (defScope s_is_part) := ⟨rfl, rfl, rfl, by decide +kernel, rfl, by decide +kernel, by decide +kernel⟩
theorem ok_is_part (T : Txt K w mg) : FnOk P w K mg base CX0 7 (He.fAd K ("_is_part", none)) (fdAt K (He.fAd K ("_is_part", none))) ["wanted", "part"] (spIp K) := by
  obtain ⟨es, n, DR⟩ := T.t_RANGES
  obtain ⟨uM, gM, rM⟩ := T.c_MOST
  refine T.F_is_part.ok scIp (fun vs H Q E h => ?_) (fun cdv A outer s H vs Q E hr h => ?_)
  · obtain ⟨s, v, d, rfl, _⟩ := h
    rfl
  · obtain ⟨s, v, d, rfl, hd, hs, kk⟩ := h
    have tws : ∀ H, SqT K H (He.ga K "TWO_SIDED") (twos.map V.str) := T.t_TWO_SIDED
    refine ⟨_, PSs.nox (pss_cons (ps_if (pt_cmpR op_eq (pv 0) pe_str (nomark _)) (pss_one (ps_ret (pe_call (ok_is_between T) (hr.mono (by decide)) (by rfl) T.g_is_between (T.F_is_between).kp T.b_is_between .nil pass0 (pa_cons (pv 1) (pa_cons (pe_un un_neg (pe_glob (v := .int 999999) (by rfl) gM rM)) (pa_cons (pe_glob (v := .int 999999) (by rfl) gM rM) pa_nil)))))) pss_nil)
      (pss_cons (ps_if (pt_cmpR op_eq (pv 0) pe_str (nomark _)) (pss_one (ps_ret (pe_call (ok_is_reading T) (hr.mono (by decide)) (by rfl) T.g_is_reading (T.F_is_reading).kp T.b_is_reading .nil pass0 (pa_cons (pv 1) pa_nil)))) pss_nil)
      (pss_cons (ps_if (pt_cmpR op_eq (pv 0) pe_str (nomark _)) (pss_one (ps_ret (pe_or (pe_cmpR op_eq (pv 1) pe_str (nomark _)) (pe_one (pe_cmpR (r := rIn K false) op_in_seq (pv 1) (pe_glob (v := .ref _) (by rfl) T.g_TWO_SIDED rfl) rfl))))) pss_nil)
      (pss_cons (ps_if (pt_cmpR op_eq (pv 0) pe_str (nomark _)) (pss_one (ps_ret (pe_and (pe_call (ok_is_whole T) (hr.mono (by decide)) (by rfl) T.g_is_whole (T.F_is_whole).kp T.b_is_whole .nil pass0 (pa_cons (pv 1) pa_nil)) (pe_one (pe_cmpR op_ge (pv 1) pe_int (nomark _)))))) pss_nil)
      (pss_cons (ps_asg (pe_ix (ix_kdict DR) (pe_glob (v := .ref (He.ga K "RANGES")) (by rfl) T.g_RANGES rfl) (pv 0) (fun _ _ => rfl)) (pg_tup (by rfl) (pgs_cons (pg_name (i := 2) scIp.nd rfl (Or.inl rfl)) (pgs_cons (pg_name (i := 3) scIp.nd rfl (Or.inl rfl)) pgs_nil))))
      (pss_one (ps_ret (pe_call (ok_is_between T) (hr.mono (by decide)) (by rfl) T.g_is_between (T.F_is_between).kp T.b_is_between .nil pass0 (pa_cons (pv 1) (pa_cons (pv 2) (pa_cons (pv 3) pa_nil))))))))))), ?_⟩
    rcases hs with ⟨rfl, n, rfl, hn⟩ | ⟨rfl, l, rfl, lok, hnn⟩ | ⟨rfl, k, rfl, hk⟩ | ⟨rfl, n, rfl⟩ | ⟨i, lo, hi, rfl, hm, h1, h2⟩
    · cases hd
      refine ⟨_, rfl, rfl, _, rfl, ite2 (fun _ => ?_) (fun z => absurd (by decide) z)⟩
      exact ⟨_, rfl, _, rfl, n, -999999, 999999, rfl, hn.1, hn.2, kk H (Same.refl H)⟩
    · refine ⟨_, rfl, rfl, _, rfl, ite2 (fun z => absurd z (by decide)) (fun _ => ?_)⟩
      refine ⟨_, rfl, rfl, _, rfl, ite2 (fun _ => ?_) (fun z => absurd (by decide) z)⟩
      exact ⟨_, rfl, v, l, rfl, hd, lok, hnn, kk⟩
    · cases hd
      refine ⟨_, rfl, rfl, _, rfl, ite2 (fun z => absurd z (by decide)) (fun _ => ?_)⟩
      refine ⟨_, rfl, rfl, _, rfl, ite2 (fun z => absurd z (by decide)) (fun _ => ?_)⟩
      refine ⟨_, rfl, rfl, _, rfl, ite2 (fun _ => ?_) (fun z => absurd (by decide) z)⟩
      have hk2 : k = "not" ∨ (decide (V.str k = V.str "not") = false ∧ k ∈ twos) := by
        rcases hk with rfl | hk
        · exact .inl rfl
        · exact .inr ⟨twos_not k hk, hk⟩
      rcases hk2 with rfl | ⟨e, hk⟩
      · exact ⟨_, rfl, rfl, true, rfl, kk H (Same.refl H)⟩
      · refine ⟨_, rfl, rfl, false, by rw [e], ?_⟩
        refine ⟨_, rfl, _, _, rfl, .inr (tws _), rfl, by decide, ?_⟩
        rw [twos_in k hk]
        exact kk H (Same.refl H)
    · cases hd
      refine ⟨_, rfl, rfl, _, rfl, ite2 (fun z => absurd z (by decide)) (fun _ => ?_)⟩
      refine ⟨_, rfl, rfl, _, rfl, ite2 (fun z => absurd z (by decide)) (fun _ => ?_)⟩
      refine ⟨_, rfl, rfl, _, rfl, ite2 (fun z => absurd z (by decide)) (fun _ => ?_)⟩
      refine ⟨_, rfl, rfl, _, rfl, ite2 (fun _ => ?_) (fun z => absurd (by decide) z)⟩
      refine ⟨_, rfl, (n : Int), rfl, true, rfl, ?_⟩
      refine ⟨_, rfl, _, _, rfl, rfl, ?_⟩
      have e : decide ((0 : Int) ≤ (n : Int)) = true := decide_eq_true (by omega)
      dsimp only
      rw [e]
      exact kk H (Same.refl H)
    · cases hd
      obtain ⟨r1, r2, r3, r4⟩ := ranges_part _ hm
      refine ⟨_, rfl, rfl, _, rfl, ite2 (fun z => absurd z (nf r1)) (fun _ => ?_)⟩
      refine ⟨_, rfl, rfl, _, rfl, ite2 (fun z => absurd z (nf r2)) (fun _ => ?_)⟩
      refine ⟨_, rfl, rfl, _, rfl, ite2 (fun z => absurd z (nf r3)) (fun _ => ?_)⟩
      refine ⟨_, rfl, rfl, _, rfl, ite2 (fun z => absurd z (nf r4)) (fun _ => ?_)⟩
      obtain ⟨hn, hsq⟩ := T.u_RANGES _ hm
      refine ⟨_, rfl, s, _, .ref (dtA K "RANGES" s), rfl, rfl, hn, rfl, ?_⟩
      refine ⟨_, _, rfl, hsq H, rfl, ?_⟩
      refine ⟨_, _, rfl, _, _, rfl, rfl, ?_⟩
      exact ⟨_, rfl, _, rfl, _, rfl, i, lo, hi, rfl, h1, h2, kk H (Same.refl H)⟩
/-! ### _has_form -/
def Th.fok : Th → Prop
  | .push n => lim n
  | .read l => l.ok ∧ ∀ n, l ≠ .number n
  | .act d => d.hok ∧ d.flat
  | .over _ => True
  | .nought _ => True
  | .op k => k = "not" ∨ k ∈ twos
theorem Th.form (t : Th) (ok : t.fok) : ∃ (nm : Str) (fm : List (Str × PyData)), t.ds = .str nm :: fm.map (·.2) ∧ (nm, fm.map fun q => He.Dv.str q.1) ∈ v_FORMS ∧ (∀ q ∈ fm, prOk q.1 q.2) ∧ fm.length ≤ 1 := by
  have one : ∀ (s : Str) (d : PyData), prOk s d → ∀ q ∈ [(s, d)], prOk q.1 q.2 := fun s d h q hq => by rw [List.mem_singleton.mp hq]; exact h
  cases t with
  | push n => exact ⟨"push", [("pushed", .int n)], rfl, by simp [v_FORMS], one _ _ (.inl ⟨rfl, n, rfl, ok⟩), Nat.le_refl _⟩
  | read l => exact ⟨"read", [("reading", .tuple l.ds)], rfl, by simp [v_FORMS], one _ _ (.inr (.inl ⟨rfl, l, rfl, ok.1, ok.2⟩)), Nat.le_refl _⟩
  | act d =>
    cases d with
    | own i a => exact ⟨"own", [("own", .int i)], rfl, by simp [v_FORMS], one _ _ (.inr (.inr (.inr (.inr ⟨i, 0, 3, rfl, by simp [v_RANGES], ok.1.1, ok.1.2⟩)))), Nat.le_refl _⟩
    | mark i a => exact ⟨"mark", [("mark", .int i)], rfl, by simp [v_FORMS], one _ _ (.inr (.inr (.inr (.inr ⟨i, 0, 15, rfl, by simp [v_RANGES], ok.1.1, ok.1.2⟩)))), Nat.le_refl _⟩
    | born k a b c d => exact ⟨"born", [("kind", .int k)], rfl, by simp [v_FORMS], one _ _ (.inr (.inr (.inr (.inr ⟨k, 0, 7, rfl, by simp [v_RANGES], ok.1.1, ok.1.2⟩)))), Nat.le_refl _⟩
    | go a b => exact ⟨"go", [], rfl, by simp [v_FORMS], fun q hq => (List.not_mem_nil hq).elim, Nat.zero_le _⟩
    | gone => exact ⟨"gone", [], rfl, by simp [v_FORMS], fun q hq => (List.not_mem_nil hq).elim, Nat.zero_le _⟩
    | when a b c => exact ok.2.elim
  | over n => exact ⟨"over", [("many", .int (n : Int))], rfl, by simp [v_FORMS], one _ _ (.inr (.inr (.inr (.inl ⟨rfl, n, rfl⟩)))), Nat.le_refl _⟩
  | nought n => exact ⟨"nought", [("many", .int (n : Int))], rfl, by simp [v_FORMS], one _ _ (.inr (.inr (.inr (.inl ⟨rfl, n, rfl⟩)))), Nat.le_refl _⟩
  | op k => exact ⟨"do", [("joining", .str k)], rfl, by simp [v_FORMS], one _ _ (.inr (.inr (.inl ⟨rfl, k, rfl, ok⟩))), Nat.le_refl _⟩
def spHf (K : PySem.W.Frag) : Sp := fun vs H Q _ => ∃ (v : V) (t : Th), vs = [v] ∧ Dp K H v t.py ∧ t.fok ∧ ∀ H', Same H H' → Q (.bl true) H'
theorem scHf : FnScope ["told", "form", "wanted", "part"] ["told"] (defScope s_has_form) := ⟨rfl, rfl, rfl, by decide +kernel, rfl, by decide +kernel, by decide +kernel⟩
theorem ok_has_form (T : Txt K w mg) : FnOk P w K mg base CX0 8 (He.fAd K ("_has_form", none)) (fdAt K (He.fAd K ("_has_form", none))) ["told"] (spHf K) := by
  obtain ⟨es, n, DE⟩ := T.t_FORMS
  refine T.F_has_form.ok scHf (fun vs H Q E h => ?_) (fun cdv A outer s H vs Q E hr h => ?_)
  · obtain ⟨v, t, rfl, _⟩ := h
    rfl
  · obtain ⟨v, t, rfl, hd, ok, kk⟩ := h
    refine ⟨_, PSs.nox (pss_cons (ps_if (PW.pt (pw_or (pt_not (pt_val (pe_callB (r := rIsi K) call_isi (by rfl) T.n_isinstance PyProof.Rows.Boot.«isinstance» (pa_cons (pv 0) (pa_cons (pe_bltn (v := .ty "tuple") (by rfl) T.n_tuple PyProof.Rows.Boot.«tuple» rfl) pa_nil))))) (pw_or (pt_not (pt_truth (pv 0) (by intro _; rfl))) (pw_or1 (pt_not (pt_val (pe_callB (r := rIsi K) call_isi (by rfl) T.n_isinstance PyProof.Rows.Boot.«isinstance» (pa_cons (pe_ix (r := rIxT K) ix_tup (pv 0) pe_int (fun _ _ => rfl)) (pa_cons (pe_bltn (v := .ty "str") (by rfl) T.n_str PyProof.Rows.Boot.«str» rfl) pa_nil))))))))) (pss_one (ps_ret pe_bl)) pss_nil)
      (pss_cons (ps_set (i := 1) scHf.nd rfl (Or.inl rfl) (pe_kget DE (pe_glob (v := .ref (He.ga K "FORMS")) (by rfl) T.g_FORMS rfl) (pe_ix (r := rIxT K) ix_tup (pv 0) pe_int (fun _ _ => rfl)) ⟨rfl, rfl, rfl, rfl⟩))
      (pss_cons (ps_if (PW.pt (pw_or (pt_cmpR op_isN (pv 1) pe_non (nomark _)) (pw_or1 (pt_cmpR op_ne (pe_callB (r := Evl.rLenS K) call_len_seq (by rfl) T.n_len PyProof.Rows.Boot.«len» (pa_cons (pv 1) pa_nil)) (pe_op op_sub (pe_callB (r := Evl.rLenS K) call_len_seq (by rfl) T.n_len PyProof.Rows.Boot.«len» (pa_cons (pv 0) pa_nil)) pe_int) (nomark _))))) (pss_one (ps_ret pe_bl)) pss_nil)
      (pss_one (ps_ret (pe_callB (cr_all rfl) (by rfl) T.n_all PyProof.Rows.Boot.«all» (pa_cons (pe_lc (own := [("wanted", 2), ("part", 3)]) (g := gTup K 2 (gCons (gName 2) (gCons (gName 3) gNil))) (tt := tYes) (by rfl) scHf.nd (RZ.pi_zipA (by rfl) T.n_zip (pa_cons (pv 1) (pa_cons (pe_slice sl_tup (pv 0) (po_some pe_int) po_none) pa_nil))) (blkOk_by (own := [("wanted", 2), ("part", 3)]) (N := ["told", "form", "wanted", "part"]) (sc := defScope s_has_form) (by decide +kernel)) (fun _ _ _ _ _ => (pg_tup (by rfl) (pgs_cons (pg_name (i := 2) scHf.nd rfl (Or.inl rfl)) (pgs_cons (pg_name (i := 3) scHf.nd rfl (Or.inl rfl)) pgs_nil)))) (fun _ _ _ _ _ => pts_nil) (fun _ _ _ _ _ => (pe_call (ok_is_part T) (hr.mono (by decide)) (by rfl) T.g_is_part (T.F_is_part).kp T.b_is_part .nil pass0 (pa_cons (pv 2) (pa_cons (pv 3) pa_nil))))) pa_nil))))))), ?_⟩
    obtain ⟨nm, fm, hds, hmem, hfm, hlen⟩ := t.form ok
    obtain ⟨hfget, hsq⟩ := T.u_FORMS _ hmem
    rw [Th.py, hds] at hd
    obtain ⟨ca, xs, rfl, sq, all⟩ := dp_tup hd
    cases all with
    | @cons v0 vs0 _ _ hz0 all =>
    cases hz0
    have hal : vs0.length = fm.length := by rw [dpa_len all, List.length_map]
    refine ⟨_, rfl, _, _, _, _, _, rfl, .ty "tuple", ty_tup sq, kit_ty (r := true) (by decide +kernel), _, rfl, iteF ?_⟩
    refine ⟨_, rfl, true, ?_, iteF ?_⟩
    · exact .inr (.inl ⟨_, sq, rfl⟩)
    refine ⟨_, rfl, ca, _, _, _, rfl, rfl, sq, atI_nat (j := 0) rfl, _, _, _, _, _, rfl, .ty "str", .base (.str _), kit_ty (r := true) (by decide +kernel), _, rfl, iteF ?_⟩
    refine ⟨rfl, _, rfl, ca, _, _, _, rfl, rfl, sq, atI_nat (j := 0) rfl, nm, _, .ref _, rfl, hfget, rfl, ?_⟩
    have hfv : ((fm.map fun q => He.Dv.str q.1)).map (He.Dv.v K) = fm.map fun q => V.str q.1 := by
      rw [List.map_map]
      rfl
    have hsq : ∀ H, SqT K H (dtA K "FORMS" nm) (fm.map fun q => V.str q.1) := fun H => by
      have := hsq H
      rw [hfv] at this
      exact this
    refine ⟨_, rfl, rfl, _, rfl, ite2 (fun z => nomatch of_decide_eq_true z) (fun _ => ?_)⟩
    refine ⟨_, rfl, _, _, rfl, .inr (hsq _), _, rfl, ca, _, rfl, .inr sq, _, _, rfl, rfl, ?_⟩
    have hlenE : ((fm.map fun q => V.str q.1).length : Int) = (((V.str nm :: vs0).length : Nat) : Int) - 1 := by
      rw [List.length_map, List.length_cons, hal]
      omega
    have hne : (!decide (V.int ((fm.map fun q => V.str q.1).length : Int) = V.int ((((V.str nm :: vs0).length : Nat) : Int) - 1))) = false := by
      rw [hlenE, decide_eq_true rfl]
      rfl
    refine ⟨rfl, _, rfl, ite2 (fun z => absurd z (nf' hne)) (fun _ => ?_)⟩
    refine ⟨_, rfl, _, rfl, 1, rfl, ca, _, rfl, sq, fun h => ?_, fun q nq => ?_⟩
    · have h1 := h.1
      rw [show (1 : Int) = ((1 : Nat) : Int) from rfl, HT.sIx_nat, List.length_cons] at h1
      omega
    have s2 := new_same (o := .tup (cutV (V.str nm :: vs0) (some 1) none)) nq
    have hcut : cutV (V.str nm :: vs0) (some 1) none = vs0 := by
      unfold cutV
      rw [show (1 : Int) = ((1 : Nat) : Int) from rfl, HT.sIx_nat, HT.sIx_none, List.length_cons, Nat.min_eq_left (by omega)]
      simp
    rw [hcut] at s2 ⊢
    have nls : NLs (fm.map (·.2)) := by
      have := t.nl
      rw [Th.py, hds] at this
      exact this.2
    have sqq : SqT K (upd H q (.tup vs0)) q vs0 := SqT.of upd_same
    have all2 := dpa_nl (same_tf s2) _ _ nls all
    obtain ⟨H2, hH2⟩ : ∃ X, X = upd H q (.tup vs0) := ⟨_, rfl⟩
    rw [← hH2] at s2 sqq all2 ⊢
    refine ⟨_, q, (fm.map fun z : Str × PyData => V.str z.1), vs0, rfl, .inr ⟨hsq _, sqq, ?_⟩⟩
    intro D hD
    refine L2.lc_it (walk_zipT (by rw [List.length_map, hal])) (fun i H' => H' D = some (.lst ((List.replicate i true).map V.bl)) ∧ Same H2 H') ⟨upd_same, new_same hD⟩ (fun i H' _ h => ⟨hsq _, (same_tf h.2).sq sqq⟩) (fun i x H' H'' hi hPv hy => ?_) (fun H' hPv => ?_)
    · obtain ⟨hDl, sm⟩ := hPv
      obtain ⟨T1, x1, y1, rfl, nT, rfl, e1, e2⟩ := hy
      have hi2 : i < fm.length := by rw [List.length_map] at hi; exact hi
      have e1 : (fm.map fun z : Str × PyData => V.str z.1)[i]? = some x1 := e1
      have e2 : vs0[i]? = some y1 := e2
      rw [List.getElem?_map, List.getElem?_eq_getElem hi2] at e1
      cases e1
      obtain ⟨v', hv', dv'⟩ := dpa_get all2 (show (fm.map (·.2))[i]? = some (fm[i]).2 by rw [List.getElem?_map, List.getElem?_eq_getElem hi2]; rfl)
      rw [e2] at hv'
      cases hv'
      have sT := new_same (o := .tup [V.str (fm[i]).1, y1]) nT
      refine ⟨T1, _, rfl, SqT.of upd_same, rfl, _, _, rfl, _, _, rfl, rfl, rfl, ?_⟩
      dsimp only [tYes]
      rw [if_pos rfl]
      have nl1 : NL (fm[i]).2 := by
        have h : ∀ (l : List (Str × PyData)) (j : Nat) (hj : j < l.length), NLs (l.map (·.2)) → NL (l[j]).2 := by
          intro l
          induction l with
          | nil => intro j hj; cases hj
          | cons a l ih =>
            intro j hj hn
            cases j with
            | zero => exact hn.1
            | succ j => exact ih j (Nat.lt_of_succ_lt_succ hj) hn.2
        exact h fm i hi2 nls
      refine ⟨_, rfl, _, rfl, (fm[i]).1, y1, (fm[i]).2, rfl, dp_nl (same_tf (sm.trans sT)) _ _ nl1 dv', hfm _ (List.getElem_mem hi2), fun H4 s4 => ⟨_, s4 _ _ (sT _ _ hDl), ?_, ?_, fun b o z => ?_⟩⟩
      · rw [List.length_map, List.length_replicate]
        exact Nat.lt_of_lt_of_le (show i < 100 by omega) (by decide)
      · rw [upd_same, List.replicate_succ', List.map_append]
        rfl
      · rw [upd_ne (ne_of_none z hD)]
        exact s4 _ _ (sT _ _ (sm _ _ z))
    · obtain ⟨hDl, sm⟩ := hPv
      refine ⟨D, _, rfl, SqL.of hDl, ?_⟩
      have e : (List.replicate (fm.map fun z : Str × PyData => V.str z.1).length true).all id = true := by simp
      rw [e]
      exact kk H' (s2.trans sm)
end
end K5
set_option maxRecDepth 100000
set_option maxHeartbeats 2000000
/-! Where a code leads, how high its row stands. -/
namespace K5
open PySem PySem.Spec PyProof.Rows L2 KF KD
/-- the places behind -/
def Th.bh (t : Th) (i : Nat) : List Nat := match t with
  | .over n => [i + 1 + n]
  | .nought n => [i + 1, i + 1 + n]
  | _ => [i + 1]
def Th.gv : Th → Nat
  | .push _ => 1
  | .read _ => 1
  | .op _ => 1
  | _ => 0
def natsV (ns : List Nat) : List V := ns.map fun n : Nat => V.int (n : Int)
section
variable {P : Program} {w : World} {K : PySem.W.Frag} {mg : Str → Option Value} {base : Heap}
theorem Cd.get {K : PySem.W.Frag} {H : Hp} {t : Addr} {c : List Th} {i : Nat} {th : Th} (h : Cd K H t c) (e : c[i]? = some th) : ∃ xs v, SqT K H t xs ∧ xs.length = c.length ∧ xs[i]? = some v ∧ Dp K H v th.py := by
  obtain ⟨xs, sq, da⟩ := h
  obtain ⟨v, hv, dv⟩ := dpa_get da (show (c.map Th.py)[i]? = some th.py by rw [List.getElem?_map, e]; rfl)
  exact ⟨xs, v, sq, by rw [dpa_len da, List.length_map], hv, dv⟩
def spLed (K : PySem.W.Frag) : Sp := fun vs H Q _ => ∃ (t : Addr) (c : List Th) (i n : Nat) (th : Th), vs = [.ref t, .int (i : Int)] ∧ Cd K H t c ∧ c[i]? = some th ∧ (th = .over n ∨ th = .nought n) ∧ Q (.int ((i + 1 + n : Nat) : Int)) H
theorem scLd : FnScope ["code", "place"] ["code", "place"] (defScope s_led_to) := ⟨rfl, rfl, rfl, by decide +kernel, rfl, by decide +kernel, by decide +kernel⟩
theorem ok_led_to (T : Txt K w mg) : FnOk P w K mg base CX0 1 (He.fAd K ("led_to", none)) (fdAt K (He.fAd K ("led_to", none))) ["code", "place"] (spLed K) := by
  refine T.F_led_to.ok scLd (fun vs H Q E h => ?_) (fun cdv A outer s H vs Q E hr h => ?_)
  · obtain ⟨t, c, i, n, th, rfl, _⟩ := h
    rfl
  · obtain ⟨t, c, i, n, th, rfl, hc, hi, hth, kk⟩ := h
    refine ⟨_, PSs.nox (pss_one (ps_ret (pe_op op_add (pe_op op_add (pv 1) pe_int) (pe_ix (r := rIxT K) ix_tup (pe_ix (r := rIxT K) ix_tup (pv 0) (pv 1) (fun _ _ => rfl)) pe_int (fun _ _ => rfl))))), ?_⟩
    obtain ⟨xs, v, sq, _, hv, dv⟩ := hc.get hi
    have e1 : ∃ s, th.py = .tuple [.str s, .int (n : Int)] := by
      rcases hth with rfl | rfl
      · exact ⟨_, rfl⟩
      · exact ⟨_, rfl⟩
    obtain ⟨s0, e1⟩ := e1
    rw [e1] at dv
    obtain ⟨ca, cx, rfl, sq1, all⟩ := dp_tup dv
    cases all with
    | cons h0 all =>
    cases all with
    | cons h1 all =>
    cases all
    cases h0
    cases h1
    rw [Int.natCast_add, Int.natCast_add] at kk
    exact ⟨_, rfl, _, _, rfl, rfl, _, rfl, _, rfl, t, _, _, _, rfl, rfl, sq, atI_nat hv, ca, _, _, _, rfl, rfl, sq1, atI_nat (j := 1) rfl, _, _, rfl, rfl, kk⟩
def spPb (K : PySem.W.Frag) : Sp := fun vs H Q _ => ∃ (t : Addr) (c : List Th) (i : Nat) (th : Th), vs = [.ref t, .int (i : Int)] ∧ Cd K H t c ∧ c[i]? = some th ∧ (∀ d, th = .act d → d.flat) ∧ ∀ p, H p = none → Q (.ref p) (upd H p (.tup (natsV (th.bh i))))
theorem scPb : FnScope ["code", "place"] ["code", "place"] (defScope s_places_behind) := ⟨rfl, rfl, rfl, by decide +kernel, rfl, by decide +kernel, by decide +kernel⟩
theorem ok_places_behind (T : Txt K w mg) : FnOk P w K mg base CX0 2 (He.fAd K ("places_behind", none)) (fdAt K (He.fAd K ("places_behind", none))) ["code", "place"] (spPb K) := by
  refine T.F_places_behind.ok scPb (fun vs H Q E h => ?_) (fun cdv A outer s H vs Q E hr h => ?_)
  · obtain ⟨t, c, i, th, rfl, _⟩ := h
    rfl
  · obtain ⟨t, c, i, th, rfl, hc, hi, hfl, kk⟩ := h
    refine ⟨_, PSs.nox (pss_cons (ps_if (pt_cmpR op_eq (pe_ix (r := rIxT K) ix_tup (pe_ix (r := rIxT K) ix_tup (pv 0) (pv 1) (fun _ _ => rfl)) pe_int (fun _ _ => rfl)) pe_str (nomark _)) (pss_one (ps_ret (pe_tup (pa_cons (pe_call (ok_led_to T) (hr.mono (by omega)) (by rfl) T.g_led_to (T.F_led_to).kp T.b_led_to .nil pass0 (pa_cons (pv 0) (pa_cons (pv 1) pa_nil))) pa_nil)))) pss_nil)
      (pss_cons (ps_if (pt_cmpR op_eq (pe_ix (r := rIxT K) ix_tup (pe_ix (r := rIxT K) ix_tup (pv 0) (pv 1) (fun _ _ => rfl)) pe_int (fun _ _ => rfl)) pe_str (nomark _)) (pss_one (ps_ret (pe_tup (pa_cons (pe_op op_add (pv 1) pe_int) (pa_cons (pe_call (ok_led_to T) (hr.mono (by omega)) (by rfl) T.g_led_to (T.F_led_to).kp T.b_led_to .nil pass0 (pa_cons (pv 0) (pa_cons (pv 1) pa_nil))) pa_nil))))) pss_nil)
      (pss_one (ps_ret (pe_tup (pa_cons (pe_op op_add (pv 1) pe_int) pa_nil)))))), ?_⟩
    obtain ⟨xs, v, sq, _, hv, dv⟩ := hc.get hi
    have nm : (∃ n, th = .over n) ∨ (∃ n, th = .nought n) ∨ ∃ s rest, th.ds = .str s :: rest ∧ decide (V.str s = V.str "over") = false ∧ decide (V.str s = V.str "nought") = false ∧ th.bh i = [i + 1] := by
      cases th with
      | over n => exact .inl ⟨n, rfl⟩
      | nought n => exact .inr (.inl ⟨n, rfl⟩)
      | act d =>
        obtain ⟨s, rest, h1, h2, h3, _⟩ := d.hd_nm5 (hfl d rfl)
        exact .inr (.inr ⟨s, rest, h1, h2, h3, rfl⟩)
      | _ => exact .inr (.inr ⟨_, _, rfl, by rfl, by rfl, rfl⟩)
    have i1 : ((i : Int) + 1) = ((i + 1 : Nat) : Int) := rfl
    rcases nm with ⟨n, rfl⟩ | ⟨n, rfl⟩ | ⟨s0, rest, hds, h1, h2, hb⟩
    · obtain ⟨ca, cx, rfl, sq1, all⟩ := dp_tup dv
      have h0 : cx[0]? = some (.str "over") := dpa_str0 all
      refine ⟨_, rfl, _, rfl, t, _, _, _, rfl, rfl, sq, atI_nat hv, ca, _, _, _, rfl, rfl, sq1, atI_nat (j := 0) h0, rfl, _, rfl, ite2 (fun _ => ?_) (fun z => absurd (by decide) z)⟩
      exact ⟨_, rfl, _, rfl, t, c, i, n, _, rfl, hc, hi, .inl rfl, (show 1 ≤ sizeLine by decide), fun p np => kk p np⟩
    · obtain ⟨ca, cx, rfl, sq1, all⟩ := dp_tup dv
      have h0 : cx[0]? = some (.str "nought") := dpa_str0 all
      refine ⟨_, rfl, _, rfl, t, _, _, _, rfl, rfl, sq, atI_nat hv, ca, _, _, _, rfl, rfl, sq1, atI_nat (j := 0) h0, rfl, _, rfl, ite2 (fun z => absurd z (by decide)) (fun _ => ?_)⟩
      refine ⟨_, rfl, _, rfl, t, _, _, _, rfl, rfl, sq, atI_nat hv, ca, _, _, _, rfl, rfl, sq1, atI_nat (j := 0) h0, rfl, _, rfl, ite2 (fun _ => ?_) (fun z => absurd (by decide) z)⟩
      exact ⟨_, rfl, _, _, rfl, rfl, _, rfl, _, rfl, t, c, i, n, _, rfl, hc, hi, .inr rfl, (show 2 ≤ sizeLine by decide), fun p np => kk p np⟩
    · rw [Th.py, hds] at dv
      obtain ⟨ca, cx, rfl, sq1, all⟩ := dp_tup dv
      have h0 : cx[0]? = some (.str s0) := dpa_str0 all
      refine ⟨_, rfl, _, rfl, t, _, _, _, rfl, rfl, sq, atI_nat hv, ca, _, _, _, rfl, rfl, sq1, atI_nat (j := 0) h0, rfl, _, rfl, ite2 (fun z => absurd z (nf h1)) (fun _ => ?_)⟩
      refine ⟨_, rfl, _, rfl, t, _, _, _, rfl, rfl, sq, atI_nat hv, ca, _, _, _, rfl, rfl, sq1, atI_nat (j := 0) h0, rfl, _, rfl, ite2 (fun z => absurd z (nf h2)) (fun _ => ?_)⟩
      rw [hb] at kk
      exact ⟨_, rfl, _, _, rfl, rfl, (show 1 ≤ sizeLine by decide), fun p np => kk p np⟩
/-! ### _has_fitting_rows -/
theorem seq_cut {a b : TS} {D : Ends} {σ : L2.St} {H : Hp} (Pv : L2.St → Hp → Prop) (hb : ∀ σ' H', Pv σ' H' → b D σ' H') (ha : ∀ R : L2.St → Hp → Prop, (∀ σ' H', Pv σ' H' → R σ' H') → a { D with nx := R } σ H) : tSeq a b D σ H := ha _ hb
theorem Th.gv_nm (t : Th) (hfl : ∀ d, t = .act d → d.flat) : ∃ s rest, t.ds = .str s :: rest ∧ ((t.gv = 1 ∧ inV (V.str s) [.str "push", .str "read", .str "do"] = true) ∨ (t.gv = 0 ∧ inV (V.str s) [.str "push", .str "read", .str "do"] = false)) := by
  cases t with
  | push n => exact ⟨_, _, rfl, .inl ⟨rfl, by decide⟩⟩
  | read l => exact ⟨_, _, rfl, .inl ⟨rfl, by decide⟩⟩
  | op k => exact ⟨_, _, rfl, .inl ⟨rfl, by decide⟩⟩
  | over n => exact ⟨_, _, rfl, .inr ⟨rfl, by decide⟩⟩
  | nought n => exact ⟨_, _, rfl, .inr ⟨rfl, by decide⟩⟩
  | act d =>
    cases d with
    | when a b c => exact (hfl _ rfl).elim
    | own i a => exact ⟨_, _, rfl, .inr ⟨rfl, by decide⟩⟩
    | mark i a => exact ⟨_, _, rfl, .inr ⟨rfl, by decide⟩⟩
    | go a b => exact ⟨_, _, rfl, .inr ⟨rfl, by decide⟩⟩
    | born k a b c d => exact ⟨_, _, rfl, .inr ⟨rfl, by decide⟩⟩
    | gone => exact ⟨_, _, rfl, .inr ⟨rfl, by decide⟩⟩
/-- h tells how high the row stands at each place that is reached -/
def Fits (h : Nat → Option Nat) (c : List Th) : Prop := h 0 = some 0 ∧ ∀ i t n, c[i]? = some t → h i = some n → t.ar ≤ n ∧ ∀ j ∈ t.bh i, h j = some (n - t.ar + t.gv)
def HOk (h : Nat → Option Nat) (kvs : List (Key × V)) : Prop := ∀ k v, valV kvs k = some v → ∃ j n : Nat, k = .inl (j : Int) ∧ v = .int (n : Int) ∧ h j = some n
def spFr (K : PySem.W.Frag) : Sp := fun vs H Q _ => ∃ (t : Addr) (c : List Th) (h : Nat → Option Nat), vs = [.ref t] ∧ Cd K H t c ∧ Fits h c ∧ (∀ d, .act d ∈ c → d.flat) ∧ c.length ≤ 1000 ∧ ∀ H', Same H H' → Q (.bl true) H'
theorem scFr : FnScope ["code", "heights", "place", "thing", "height", "target"] ["code"] (defScope s_has_fitting_rows) := ⟨rfl, rfl, rfl, by decide +kernel, rfl, by decide +kernel, by decide +kernel⟩
theorem ok_has_fitting_rows (T : Txt K w mg) : FnOk P w K mg base CX0 3 (He.fAd K ("_has_fitting_rows", none)) (fdAt K (He.fAd K ("_has_fitting_rows", none))) ["code"] (spFr K) := by
  refine T.F_has_fitting_rows.ok scFr (fun vs H Q E h => ?_) (fun cdv A outer s H vs Q E hr h => ?_)
  · obtain ⟨t, c, h, rfl, _⟩ := h
    rfl
  · obtain ⟨t, c, h, rfl, hc, hf, hfl, hl, kk⟩ := h
    have hu := Nat.lt_of_le_of_lt (Nat.add_le_add_left (by decide : 1 ≤ 64) _) hr.units
    refine ⟨_, PSs.nox (pss_cons (ps_set (i := 1) scFr.nd rfl (Or.inl rfl) (pe_disp (pps_cons pe_int pe_int pps_nil) (by rfl) (by rfl) (fun z => by cases z) (by decide)))
      (pss_cons (ps_for PassesOwn.never rfl (pi_enT (by rfl) T.n_enumerate (pa_cons (pv 0) pa_nil)) (pg_tup (by rfl) (pgs_cons (pg_name (i := 2) scFr.nd rfl (Or.inl rfl)) (pgs_cons (pg_name (i := 3) scFr.nd rfl (Or.inl rfl)) pgs_nil))) (pss_cons (ps_if (pt_cmp (pc_dnotin hu (pv 2) (pv 1))) (pss_one ps_continue) pss_nil)
      (pss_cons (ps_set (i := 4) scFr.nd rfl (Or.inl rfl) (pe_op op_sub (pe_dget hu (pv 1) (pv 2) (fun _ _ => rfl)) (pe_call (ok_taken_by T) (hr.mono (by omega)) (by rfl) T.g_taken_by (T.F_taken_by).kp T.b_taken_by .nil pass0 (pa_cons (pv 3) pa_nil))))
      (pss_cons (ps_if (pt_cmpR op_lt (pv 4) pe_int (nomark _)) (pss_one (ps_ret pe_bl)) pss_nil)
      (pss_cons (ps_if (pt_cmpR (r := rIn K false) op_in_seq (pe_ix (r := rIxT K) ix_tup (pv 3) pe_int (fun _ _ => rfl)) (pe_glob (v := .ref _) (by rfl) T.g_GIVEN rfl) rfl) (pss_one (ps_aug (i := 4) scFr.nd rfl (Or.inl rfl) pe_int ip_add)) pss_nil)
      (pss_one (ps_for PassesOwn.never rfl (pi_tup (pe_call (ok_places_behind T) (hr.mono (by omega)) (by rfl) T.g_places_behind (T.F_places_behind).kp T.b_places_behind .nil pass0 (pa_cons (pv 0) (pa_cons (pv 2) pa_nil)))) (pg_name (i := 5) scFr.nd rfl (Or.inl rfl)) (pss_one (ps_if (pt_cmpR op_ne (pe_dsetd (pv 1) (pv 5) (pv 4) ⟨rfl, rfl, rfl, rfl⟩) (pv 4) (nomark _)) (pss_one (ps_ret pe_bl)) pss_nil)))))))))
      (pss_one (ps_ret pe_bl)))), ?_⟩
    intro mk nmk
    refine ⟨upd_same, [(.inl 0, .int 0)], rfl, (show 1 ≤ 15 by decide), ?_⟩
    have em : mergeK [] ([(.inl 0, .int 0)] : List (Key × V)) = [(.inl 0, .int 0)] := rfl
    rw [em]
    have s0 : Same H (upd (upd H mk (.dK [])) mk (.dK [(.inl 0, .int 0)])) := fun b o z => by
      rw [upd_ne (ne_of_none z nmk), upd_ne (ne_of_none z nmk)]
      exact z
    have hmk0 : (upd (upd H mk (.dK [])) mk (.dK [(.inl 0, .int 0)])) mk = some (.dK [(.inl 0, .int 0)]) := upd_same
    obtain ⟨H1, hH1⟩ : ∃ X, X = upd (upd H mk (.dK [])) mk (.dK [(.inl 0, .int 0)]) := ⟨_, rfl⟩
    rw [← hH1] at s0 hmk0 ⊢
    have hc1 := hc.tf (same_tf s0)
    obtain ⟨xs, sq, da⟩ := hc1
    have hxl : xs.length = c.length := by rw [dpa_len da, List.length_map]
    have gsq : ∀ H, SqT K H (He.ga K "GIVEN") [.str "push", .str "read", .str "do"] := T.t_GIVEN
    refine ⟨_, rfl, t, xs, rfl, sq, ?_⟩
    refine L2.for_it KD.walk_ity (fun i σ H' => ∃ (v2 v3 v4 v5 : Option V) (kvs : List (Key × V)), σ = [some (.ref t), some (.ref mk), v2, v3, v4, v5] ∧ H' mk = some (.dK kvs) ∧ HOk h kvs ∧ kvs.length ≤ 1 + 2 * i ∧ Frm mk H1 H') ⟨_, _, _, _, _, rfl, hmk0, fun k v hv => ?_, by simp, Frm.refl _ _⟩ (fun i σ H' _ hP => by obtain ⟨_, _, _, _, _, _, _, _, _, fr⟩ := hP; exact (Frm.tfd fr hmk0).sq sq) (fun i x σ H' H'' hi hPv hy => ?_) (fun σ H' hPv => ?_)
    · by_cases e : (Sum.inl (0 : Int) : Key) = k
      · rw [valV_pos (p := ((Sum.inl (0 : Int) : Key), V.int 0)) e] at hv
        cases hv
        exact ⟨0, 0, e.symm, rfl, hf.1⟩
      · rw [valV_neg (p := ((Sum.inl (0 : Int) : Key), V.int 0)) e] at hv
        cases hv
    · obtain ⟨v2, v3, v4, v5, kvs, rfl, hmk, hok, hkl, fr⟩ := hPv
      obtain ⟨T1, x1, y1, rfl, nT, rfl, e1, e2⟩ := hy
      have e1 : some (V.int (0 + ((i : Nat) : Int))) = some x1 := e1
      have e2 : xs[i]? = some y1 := e2
      rw [Int.zero_add] at e1
      cases e1
      have hic : i < c.length := by omega
      have hi2 : c[i]? = some c[i] := List.getElem?_eq_getElem hic
      have hmem := List.getElem_mem hic
      obtain ⟨th, hth⟩ : ∃ th, th = c[i] := ⟨_, rfl⟩
      rw [← hth] at hi2 hmem
      have sT := new_same (o := .tup [V.int (i : Int), y1]) nT
      have fr2 : Frm mk H1 (upd H' T1 (.tup [V.int (i : Int), y1])) := fr.trans (Frm.of_new nT)
      have hmk2 := sT _ _ hmk
      have tf2 := Frm.tfd fr2 hmk0
      have hc2 : Cd K _ t c := ⟨xs, tf2.sq sq, dpa_nl tf2 _ _ (nls_th _) da⟩
      obtain ⟨xs', v', sq', hl', hv', dv'⟩ := hc2.get hi2
      obtain ⟨v0, hv0, dv0⟩ := dpa_get da (show (c.map Th.py)[i]? = some th.py by rw [List.getElem?_map, hi2]; rfl)
      rw [e2] at hv0
      cases hv0
      have dv := dp_nl tf2 _ _ th.nl dv0
      obtain ⟨H2, hH2⟩ : ∃ X, X = upd H' T1 (.tup [V.int (i : Int), y1]) := ⟨_, rfl⟩
      have sqT : SqT K H2 T1 [V.int (i : Int), y1] := by rw [hH2]; exact SqT.of upd_same
      rw [← hH2] at fr2 hmk2 tf2 hc2 dv ⊢
      have dg : DGet H2 mk (.int (i : Int)) (valV kvs (.inl (i : Int))) := DGet.k (k := .inl (i : Int)) hmk2
      refine ⟨T1, _, rfl, sqT, rfl, _, _, rfl, _, _, rfl, rfl, ?_⟩
      refine ⟨_, rfl, _, rfl, mk, _, rfl, dg, _, rfl, ?_⟩
      cases hval : valV kvs (.inl (i : Int)) with
      | none => exact iteT ⟨_, _, _, _, kvs, rfl, hmk2, hok, by omega, fr2⟩
      | some v =>
        rw [hval] at dg
        obtain ⟨j, n, hj, rfl, hh⟩ := hok _ _ hval
        have hj : j = i := by
          injection hj with hj
          omega
        subst hj
        obtain ⟨har, hbh⟩ := hf.2 _ _ _ hi2 hh
        refine iteF ⟨_, rfl, _, rfl, mk, _, rfl, dg, _, rfl, y1, th, rfl, dv, (fun d hd => hfl d (by rw [← hd]; exact hmem)), _, _, rfl, rfl, ?_⟩
        have hfl1 : ∀ d, th = .act d → d.flat := fun d hd => hfl d (by rw [← hd]; exact hmem)
        have hsub : (n : Int) - (th.ar : Int) = ((n - th.ar : Nat) : Int) := by omega
        obtain ⟨s1, rest, hds, hgv⟩ := th.gv_nm hfl1
        rw [Th.py, hds] at dv
        obtain ⟨ca, cx, rfl, sqc, allc⟩ := dp_tup dv
        have h0 : cx[0]? = some (.str s1) := dpa_str0 allc
        obtain ⟨m, hm⟩ : ∃ m, m = n - th.ar + th.gv := ⟨_, rfl⟩
        rw [← hm] at hbh
        dsimp only [gName]
        rw [hsub]
        refine ⟨_, rfl, _, _, rfl, rfl, _, rfl, ite2 (fun z => absurd (of_decide_eq_true z) (by omega)) (fun _ => ?_)⟩
        dsimp only [tNext]
        refine seq_cut (fun σ' H' => σ' = [some (.ref t), some (.ref mk), some (.int (j : Int)), some (.ref ca), some (.int (m : Int)), v5] ∧ H' = H2) (fun σ' H' hP => ?_) (fun R hR => ?_)
        rotate_left
        · refine ⟨_, rfl, ca, _, _, _, rfl, rfl, sqc, atI_nat (j := 0) h0, _, _, rfl, .inr (gsq _), rfl, by decide, _, rfl, ?_⟩
          rcases hgv with ⟨g1, g2⟩ | ⟨g1, g2⟩
          · rw [g2]
            refine iteT ⟨_, rfl, _, _, rfl, rfl, hR _ _ ⟨?_, rfl⟩⟩
            rw [hm, g1, Int.natCast_add]
            rfl
          · rw [g2]
            refine iteF (hR _ _ ⟨?_, rfl⟩)
            rw [hm, g1]
            rfl
        obtain ⟨rfl, hE⟩ := hP
        rw [hE]
        refine ⟨_, rfl, _, rfl, t, c, j, th, rfl, hc2, hi2, hfl1, fun p np => ⟨p, rfl, ⟨_, SqT.of upd_same⟩, ?_⟩⟩
        have sp := new_same (o := .tup (natsV (th.bh j))) np
        have hbl : (th.bh j).length ≤ 2 := by cases th <;> simp [Th.bh]
        refine for_tup (xs := natsV (th.bh j)) (fun q σ H' => ∃ (v5 : Option V) (kvs : List (Key × V)), σ = [some (.ref t), some (.ref mk), some (.int (j : Int)), some (.ref ca), some (.int (m : Int)), v5] ∧ H' mk = some (.dK kvs) ∧ HOk h kvs ∧ kvs.length ≤ 1 + 2 * j + q ∧ Frm mk (upd H2 p (.tup (natsV (th.bh j)))) H') ⟨v5, kvs, rfl, sp _ _ hmk2, hok, by omega, Frm.refl _ _⟩ (fun q σ H' _ hP => by obtain ⟨_, _, _, _, _, _, f⟩ := hP; exact (Frm.tfd f (sp _ _ hmk2)).sq (SqT.of upd_same)) (fun q y σ H' hy hPv => ?_) (fun σ H' hPv => ?_)
        · obtain ⟨w5, kvs2, rfl, hmk3, hok3, hkl3, fr3⟩ := hPv
          have hq : q < (th.bh j).length := by
            have := (List.getElem?_eq_some_iff.mp hy).1
            rw [natsV, List.length_map] at this
            exact this
          rw [natsV, List.getElem?_map, List.getElem?_eq_getElem hq] at hy
          cases hy
          have hb := hbh _ (List.getElem_mem hq)
          refine ⟨_, rfl, mk, rfl, .inl ⟨kvs2, .inl hmk3⟩, _, rfl, _, rfl, kvs2, .inl (((th.bh j)[q] : Nat) : Int), hmk3, rfl, Nat.lt_of_lt_of_le (show kvs2.length < 5000 by omega) (by decide), fun v hv => ?_, fun hn => ?_⟩
          · obtain ⟨j', n', hj', rfl, hh'⟩ := hok3 _ _ hv
            have hj' : j' = (th.bh j)[q] := by
              injection hj' with hj'
              omega
            subst hj'
            rw [hb] at hh'
            cases hh'
            refine ⟨_, rfl, rfl, _, rfl, ite2 (fun z => absurd z (by simp)) (fun _ => ?_)⟩
            exact ⟨_, kvs2, rfl, hmk3, hok3, by omega, fr3⟩
          · refine ⟨_, rfl, rfl, _, rfl, ite2 (fun z => absurd z (by simp)) (fun _ => ?_)⟩
            refine ⟨_, _, rfl, upd_same, fun k v hv => ?_, ?_, fr3.trans Frm.of_upd⟩
            · rw [valV_put] at hv
              by_cases e : k = .inl (((th.bh j)[q] : Nat) : Int)
              · rw [if_pos e] at hv
                cases hv
                exact ⟨_, m, e, rfl, hb⟩
              · rw [if_neg e] at hv
                exact hok3 k v hv
            · have := length_putK kvs2 (.inl (((th.bh j)[q] : Nat) : Int)) (.int (m : Int))
              omega
        · obtain ⟨w5, kvs2, rfl, hmk3, hok3, hkl3, fr3⟩ := hPv
          rw [natsV, List.length_map] at hkl3
          exact ⟨_, _, _, _, kvs2, rfl, hmk3, hok3, by omega, (fr2.trans (Frm.of_new np)).trans fr3⟩
    · obtain ⟨v2, v3, v4, v5, kvs, rfl, hmk, hok, hkl, fr⟩ := hPv
      exact kk H' fun b o z => fr b o (ne_of_none z nmk) (s0 _ _ z)
end
end K5
set_option maxRecDepth 100000
set_option maxHeartbeats 2000000
/-! Is it a code; run it. -/
namespace K5
open PySem PySem.Spec PyProof.Rows L2 KF KD
/-- a code -/
structure Cok (c : List Th) : Prop where
  form : ∀ t ∈ c, t.fok
  far : ∀ (i : Nat) (t : Th), c[i]? = some t → ∀ j ∈ t.bh i, j ≤ c.length
  fits : ∃ h, Fits h c
  len : c.length ≤ 1000
theorem Th.fok_flat (t : Th) (h : t.fok) : ∀ d, t = .act d → d.flat := fun d e => by subst e; exact h.2
section
variable {P : Program} {w : World} {K : PySem.W.Frag} {mg : Str → Option Value} {base : Heap}
def spIc (K : PySem.W.Frag) : Sp := fun vs H Q _ => ∃ (t : Addr) (c : List Th), vs = [.ref t] ∧ Cd K H t c ∧ Cok c ∧ ∀ H', Same H H' → Q (.bl true) H'
theorem scIc : FnScope ["told", "place", "thing"] ["told"] (defScope s_is_code) := ⟨rfl, rfl, rfl, by decide +kernel, rfl, by decide +kernel, by decide +kernel⟩
theorem ok_is_code (T : Txt K w mg) : FnOk P w K mg base CX0 9 (He.fAd K ("is_code", none)) (fdAt K (He.fAd K ("is_code", none))) ["told"] (spIc K) := by
  refine T.F_is_code.ok scIc (fun vs H Q E h => ?_) (fun cdv A outer s H vs Q E hr h => ?_)
  · obtain ⟨t, c, rfl, _⟩ := h
    rfl
  · obtain ⟨t, c, rfl, hc, ck, kk⟩ := h
    refine ⟨_, PSs.nox (pss_cons (ps_for PassesOwn.never rfl (pi_enT (by rfl) T.n_enumerate (pa_cons (pv 0) pa_nil)) (pg_tup (by rfl) (pgs_cons (pg_name (i := 1) scIc.nd rfl (Or.inl rfl)) (pgs_cons (pg_name (i := 2) scIc.nd rfl (Or.inl rfl)) pgs_nil))) (pss_one (ps_if (PW.pt (pw_or (pt_not (pt_val (pe_call (ok_has_form T) (hr.mono (by omega)) (by rfl) T.g_has_form (T.F_has_form).kp T.b_has_form .nil pass0 (pa_cons (pv 2) pa_nil)))) (pw_or1 (pt_cmpR op_gt (pe_callB (KM.cr_maxT rfl) (by rfl) T.n_max PyProof.Rows.Boot.«max» (pa_cons (pe_call (ok_places_behind T) (hr.mono (by omega)) (by rfl) T.g_places_behind (T.F_places_behind).kp T.b_places_behind .nil pass0 (pa_cons (pv 0) (pa_cons (pv 1) pa_nil))) pa_nil)) (pe_callB (r := Evl.rLenS K) call_len_seq (by rfl) T.n_len PyProof.Rows.Boot.«len» (pa_cons (pv 0) pa_nil)) (nomark _))))) (pss_one (ps_ret pe_bl)) pss_nil)))
      (pss_one (ps_ret (pe_call (ok_has_fitting_rows T) (hr.mono (by omega)) (by rfl) T.g_has_fitting_rows (T.F_has_fitting_rows).kp T.b_has_fitting_rows .nil pass0 (pa_cons (pv 0) pa_nil))))), ?_⟩
    have hc0 := hc
    obtain ⟨xs, sq, da⟩ := hc
    have hxl : xs.length = c.length := by rw [dpa_len da, List.length_map]
    refine ⟨_, rfl, t, xs, rfl, sq, ?_⟩
    refine L2.for_it KD.walk_ity (fun i σ H' => ∃ (v1 v2 : Option V), σ = [some (.ref t), v1, v2] ∧ Same H H') ⟨_, _, rfl, Same.refl _⟩ (fun i σ H' _ hP => by obtain ⟨_, _, _, fr⟩ := hP; exact (same_tf fr).sq sq) (fun i x σ H' H'' hi hPv hy => ?_) (fun σ H' hPv => ?_)
    · obtain ⟨v1, v2, rfl, sm⟩ := hPv
      obtain ⟨T1, x1, y1, rfl, nT, rfl, e1, e2⟩ := hy
      have e1 : some (V.int (0 + ((i : Nat) : Int))) = some x1 := e1
      have e2 : xs[i]? = some y1 := e2
      rw [Int.zero_add] at e1
      cases e1
      have hic : i < c.length := by omega
      have hi2 : c[i]? = some c[i] := List.getElem?_eq_getElem hic
      have hmem := List.getElem_mem hic
      obtain ⟨th, hth⟩ : ∃ th, th = c[i] := ⟨_, rfl⟩
      rw [← hth] at hi2 hmem
      have sT := new_same (o := .tup [V.int (i : Int), y1]) nT
      obtain ⟨v0, hv0, dv0⟩ := dpa_get da (show (c.map Th.py)[i]? = some th.py by rw [List.getElem?_map, hi2]; rfl)
      rw [e2] at hv0
      cases hv0
      have s2 := sm.trans sT
      have dv := dp_nl (same_tf s2) _ _ th.nl dv0
      have fok := ck.form th hmem
      refine ⟨T1, _, rfl, SqT.of upd_same, rfl, _, _, rfl, _, _, rfl, rfl, ?_⟩
      refine ⟨_, rfl, y1, th, rfl, dv, fok, fun H3 s3 => ⟨true, rfl, iteF ?_⟩⟩
      have S3 := s2.trans s3
      refine ⟨_, rfl, _, rfl, t, c, i, th, rfl, hc0.tf (same_tf S3), hi2, th.fok_flat fok, fun p np => ?_⟩
      have far := ck.far i th hi2
      have hlen0 : 0 < (th.bh i).length := by cases th <;> simp [Th.bh]
      have enat : natsV (th.bh i) = ((th.bh i).map fun n : Nat => (n : Int)).map V.int := by rw [natsV, List.map_map]; rfl
      refine ⟨p, (th.bh i).map fun n : Nat => (n : Int), rfl, by rw [← enat]; exact SqT.of upd_same, by rw [List.length_map]; exact hlen0, fun mx hmx _ => ?_⟩
      have sp := new_same (o := .tup (natsV (th.bh i))) np
      refine ⟨_, rfl, t, xs, rfl, .inr ((same_tf (S3.trans sp)).sq sq), _, _, rfl, rfl, _, rfl, ite2 (fun z => ?_) (fun _ => ⟨_, _, rfl, S3.trans sp⟩)⟩
      have hlt := of_decide_eq_true z
      obtain ⟨j, hj, rfl⟩ := List.mem_map.mp hmx
      have := far j hj
      omega
    · obtain ⟨v1, v2, rfl, sm⟩ := hPv
      obtain ⟨h, hf⟩ := ck.fits
      exact ⟨_, rfl, t, c, h, rfl, hc0.tf (same_tf sm), hf, (fun d hd => (ck.form _ hd).2), ck.len, fun H2 s2 => kk H2 (sm.trans s2)⟩
/-! ### _need_code, run_code, compiled -/
def spNc (K : PySem.W.Frag) : Sp := fun vs H Q _ => ∃ (t : Addr) (c : List Th), vs = [.ref t] ∧ Cd K H t c ∧ Cok c ∧ ∀ H', Same H H' → Q .non H'
theorem scNc : FnScope ["code"] ["code"] (defScope s_need_code) := ⟨rfl, rfl, rfl, by decide +kernel, rfl, by decide +kernel, by decide +kernel⟩
theorem ok_need_code (T : Txt K w mg) : FnOk P w K mg base CX0 10 (He.fAd K ("_need_code", none)) (fdAt K (He.fAd K ("_need_code", none))) ["code"] (spNc K) := by
  refine T.F_need_code.ok scNc (fun vs H Q E h => ?_) (fun cdv A outer s H vs Q E hr h => ?_)
  · obtain ⟨t, c, rfl, _⟩ := h
    rfl
  · obtain ⟨t, c, rfl, hc, ck, kk⟩ := h
    refine ⟨_, PSs.nox (pss_one (ps_if (pt_not (pt_val (pe_call (ok_is_code T) (hr.mono (by omega)) (by rfl) T.g_is_code (T.F_is_code).kp T.b_is_code .nil pass0 (pa_cons (pv 0) pa_nil)))) (pss_one ps_never) pss_nil)), ?_⟩
    exact ⟨_, rfl, t, c, rfl, hc, ck, fun H' s1 => ⟨true, rfl, iteF (kk H' s1)⟩⟩
def spRc (K : PySem.W.Frag) : Sp := fun vs H Q _ => ∃ (t : Addr) (c : List Th) (v : V) (f : Fx) (k : Nat) (w' : List Int) (r' : Ru), vs = [.ref t, v] ∧ Cd K H t c ∧ Cok c ∧ Dp K H v f.py ∧ f.ok ∧ Go c k 0 [] ⟨f, ⟨f.seed, false⟩, Bx0⟩ c.length w' r' ∧
    ∀ p u H', H' p = some (.tup [u, .int (k : Int)]) → Dp K H' u r'.out → Same H H' → Q (.ref p) H'
theorem scRc : FnScope ["code", "reads"] ["code", "reads"] (defScope s_run_code) := ⟨rfl, rfl, rfl, by decide +kernel, rfl, by decide +kernel, by decide +kernel⟩
theorem ok_run_code (T : Txt K w mg) : FnOk P w K mg base CX0 11 (He.fAd K ("run_code", none)) (fdAt K (He.fAd K ("run_code", none))) ["code", "reads"] (spRc K) := by
  refine T.F_run_code.ok scRc (fun vs H Q E h => ?_) (fun cdv A outer s H vs Q E hr h => ?_)
  · obtain ⟨t, c, v, f, k, w', r', rfl, _⟩ := h
    rfl
  · obtain ⟨t, c, v, f, k, w', r', rfl, hc, ck, hv, okf, g, kk⟩ := h
    refine ⟨_, PSs.nox (pss_cons (ps_expr (pe_call (ok_need_code T) (hr.mono (by omega)) (by rfl) T.g_need_code (T.F_need_code).kp T.b_need_code .nil pass0 (pa_cons (pv 0) pa_nil)))
      (pss_one (ps_ret (pe_call (ok_ran T) (hr.mono (by omega)) (by rfl) T.g_ran (T.F_ran).kp T.b_ran .nil pass0 (pa_cons (pv 0) (pa_cons (pv 1) pa_nil)))))), ?_⟩
    refine ⟨_, rfl, t, c, rfl, hc, ck, fun H1 s1 => ?_⟩
    exact ⟨_, rfl, _, rfl, t, c, v, f, k, w', r', rfl, hc.tf (same_tf s1), dp_nl (same_tf s1) _ _ f.nl hv, okf, g, fun p u H2 hp du s2 => kk p u H2 hp du (s1.trans s2)⟩
def spCm (K : PySem.W.Frag) : Sp := fun vs H Q _ => ∃ (t : Addr) (xs : List V) (ds : List De), vs = [.ref t] ∧ SqT K H t xs ∧ DpAll K H xs (ds.map De.py) ∧ (∀ d ∈ ds, d.ok) ∧ szs ds ≤ 60 ∧ deps ds ≤ 8 ∧ ∀ q H', Same H H' → Cd K H' q (codeDs ds) → Q (.ref q) H'
theorem scCm : FnScope ["script"] ["script"] (defScope s_compiled) := ⟨rfl, rfl, rfl, by decide +kernel, rfl, by decide +kernel, by decide +kernel⟩
theorem ok_compiled (T : Txt K w mg) : FnOk P w K mg base CX0 20 (He.fAd K ("compiled", none)) (fdAt K (He.fAd K ("compiled", none))) ["script"] (spCm K) := by
  refine T.F_compiled.ok scCm (fun vs H Q E h => ?_) (fun cdv A outer s H vs Q E hr h => ?_)
  · obtain ⟨t, xs, ds, rfl, _⟩ := h
    rfl
  · obtain ⟨t, xs, ds, rfl, ht, hds, ok, sz, dep, kk⟩ := h
    refine ⟨_, PSs.nox (pss_cons (ps_expr (pe_call (ok_need_script T) (hr.mono (by omega)) (by rfl) T.g_need_script (T.F_need_script).kp T.b_need_script .nil pass0 (pa_cons (pv 0) pa_nil)))
      (pss_one (ps_ret (pe_call (ok_code_of_deeds T 8) (hr.mono (by omega)) (by rfl) T.g_code_of_deeds (T.F_code_of_deeds).kp T.b_code_of_deeds .nil pass0 (pa_cons (pv 0) pa_nil))))), ?_⟩
    refine ⟨_, rfl, t, xs, ds, rfl, ht, hds, ok, sz, dep, fun H1 s1 => ?_⟩
    have t1 := same_tf s1
    exact ⟨_, rfl, t, xs, ds, rfl, t1.sq ht, dpa_nl t1 _ _ (nl_des _) hds, ok, dep, by omega, fun c H2 s2 hc => kk c H2 (s1.trans s2) hc⟩
end
end K5
set_option maxRecDepth 100000
set_option maxHeartbeats 2000000
/-! The code of a script is a code. -/
namespace K5
open PySem PySem.Spec PyProof.Rows L2 KF KD
/-- how high the row stands at each thing of the code of an expression, begun at n -/
def hE : Ex → Nat → List Nat
  | .leaf _, n => [n]
  | .neg a, n => hE a n ++ [n + 1]
  | .two _ a b, n => (hE a n ++ hE b (n + 1)) ++ [n + 2]
  | .pick a b c, n => hE a n ++ ((n + 1) :: (hE b n ++ (n + 1) :: hE c n))
/-- at each place of xs, from i on, of total length L, h is right -/
def Loc (L : Nat) (h : Nat → Option Nat) (i : Nat) (xs : List Th) : Prop := ∀ k t, xs[k]? = some t → ∃ m, h (i + k) = some m ∧ t.ar ≤ m ∧ ∀ j ∈ t.bh (i + k), j ≤ L ∧ h j = some (m - t.ar + t.gv)
theorem hE_len : ∀ (e : Ex) (n : Nat), (hE e n).length = (codeE e).length
  | .leaf l, n => by rw [hE, codeE, codeL_len]; rfl
  | .neg a, n => by rw [hE, codeE, List.length_append, List.length_append, hE_len a]; rfl
  | .two k a b, n => by rw [hE, codeE, List.length_append, List.length_append, List.length_append, List.length_append, hE_len a, hE_len b]; rfl
  | .pick a b c, n => by
    rw [hE, codeE, List.length_append, List.length_append, fork_len, List.length_cons, List.length_append, List.length_cons, hE_len a, hE_len b, hE_len c]
    omega
theorem Loc.app {L i : Nat} {h : Nat → Option Nat} {xs ys : List Th} (a : Loc L h i xs) (b : Loc L h (i + xs.length) ys) : Loc L h i (xs ++ ys) := fun k t z => by
  rcases Nat.lt_or_ge k xs.length with hk | hk
  · rw [List.getElem?_append_left hk] at z
    exact a k t z
  · rw [List.getElem?_append_right hk] at z
    have := b _ t z
    rw [show i + xs.length + (k - xs.length) = i + k by omega] at this
    exact this
theorem Loc.one {L i m : Nat} {h : Nat → Option Nat} {t : Th} (a : h i = some m) (b : t.ar ≤ m) (c : ∀ j ∈ t.bh i, j ≤ L ∧ h j = some (m - t.ar + t.gv)) : Loc L h i [t] := fun k u z => by
  cases k with
  | zero =>
    cases z
    exact ⟨m, a, b, c⟩
  | succ k => cases z
def Ag (h : Nat → Option Nat) (i : Nat) (ns : List Nat) : Prop := ∀ (k m : Nat), ns[k]? = some m → h (i + k) = some m
theorem Ag.left {h : Nat → Option Nat} {i : Nat} {xs ys : List Nat} (a : Ag h i (xs ++ ys)) : Ag h i xs := fun k m z => a k m (by
  rw [List.getElem?_append_left (List.getElem?_eq_some_iff.mp z).1]
  exact z)
theorem Ag.right {h : Nat → Option Nat} {i : Nat} {xs ys : List Nat} (a : Ag h i (xs ++ ys)) : Ag h (i + xs.length) ys := fun k m z => by
  rw [Nat.add_assoc]
  refine a _ _ ?_
  rw [List.getElem?_append_right (by omega), Nat.add_sub_cancel_left]
  exact z
theorem Ag.head {h : Nat → Option Nat} {i x : Nat} {xs : List Nat} (a : Ag h i (x :: xs)) : h i = some x := a 0 x rfl
theorem Ag.tail {h : Nat → Option Nat} {i x : Nat} {xs : List Nat} (a : Ag h i (x :: xs)) : Ag h (i + 1) xs := fun k m z => by
  rw [Nat.add_assoc, Nat.add_comm 1]
  exact a (k + 1) m z
theorem hE_head : ∀ (e : Ex) (n : Nat), ∃ r, hE e n = n :: r
  | .leaf l, n => ⟨[], rfl⟩
  | .neg a, n => by
    obtain ⟨r, h⟩ := hE_head a n
    exact ⟨r ++ [n + 1], by rw [hE, h]; rfl⟩
  | .two k a b, n => by
    obtain ⟨r, h⟩ := hE_head a n
    exact ⟨(r ++ hE b (n + 1)) ++ [n + 2], by rw [hE, h]; rfl⟩
  | .pick a b c, n => by
    obtain ⟨r, h⟩ := hE_head a n
    exact ⟨r ++ ((n + 1) :: (hE b n ++ (n + 1) :: hE c n)), by rw [hE, h]; rfl⟩
theorem locE {L : Nat} {h : Nat → Option Nat} : ∀ (e : Ex) (i n : Nat), e.ok → Ag h i (hE e n) → h (i + (codeE e).length) = some (n + 1) → i + (codeE e).length ≤ L → Loc L h i (codeE e)
  | .leaf l, i, n, ok, ag, hn, le => by
    rw [codeE, codeL_len] at hn le
    rcases l.num ok with ⟨m, rfl⟩ | ⟨_, hc⟩
    · exact Loc.one (t := .push m) ag.head (Nat.zero_le _) (fun j hj => by rw [List.mem_singleton.mp hj]; exact ⟨le, hn⟩)
    · rw [codeE, hc]
      exact Loc.one (t := .read l) ag.head (Nat.zero_le _) (fun j hj => by rw [List.mem_singleton.mp hj]; exact ⟨le, hn⟩)
  | .neg a, i, n, ok, ag, hn, le => by
    rw [hE] at ag
    rw [codeE] at hn le ⊢
    rw [List.length_append, List.length_singleton] at hn le
    have h1 := ag.right.head
    rw [hE_len] at h1
    refine (locE a i n ok ag.left h1 (by omega)).app (Loc.one (t := .op "not") h1 (by show 1 ≤ n + 1; omega) (fun j hj => ?_))
    rw [List.mem_singleton.mp hj]
    exact ⟨by omega, hn⟩
  | .two k a b, i, n, ok, ag, hn, le => by
    rw [hE] at ag
    rw [codeE] at hn le ⊢
    rw [List.length_append, List.length_append, List.length_singleton] at hn le
    have hk : Th.ar (.op k) = 2 := if_neg (fun e => by have h2 := ok.1; rw [e] at h2; exact absurd h2 (by decide))
    have agb := ag.left.right
    rw [hE_len] at agb
    obtain ⟨r, hr⟩ := hE_head b (n + 1)
    have hb0 : h (i + (codeE a).length) = some (n + 1) := by
      have := agb
      rw [hr] at this
      exact this.head
    have h2 := ag.right.head
    rw [List.length_append, hE_len, hE_len] at h2
    have h2' : h (i + (codeE a).length + (codeE b).length) = some (n + 1 + 1) := by rw [Nat.add_assoc]; exact h2
    refine ((locE a i n ok.2.1 ag.left.left hb0 (by omega)).app (locE b _ (n + 1) ok.2.2 agb h2' (by omega))).app (Loc.one (t := .op k) (m := n + 2) (by rw [List.length_append]; exact h2) (by rw [hk]; omega) (fun j hj => ?_))
    rw [List.mem_singleton.mp hj, List.length_append]
    refine ⟨by omega, ?_⟩
    rw [hk]
    exact hn
  | .pick a b c, i, n, ok, ag, hn, le => by
    rw [hE] at ag
    rw [codeE] at hn le ⊢
    rw [List.length_append, fork_len] at hn le
    have ag2 := ag.right
    rw [hE_len] at ag2
    have h1 := ag2.head
    have ag3 := ag2.tail
    have agb := ag3.left
    have ag4 := ag3.right
    rw [hE_len] at ag4
    have h2 := ag4.head
    have agc := ag4.tail
    obtain ⟨r, hr⟩ := hE_head b n
    have hb0 : h (i + (codeE a).length + 1) = some n := by
      have := agb
      rw [hr] at this
      exact this.head
    obtain ⟨r', hr'⟩ := hE_head c n
    have hc0 : h (i + (codeE a).length + 1 + (codeE b).length + 1) = some n := by
      have := agc
      rw [hr'] at this
      exact this.head
    have hend : h (i + (codeE a).length + 1 + (codeE b).length + 1 + (codeE c).length) = some (n + 1) := by
      rw [← hn]
      congr 1
      omega
    refine (locE a i n ok.1 ag.left h1 (by omega)).app ?_
    have A : Loc L h (i + (codeE a).length) [.nought ((codeE b).length + 1)] := Loc.one (m := n + 1) h1 (by show 1 ≤ n + 1; omega) (fun j hj => by
      simp only [Th.bh, List.mem_cons, List.not_mem_nil, or_false] at hj
      rcases hj with rfl | rfl
      · exact ⟨by omega, hb0⟩
      · refine ⟨by omega, ?_⟩
        rw [show i + (codeE a).length + 1 + ((codeE b).length + 1) = i + (codeE a).length + 1 + (codeE b).length + 1 by omega]
        exact hc0)
    have B := locE (L := L) b (i + (codeE a).length + 1) n ok.2.1 agb h2 (by omega)
    have C : Loc L h (i + (codeE a).length + 1 + (codeE b).length) [.over (codeE c).length] := Loc.one (m := n + 1) h2 (Nat.zero_le _) (fun j hj => by
      rw [List.mem_singleton.mp hj]
      exact ⟨by omega, hend⟩)
    have D := locE (L := L) c (i + (codeE a).length + 1 + (codeE b).length + 1) n ok.2.2 agc hend (by omega)
    have E := A.app (B.app (C.app D))
    exact E
def hEs : List Ex → Nat → List Nat
  | [], _ => []
  | e :: es, n => hE e n ++ hEs es (n + 1)
theorem hEs_len : ∀ (es : List Ex) (n : Nat), (hEs es n).length = (es.flatMap codeE).length
  | [], _ => rfl
  | e :: es, n => by rw [hEs, List.flatMap_cons, List.length_append, List.length_append, hE_len, hEs_len es]
theorem locEs {L : Nat} {h : Nat → Option Nat} : ∀ (es : List Ex) (i n : Nat), (∀ e ∈ es, e.ok) → Ag h i (hEs es n) → h (i + (es.flatMap codeE).length) = some (n + es.length) → i + (es.flatMap codeE).length ≤ L → Loc L h i (es.flatMap codeE)
  | [], i, n, _, _, _, _ => fun k t z => by cases z
  | e :: es, i, n, ok, ag, hn, le => by
    rw [hEs] at ag
    rw [List.flatMap_cons] at hn le ⊢
    rw [List.length_append] at hn le
    have agr := ag.right
    rw [hE_len] at agr
    have h1 : h (i + (codeE e).length) = some (n + 1) := by
      cases es with
      | nil => exact hn
      | cons a as =>
        obtain ⟨r, hr⟩ := hE_head a (n + 1)
        rw [hEs, hr] at agr
        exact agr.head
    exact (locE e i n (ok e (by simp)) ag.left h1 (by omega)).app (locEs es _ (n + 1) (fun a ha => ok a (by simp [ha])) agr (by rw [Nat.add_assoc, hn, List.length_cons, Nat.add_assoc, Nat.add_comm 1]) (by omega))
def hF (d : De) : List Nat := hEs d.exs 0 ++ [d.exs.length]
mutual
def hD : De → List Nat
  | .own i a => hF (.own i a)
  | .mark i a => hF (.mark i a)
  | .go a b => hF (.go a b)
  | .born k a b c d => hF (.born k a b c d)
  | .gone => hF .gone
  | .when a ds es => hE a 0 ++ (1 :: (hDs ds ++ 0 :: hDs es))
def hDs : List De → List Nat
  | [] => []
  | d :: ds => hD d ++ hDs ds
end
theorem hD_flat (d : De) (h : d.flat) : hD d = hF d := by
  cases d with
  | when a ds es => exact h.elim
  | _ => rw [hD]
mutual
theorem hD_len : ∀ d : De, (hD d).length = (codeD d).length
  | .own i a => by rw [hD, codeD, hF, codeF, List.length_append, List.length_append, hEs_len]; rfl
  | .mark i a => by rw [hD, codeD, hF, codeF, List.length_append, List.length_append, hEs_len]; rfl
  | .go a b => by rw [hD, codeD, hF, codeF, List.length_append, List.length_append, hEs_len]; rfl
  | .born k a b c d => by rw [hD, codeD, hF, codeF, List.length_append, List.length_append, hEs_len]; rfl
  | .gone => by rw [hD, codeD, hF, codeF, List.length_append, List.length_append, hEs_len]; rfl
  | .when a ds es => by
    rw [hD, codeD, List.length_append, List.length_append, fork_len, List.length_cons, List.length_append, List.length_cons, hE_len, hDs_len ds, hDs_len es]
    omega
theorem hDs_len : ∀ ds : List De, (hDs ds).length = (codeDs ds).length
  | [] => by rw [hDs, codeDs]; rfl
  | d :: ds => by rw [hDs, codeDs, List.length_append, List.length_append, hD_len d, hDs_len ds]
end
theorem hD_head (d : De) : ∃ r, hD d = 0 :: r := by
  rcases d.cases with h | ⟨a, ds, es, rfl⟩
  · rw [hD_flat d h, hF]
    cases hx : d.exs with
    | nil => exact ⟨[], rfl⟩
    | cons e es =>
      obtain ⟨r, hr⟩ := hE_head e 0
      exact ⟨(r ++ hEs es 1) ++ [(e :: es).length], by rw [hEs, hr]; rfl⟩
  · obtain ⟨r, hr⟩ := hE_head a 0
    exact ⟨_, by rw [hD, hr]; rfl⟩
theorem hDs_start {h : Nat → Option Nat} {i : Nat} (ds : List De) (ag : Ag h i (hDs ds)) (hn : h (i + (codeDs ds).length) = some 0) : h i = some 0 := by
  cases ds with
  | nil =>
    rw [codeDs] at hn
    exact hn
  | cons d ds =>
    obtain ⟨r, hr⟩ := hD_head d
    rw [hDs, hr] at ag
    exact ag.head
theorem locF {L : Nat} {h : Nat → Option Nat} (d : De) (hd : d.flat) (i : Nat) (ok : d.ok) (ag : Ag h i (hD d)) (hn : h (i + (codeD d).length) = some 0) (le : i + (codeD d).length ≤ L) : Loc L h i (codeD d) := by
  rw [hD_flat d hd, hF] at ag
  rw [codeD_flat d hd, codeF] at hn le ⊢
  rw [List.length_append, List.length_singleton] at hn le
  have h1 := ag.right.head
  rw [hEs_len] at h1
  refine (locEs d.exs i 0 (d.exs_ok ok) ag.left (by rw [Nat.zero_add]; exact h1) (by omega)).app (Loc.one (t := .act d) h1 (Nat.le_refl _) (fun j hj => ?_))
  rw [List.mem_singleton.mp hj]
  refine ⟨by omega, ?_⟩
  show h _ = some (d.exs.length - d.exs.length + 0)
  rw [Nat.sub_self]
  exact hn
mutual
theorem locD {L : Nat} {h : Nat → Option Nat} : ∀ (d : De) (i : Nat), d.ok → Ag h i (hD d) → h (i + (codeD d).length) = some 0 → i + (codeD d).length ≤ L → Loc L h i (codeD d)
  | .own j a, i, ok, ag, hn, le => locF (.own j a) trivial i ok ag hn le
  | .mark j a, i, ok, ag, hn, le => locF (.mark j a) trivial i ok ag hn le
  | .go a b, i, ok, ag, hn, le => locF (.go a b) trivial i ok ag hn le
  | .born k a b c d, i, ok, ag, hn, le => locF (.born k a b c d) trivial i ok ag hn le
  | .gone, i, ok, ag, hn, le => locF .gone trivial i ok ag hn le
  | .when a ds es, i, ok, ag, hn, le => by
    rw [hD] at ag
    rw [De.ok] at ok
    rw [codeD] at hn le ⊢
    rw [List.length_append, fork_len] at hn le
    have ag2 := ag.right
    rw [hE_len] at ag2
    have h1 := ag2.head
    have ag3 := ag2.tail
    have agb := ag3.left
    have ag4 := ag3.right
    rw [hDs_len] at ag4
    have h2 := ag4.head
    have agc := ag4.tail
    have hend : h (i + (codeE a).length + 1 + (codeDs ds).length + 1 + (codeDs es).length) = some 0 := by
      rw [← hn]
      congr 1
      omega
    have hb0 := hDs_start ds agb h2
    have hc0 := hDs_start es agc hend
    refine (locE a i 0 ok.1 ag.left h1 (by omega)).app ?_
    have A : Loc L h (i + (codeE a).length) [.nought ((codeDs ds).length + 1)] := Loc.one (m := 1) h1 (Nat.le_refl _) (fun j hj => by
      simp only [Th.bh, List.mem_cons, List.not_mem_nil, or_false] at hj
      rcases hj with rfl | rfl
      · exact ⟨by omega, hb0⟩
      · refine ⟨by omega, ?_⟩
        rw [show i + (codeE a).length + 1 + ((codeDs ds).length + 1) = i + (codeE a).length + 1 + (codeDs ds).length + 1 by omega]
        exact hc0)
    have B := locDs (L := L) ds (i + (codeE a).length + 1) ((oks_iff ds).mp ok.2.1) agb h2 (by omega)
    have C : Loc L h (i + (codeE a).length + 1 + (codeDs ds).length) [.over (codeDs es).length] := Loc.one (m := 0) h2 (Nat.zero_le _) (fun j hj => by
      rw [List.mem_singleton.mp hj]
      exact ⟨by omega, hend⟩)
    have D := locDs (L := L) es (i + (codeE a).length + 1 + (codeDs ds).length + 1) ((oks_iff es).mp ok.2.2) agc hend (by omega)
    exact A.app (B.app (C.app D))
theorem locDs {L : Nat} {h : Nat → Option Nat} : ∀ (ds : List De) (i : Nat), (∀ d ∈ ds, d.ok) → Ag h i (hDs ds) → h (i + (codeDs ds).length) = some 0 → i + (codeDs ds).length ≤ L → Loc L h i (codeDs ds)
  | [], i, _, _, _, _ => by
    rw [codeDs]
    exact fun k t z => by cases z
  | d :: ds, i, ok, ag, hn, le => by
    rw [hDs] at ag
    rw [codeDs] at hn le ⊢
    rw [List.length_append] at hn le
    have agr := ag.right
    rw [hD_len] at agr
    have hn2 : h (i + (codeD d).length + (codeDs ds).length) = some 0 := by rw [Nat.add_assoc]; exact hn
    have h1 := hDs_start ds agr hn2
    exact (locD d i (ok d (by simp)) ag.left h1 (by omega)).app (locDs ds _ (fun x hx => ok x (by simp [hx])) agr hn2 (by omega))
end
theorem fokE : ∀ (e : Ex), e.ok → ∀ t ∈ codeE e, t.fok
  | .leaf l, ok, t, ht => by
    rcases l.num ok with ⟨m, rfl⟩ | ⟨hn, hc⟩
    · rw [codeE, codeL] at ht
      rw [List.mem_singleton.mp ht]
      exact ⟨Int.le_trans (by decide) ok.1, Int.le_trans ok.2 (by decide)⟩
    · rw [codeE, hc] at ht
      rw [List.mem_singleton.mp ht]
      refine ⟨ok, fun n e => ?_⟩
      subst e
      exact absurd hn (by show ¬ decide (V.str "number" = V.str "number") = false; decide)
  | .neg a, ok, t, ht => by
    rw [codeE] at ht
    rcases List.mem_append.mp ht with h | h
    · exact fokE a ok t h
    · rw [List.mem_singleton.mp h]
      exact .inl rfl
  | .two k a b, ok, t, ht => by
    rw [codeE] at ht
    rcases List.mem_append.mp ht with h | h
    · rcases List.mem_append.mp h with h | h
      · exact fokE a ok.2.1 t h
      · exact fokE b ok.2.2 t h
    · rw [List.mem_singleton.mp h]
      exact .inr ok.1
  | .pick a b c, ok, t, ht => by
    rw [codeE, fork] at ht
    simp only [List.mem_append, List.mem_cons] at ht
    rcases ht with h | h | h | h | h
    · exact fokE a ok.1 t h
    · rw [h]; trivial
    · exact fokE b ok.2.1 t h
    · rw [h]; trivial
    · exact fokE c ok.2.2 t h
theorem fokF (d : De) (hd : d.flat) (ok : d.ok) : ∀ t ∈ codeD d, t.fok := fun t ht => by
  rw [codeD_flat d hd, codeF] at ht
  rcases List.mem_append.mp ht with h | h
  · obtain ⟨e, he, h⟩ := List.mem_flatMap.mp h
    exact fokE e (d.exs_ok ok e he) t h
  · rw [List.mem_singleton.mp h]
    exact ⟨d.hok_of ok, hd⟩
mutual
theorem fokD : ∀ (d : De), d.ok → ∀ t ∈ codeD d, t.fok
  | .own j a, ok, t, ht => fokF (.own j a) trivial ok t ht
  | .mark j a, ok, t, ht => fokF (.mark j a) trivial ok t ht
  | .go a b, ok, t, ht => fokF (.go a b) trivial ok t ht
  | .born k a b c d, ok, t, ht => fokF (.born k a b c d) trivial ok t ht
  | .gone, ok, t, ht => fokF .gone trivial ok t ht
  | .when a ds es, ok, t, ht => by
    rw [De.ok] at ok
    rw [codeD, fork] at ht
    simp only [List.mem_append, List.mem_cons] at ht
    rcases ht with h | h | h | h | h
    · exact fokE a ok.1 t h
    · rw [h]; trivial
    · exact fokDs ds ((oks_iff ds).mp ok.2.1) t h
    · rw [h]; trivial
    · exact fokDs es ((oks_iff es).mp ok.2.2) t h
theorem fokDs : ∀ (ds : List De), (∀ d ∈ ds, d.ok) → ∀ t ∈ codeDs ds, t.fok
  | [], _, t, ht => by
    rw [codeDs] at ht
    cases ht
  | d :: ds, ok, t, ht => by
    rw [codeDs] at ht
    rcases List.mem_append.mp ht with h | h
    · exact fokD d (ok d (by simp)) t h
    · exact fokDs ds (fun x hx => ok x (by simp [hx])) t h
end
theorem cok_code (ds : List De) (ok : ∀ d ∈ ds, d.ok) (sz : szs ds ≤ 100) : Cok (codeDs ds) := by
  have hl := codeDs_len ds
  obtain ⟨h, hh⟩ : ∃ h : Nat → Option Nat, h = fun i => (hDs ds ++ [0])[i]? := ⟨_, rfl⟩
  have ag : Ag h 0 (hDs ds) := fun k m z => by
    rw [hh, Nat.zero_add]
    show (hDs ds ++ [0])[k]? = some m
    rw [List.getElem?_append_left (List.getElem?_eq_some_iff.mp z).1]
    exact z
  have hn : h (0 + (codeDs ds).length) = some 0 := by
    rw [hh, Nat.zero_add]
    show (hDs ds ++ [0])[(codeDs ds).length]? = some 0
    rw [List.getElem?_append_right (by rw [hDs_len]; exact Nat.le_refl _), hDs_len, Nat.sub_self]
    rfl
  have loc := locDs (L := (codeDs ds).length) ds 0 ok ag hn (by omega)
  refine ⟨fokDs ds ok, fun i t ht j hj => ?_, ⟨h, hDs_start ds ag hn, fun i t n ht hi => ?_⟩, by omega⟩
  · obtain ⟨m, _, _, far⟩ := loc i t ht
    rw [Nat.zero_add] at far
    exact (far j hj).1
  · obtain ⟨m, hm, har, far⟩ := loc i t ht
    rw [Nat.zero_add] at hm far
    rw [hi] at hm
    cases hm
    exact ⟨har, fun j hj => (far j hj).2⟩
end K5
set_option maxRecDepth 100000
set_option maxHeartbeats 2000000
/-! The code of a script, as the law writes it. -/
namespace K5
open PySem PySem.Spec PyProof.Rows L2 KF
section
variable {P : Program} {w : World} {K : PySem.W.Frag} {mg : Str → Option Value} {base : Heap}
/-- a list of things -/
def Cl (K : PySem.W.Frag) (H : Hp) (t : Addr) (ts : List Th) : Prop := ∃ vs, H t = some (.lst vs) ∧ DpAll K H vs (ts.map Th.py)
theorem Cl.same {K : PySem.W.Frag} {H H' : Hp} {t : Addr} {ts : List Th} (h : Cl K H t ts) (e : Same H H') : Cl K H' t ts := by
  obtain ⟨vs, h1, h2⟩ := h
  exact ⟨vs, e _ _ h1, dpa_nl (same_tf e) _ _ (nls_th _) h2⟩
theorem Cl.cat {K : PySem.W.Frag} {H : Hp} {a b : Addr} {xs ys : List Th} {Q : VK} (ha : Cl K H a xs) (hb : Cl K H b ys) (hl : xs.length + ys.length ≤ 1000) (k : ∀ t H', Same H H' → Cl K H' t (xs ++ ys) → Q (.ref t) H') : rCat (.ref a) (.ref b) H Q := by
  obtain ⟨vs, h1, h2⟩ := ha
  obtain ⟨ws, g1, g2⟩ := hb
  have l1 : vs.length = xs.length := by rw [dpa_len h2, List.length_map]
  have l2 : ws.length = ys.length := by rw [dpa_len g2, List.length_map]
  refine ⟨a, b, vs, ws, rfl, rfl, h1, g1, Nat.le_trans (show vs.length + ws.length ≤ 1000 by omega) (by decide), fun p np => ?_⟩
  have tf := TF.of_new (o := .lst (vs ++ ws)) np
  refine k p _ (new_same np) ⟨vs ++ ws, upd_same, ?_⟩
  rw [List.map_append]
  exact dpa_app (dpa_nl tf _ _ (nls_th _) g2) (dpa_nl tf _ _ (nls_th _) h2)
theorem Cl.one {K : PySem.W.Frag} {H : Hp} {p : Addr} {v : V} {t : Th} (np : H p = none) (hv : Dp K H v t.py) : Cl K (upd H p (.lst [v])) p [t] := ⟨[v], upd_same, .cons (dp_nl (TF.of_new np) _ _ t.nl hv) .nil⟩
theorem Cl.len {K : PySem.W.Frag} {H : Hp} {ts : List Th} {vs : List V} (h : DpAll K H vs (ts.map Th.py)) : vs.length = ts.length := by rw [dpa_len h, List.length_map]
/-! ### _law_fork -/
def spLfk (K : PySem.W.Frag) : Sp := fun vs H Q _ => ∃ (a b : Addr) (xs ys : List Th), vs = [.ref a, .ref b] ∧ Cl K H a xs ∧ Cl K H b ys ∧ xs.length + ys.length ≤ 500 ∧ ∀ t H', Same H H' → Cl K H' t (fork xs ys) → Q (.ref t) H'
theorem scLfk : FnScope ["one", "other"] ["one", "other"] (defScope s_law_fork) := ⟨rfl, rfl, rfl, by decide +kernel, rfl, by decide +kernel, by decide +kernel⟩
theorem ok_law_fork (T : Txt K w mg) : FnOk P w K mg base CX0 1 (He.fAd K ("_law_fork", none)) (fdAt K (He.fAd K ("_law_fork", none))) ["one", "other"] (spLfk K) := by
  refine T.F_law_fork.ok scLfk (fun vs H Q E h => ?_) (fun cdv A outer s H vs Q E hr h => ?_)
  · obtain ⟨a, b, xs, ys, rfl, _⟩ := h
    rfl
  · obtain ⟨a, b, xs, ys, rfl, ha, hb, hl, kk⟩ := h
    refine ⟨_, PSs.nox (pss_one (ps_ret (pe_op op_cat (pe_op op_cat (pe_op op_cat (pe_lst (pa_cons (pe_tup (pa_cons pe_str (pa_cons (pe_op op_add (pe_callB (r := Evl.rLenS K) call_len_seq (by rfl) T.n_len PyProof.Rows.Boot.«len» (pa_cons (pv 0) pa_nil)) pe_int) pa_nil))) pa_nil)) (pv 0)) (pe_lst (pa_cons (pe_tup (pa_cons pe_str (pa_cons (pe_callB (r := Evl.rLenS K) call_len_seq (by rfl) T.n_len PyProof.Rows.Boot.«len» (pa_cons (pv 1) pa_nil)) pa_nil))) pa_nil))) (pv 1)))), ?_⟩
    have ha0 := ha
    have hb0 := hb
    obtain ⟨va, sa, da⟩ := ha
    obtain ⟨vb, sb, db⟩ := hb
    have la : va.length = xs.length := Cl.len da
    have lb : vb.length = ys.length := Cl.len db
    refine ⟨_, rfl, a, va, rfl, .inl (SqL.of sa), _, _, rfl, rfl, (show 2 ≤ sizeLine by decide), fun t1 n1 => ⟨(show 1 ≤ sizeLine by decide), fun t2 n2 => ?_⟩⟩
    have s1 := new_same (o := .tup [.str "nought", .int ((va.length : Int) + 1)]) n1
    have s2 := new_same (o := .lst [.ref t1]) n2
    have c2 : Cl K _ t2 [.nought (xs.length + 1)] := Cl.one n2 (show Dp K _ (.ref t1) (Th.nought (xs.length + 1)).py from .tup (SqT.of upd_same) (.cons (.str _) (.cons (by rw [la]; exact .int _) .nil)))
    refine ⟨_, rfl, Cl.cat c2 (ha0.same (s1.trans s2)) (by rw [List.length_singleton]; omega) fun t3 H3 s3 c3 => ?_⟩
    have S3 := (s1.trans s2).trans s3
    refine ⟨_, rfl, b, vb, rfl, .inl (SqL.of (S3 _ _ sb)), (show 2 ≤ sizeLine by decide), fun t4 n4 => ⟨(show 1 ≤ sizeLine by decide), fun t5 n5 => ?_⟩⟩
    have s4 := new_same (o := .tup [.str "over", .int (vb.length : Int)]) n4
    have s5 := new_same (o := .lst [.ref t4]) n5
    have c5 : Cl K _ t5 [.over ys.length] := Cl.one n5 (show Dp K _ (.ref t4) (Th.over ys.length).py from .tup (SqT.of upd_same) (.cons (.str _) (.cons (by rw [lb]; exact .int _) .nil)))
    refine Cl.cat (c3.same (s4.trans s5)) c5 (by rw [List.length_append, List.length_singleton, List.length_singleton]; omega) fun t6 H6 s6 c6 => ?_
    have S6 := S3.trans ((s4.trans s5).trans s6)
    refine ⟨_, rfl, Cl.cat c6 (hb0.same S6) (by rw [List.length_append, List.length_append, List.length_singleton, List.length_singleton]; omega) fun t7 H7 s7 c7 => kk t7 H7 (S6.trans s7) ?_⟩
    have e : fork xs ys = [.nought (xs.length + 1)] ++ xs ++ [.over ys.length] ++ ys := by simp [fork]
    rw [e]
    exact c7
/-! ### _law_tree_code -/
def spLtc (K : PySem.W.Frag) : Nat → Sp
  | 0 => fun _ _ _ _ => False
  | n + 1 => fun vs H Q _ => ∃ (v : V) (e : Ex), vs = [v] ∧ Dp K H v e.py ∧ e.ok ∧ e.dep ≤ n + 1 ∧ e.size ≤ 100 ∧ ∀ t H', Same H H' → Cl K H' t (codeE e) → Q (.ref t) H'
theorem scLtc : FnScope ["item"] ["item"] (defScope s_law_tree_code) := ⟨rfl, rfl, rfl, by decide +kernel, rfl, by decide +kernel, by decide +kernel⟩
theorem ok_law_tree_code (T : Txt K w mg) : ∀ n : Nat, FnOk P w K mg base CX0 (n + 2) (He.fAd K ("_law_tree_code", none)) (fdAt K (He.fAd K ("_law_tree_code", none))) ["item"] (spLtc K n)
  | 0 => ⟨fun _ _ _ _ z => z.elim, fun _ _ _ _ _ _ _ _ _ _ _ _ _ z => z.elim⟩
  | n + 1 => by
    have G := ok_law_tree_code T n
    refine T.F_law_tree_code.ok scLtc (fun vs H Q E h => ?_) (fun cdv A outer s H vs Q E hr h => ?_)
    · obtain ⟨v, e, rfl, _⟩ := h
      rfl
    · obtain ⟨v, e, rfl, hd, ok, hdep, hsz, kk⟩ := h
      refine ⟨_, PSs.nox (pss_cons (ps_if (pt_cmpR op_eq (pe_ix (r := rIxT K) ix_tup (pv 0) pe_int (fun _ _ => rfl)) pe_str (nomark _)) (pss_one (ps_ret (pe_lst (pa_cons (pe_tup (pa_cons pe_str (pa_cons (pe_ix (r := rIxT K) ix_tup (pv 0) pe_int (fun _ _ => rfl)) pa_nil))) pa_nil)))) pss_nil)
      (pss_cons (ps_if (pt_cmpR op_eq (pe_ix (r := rIxT K) ix_tup (pv 0) pe_int (fun _ _ => rfl)) pe_str (nomark _)) (pss_one (ps_ret (pe_op op_cat (pe_call G (hr.mono (by omega)) (by rfl) T.g_law_tree_code (T.F_law_tree_code).kp T.b_law_tree_code .nil pass0 (pa_cons (pe_ix (r := rIxT K) ix_tup (pv 0) pe_int (fun _ _ => rfl)) pa_nil)) (pe_call (ok_law_fork T) (hr.mono (by omega)) (by rfl) T.g_law_fork (T.F_law_fork).kp T.b_law_fork .nil pass0 (pa_cons (pe_call G (hr.mono (by omega)) (by rfl) T.g_law_tree_code (T.F_law_tree_code).kp T.b_law_tree_code .nil pass0 (pa_cons (pe_ix (r := rIxT K) ix_tup (pv 0) pe_int (fun _ _ => rfl)) pa_nil)) (pa_cons (pe_call G (hr.mono (by omega)) (by rfl) T.g_law_tree_code (T.F_law_tree_code).kp T.b_law_tree_code .nil pass0 (pa_cons (pe_ix (r := rIxT K) ix_tup (pv 0) pe_int (fun _ _ => rfl)) pa_nil)) pa_nil)))))) pss_nil)
      (pss_cons (ps_if (pt_cmpR op_eq (pe_ix (r := rIxT K) ix_tup (pv 0) pe_int (fun _ _ => rfl)) pe_str (nomark _)) (pss_one (ps_ret (pe_op op_cat (pe_call G (hr.mono (by omega)) (by rfl) T.g_law_tree_code (T.F_law_tree_code).kp T.b_law_tree_code .nil pass0 (pa_cons (pe_ix (r := rIxT K) ix_tup (pv 0) pe_int (fun _ _ => rfl)) pa_nil)) (pe_lst (pa_cons (pe_tup (pa_cons pe_str (pa_cons pe_str pa_nil))) pa_nil))))) pss_nil)
      (pss_cons (ps_if (PW.pt (pw_and (pt_cmpR op_eq (pe_callB (r := Evl.rLenS K) call_len_seq (by rfl) T.n_len PyProof.Rows.Boot.«len» (pa_cons (pv 0) pa_nil)) pe_int (nomark _)) (pw_and1 (pt_cmpR op_ne (pe_ix (r := rIxT K) ix_tup (pv 0) pe_int (fun _ _ => rfl)) pe_str (nomark _))))) (pss_one (ps_ret (pe_op op_cat (pe_op op_cat (pe_call G (hr.mono (by omega)) (by rfl) T.g_law_tree_code (T.F_law_tree_code).kp T.b_law_tree_code .nil pass0 (pa_cons (pe_ix (r := rIxT K) ix_tup (pv 0) pe_int (fun _ _ => rfl)) pa_nil)) (pe_call G (hr.mono (by omega)) (by rfl) T.g_law_tree_code (T.F_law_tree_code).kp T.b_law_tree_code .nil pass0 (pa_cons (pe_ix (r := rIxT K) ix_tup (pv 0) pe_int (fun _ _ => rfl)) pa_nil))) (pe_lst (pa_cons (pe_tup (pa_cons pe_str (pa_cons (pe_ix (r := rIxT K) ix_tup (pv 0) pe_int (fun _ _ => rfl)) pa_nil))) pa_nil))))) pss_nil)
      (pss_one (ps_ret (pe_lst (pa_cons (pe_tup (pa_cons pe_str (pa_cons (pv 0) pa_nil))) pa_nil)))))))), ?_⟩
      have hd0 := hd
      rw [Ex.py_eq] at hd
      obtain ⟨ca, xs, rfl, sq, all⟩ := dp_tup hd
      cases all with
      | @cons v0 vs0 _ _ hz all =>
      cases hz
      have call : ∀ {H1 : Hp} {x : V} {e1 : Ex} {Q1 : VK} {E1 : XK}, Dp K H1 x e1.py → e1.ok → e1.dep ≤ n → e1.size ≤ 100 → (∀ t H', Same H1 H' → Cl K H' t (codeE e1) → Q1 (.ref t) H') → spLtc K n [x] H1 Q1 E1 := fun {H1 x e1 Q1 E1} d o dp sz kq => by
        obtain ⟨n, rfl⟩ : ∃ q, n = q + 1 := ⟨n - 1, by have := e1.dep_pos; omega⟩
        exact ⟨x, e1, rfl, d, o, dp, sz, kq⟩
      refine ⟨_, rfl, ca, _, _, _, rfl, rfl, sq, atI_nat (j := 0) rfl, rfl, _, rfl, ?_⟩
      cases e with
      | leaf l =>
        obtain ⟨p1, p2⟩ := l.pn ok
        have hln : vs0.length = l.args.length := dpa_len all
        rcases l.num ok with ⟨m, rfl⟩ | ⟨hn, hc⟩
        · cases all with
          | cons h1 all =>
          cases h1
          refine ite2 (fun _ => ?_) (fun z => absurd (by show decide (V.str "number" = V.str "number") = true; decide) z)
          refine ⟨_, rfl, ca, _, _, _, rfl, rfl, sq, atI_nat (j := 1) rfl, (show 2 ≤ sizeLine by decide), fun t1 n1 => ⟨(show 1 ≤ sizeLine by decide), fun t2 n2 => ?_⟩⟩
          exact kk t2 _ ((new_same n1).trans (new_same n2)) (Cl.one n2 (show Dp K _ (.ref t1) (Th.push m).py from .tup (SqT.of upd_same) (.cons (.str _) (.cons (.int _) .nil))))
        · refine ite2 (fun z => absurd z (nf hn)) (fun _ => ?_)
          refine ⟨_, rfl, ca, _, _, _, rfl, rfl, sq, atI_nat (j := 0) rfl, rfl, _, rfl, ite2 (fun z => absurd z (nf p1)) (fun _ => ?_)⟩
          refine ⟨_, rfl, ca, _, _, _, rfl, rfl, sq, atI_nat (j := 0) rfl, rfl, _, rfl, ite2 (fun z => absurd z (nf p2)) (fun _ => ?_)⟩
          have fin : ∀ t1, H t1 = none → ∀ t2, (upd H t1 (.tup [.str "read", .ref ca])) t2 = none → Q (.ref t2) (upd (upd H t1 (.tup [.str "read", .ref ca])) t2 (.lst [.ref t1])) := fun t1 n1 t2 n2 => by
            refine kk t2 _ ((new_same n1).trans (new_same n2)) ?_
            rw [codeE, hc]
            rw [Ex.py] at hd0
            exact Cl.one n2 (show Dp K _ (.ref t1) (Th.read l).py from .tup (SqT.of upd_same) (.cons (.str _) (.cons (dp_nl (TF.of_new n1) _ _ (show NL (.tuple l.ds) from l.nl) hd0) .nil)))
          refine ⟨_, rfl, ca, _, rfl, .inr sq, rfl, _, rfl, ite2 (fun z => ?_) (fun z => ?_)⟩
          · have e3 := int_of z
            have e4 : l.nm = "met own" := by
              rcases l.len with h | h
              · rw [List.length_cons] at e3
                omega
              · exact h
            refine ⟨_, rfl, ca, _, _, _, rfl, rfl, sq, atI_nat (j := 0) rfl, rfl, _, rfl, ite2 (fun z => absurd z (by rw [show (Ex.leaf l).nm = "met own" from e4]; decide)) (fun _ => ?_)⟩
            exact ⟨_, rfl, (show 2 ≤ sizeLine by decide), fun t1 n1 => ⟨(show 1 ≤ sizeLine by decide), fun t2 n2 => fin t1 n1 t2 n2⟩⟩
          · exact iteF ⟨_, rfl, (show 2 ≤ sizeLine by decide), fun t1 n1 => ⟨(show 1 ≤ sizeLine by decide), fun t2 n2 => fin t1 n1 t2 n2⟩⟩
      | neg b =>
        cases all with
        | @cons v1 vs1 _ _ h1 all =>
        cases all
        have hb : b.dep ≤ n := by have : b.dep + 1 ≤ n + 1 := hdep; omega
        rw [Ex.size] at hsz
        have l1 := codeE_len b
        refine ite2 (fun z => absurd z (by show ¬ decide (V.str "not" = V.str "number") = true; decide)) (fun _ => ?_)
        refine ⟨_, rfl, ca, _, _, _, rfl, rfl, sq, atI_nat (j := 0) rfl, rfl, _, rfl, ite2 (fun z => absurd z (by show ¬ decide (V.str "not" = V.str "pick") = true; decide)) (fun _ => ?_)⟩
        refine ⟨_, rfl, ca, _, _, _, rfl, rfl, sq, atI_nat (j := 0) rfl, rfl, _, rfl, ite2 (fun _ => ?_) (fun z => absurd (by show decide (V.str "not" = V.str "not") = true; decide) z)⟩
        refine ⟨_, rfl, ca, _, _, _, rfl, rfl, sq, atI_nat (j := 1) rfl, call h1 ok hb (by omega) (fun t1 H1 s1 c1 => ?_)⟩
        refine ⟨(show 2 ≤ sizeLine by decide), fun t2 n2 => ⟨(show 1 ≤ sizeLine by decide), fun t3 n3 => ?_⟩⟩
        have s2 := new_same (o := .tup [.str "do", .str "not"]) n2
        have s3 := new_same (o := .lst [.ref t2]) n3
        have c3 : Cl K _ t3 [.op "not"] := Cl.one n3 (show Dp K _ (.ref t2) (Th.op "not").py from .tup (SqT.of upd_same) (.cons (.str _) (.cons (.str _) .nil)))
        refine Cl.cat (c1.same (s2.trans s3)) c3 (by rw [List.length_singleton]; omega) fun t4 H4 s4 c4 => kk t4 H4 ((s1.trans (s2.trans s3)).trans s4) ?_
        rw [codeE]
        exact c4
      | two k b c =>
        cases all with
        | @cons v1 vs1 _ _ h1 all =>
        cases all with
        | @cons v2 vs2 _ _ h2 all =>
        cases all
        obtain ⟨p1, p2, p3⟩ := twos_pn k ok.1
        have hd12 := Nat.le_of_succ_le_succ (show Nat.max b.dep c.dep + 1 ≤ n + 1 from hdep)
        have hb := Nat.le_trans (Nat.le_max_left b.dep c.dep) hd12
        have hc := Nat.le_trans (Nat.le_max_right b.dep c.dep) hd12
        rw [Ex.size] at hsz
        have l1 := codeE_len b
        have l2 := codeE_len c
        refine ite2 (fun z => absurd z (nf (twos_num k ok.1))) (fun _ => ?_)
        refine ⟨_, rfl, ca, _, _, _, rfl, rfl, sq, atI_nat (j := 0) rfl, rfl, _, rfl, ite2 (fun z => absurd z (nf p1)) (fun _ => ?_)⟩
        refine ⟨_, rfl, ca, _, _, _, rfl, rfl, sq, atI_nat (j := 0) rfl, rfl, _, rfl, ite2 (fun z => absurd z (nf p2)) (fun _ => ?_)⟩
        refine ⟨_, rfl, ca, _, rfl, .inr sq, rfl, _, rfl, ite2 (fun _ => ?_) (fun z => absurd (by rw [dec_int]; exact decide_eq_true rfl) z)⟩
        refine ⟨_, rfl, ca, _, _, _, rfl, rfl, sq, atI_nat (j := 0) rfl, rfl, _, rfl, ite2 (fun _ => ?_) (fun z => absurd (by rw [show decide (V.str (Ex.two k b c).nm = V.str "met own") = false from p3]; rfl) z)⟩
        refine ⟨_, rfl, ca, _, _, _, rfl, rfl, sq, atI_nat (j := 1) rfl, call h1 ok.2.1 hb (by omega) (fun t1 H1 s1 c1 => ?_)⟩
        have tf1 := same_tf s1
        refine ⟨_, rfl, ca, _, _, _, rfl, rfl, tf1.sq sq, atI_nat (j := 2) rfl, call (dp_nl tf1 _ _ c.nl h2) ok.2.2 hc (by omega) (fun t2 H2 s2 c2 => ?_)⟩
        refine Cl.cat (c1.same s2) c2 (by omega) fun t3 H3 s3 c3 => ?_
        have S3 := (s1.trans s2).trans s3
        refine ⟨_, rfl, ca, _, _, _, rfl, rfl, (same_tf S3).sq sq, atI_nat (j := 0) rfl, (show 2 ≤ sizeLine by decide), fun t4 n4 => ⟨(show 1 ≤ sizeLine by decide), fun t5 n5 => ?_⟩⟩
        have s4 := new_same (o := .tup [.str "do", .str k]) n4
        have s5 := new_same (o := .lst [.ref t4]) n5
        have c5 : Cl K _ t5 [.op k] := Cl.one n5 (show Dp K _ (.ref t4) (Th.op k).py from .tup (SqT.of upd_same) (.cons (.str _) (.cons (.str _) .nil)))
        refine Cl.cat (c3.same (s4.trans s5)) c5 (by rw [List.length_append, List.length_singleton]; omega) fun t6 H6 s6 c6 => kk t6 H6 ((S3.trans (s4.trans s5)).trans s6) ?_
        rw [codeE]
        exact c6
      | pick b c d =>
        cases all with
        | @cons v1 vs1 _ _ h1 all =>
        cases all with
        | @cons v2 vs2 _ _ h2 all =>
        cases all with
        | @cons v3 vs3 _ _ h3 all =>
        cases all
        have hd12 := Nat.le_of_succ_le_succ (show Nat.max b.dep (Nat.max c.dep d.dep) + 1 ≤ n + 1 from hdep)
        have hb := Nat.le_trans (Nat.le_max_left b.dep (Nat.max c.dep d.dep)) hd12
        have hcd := Nat.le_trans (Nat.le_max_right b.dep (Nat.max c.dep d.dep)) hd12
        have hc := Nat.le_trans (Nat.le_max_left c.dep d.dep) hcd
        have hdd := Nat.le_trans (Nat.le_max_right c.dep d.dep) hcd
        rw [Ex.size] at hsz
        have l1 := codeE_len b
        have l2 := codeE_len c
        have l3 := codeE_len d
        refine ite2 (fun z => absurd z (by show ¬ decide (V.str "pick" = V.str "number") = true; decide)) (fun _ => ?_)
        refine ⟨_, rfl, ca, _, _, _, rfl, rfl, sq, atI_nat (j := 0) rfl, rfl, _, rfl, ite2 (fun _ => ?_) (fun z => absurd (by show decide (V.str "pick" = V.str "pick") = true; decide) z)⟩
        refine ⟨_, rfl, ca, _, _, _, rfl, rfl, sq, atI_nat (j := 1) rfl, call h1 ok.1 hb (by omega) (fun t1 H1 s1 c1 => ?_)⟩
        have tf1 := same_tf s1
        refine ⟨_, rfl, ca, _, _, _, rfl, rfl, tf1.sq sq, atI_nat (j := 2) rfl, call (dp_nl tf1 _ _ c.nl h2) ok.2.1 hc (by omega) (fun t2 H2 s2 c2 => ?_)⟩
        have tf2 := same_tf (s1.trans s2)
        refine ⟨_, rfl, ca, _, _, _, rfl, rfl, tf2.sq sq, atI_nat (j := 3) rfl, call (dp_nl tf2 _ _ d.nl h3) ok.2.2 hdd (by omega) (fun t3 H3 s3 c3 => ?_)⟩
        refine ⟨t2, t3, codeE c, codeE d, rfl, c2.same s3, c3, by omega, fun t4 H4 s4 c4 => ?_⟩
        refine Cl.cat (c1.same ((s2.trans s3).trans s4)) c4 (by rw [fork_len]; omega) fun t5 H5 s5 c5 => kk t5 H5 ((((s1.trans s2).trans s3).trans s4).trans s5) ?_
        rw [codeE]
        exact c5
/-! ### _law_code -/
theorem De.beg (d : De) (h : d.flat) : d = .gone ∨ ∃ nm rest, d.hd = .str nm :: rest ∧ decide (V.str nm = V.str "when") = false ∧ decide (V.str nm = V.str "gone") = false ∧ 1 ≤ d.exs.length ∧ ((decide (V.str nm = V.str "go") = true ∧ d.hd.length = 1) ∨ (decide (V.str nm = V.str "go") = false ∧ d.hd.length = 2)) := by
  cases d with
  | gone => exact .inl rfl
  | when a ds es => exact h.elim
  | go a b => exact .inr ⟨_, _, rfl, by decide, by decide, (by simp [De.exs]), .inl ⟨by decide, rfl⟩⟩
  | own i a => exact .inr ⟨_, _, rfl, by decide, by decide, (by simp [De.exs]), .inr ⟨by decide, rfl⟩⟩
  | mark i a => exact .inr ⟨_, _, rfl, by decide, by decide, (by simp [De.exs]), .inr ⟨by decide, rfl⟩⟩
  | born k a b c e => exact .inr ⟨_, _, rfl, by decide, by decide, (by simp [De.exs]), .inr ⟨by decide, rfl⟩⟩
theorem sub_case {Q : VK} {H : Hp} {c : Bool} {B : Int} (e : B = 2 - (if c = true then (1 : Int) else 0)) (h : Q (.int B) H) : rI0 (fun i j => V.int (i - j)) (V.int 2) (V.int (if c = true then 1 else 0)) H Q := by
  rw [e] at h
  exact ⟨_, _, rfl, rfl, h⟩
theorem De.nl_flat (d : De) : NLs (d.hd ++ d.exs.map Ex.py) := by
  have e : ∀ (as bs : List PyData), NLs as → NLs bs → NLs (as ++ bs) := fun as bs h1 h2 => by
    induction as with
    | nil => exact h2
    | cons a as ih => exact ⟨h1.1, ih h1.2⟩
  exact e _ _ d.hd_nl (nls_py _)
def spLcd (K : PySem.W.Frag) : Nat → Sp
  | 0 => fun _ _ _ _ => False
  | n + 1 => fun vs H Q _ => ∃ (t : Addr) (xs : List V) (ds : List De), vs = [.ref t] ∧ SqT K H t xs ∧ DpAll K H xs (ds.map De.py) ∧ (∀ d ∈ ds, d.ok) ∧ deps ds ≤ n + 1 ∧ szs ds ≤ 100 ∧ ∀ t H', Same H H' → Cl K H' t (codeDs ds) → Q (.ref t) H'
theorem scLcd : FnScope ["deeds", "code", "deed", "begin", "k"] ["deeds"] (defScope s_law_code) := ⟨rfl, rfl, rfl, by decide +kernel, rfl, by decide +kernel, by decide +kernel⟩
theorem ok_law_code (T : Txt K w mg) : ∀ n : Nat, FnOk P w K mg base CX0 (n + 3) (He.fAd K ("_law_code", none)) (fdAt K (He.fAd K ("_law_code", none))) ["deeds"] (spLcd K n)
  | 0 => ⟨fun _ _ _ _ z => z.elim, fun _ _ _ _ _ _ _ _ _ _ _ _ _ z => z.elim⟩
  | n + 1 => by
    have G := ok_law_code T n
    have GE := ok_law_tree_code (P := P) (base := base) T n
    refine T.F_law_code.ok scLcd (fun vs H Q E h => ?_) (fun cdv A outer s H vs Q E hr h => ?_)
    · obtain ⟨t, xs, ds, rfl, _⟩ := h
      rfl
    · obtain ⟨t, xs, ds, rfl, ht, hds, ok, hdp, hsz, kk⟩ := h
      refine ⟨_, PSs.nox (pss_cons (ps_set (i := 1) scLcd.nd rfl (Or.inl rfl) (pe_lst pa_nil))
      (pss_cons (ps_for PassesOwn.never rfl (pi_tup (pv 0)) (pg_name (i := 2) scLcd.nd rfl (Or.inl rfl)) (pss_one (ps_if (pt_cmpR op_eq (pe_ix (r := rIxT K) ix_tup (pv 2) pe_int (fun _ _ => rfl)) pe_str (nomark _)) (pss_one (ps_set (i := 1) scLcd.nd rfl (Or.inl rfl) (pe_op op_cat (pe_op op_cat (pv 1) (pe_call GE (hr.mono (by omega)) (by rfl) T.g_law_tree_code (T.F_law_tree_code).kp T.b_law_tree_code .nil pass0 (pa_cons (pe_ix (r := rIxT K) ix_tup (pv 2) pe_int (fun _ _ => rfl)) pa_nil))) (pe_call (ok_law_fork T) (hr.mono (by omega)) (by rfl) T.g_law_fork (T.F_law_fork).kp T.b_law_fork .nil pass0 (pa_cons (pe_call G (hr.mono (by omega)) (by rfl) T.g_law_code (T.F_law_code).kp T.b_law_code .nil pass0 (pa_cons (pe_ix (r := rIxT K) ix_tup (pv 2) pe_int (fun _ _ => rfl)) pa_nil)) (pa_cons (pe_call G (hr.mono (by omega)) (by rfl) T.g_law_code (T.F_law_code).kp T.b_law_code .nil pass0 (pa_cons (pe_ix (r := rIxT K) ix_tup (pv 2) pe_int (fun _ _ => rfl)) pa_nil)) pa_nil)))))) (pss_one (ps_if (pt_cmpR op_eq (pe_ix (r := rIxT K) ix_tup (pv 2) pe_int (fun _ _ => rfl)) pe_str (nomark _)) (pss_one (ps_set (i := 1) scLcd.nd rfl (Or.inl rfl) (pe_op op_cat (pv 1) (pe_lst (pa_cons (pv 2) pa_nil))))) (pss_cons (ps_set (i := 3) scLcd.nd rfl (Or.inl rfl) (pe_op op_sub pe_int (pe_callTy call_int1 (by rfl) T.n_int PyProof.Rows.Boot.«int» (pa_cons (pe_cmpR op_eq (pe_ix (r := rIxT K) ix_tup (pv 2) pe_int (fun _ _ => rfl)) pe_str (nomark _)) pa_nil))))
      (pss_cons (ps_for PassesOwn.never rfl (pi_range2 (by rfl) T.n_range (pa_cons (pv 3) (pa_cons (pe_callB (r := Evl.rLenS K) call_len_seq (by rfl) T.n_len PyProof.Rows.Boot.«len» (pa_cons (pv 2) pa_nil)) pa_nil))) (pg_name (i := 4) scLcd.nd rfl (Or.inl rfl)) (pss_one (ps_set (i := 1) scLcd.nd rfl (Or.inl rfl) (pe_op op_cat (pv 1) (pe_call GE (hr.mono (by omega)) (by rfl) T.g_law_tree_code (T.F_law_tree_code).kp T.b_law_tree_code .nil pass0 (pa_cons (pe_ix (r := rIxT K) ix_tup (pv 2) (pv 4) (fun _ _ => rfl)) pa_nil))))))
      (pss_one (ps_set (i := 1) scLcd.nd rfl (Or.inl rfl) (pe_op op_cat (pv 1) (pe_lst (pa_cons (pe_slice sl_tup (pv 2) po_none (po_some (pv 3))) pa_nil))))))))))))
      (pss_one (ps_ret (pv 1))))), ?_⟩
      have hxl : xs.length = ds.length := by rw [dpa_len hds, List.length_map]
      refine ⟨(show 0 ≤ sizeLine by decide), fun t0 n0 => ?_⟩
      have s0 := new_same (o := .lst []) n0
      have c0 : Cl K (upd H t0 (.lst [])) t0 [] := ⟨[], upd_same, .nil⟩
      refine ⟨_, rfl, t, rfl, ⟨_, (same_tf s0).sq ht⟩, ?_⟩
      refine for_tup (xs := xs) (fun j σ H' => ∃ (t1 : Addr) (v2 v3 v4 : Option V), σ = [some (.ref t), some (.ref t1), v2, v3, v4] ∧ Same H H' ∧ Cl K H' t1 (codeDs (ds.take j))) ⟨t0, none, _, _, rfl, s0, by rw [List.take_zero, codeDs]; exact c0⟩ (fun j σ H' _ h => by obtain ⟨_, _, _, _, _, s, _⟩ := h; exact (same_tf s).sq ht) (fun j y σ H1 hy hPv => ?_) (fun σ H1 hPv => ?_)
      · obtain ⟨t1, v2, v3, v4, rfl, s1, c1⟩ := hPv
        have hj : j < ds.length := by
          rw [← hxl]
          exact (List.getElem?_eq_some_iff.mp hy).1
        rw [codeDs_take ds hj]
        have z1 := szs_take ds hj
        have z2 := szs_le ds (j + 1)
        have z3 := codeDs_len (ds.take j)
        obtain ⟨v, hv, dv⟩ := dpa_get hds (show (ds.map De.py)[j]? = some ds[j].py by rw [List.getElem?_map, List.getElem?_eq_getElem hj]; rfl)
        rw [hy] at hv
        cases hv
        have dok := ok _ (List.getElem_mem hj)
        have ddep := (deps_le ds).mp hdp _ (List.getElem_mem hj)
        have hdv := dp_nl (same_tf s1) _ _ (De.nl _) dv
        obtain ⟨d, hd⟩ : ∃ d, d = ds[j] := ⟨_, rfl⟩
        rw [← hd] at dok ddep hdv z1 ⊢
        clear dv hd
        rcases d.cases with dfl | ⟨b, es, fs, rfl⟩
        · have hfs := flat_sum d dfl
          rw [codeD_flat d dfl]
          rcases d.beg dfl with rfl | ⟨nm, rest, hnm, hwhen, hgone, he1, hgo⟩
          · have hdv0 := hdv
            rw [De.py] at hdv
            obtain ⟨ca, cx, rfl, sq1, all⟩ := dp_tup hdv
            cases all with
            | cons h1 r1 =>
            cases h1
            refine ⟨_, rfl, ca, _, _, _, rfl, rfl, sq1, atI_nat (j := 0) rfl, rfl, _, rfl, ite2 (fun z => absurd z (by decide)) (fun _ => ?_)⟩
            refine ⟨_, rfl, ca, _, _, _, rfl, rfl, sq1, atI_nat (j := 0) rfl, rfl, _, rfl, ite2 (fun _ => ?_) (fun z => absurd (by decide) z)⟩
            refine ⟨_, rfl, _, rfl, (show 1 ≤ sizeLine by decide), fun t2 n2 => ?_⟩
            have s2 := new_same (o := .lst [.ref ca]) n2
            have c2 : Cl K _ t2 [.act .gone] := Cl.one n2 (by rw [De.py] at hdv0; exact hdv0)
            refine Cl.cat (c1.same s2) c2 (by rw [List.length_singleton]; omega) fun t3 H3 s3 c3 => ⟨t3, _, _, _, rfl, s1.trans (s2.trans s3), c3⟩
          · rw [d.py_flat dfl] at hdv
            obtain ⟨ca, cx, rfl, sq1, all⟩ := dp_tup hdv
            have h0 : cx[0]? = some (.str nm) := by
              rw [hnm] at all
              exact dpa_str0 all
            refine ⟨_, rfl, ca, _, _, _, rfl, rfl, sq1, atI_nat (j := 0) h0, rfl, _, rfl, ite2 (fun z => absurd z (nf hwhen)) (fun _ => ?_)⟩
            refine ⟨_, rfl, ca, _, _, _, rfl, rfl, sq1, atI_nat (j := 0) h0, rfl, _, rfl, ite2 (fun z => absurd z (nf hgone)) (fun _ => ?_)⟩
            obtain ⟨B, hB, hB2, hBh⟩ : ∃ B : Nat, (B : Int) = 2 - (if decide (V.str nm = V.str "go") = true then (1 : Int) else 0) ∧ B ≤ 2 ∧ d.hd.length = B := by
              rcases hgo with ⟨e1, e2⟩ | ⟨e1, e2⟩
              · exact ⟨1, by rw [e1]; rfl, by decide, e2⟩
              · exact ⟨2, by rw [e1]; rfl, by decide, e2⟩
            have hcl : cx.length = d.hd.length + d.exs.length := by rw [dpa_len all, List.length_append, List.length_map]
            have he4 : d.exs.length ≤ 4 := by cases d <;> simp [De.exs]
            refine ⟨_, rfl, ca, _, _, _, rfl, rfl, sq1, atI_nat (j := 0) h0, rfl, .inr ⟨_, rfl, sub_case hB ?_⟩⟩
            refine ⟨_, rfl, _, rfl, ca, cx, rfl, .inr sq1, _, _, rfl, ⟨by omega, by omega, by omega, by omega⟩, ?_⟩
            refine for_range (lo := (B : Int)) (fun q σ H' => ∃ (u1 : Addr) (v5 : Option V), σ = [some (.ref t), some (.ref u1), some (.ref ca), some (.int (B : Int)), v5] ∧ Same H1 H' ∧ Cl K H' u1 (codeDs (ds.take j) ++ (d.exs.take q).flatMap codeE)) ⟨t1, _, rfl, Same.refl _, by rw [List.take_zero, List.flatMap_nil, List.append_nil]; exact c1⟩ (fun q σ H2 hq0 hPv => ?_) (fun σ H2 hPv => ?_)
            · obtain ⟨u1, v5, rfl, s2, c2⟩ := hPv
              have hq : q < d.exs.length := by omega
              obtain ⟨v, hv, dv⟩ := dpa_get all (show (d.hd ++ d.exs.map Ex.py)[d.hd.length + q]? = some d.exs[q].py by rw [List.getElem?_append_right (by omega), Nat.add_sub_cancel_left, List.getElem?_map, List.getElem?_eq_getElem hq]; rfl)
              rw [hBh] at hv
              have y1 := sumE_take d.exs hq
              have y2 := sumE_le d.exs (q + 1)
              have l1 := codes_len (d.exs.take q)
              have l2 := codeE_len d.exs[q]
              have eok := d.exs_ok dok _ (List.getElem_mem hq)
              have edp := d.exs_dep _ (List.getElem_mem hq)
              obtain ⟨n, rfl⟩ : ∃ m, n = m + 1 := ⟨n - 1, by have := Ex.dep_pos d.exs[q]; omega⟩
              have tf2 := same_tf s2
              rw [show (B : Int) + (q : Int) = ((B + q : Nat) : Int) by omega]
              refine ⟨_, rfl, _, rfl, _, rfl, ca, cx, _, v, rfl, rfl, tf2.sq sq1, atI_nat hv, v, d.exs[q], rfl, dp_nl tf2 _ _ (Ex.nl _) dv, eok, by omega, by omega, fun t2 H3 s3 c3 => ?_⟩
              refine Cl.cat (c2.same s3) c3 (by rw [List.length_append]; omega) fun t3 H4 s4 c4 => ⟨t3, _, rfl, (s2.trans s3).trans s4, ?_⟩
              rw [flat_take d.exs hq, ← List.append_assoc]
              exact c4
            · obtain ⟨u1, v5, rfl, s2, c2⟩ := hPv
              have e9 : ((cx.length : Int) - (B : Int)).toNat = d.exs.length := by omega
              rw [e9, List.take_length] at c2
              have hcut : cutV cx none (some (B : Int)) = cx.take B := cutT _ _
              refine ⟨_, rfl, _, rfl, _, rfl, (B : Int), rfl, ca, cx, rfl, (same_tf s2).sq sq1, fun h => ?_, fun q2 nq2 => ⟨(show 1 ≤ sizeLine by decide), fun t2 n2 => ?_⟩⟩
              · have h2 := h.2
                rw [HT.sIx_nat] at h2
                omega
              · rw [hcut] at n2 ⊢
                have sq2 := new_same (o := .tup (cx.take B)) nq2
                have s3 := new_same (o := .lst [.ref q2]) n2
                have hall := dpa_nl (same_tf (s2.trans sq2)) _ _ (show NLs (d.hd ++ d.exs.map Ex.py) from d.nl_flat) (all)
                have c3 : Cl K _ t2 [.act d] := Cl.one n2 (show Dp K _ (.ref q2) (Th.act d).py from .tup (SqT.of upd_same) (by
                  have h3 := dpa_take B hall
                  have eB : (d.hd ++ d.exs.map Ex.py).take B = d.hd := by
                    rw [← hBh]
                    exact List.take_left
                  rw [eB] at h3
                  exact h3))
                have l1 := codes_len d.exs
                refine Cl.cat (c2.same (sq2.trans s3)) c3 (by rw [List.length_append, List.length_singleton]; omega) fun t3 H4 s4 c4 => ⟨t3, _, _, _, rfl, s1.trans ((s2.trans (sq2.trans s3)).trans s4), ?_⟩
                rw [codeF, ← List.append_assoc]
                exact c4
        · rw [De.py] at hdv
          rw [De.ok] at dok
          rw [De.dep] at ddep
          rw [De.size] at z1
          have ddep := Nat.le_of_succ_le_succ ddep
          have d1 := Nat.le_trans (Nat.le_max_left b.dep (Nat.max (deps es) (deps fs))) ddep
          have d23 := Nat.le_trans (Nat.le_max_right b.dep (Nat.max (deps es) (deps fs))) ddep
          have d2 := Nat.le_trans (Nat.le_max_left (deps es) (deps fs)) d23
          have d3 := Nat.le_trans (Nat.le_max_right (deps es) (deps fs)) d23
          obtain ⟨ca, cx, rfl, sq1, all⟩ := dp_tup hdv
          cases all with
          | cons h0 all =>
          cases all with
          | @cons wb _ _ _ hb all =>
          cases all with
          | @cons we _ _ _ he all =>
          cases all with
          | @cons wf _ _ _ hf all =>
          cases all
          cases h0
          obtain ⟨n, rfl⟩ : ∃ q, n = q + 1 := ⟨n - 1, by have := b.dep_pos; omega⟩
          obtain ⟨ea, ex, rfl, esq, eall⟩ := dp_tup he
          obtain ⟨fa, fx, rfl, fsq, fall⟩ := dp_tup hf
          rw [pys_eq] at eall fall
          have l1 := codeE_len b
          have l2 := codeDs_len es
          have l3 := codeDs_len fs
          refine ⟨_, rfl, ca, _, _, _, rfl, rfl, sq1, atI_nat (j := 0) rfl, rfl, _, rfl, ite2 (fun _ => ?_) (fun z => absurd (by decide) z)⟩
          refine ⟨_, rfl, _, rfl, ca, _, _, _, rfl, rfl, sq1, atI_nat (j := 1) rfl, wb, b, rfl, hb, dok.1, d1, by omega, fun t2 H2 s2 c2 => ?_⟩
          have tf2 := same_tf s2
          refine Cl.cat (c1.same s2) c2 (by omega) fun t3 H3 s3 c3 => ?_
          have S3 := s2.trans s3
          have tf3 := same_tf S3
          refine ⟨_, rfl, ca, _, _, _, rfl, rfl, tf3.sq sq1, atI_nat (j := 2) rfl, ea, ex, es, rfl, tf3.sq esq, dpa_nl tf3 _ _ (nl_des _) eall, (oks_iff es).mp dok.2.1, d2, by omega, fun t4 H4 s4 c4 => ?_⟩
          have S4 := S3.trans s4
          have tf4 := same_tf S4
          refine ⟨_, rfl, ca, _, _, _, rfl, rfl, tf4.sq sq1, atI_nat (j := 3) rfl, fa, fx, fs, rfl, tf4.sq fsq, dpa_nl tf4 _ _ (nl_des _) fall, (oks_iff fs).mp dok.2.2, d3, by omega, fun t5 H5 s5 c5 => ?_⟩
          refine ⟨t4, t5, _, _, rfl, c4.same s5, c5, by omega, fun t6 H6 s6 c6 => ?_⟩
          refine Cl.cat (c3.same ((s4.trans s5).trans s6)) c6 (by rw [List.length_append, fork_len]; omega) fun t7 H7 s7 c7 => ?_
          refine ⟨t7, _, _, _, rfl, s1.trans (((S4.trans s5).trans s6).trans s7), ?_⟩
          rw [codeD, ← List.append_assoc]
          exact c7
      · obtain ⟨t1, v2, v3, v4, rfl, s1, c1⟩ := hPv
        rw [List.take_of_length_le (by omega)] at c1
        exact ⟨_, rfl, kk t1 H1 s1 c1⟩
end
end K5
set_option maxRecDepth 100000
set_option maxHeartbeats 4000000
/-! The law. -/
namespace KF
open PySem PySem.Spec PyProof.Rows L2
section
variable {K : PySem.W.Frag} {x qual : Str} {params : Arguments} {body : List Stmt} {scope : Scope} {kws : List (Str × V)} {f : Addr} {fd : FuncData} {ps : List Str}
def kG {α : Type} (us ws : List α) : List α := if us.isEmpty then ws else []
theorem kb_only (F : FunD K x qual params body scope [] kws f fd) (hp : ps.length ≠ 0)
    (h : ∀ (kV doc pm : Value) (an : Option Addr) (cdv ct : Value) (ws : List Value), ws.length = ps.length → bindArgs (PySem.W.fnOf x qual params body scope .none kV doc pm an cdv ct) ⟨[], ps.zip ws⟩ = pure (ps.zip ws)) : KBinds K fd ps ps kG kG := by
  obtain ⟨oc, od, dV, kV, doc, pm, an, cdv, ct, osl, rfl, lk, hcd, hD, hK⟩ := F.ex
  rcases hD with ⟨_, rfl⟩ | ⟨e, _⟩
  · refine ⟨fun s us ws _ hl => ?_, fun {vs us zs ws} r rz => ?_⟩
    · cases us with
      | nil => exact .of_eq (h kV doc pm an cdv ct ws hl)
      | cons a b => exact absurd hl.symm hp
    · cases r with
      | nil => exact rz
      | cons _ _ => exact .nil
  · exact absurd rfl e
end
section
variable {X : Cx} {CX : CXT} {k : Nat} {f : Addr} {fd : FuncData} {ps ks : List Str} {sp : Sp} {E : XK} {x : Str} {p pos : Pos} {kws : List Keyword} {tk : TA} {g : List Value → List Value → List Value} {gV : List V → List V → List V}
theorem pe_callKw (F : FnOk X.prog X.w X.K X.mg X.base CX k f fd ps sp) (hr : Room k X.A) (hg : Gl X x) (hm : X.mg x = some (.ref f)) (hk : PySem.W.keepIn X.K (.ref f) = true) (hb : KBinds X.K fd ps ks g gV) (hx : Passes CX X E)
    (hkw : PK X kws tk) (hall : (backToKw pos (keywordEach kws X.env)).all (·.1.isSome) = true := by rfl) (hks : (backToKw pos (keywordEach kws X.env)).filterMap (·.1) = ks := by rfl)
    (hdb : (x == ("__debug__" : Str)) = false := by decide)
    (hpl : ((backTo pos (starEach [] X.env)).any (·.1) || (backToKw pos (keywordEach kws X.env)).any (·.1.isNone)) = false := by rfl) :
    PE X (.Call (.Name x p) [] kws pos) (tCallK sp gV E tNil tk) := by
  refine ⟨fun pins s σ H Q I h => ?_⟩
  refine wpAny_Call_Name_kw (ld_glob I hg hm ?_ hdb)
  refine PySem.W.callWith_KW0 (h₀ := X.base) I.ok.mod.kin hk hall ?_ hpl
  refine thn (hkw.run pos pins s σ H _ I h) fun ws s2 ⟨zs, H2, I2, rz, q2⟩ => ⟨I2.kIn, ?_⟩
  rw [hks]
  exact run_fnk (us := []) (vs := []) F hr hb hx I2 .nil rz q2
end
end KF
namespace K5
open PySem PySem.Spec PyProof.Rows L2 KF
theorem canon_len : ∀ (s : List (Option Int)) (k : Nat), (canonR k s).length ≤ s.length
  | [], _ => Nat.le_refl _
  | none :: s, k => by
    have := canon_len s (k + 1)
    rw [canonR, List.length_cons]
    omega
  | some n :: s, k => by
    have := canon_len s (k + 1)
    rw [canonR, List.length_cons, List.length_cons]
    omega
theorem al_ints (ns : List Int) (h : ns.length ≤ 20) : AlOk 1 (intTs ns) := by
  refine ⟨by rw [List.length_map]; omega, nl_ints _, fun e he => ?_⟩
  obtain ⟨n, _, rfl⟩ := List.mem_map.mp he
  trivial
theorem al_up : ∀ (n : Nat) (d : PyData), AlOk n d → AlOk (n + 1) d
  | 0, d, h => by cases d <;> first | trivial | exact h.elim
  | n + 1, d, h => by
    cases d with
    | tuple ds => exact ⟨h.1, h.2.1, fun e he => al_up n e (h.2.2 e he)⟩
    | none => trivial
    | int _ => trivial
    | bool _ => trivial
    | str _ => trivial
    | _ => exact h.elim
theorem al_out (r : Ru) (h : r.ok) : AlOk 3 r.out := by
  refine ⟨(show 7 ≤ 200 by decide), ⟨trivial, trivial, nl_ints _, nl_pr _, ?_, nl_born _, trivial, trivial⟩, fun e he => ?_⟩
  · split
    · cases r.s.s <;> trivial
    · trivial
  · simp only [List.mem_cons, List.not_mem_nil, or_false] at he
    rcases he with rfl | rfl | rfl | rfl | rfl | rfl | rfl
    · trivial
    · trivial
    · exact al_up 1 _ (al_ints _ (by rw [h.f.own.1]; decide))
    · refine ⟨?_, nl_pr _, fun e he => ?_⟩
      · rw [List.length_map]
        have := canon_len r.x.set 0
        have := h.x.set
        omega
      · obtain ⟨p, _, rfl⟩ := List.mem_map.mp he
        refine ⟨(show 2 ≤ 200 by decide), ⟨trivial, trivial, trivial⟩, fun e he => ?_⟩
        simp only [List.mem_cons, List.not_mem_nil, or_false] at he
        rcases he with rfl | rfl <;> trivial
    · split
      · cases r.s.s <;> trivial
      · trivial
    · refine ⟨?_, nl_born _, fun e he => ?_⟩
      · rw [List.length_map]
        have := h.x.born
        omega
      · obtain ⟨b, hb2, rfl⟩ := List.mem_map.mp he
        exact al_ints _ (by rw [h.x.bl b hb2]; decide)
    · trivial
theorem al_atoms (n : Nat) (ds : List PyData) (h : ∀ x ∈ ds, (∃ s, x = .str s) ∨ ∃ i, x = .int i) : ∀ e ∈ ds, AlOk n e := fun e he => by
  rcases h e he with ⟨s, rfl⟩ | ⟨i, rfl⟩ <;> cases n <;> trivial
theorem al_th (t : Th) : AlOk 2 t.py := by
  have nl := t.nl
  cases t with
  | read l =>
    refine ⟨(show 2 ≤ 200 by decide), nl, fun e he => ?_⟩
    simp only [Th.ds, List.mem_cons, List.not_mem_nil, or_false] at he
    rcases he with rfl | rfl
    · trivial
    · have e : l.ds = .str l.nm :: l.args := by
        have h := (Ex.leaf l).py_eq
        rw [Ex.py] at h
        injection h with h
      refine ⟨?_, l.nl, al_atoms 0 _ fun x hx => ?_⟩
      · rw [e, List.length_cons]
        have : l.args.length ≤ 2 := by cases l <;> simp [Lf.args]
        omega
      · rw [e] at hx
        rcases List.mem_cons.mp hx with h | h
        · exact .inl ⟨_, h⟩
        · exact l.args_atom x h
  | act d => exact ⟨(show d.hd.length ≤ 200 from Nat.le_trans d.hd_len (by decide)), nl, al_atoms 1 _ d.hd_atom⟩
  | push n => exact ⟨(show 2 ≤ 200 by decide), nl, al_atoms 1 _ (by simp [Th.ds])⟩
  | over n => exact ⟨(show 2 ≤ 200 by decide), nl, al_atoms 1 _ (by simp [Th.ds])⟩
  | nought n => exact ⟨(show 2 ≤ 200 by decide), nl, al_atoms 1 _ (by simp [Th.ds])⟩
  | op k => exact ⟨(show 2 ≤ 200 by decide), nl, al_atoms 1 _ (by simp [Th.ds])⟩
theorem al_code (c : List Th) (h : c.length ≤ 200) : AlOk 3 (.tuple (c.map Th.py)) := by
  refine ⟨by rw [List.length_map]; exact h, nls_th _, fun e he => ?_⟩
  obtain ⟨t, _, rfl⟩ := List.mem_map.mp he
  exact al_th t
def toldPy (r : Ru) (k : Nat) : PyData := .tuple [r.out, .int (k : Int)]
theorem al_told (r : Ru) (k : Nat) (h : r.ok) : AlOk 4 (toldPy r k) := by
  refine ⟨(show 2 ≤ 200 by decide), ⟨r.nl_out, trivial, trivial⟩, fun e he => ?_⟩
  simp only [List.mem_cons, List.not_mem_nil, or_false] at he
  rcases he with rfl | rfl
  · exact al_out r h
  · trivial
theorem wants_has {ds : List De} {f : Fx} (ok : ∀ d ∈ ds, d.ok) (hm : ∀ i ∈ wantsM ds, ∃ n, f.marks[i]? = some (some n)) (hs : wantsS ds = true → ∃ n, f.seed = some n) : hasAll ⟨f, ⟨f.seed, false⟩, Bx0⟩ ds := by
  intro l hl
  have hx := leaf_nodes ds l hl
  cases l with
  | mark j =>
    have h1 := lvs_ok ds ((oks_iff ds).mpr ok) _ hl
    refine hm _ (List.mem_filter.mpr ⟨List.mem_range.mpr ?_, List.any_eq_true.mpr ⟨_, hx, ?_⟩⟩)
    · have : 0 ≤ j ∧ j ≤ 15 := h1
      omega
    · have : 0 ≤ j ∧ j ≤ 15 := h1
      show decide (some j = some ((j.toNat : Nat) : Int)) = true
      rw [decide_eq_true_eq]
      congr 1
      omega
  | drawn n => exact hs (List.any_eq_true.mpr ⟨_, hx, rfl⟩)
  | _ => trivial
section
variable {P : Program} {w : World} {K : PySem.W.Frag} {mg : Str → Option Value} {base : Heap}
def spMk (K : PySem.W.Frag) : Sp := fun vs H Q _ => ∃ (nb : Bool) (t : Addr) (xs : List V) (ds : List De), vs = [.bl nb, .ref t] ∧ SqT K H t xs ∧ DpAll K H xs (ds.map De.py) ∧ (∀ d ∈ ds, d.ok) ∧ szs ds ≤ 60 ∧ deps ds ≤ 8 ∧ ∀ q H', Same H H' → Cd K H' q (codeDs ds) → Q (.ref q) H'
theorem scMk : FnScope ["named", "rules"] ["named", "rules"] (defScope s_law_made_code) := ⟨rfl, rfl, rfl, by decide +kernel, rfl, by decide +kernel, by decide +kernel⟩
theorem ok_law_made_code (T : Txt K w mg) : FnOk P w K mg base CX0 21 (He.fAd K ("_law_made_code", none)) (fdAt K (He.fAd K ("_law_made_code", none))) ["named", "rules"] (spMk K) := by
  have kb : KBinds K (fdAt K (He.fAd K ("compiled", none))) ["script"] ["script"] kG kG := kb_only T.F_compiled (by decide) fun _ _ _ _ _ _ ws hl => match ws, hl with | [_], _ => rfl
  refine T.F_law_made_code.ok scMk (fun vs H Q E h => ?_) (fun cdv A outer s H vs Q E hr h => ?_)
  · obtain ⟨nb, t, xs, ds, rfl, _⟩ := h
    rfl
  · obtain ⟨nb, t, xs, ds, rfl, h⟩ := h
    refine ⟨_, PSs.nox (pss_cons (ps_if (pt_val (pv 0)) (pss_one (ps_ret (pe_callKw (ok_compiled T) (hr.mono (by decide)) (by rfl) T.g_compiled T.F_compiled.kp kb pass0 (pk_cons (pv 1) pk_nil)))) pss_nil)
      (pss_one (ps_ret (pe_call (ok_compiled T) (hr.mono (by omega)) (by rfl) T.g_compiled (T.F_compiled).kp T.b_compiled .nil pass0 (pa_cons (pv 1) pa_nil))))), ?_⟩
    refine ⟨_, rfl, nb, rfl, ?_⟩
    cases nb with
    | true => exact iteT ⟨_, rfl, t, xs, ds, rfl, h⟩
    | false => exact iteF ⟨_, rfl, t, xs, ds, rfl, h⟩
def spFl (K : PySem.W.Frag) : Sp := fun vs H Q E => ∃ (nb : Bool) (x y : V), vs = [.bl nb, x, y] ∧ spRc K [x, y] H Q E
theorem scFl : FnScope ["named", "steps", "facts"] ["named", "steps", "facts"] (defScope s_law_followed) := ⟨rfl, rfl, rfl, by decide +kernel, rfl, by decide +kernel, by decide +kernel⟩
theorem ok_law_followed (T : Txt K w mg) : FnOk P w K mg base CX0 12 (He.fAd K ("_law_followed", none)) (fdAt K (He.fAd K ("_law_followed", none))) ["named", "steps", "facts"] (spFl K) := by
  have kb : KBinds K (fdAt K (He.fAd K ("run_code", none))) ["code", "reads"] ["code", "reads"] kG kG := kb_only T.F_run_code (by decide) fun _ _ _ _ _ _ ws hl => match ws, hl with | [_, _], _ => rfl
  refine T.F_law_followed.ok scFl (fun vs H Q E h => ?_) (fun cdv A outer s H vs Q E hr h => ?_)
  · obtain ⟨nb, x, y, rfl, _⟩ := h
    rfl
  · obtain ⟨nb, x, y, rfl, h⟩ := h
    refine ⟨_, PSs.nox (pss_cons (ps_if (pt_val (pv 0)) (pss_one (ps_ret (pe_callKw (ok_run_code T) (hr.mono (by decide)) (by rfl) T.g_run_code T.F_run_code.kp kb pass0 (pk_cons (pv 1) (pk_cons (pv 2) pk_nil))))) pss_nil)
      (pss_one (ps_ret (pe_call (ok_run_code T) (hr.mono (by omega)) (by rfl) T.g_run_code (T.F_run_code).kp T.b_run_code .nil pass0 (pa_cons (pv 1) (pa_cons (pv 2) pa_nil)))))), ?_⟩
    refine ⟨_, rfl, nb, rfl, ?_⟩
    cases nb with
    | true => exact iteT ⟨_, rfl, _, rfl, h⟩
    | false => exact iteF ⟨_, rfl, _, rfl, h⟩
/-! ### _law_right -/
def Asks (K : PySem.W.Frag) (H : Hp) (t : Addr) (xs : List V) (ds : List De) (v : V) (f : Fx) : Prop := SqT K H t xs ∧ DpAll K H xs (ds.map De.py) ∧ (∀ d ∈ ds, d.ok) ∧ szs ds ≤ 60 ∧ deps ds ≤ 8 ∧ Dp K H v f.py ∧ f.ok ∧ hasAll ⟨f, ⟨f.seed, false⟩, Bx0⟩ ds
theorem Asks.tf {K : PySem.W.Frag} {H H' : Hp} {t : Addr} {xs : List V} {ds : List De} {v : V} {f : Fx} (h : Asks K H t xs ds v f) (e : TF H H') : Asks K H' t xs ds v f :=
  ⟨e.sq h.1, dpa_nl e _ _ (nl_des _) h.2.1, h.2.2.1, h.2.2.2.1, h.2.2.2.2.1, dp_nl e _ _ f.nl h.2.2.2.2.2.1, h.2.2.2.2.2.2⟩
def spRight (K : PySem.W.Frag) : Sp := fun vs H Q _ => ∃ (nb : Bool) (t : Addr) (xs : List V) (ds : List De) (v : V) (f : Fx), vs = [.ref t, v, .bl nb] ∧ Asks K H t xs ds v f ∧ ∀ H', Same H H' → Q (.bl true) H'
theorem scRi : FnScope ["rules", "facts", "named", "due", "made", "told"] ["rules", "facts", "named"] (defScope s_law_right) := ⟨rfl, rfl, rfl, by decide +kernel, rfl, by decide +kernel, by decide +kernel⟩
theorem ok_law_right (T : Txt K w mg) : FnOk P w K mg base CX0 22 (He.fAd K ("_law_right", none)) (fdAt K (He.fAd K ("_law_right", none))) ["rules", "facts", "named"] (spRight K) := by
  refine T.F_law_right.ok scRi (fun vs H Q E h => ?_) (fun cdv A outer s H vs Q E hr h => ?_)
  · obtain ⟨nb, t, xs, ds, v, f, rfl, _⟩ := h
    rfl
  · obtain ⟨nb, t, xs, ds, v, f, rfl, has, kk⟩ := h
    refine ⟨_, PSs.nox (pss_cons (ps_set (i := 3) scRi.nd rfl (Or.inl rfl) (pe_callTy call_tuple_of (by rfl) T.n_tuple PyProof.Rows.Boot.«tuple» (pa_cons (pe_call (ok_law_code T 8) (hr.mono (by omega)) (by rfl) T.g_law_code (T.F_law_code).kp T.b_law_code .nil pass0 (pa_cons (pv 0) pa_nil)) pa_nil)))
      (pss_cons (ps_set (i := 4) scRi.nd rfl (Or.inl rfl) (pe_call (ok_law_made_code T) (hr.mono (by decide)) (by rfl) T.g_law_made_code (T.F_law_made_code).kp T.b_law_made_code .nil pass0 (pa_cons (pv 2) (pa_cons (pv 0) pa_nil))))
      (pss_cons (ps_if (pt_not (pt_val (pe_call (ok_law_alike T 5) (hr.mono (by omega)) (by rfl) T.g_law_alike (T.F_law_alike).kp T.b_law_alike .nil pass0 (pa_cons (pv 4) (pa_cons (pv 3) pa_nil))))) (pss_one (ps_ret pe_bl)) pss_nil)
      (pss_cons (ps_set (i := 5) scRi.nd rfl (Or.inl rfl) (pe_call (ok_law_told T) (hr.mono (by decide)) (by rfl) T.g_law_told (T.F_law_told).kp T.b_law_told .nil pass0 (pa_cons (pv 0) (pa_cons (pv 1) pa_nil))))
      (pss_one (ps_ret (pe_and (pe_call (ok_law_alike T 5) (hr.mono (by omega)) (by rfl) T.g_law_alike (T.F_law_alike).kp T.b_law_alike .nil pass0 (pa_cons (pe_call (ok_law_followed T) (hr.mono (by decide)) (by rfl) T.g_law_followed (T.F_law_followed).kp T.b_law_followed .nil pass0 (pa_cons (pv 2) (pa_cons (pv 4) (pa_cons (pv 1) pa_nil)))) (pa_cons (pv 5) pa_nil))) (pe_one (pe_call (ok_law_alike T 5) (hr.mono (by omega)) (by rfl) T.g_law_alike (T.F_law_alike).kp T.b_law_alike .nil pass0 (pa_cons (pe_call (ok_run_code T) (hr.mono (by decide)) (by rfl) T.g_run_code (T.F_run_code).kp T.b_run_code .nil pass0 (pa_cons (pv 3) (pa_cons (pv 1) pa_nil))) (pa_cons (pv 5) pa_nil))))))))))), ?_⟩
    obtain ⟨a1, a2, a3, a4, a5, a6, a7, a8⟩ := has
    have hcl := codeDs_len ds
    have ck := cok_code ds a3 (by omega)
    refine ⟨_, rfl, t, xs, ds, rfl, a1, a2, a3, a5, by omega, fun c0 H1 s1 hc1 => ?_⟩
    obtain ⟨cv, hcv, hda⟩ := hc1
    refine ⟨c0, cv, rfl, .inl ⟨SqL.of hcv, fun l nl => ?_⟩⟩
    have sl := new_same (o := .tup cv) nl
    have S1 := s1.trans sl
    have cdl : Cd K (upd H1 l (.tup cv)) l (codeDs ds) := ⟨cv, SqT.of upd_same, dpa_nl (same_tf sl) _ _ (nls_th _) hda⟩
    obtain ⟨b1, b2, b3, b4, b5, b6, b7, b8⟩ := (show Asks K H t xs ds v f from ⟨a1, a2, a3, a4, a5, a6, a7, a8⟩).tf (same_tf S1)
    refine ⟨_, rfl, _, rfl, nb, t, xs, ds, rfl, b1, b2, b3, b4, b5, fun q H2 s2 cdq => ?_⟩
    have cdl2 := cdl.tf (same_tf s2)
    have dpc : ∀ {Hx : Hp} {a : Addr}, Cd K Hx a (codeDs ds) → Dp K Hx (.ref a) (.tuple ((codeDs ds).map Th.py)) := fun h => by
      obtain ⟨vs, h1, h2⟩ := h
      exact .tup h1 h2
    refine ⟨_, rfl, _, rfl, .ref q, .ref l, _, rfl, dpc cdq, dpc cdl2, al_up 3 _ (al_code _ (by omega)), fun H3 s3 => ⟨true, rfl, iteF ?_⟩⟩
    have S3 := (S1.trans s2).trans s3
    obtain ⟨c1, c2, c3, c4, c5, c6, c7, c8⟩ := (show Asks K H t xs ds v f from ⟨a1, a2, a3, a4, a5, a6, a7, a8⟩).tf (same_tf S3)
    refine ⟨_, rfl, _, rfl, t, xs, ds, v, f, rfl, c1, c2, c3, c5, c6, c7, c8, fun u uo H4 hu4 duo s4 => ?_⟩
    have go := go_all ds ⟨f, ⟨f.seed, false⟩, Bx0⟩ a3 (run0_ok a7) a8 (by omega)
    have rok := runs_ok ds _ (run0_ok a7)
    have S4 := S3.trans s4
    obtain ⟨r0, hr0⟩ : ∃ r0, r0 = runs ds ⟨f, ⟨f.seed, false⟩, Bx0⟩ := ⟨_, rfl⟩
    obtain ⟨kc, hkc⟩ : ∃ kc, kc = cntDs ds ⟨f, ⟨f.seed, false⟩, Bx0⟩ := ⟨_, rfl⟩
    rw [← hr0] at duo go rok
    rw [← hkc] at hu4 go
    have alt := al_told r0 kc rok
    have dtu : Dp K H4 (.ref u) (toldPy r0 kc) := .tup (SqT.of hu4) (.cons duo (.cons (.int _) .nil))
    have nlt : NL (toldPy r0 kc) := ⟨r0.nl_out, trivial, trivial⟩
    have t14 := same_tf (s3.trans s4)
    refine ⟨_, rfl, _, rfl, _, rfl, nb, .ref q, v, rfl, q, codeDs ds, v, f, kc, [], r0, rfl, cdq.tf t14, ck, dp_nl (same_tf S4) _ _ f.nl a6, a7, go, fun p2 u2 H5 hp2 du2 s5 => ?_⟩
    have dt2 : Dp K H5 (.ref p2) (toldPy r0 kc) := .tup (SqT.of hp2) (.cons du2 (.cons (.int _) .nil))
    refine ⟨_, rfl, .ref p2, .ref u, _, rfl, dt2, dp_nl (same_tf s5) _ _ nlt dtu, alt, fun H6 s6 => ⟨true, rfl, iteT ?_⟩⟩
    have S6 := (S4.trans s5).trans s6
    have t26 := same_tf (((s3.trans s4).trans s5).trans s6)
    refine ⟨_, rfl, _, rfl, l, codeDs ds, v, f, kc, [], r0, rfl, cdl2.tf t26, ck, dp_nl (same_tf S6) _ _ f.nl a6, a7, go, fun p3 u3 H7 hp3 du3 s7 => ?_⟩
    have dt3 : Dp K H7 (.ref p3) (toldPy r0 kc) := .tup (SqT.of hp3) (.cons du3 (.cons (.int _) .nil))
    exact ⟨_, rfl, .ref p3, .ref u, _, rfl, dt3, dp_nl (same_tf ((s5.trans s6).trans s7)) _ _ nlt dtu, alt, fun H8 s8 => kk H8 ((S6.trans s7).trans s8)⟩
/-! ### law -/
theorem dpa_nats {K : PySem.W.Frag} {H : Hp} : ∀ ns : List Nat, DpAll K H (ns.map fun m : Nat => V.int (m : Int)) (ns.map fun m : Nat => PyData.int (m : Int))
  | [] => .nil
  | n :: ns => .cons (.int _) (dpa_nats ns)
def RowOk (K : PySem.W.Frag) (H : Hp) (x : V) : Prop := ∃ (w rt : Addr) (xs : List V) (ds : List De) (v : V) (f : Fx), x = .ref w ∧ SqT K H w [.ref rt, v] ∧ Asks K H rt xs ds v f
theorem RowOk.tf {K : PySem.W.Frag} {H H' : Hp} {x : V} (e : TF H H') (h : RowOk K H x) : RowOk K H' x := by
  obtain ⟨w, rt, xs, ds, v, f, h1, h2, h3⟩ := h
  exact ⟨w, rt, xs, ds, v, f, h1, e.sq h2, h3.tf e⟩
theorem at_int {xs : List V} {x : V} {n : Nat} (h : xs[n]? = some x) : atI xs (0 + (n : Int)) = some x := by
  rw [Int.zero_add]
  exact atI_nat h
def spLaw (K : PySem.W.Frag) : Sp := fun vs H Q _ => ∃ (a : Addr) (ns : List Int), vs = [.ref a] ∧ SqL K H a (ns.map V.int) ∧ ns.length ≤ 63 ∧ ∀ H', Q (.bl true) H'
theorem scLw : FnScope ["script", "rows", "k", "deck", "named", "rules", "wanted", "facts"] ["script"] (defScope s_law) := ⟨rfl, rfl, rfl, by decide +kernel, rfl, by decide +kernel, by decide +kernel⟩
theorem ok_law (T : Txt K w mg) : FnOk P w K mg base CX0 23 (He.fAd K ("law", none)) (fdAt K (He.fAd K ("law", none))) ["script"] (spLaw K) := by
  refine T.F_law.ok scLw (fun vs H Q E h => ?_) (fun cdv A outer s H vs Q E hr h => ?_)
  · obtain ⟨a, ns, rfl, _⟩ := h
    rfl
  · obtain ⟨a, ns, rfl, hS, hln, kk⟩ := h
    have hu := Nat.lt_of_le_of_lt (Nat.add_le_add_left (by decide : 1 ≤ 64) _) hr.units
    have GR := ok_law_rules (P := P) (base := base) T 8 (ok_law_deed T 8)
    refine ⟨_, PSs.nox (pss_cons (ps_set (i := 1) scLw.nd rfl (Or.inl rfl) (pe_lst pa_nil))
      (pss_cons (ps_for PassesOwn.never rfl (pi_range1 (by rfl) T.n_range (pa_cons (pe_callB (call_max2 rfl) (by rfl) T.n_max PyProof.Rows.Boot.«max» (pa_cons pe_int (pa_cons (pe_callB (call_min2 rfl) (by rfl) T.n_min PyProof.Rows.Boot.«min» (pa_cons (pe_callB (r := Evl.rLenS K) call_len_seq (by rfl) T.n_len PyProof.Rows.Boot.«len» (pa_cons (pv 0) pa_nil)) (pa_cons pe_int pa_nil))) pa_nil))) pa_nil)) (pg_name (i := 2) scLw.nd rfl (Or.inl rfl)) (pss_cons (ps_set (i := 3) scLw.nd rfl (Or.inl rfl) (pe_call (ok_law_deck T) (hr.mono (by decide)) (by rfl) T.g_law_deck (T.F_law_deck).kp T.b_law_deck .nil pass0 (pa_cons (pv 0) (pa_cons (pv 2) pa_nil))))
      (pss_cons (ps_set (i := 4) scLw.nd rfl (Or.inl rfl) (pe_cmpR op_eq (pe_call (ok_law_take T) (hr.mono (by decide)) (by rfl) T.g_law_take (T.F_law_take).kp T.b_law_take .nil pass0 (pa_cons (pv 3) (pa_cons pe_int pa_nil))) pe_int (nomark _)))
      (pss_cons (ps_set (i := 5) scLw.nd rfl (Or.inl rfl) (pe_call GR (hr.mono (by omega)) (by rfl) T.g_law_rules (T.F_law_rules).kp T.b_law_rules .nil pass0 (pa_cons (pv 3) (pa_cons (pe_call (ok_law_any T) (hr.mono (by decide)) (by rfl) T.g_law_any (T.F_law_any).kp T.b_law_any .nil pass0 (pa_cons (pv 3) (pa_cons (pe_lst (pa_cons pe_int (pa_cons pe_int (pa_cons pe_int (pa_cons pe_int (pa_cons pe_int pa_nil)))))) pa_nil))) (pa_cons pe_int pa_nil)))))
      (pss_cons (ps_set (i := 6) scLw.nd rfl (Or.inl rfl) (pe_call (ok_law_wants T) (hr.mono (by decide)) (by rfl) T.g_law_wants (T.F_law_wants).kp T.b_law_wants .nil pass0 (pa_cons (pv 5) pa_nil)))
      (pss_cons (ps_set (i := 7) scLw.nd rfl (Or.inl rfl) (pe_call (ok_law_facts T) (hr.mono (by decide)) (by rfl) T.g_law_facts (T.F_law_facts).kp T.b_law_facts .nil pass0 (pa_cons (pv 3) (pa_cons (pv 6) pa_nil))))
      (pss_cons (ps_if (PW.pt (pw_or (pt_not (pt_val (pe_call (ok_law_right T) (hr.mono (by decide)) (by rfl) T.g_law_right (T.F_law_right).kp T.b_law_right .nil pass0 (pa_cons (pv 5) (pa_cons (pv 7) (pa_cons (pv 4) pa_nil)))))) (pw_or1 (pt_not (pt_val (pe_call (ok_law_right T) (hr.mono (by decide)) (by rfl) T.g_law_right (T.F_law_right).kp T.b_law_right .nil pass0 (pa_cons (pv 5) (pa_cons (pe_call (ok_law_facts T) (hr.mono (by decide)) (by rfl) T.g_law_facts (T.F_law_facts).kp T.b_law_facts .nil pass0 (pa_cons (pv 3) (pa_cons (pv 6) pa_nil))) (pa_cons (pe_not (pv 4)) pa_nil))))))))) (pss_one (ps_ret pe_bl)) pss_nil)
      (pss_one (ps_expr (pe_bm PySem.F.plainAttrs_list PySem.F.slot_list_append PySem.F.type_list_append mt_append (pv 1) (pa_cons (pe_tup (pa_cons (pv 5) (pa_cons (pv 7) pa_nil))) pa_nil)))))))))))
      (pss_cons (ps_for PassesOwn.never rfl (pi_range1 (by rfl) T.n_range (pa_cons (pe_callB (r := Evl.rLenS K) call_len_seq (by rfl) T.n_len PyProof.Rows.Boot.«len» (pa_cons (pv 1) pa_nil)) pa_nil)) (pg_name (i := 2) scLw.nd rfl (Or.inl rfl)) (pss_one (ps_if (pt_not (pt_val (pe_call (ok_law_right T) (hr.mono (by decide)) (by rfl) T.g_law_right (T.F_law_right).kp T.b_law_right .nil pass0 (pa_cons (pe_ix (r := rIxT K) ix_tup (pe_ix (r := rIxL K) ix_list (pv 1) (pv 2) (fun _ _ => rfl)) pe_int (fun _ _ => rfl)) (pa_cons (pe_ix (r := rIxT K) ix_tup (pe_ix (r := rIxL K) ix_list (pv 1) (pv 2) (fun _ _ => rfl)) pe_int (fun _ _ => rfl)) (pa_cons (pe_cmpR op_lt (pv 2) pe_int (nomark _)) pa_nil)))))) (pss_one (ps_ret pe_bl)) pss_nil)))
      (pss_one (ps_ret pe_bl))))), ?_⟩
    refine ⟨(show 0 ≤ sizeLine by decide), fun R nR => ?_⟩
    have s0 := new_same (o := .lst []) nR
    obtain ⟨M, hM, hM12⟩ : ∃ M : Int, M = (if (if (12 : Int) < ((ns.map V.int).length : Nat) then 12 else (((ns.map V.int).length : Nat) : Int)) > 1 then (if (12 : Int) < ((ns.map V.int).length : Nat) then 12 else (((ns.map V.int).length : Nat) : Int)) else 1) ∧ 1 ≤ M ∧ M ≤ 12 := by
      refine ⟨_, rfl, ?_⟩
      constructor
      · split
        · omega
        · omega
      · split
        · split <;> omega
        · omega
    refine ⟨_, rfl, a, _, rfl, .inl (s0.seq hS), _, _, rfl, _, _, rfl, M, by rw [hM], by omega, by omega, ?_⟩
    refine for_range (lo := 0) (n := M.toNat) (fun i σ H' => ∃ (v2 v3 v4 v5 v6 v7 : Option V) (rv : List V), σ = [some (.ref a), some (.ref R), v2, v3, v4, v5, v6, v7] ∧ H' R = some (.lst rv) ∧ rv.length = i ∧ (∀ x ∈ rv, RowOk K H' x) ∧ Same H H') ⟨_, _, _, _, _, _, [], rfl, upd_same, rfl, fun x hx => (List.not_mem_nil hx).elim, s0⟩ (fun i σ H0 hi hPv => ?_) (fun σ H0 hPv => ?_)
    · obtain ⟨v2, v3, v4, v5, v6, v7, rv, rfl, hR, hrl, hro, sH0⟩ := hPv
      have hi14 : i < 14 := by omega
      refine ⟨_, rfl, _, rfl, a, ns, i, by rw [Int.zero_add]; rfl, sH0.seq hS, by omega, fun l H1 s1 n1 D1 => ?_⟩
      refine ⟨_, rfl, l, _, 899999999999, rfl, by decide, by decide, D1, fun y1 H2 _ _ f2 D2 => ⟨rfl, ?_⟩⟩
      refine ⟨_, rfl, _, rfl, (show 5 ≤ sizeLine by decide), fun p5 np5 => ?_⟩
      have hp5l : p5 ≠ l := (ne_of_none D2.lst.choose_spec np5).symm
      refine ⟨l, p5, [.int 60, .int 60, .int 30, .int 10, .int 2], 899999999998, rfl, upd_same, hp5l, (show 0 < 5 by decide), (show 5 ≤ 1000 by decide), D2.same (new_same np5), fun j v H3 hj f3 D3 => ?_⟩
      obtain ⟨rm, rfl, hrm⟩ : ∃ rm : Nat, v = .int (rm : Int) ∧ rm ≤ 60 := by
        match j, hj with
        | 0, hj => exact ⟨60, by cases hj; rfl, by decide⟩
        | 1, hj => exact ⟨60, by cases hj; rfl, by decide⟩
        | 2, hj => exact ⟨30, by cases hj; rfl, by decide⟩
        | 3, hj => exact ⟨10, by cases hj; rfl, by decide⟩
        | 4, hj => exact ⟨2, by cases hj; rfl, by decide⟩
      refine ⟨l, rm, 8, 800000000000, rfl, hrm, by decide, by decide, by decide, by decide, D3.le (by omega), fun t ds xs H4 ok sz dp sq da f4 D4 => ?_⟩
      have hdep : deps ds ≤ 8 := (deps_le ds).mpr dp
      have S4 : Same H0 H4 := frm_same s1 n1 (f2.trans ((Frm.of_new np5).trans (f3.trans f4)))
      refine ⟨_, rfl, t, xs, ds, rfl, sq, da, ok, by omega, fun wt mt H5 hwt hmt s5 => ?_⟩
      have S5 : Same H0 H5 := S4.trans s5
      have D5 := D4.same s5
      have hR5 := S5 _ _ hR
      have hRl : R ≠ l := ne_of_none hR n1
      have hm16 : ∀ m ∈ wantsM ds, m < 16 := fun m hm => List.mem_range.mp (List.mem_filter.mp hm).1
      have hml : (wantsM ds).length ≤ 16 := Nat.le_trans (List.length_filter_le _ _) (by rw [List.length_range]; exact Nat.le_refl _)
      refine ⟨_, rfl, _, rfl, l, wt, mt, wantsM ds, wantsS ds, wantsT ds, 799999990000, rfl, D5.le (by omega), hwt, hmt, hm16, hml, fun u f H6 du okf hfm hfs f6 D6 => ?_⟩
      have t6 := f6.tf D5.lst.choose_spec
      have t46 := (same_tf s5).trans t6
      have has := wants_has ok hfm hfs
      have asks : Asks K H6 t xs ds u f := ⟨t46.sq sq, dpa_nl t46 _ _ (nl_des _) da, ok, by omega, hdep, du, okf, has⟩
      have D6' := D6
      refine ⟨_, rfl, _, rfl, _, rfl, _, t, xs, ds, u, f, rfl, asks, fun H7 s7 => ⟨true, rfl, iteF ?_⟩⟩
      have D7 := D6.same s7
      have t57 := t6.trans (same_tf s7)
      refine ⟨_, rfl, _, rfl, _, rfl, l, wt, mt, wantsM ds, wantsS ds, wantsT ds, 799999980000, rfl, D7.le (by omega), t57.sq hwt, t57.sq hmt, hm16, hml, fun u2 f2' H8 du2 okf2 hfm2 hfs2 f8 D8 => ?_⟩
      have t8 := f8.tf D7.lst.choose_spec
      have t78 := (same_tf s7).trans t8
      obtain ⟨c1, c2, c3, c4, c5, c6, c7, c8⟩ := asks.tf t78
      have has2 := wants_has ok hfm2 hfs2
      refine ⟨_, rfl, _, rfl, _, t, xs, ds, u2, f2', rfl, ⟨c1, c2, c3, c4, c5, du2, okf2, has2⟩, fun H9 s9 => ⟨true, rfl, iteF ?_⟩⟩
      have F59 : Frm l H5 H9 := (f6.trans (Frm.of_same s7)).trans (f8.trans (Frm.of_same s9))
      have t69 := t78.trans (same_tf s9)
      have hR9 := F59 _ _ hRl hR5
      have hn0 : ∀ b o, H0 b = some o → H9 b = some o := fun b o z => F59 b o (ne_of_none z n1) (S5 b o z)
      refine ⟨_, rfl, .inl ⟨rfl, _, SqL.of hR9⟩, _, rfl, _, rfl, (show 2 ≤ sizeLine by decide), fun q nq => ?_⟩
      have sq10 := new_same (o := .tup [.ref t, u]) nq
      have hR10 := sq10 _ _ hR9
      refine ⟨R, rv, .ref q, rfl, rfl, hR10, Nat.lt_of_lt_of_le (show rv.length < 1000 by omega) (by decide), ?_⟩
      have tR := TF.of_lst (o := .lst (rv ++ [.ref q])) hR10
      refine ⟨_, _, _, _, _, _, rv ++ [.ref q], rfl, upd_same, by simp [hrl], fun x hx => ?_, fun b o z => ?_⟩
      · rcases List.mem_append.mp hx with hx | hx
        · exact (hro x hx).tf (((same_tf hn0).trans (same_tf sq10)).trans tR)
        · rw [List.mem_singleton.mp hx]
          exact ⟨q, t, xs, ds, u, f, rfl, tR.sq (SqT.of upd_same), asks.tf ((t69.trans (same_tf sq10)).trans tR)⟩
      · rw [upd_ne (ne_of_none z nR)]
        exact sq10 _ _ (hn0 _ _ (sH0 _ _ z))
    · obtain ⟨v2, v3, v4, v5, v6, v7, rv, rfl, hR, hrl, hro, sH0⟩ := hPv
      have hrl14 : rv.length ≤ 14 := by omega
      refine ⟨_, rfl, R, rv, rfl, .inl (SqL.of hR), _, rfl, by omega, by omega, ?_⟩
      refine for_range (lo := 0) (n := ((rv.length : Nat) : Int).toNat) (fun i σ H' => ∃ (v2 v3 v4 v5 v6 v7 : Option V), σ = [some (.ref a), some (.ref R), v2, v3, v4, v5, v6, v7] ∧ Same H0 H') ⟨_, _, _, _, _, _, rfl, Same.refl _⟩ (fun i σ H' hi hPv => ?_) (fun σ H' hPv => ?_)
      · obtain ⟨v2, v3, v4, v5, v6, v7, rfl, sH'⟩ := hPv
        have hi2 : i < rv.length := by omega
        have hR' := sH' _ _ hR
        have hk := List.getElem?_eq_getElem hi2
        obtain ⟨w1, t1, xs1, ds1, u1, f1, hx1, q1, a1⟩ := (hro _ (List.getElem_mem hi2)).tf (same_tf sH')
        rw [hx1] at hk
        exact ⟨_, rfl, _, rfl, R, _, _, .ref w1, rfl, rfl, SqL.of hR', at_int hk, w1, _, _, .ref t1, rfl, rfl, q1, atI_nat (j := 0) rfl, _, rfl, _, rfl, R, _, _, .ref w1, rfl, rfl, SqL.of hR', at_int hk, w1, _, _, u1, rfl, rfl, q1, atI_nat (j := 1) rfl, _, rfl, _, _, rfl, rfl, _, t1, xs1, ds1, u1, f1, rfl, a1, fun H3 s3 => ⟨true, rfl, iteF ⟨_, _, _, _, _, _, rfl, sH'.trans s3⟩⟩⟩
      · exact kk H'
end
end K5
set_option maxRecDepth 100000
set_option maxHeartbeats 0
open PySem PySem.W PySem.Calls PyProof.Rows
set_option maxHeartbeats 0 in
theorem PySem.Challenge.cw_latepresses_k05_whole_code_is_the_trees_holds : PySem.Challenge.rw_latepresses_k05_whole_code_is_the_trees.Holds := by
  w_on; o_law
  refine HandSHeadRun.head_any (r := K5.R) (q := view K5.R.prog [93]) (H := K5.hk) (ob := K5.ob) (M := 40000) (loose := K5.loose) (d := HandSHeadRun.topDef K5.R.prog 93) (kwd := []) K5.ob_eq
    (by kernel_rfl) (fun s => by kernel_rfl) K5.run (by kernel_rfl) (by kernel_rfl) (by kernel_rfl) (by rfl) (by first | assumption | decide +kernel) (by decide +kernel) ⟨rfl, rfl, rfl, rfl, rfl, by decide +kernel⟩ ?hw ?hc
  case hw => w_witness2
  case hc =>
    refine L2.walk_ofE (l := PySem.Challenge.rw_latepresses_k05_whole_code_is_the_trees) (n := 63) (k := 23) (x := "script") (CX := L2.CX0) rfl (by decide) (by kernel_rfl) ⟨rfl, by decide, by decide⟩ ?F (fun _ _ _ _ z => z)
    intro w mg fa h Y G hmg0
    obtain ⟨K, KX, c⟩ := Y
    have hmg : mg ("law" : PySem.Str) = some (.ref fa) := by
      have e : (HandSHeadRun.topDef K5.R.prog 93).name = ("law" : PySem.Str) := by kernel_rfl
      rw [← e]
      exact hmg0
    have T := K5.txt_of KX G c
    have e := hmg.symm.trans T.g_law
    cases e
    exact ⟨K, K5.fdAt K (He.fAd K ("law", none)), K5.spLaw K, KX, fun s v => L2.FunD.bindsA (ps := ["script"]) T.F_law (fun _ _ _ _ _ _ us hl => match us, hl with | [_], _ => rfl) s [v] rfl, fun H a ns hl _ hS => ⟨a, ns, rfl, hS, hl, fun _ => rfl⟩, fun base _ _ => K5.ok_law T⟩
#print axioms PySem.Challenge.cw_latepresses_k05_whole_code_is_the_trees_holds
