import PyProof.Rows.All
import Wide.All
import OpenK.AllK
import Wide.FinOn
import HandS.ForExc
import HandS.IsInst
import HandS.Wide
import KE.GoesEnumKw
import KE.KDictPairs
import HandS.ForMost
import HandS.Walk
import HandS.SortInts
import HandS.Dict
import HandS.More
import HandS.Evl
import HandS.Defaults
import KE.KStateDown
import Wide.Once
import HandS.Comp
import HandS.Head0
import HandS.Head1
import HandS.Head2
import HandS.HeadEnd
import HandS.HeadHook1
import HandS.HeadHook2
import HandS.HeadHook3
import HandS.HeadHook4
import HandS.WideBits
import HandS.Zip
import HandS.TupAny
import HandS.Style
import HandS.Text
import PyProof.StrOps2
import KE.KxText
import HandS.TryOnly
import PySem.Challenge.RW_latepresses_k44_whole_sums_and_where_run
set_option Elab.async false
set_option linter.all false
set_option maxRecDepth 100000
set_option maxHeartbeats 4000000
/-! Frames, draws, data without lists. -/
namespace KF
open PySem PySem.Spec PyProof.Rows L2
/-! ### data stand while tuples stand -/
def TF (H H' : Hp) : Prop := ∀ b xs, Rd H b (.tup xs) → Rd H' b (.tup xs)
theorem TF.sq {K : PySem.W.Frag} {H H' : Hp} (e : TF H H') {a : Addr} {xs : List V} (h : SqT K H a xs) : SqT K H' a xs := by
  rcases h with h | h
  · exact .inl (e _ _ h)
  · exact .inr h
theorem TF.refl (H : Hp) : TF H H := fun _ _ h => h
theorem TF.trans {H H1 H2 : Hp} (a : TF H H1) (b : TF H1 H2) : TF H H2 := fun c xs h => b c xs (a c xs h)
theorem TF.of_new {H : Hp} {p : Addr} {o : HO} (h : H p = none) : TF H (upd H p o) := fun c xs z => by
  rcases z with z | ⟨u, z⟩
  · exact .inl (by rw [upd_ne (ne_of_none z h)]; exact z)
  · exact .inr ⟨u, by rw [upd_ne (ne_of_none z h)]; exact z⟩
/-- but for one list all stands -/
def Frm (d : Addr) (H H' : Hp) : Prop := ∀ b o, b ≠ d → H b = some o → H' b = some o
theorem Frm.refl (d : Addr) (H : Hp) : Frm d H H := fun _ _ _ h => h
theorem Frm.trans {d : Addr} {H H1 H2 : Hp} (a : Frm d H H1) (b : Frm d H1 H2) : Frm d H H2 := fun c o n h => b c o n (a c o n h)
theorem Frm.of_same {d : Addr} {H H' : Hp} (e : Same H H') : Frm d H H' := fun b o _ h => e b o h
theorem Frm.of_new {d : Addr} {H : Hp} {p : Addr} {o : HO} (h : H p = none) : Frm d H (upd H p o) := fun b u _ z => by
  rw [upd_ne (ne_of_none z h)]
  exact z
theorem Frm.of_upd {d : Addr} {H : Hp} {o : HO} : Frm d H (upd H d o) := fun b u n z => by
  rw [upd_ne n]
  exact z
theorem Frm.tf {d : Addr} {H H' : Hp} {xs : List V} (e : Frm d H H') (h : H d = some (.lst xs)) : TF H H' := fun c ys z => by
  rcases z with z | ⟨u, z⟩
  · exact .inl (e c _ (fun q => by rw [q, h] at z; cases z) z)
  · exact .inr ⟨u, e c _ (fun q => by rw [q, h] at z; cases z) z⟩
theorem new_same {H : Hp} {p : Addr} {o : HO} (h : H p = none) : Same H (upd H p o) := fun b u z => by
  rw [upd_ne (ne_of_none z h)]
  exact z
theorem same_tf {H H' : Hp} (s : Same H H') : TF H H' := fun c zs z => by
  rcases z with z | ⟨u, z⟩
  · exact .inl (s _ _ z)
  · exact .inr ⟨u, s _ _ z⟩
theorem frm_same {H0 H1 H2 : Hp} {d : Addr} (s : Same H0 H1) (n : H0 d = none) (f : Frm d H1 H2) : Same H0 H2 := fun b o z => f b o (ne_of_none z n) (s b o z)
/-- a row of draws at d, good for n more -/
def Deck (H : Hp) (d : Addr) (n : Nat) : Prop := ∃ r m i c : Int, H d = some (.lst [.int r, .int m, .int i, .int c]) ∧ 0 ≤ m ∧ m < 2305843009213693951 ∧ 0 ≤ i ∧ i ≤ 1000 ∧ 0 ≤ c ∧ c + n ≤ 1000000000000
theorem Deck.le {H : Hp} {d : Addr} {n k : Nat} (h : Deck H d n) (hk : k ≤ n) : Deck H d k := by
  obtain ⟨r, m, i, c, h0, h1, h2, h3, h4, h5, h6⟩ := h
  exact ⟨r, m, i, c, h0, h1, h2, h3, h4, h5, by omega⟩
theorem Deck.lst {H : Hp} {d : Addr} {n : Nat} (h : Deck H d n) : ∃ xs, H d = some (.lst xs) := by
  obtain ⟨r, m, i, c, h0, _⟩ := h
  exact ⟨_, h0⟩
theorem Deck.keep {H H' : Hp} {d : Addr} {n : Nat} (h : Deck H d n) (e : H' d = H d) : Deck H' d n := by
  obtain ⟨r, m, i, c, h0, h1⟩ := h
  exact ⟨r, m, i, c, by rw [e]; exact h0, h1⟩
theorem Deck.same {H H' : Hp} {d : Addr} {n : Nat} (h : Deck H d n) (e : Same H H') : Deck H' d n := by
  obtain ⟨r, m, i, c, h0, h1⟩ := h
  exact ⟨r, m, i, c, e _ _ h0, h1⟩
theorem small_ab {i : Int} {n : Nat} (h0 : 0 ≤ i) (h1 : i < 2 ^ n) : i.natAbs < 2 ^ n := by
  have e : ((i.natAbs : Nat) : Int) = i := Int.natAbs_of_nonneg h0
  have h2 : ((i.natAbs : Nat) : Int) < ((2 ^ n : Nat) : Int) := by
    rw [e, Int.natCast_pow]
    exact h1
  exact Int.ofNat_lt.mp h2
theorem pow63 : (2 : Int) ^ 63 = 9223372036854775808 := by decide
theorem pow20 : (2 : Int) ^ 20 = 1048576 := by decide
theorem pow40 : (2 : Int) ^ 40 = 1099511627776 := by decide
theorem pow122 : (2 : Nat) ^ 122 = 5316911983139663491615228241121378304 := by decide
theorem pow120 : (2 : Nat) ^ (40 + 40 + 40) = 1329227995784915872903807060280344576 := by decide
theorem ne_int {i j : Int} (h : ¬ (V.int i = V.int j)) : i ≠ j := fun e => h (by rw [e])
theorem ty_tup {K : PySem.W.Frag} {H : Hp} {a : Addr} {xs : List V} (h : SqT K H a xs) : TyX K H (.ref a) (.type "tuple") := by
  rcases h with (h | ⟨o, h⟩) | ⟨o, _, _, h, hc, _⟩
  · exact .base (.tup h)
  · exact .fTuple h
  · exact .kTuple h hc
section
variable {K : PySem.W.Frag} {H : Hp}
theorem dpa_len : ∀ {vs : List V} {ds : List PyData}, DpAll K H vs ds → vs.length = ds.length
  | [], _, h => by cases h; rfl
  | v :: vs, _, h => by
    cases h with
    | cons _ b => rw [List.length_cons, List.length_cons, dpa_len b]
theorem dpa_get : ∀ {vs : List V} {ds : List PyData} {i : Nat} {e : PyData}, DpAll K H vs ds → ds[i]? = some e → ∃ v, vs[i]? = some v ∧ Dp K H v e
  | [], _, i, e, h, he => by cases h; cases he
  | v :: vs, _, 0, e, h, he => by
    cases h with
    | cons a _ => cases he; exact ⟨v, rfl, a⟩
  | v :: vs, _, i + 1, e, h, he => by
    cases h with
    | cons _ b => exact dpa_get (vs := vs) (i := i) b he
end
/-! ### x is True, x is not True, x any value -/
def rIsT (c : Bool) : R2 := fun x y H Q => y = .bl c ∧ Q (.bl (decide (x = .bl c))) H
theorem plain_bl (c : Bool) {x : V} {u : Value} (r : RelV x u) : plainIs u (.bool c) = true := by
  cases x <;> first | (cases r; rfl) | (obtain ⟨t, rfl⟩ := r; rfl)
section
variable {X : Cx}
theorem op_isT (c : Bool) : OpR X (compareOp .Is) (rIsT c) := by
  intro pins s σ H x y v u Q I rx ry h
  obtain ⟨rfl, q⟩ := h
  cases (show u = Value.bool c from ry)
  by_cases e : x = .bl c
  · subst e
    cases (show v = Value.bool c from rx)
    exact wpAny_is_self (plain_bl c rx) ⟨.bl true, H, I, rfl, by simpa using q⟩
  · refine wpAny_is_other (plain_bl c rx) (fun z => e ?_) ⟨.bl false, H, I, rfl, by simpa [e] using q⟩
    subst z
    exact RelV.inj rx rfl
theorem op_notT (c : Bool) : OpR X (compareOp .IsNot) (fun x y H Q => y = .bl c ∧ Q (.bl (!decide (x = .bl c))) H) := by
  intro pins s σ H x y v u Q I rx ry h
  obtain ⟨rfl, q⟩ := h
  cases (show u = Value.bool c from ry)
  by_cases e : x = .bl c
  · subst e
    cases (show v = Value.bool c from rx)
    exact wpAny_isNot_self (plain_bl c rx) ⟨.bl false, H, I, rfl, by simpa using q⟩
  · refine wpAny_isNot_other (plain_bl c rx) (fun z => e ?_) ⟨.bl true, H, I, rfl, by simpa [e] using q⟩
    subst z
    exact RelV.inj rx rfl
end

/-! ### data without lists and dicts -/
mutual
def NL : PyData → Prop
  | .none => True
  | .bool _ => True
  | .int _ => True
  | .str _ => True
  | .list _ => False
  | .tuple ds => NLs ds
  | .dict _ => False
def NLs : List PyData → Prop
  | [] => True
  | d :: ds => NL d ∧ NLs ds
end
section
variable {K : PySem.W.Frag} {H H' : Hp}
mutual
theorem dp_nl (e : TF H H') : ∀ (d : PyData) (v : V), NL d → Dp K H v d → Dp K H' v d
  | .none, _, _, h => by cases h; exact .non
  | .bool _, _, _, h => by cases h; exact .bl _
  | .int _, _, _, h => by cases h; exact .int _
  | .str _, _, _, h => by cases h; exact .str _
  | .list _, _, r, _ => r.elim
  | .dict _, _, r, _ => r.elim
  | .tuple ds, _, r, h => by
    cases h with
    | tup a b => exact .tup (e.sq a) (dpa_nl e ds _ r b)
theorem dpa_nl (e : TF H H') : ∀ (ds : List PyData) (vs : List V), NLs ds → DpAll K H vs ds → DpAll K H' vs ds
  | [], _, _, h => by cases h; exact .nil
  | d :: ds, _, r, h => by
    cases h with
    | cons a b => exact .cons (dp_nl e d _ r.1 a) (dpa_nl e ds _ r.2 b)
end
end
end KF
set_option maxRecDepth 100000
set_option maxHeartbeats 4000000
/-! enumerate of a tuple, from any number on; sorted of a dict of any size; dict of a tuple of pairs. -/
namespace PySem
open Sem (wp)
set_option maxHeartbeats 1000000 in
theorem kd_meets_enum1 {v : Value} {o : Obj} {Hv : Heap → Prop} (B : Begins v o Hv) :
    Meets (Builtin.«enumerate.__new__» ⟨[.type "enumerate", v], []⟩) (fun _ R s => Hv s.heap ∧
      R (.ok (.ret (.ref (s.heap.push o).objs.size))) { s with heap := (s.heap.push o).push { cls := .type "enumerate", data := .fields #[.none, .bool false, .ref s.heap.objs.size, rawInt 0, .none, .none] } }) :=
  .of_wp fun prog w A R s hh => by
    obtain ⟨hp, g, d, tk, os⟩ := s
    obtain ⟨v1, hh⟩ := hh
    have hsub := sub_enumerate
    have start : ∀ {A' : Around} {E : Value → Shared → Prop} {Q : Value → Shared → Prop}, Q (.ref hp.objs.size) ⟨hp.push o, g, d, tk, os⟩ → wpAny (model prog w) A' (pyIter v) Q E ⟨hp, g, d, tk, os⟩ :=
      fun q => B.iter prog w _ _ ⟨hp, g, d, tk, os⟩ _ v1 q
    wp_walk using start
    refine wpAny_stack_any fun st => wpAny_pure ?_
    split
    · rename_i c _ _ _ _ _
      cases (c == Value.type "enumerate")
      · wp_walk using start
        exact ⟨_, rfl, hh⟩
      · wp_walk using start
        exact ⟨_, rfl, hh⟩
    · wp_walk using start
      exact ⟨_, rfl, hh⟩
section
variable {prog : Program} {w : World} {A : Around} {E : Value → Shared → Prop} {s : Shared}
theorem kd_enum1 {v : Value} {o : Obj} {Hv : Heap → Prop} {Q : Value → Shared → Prop} (B : Begins v o Hv) (v1 : Hv s.heap)
    (hq : ∀ h', IsEnum h' (s.heap.objs.size + 1) s.heap.objs.size 0 .none → h'.get? s.heap.objs.size = some o → h'.objs.size = s.heap.objs.size + 2 →
      (∀ b o, s.heap.get? b = some o → h'.get? b = some o) → Q (.ref (s.heap.objs.size + 1)) { s with heap := h' }) :
    wpAny (model prog w) A (call (.type "enumerate") [v]) Q E s := by
  refine callType_new F.called_enumerate (by decide) (F.typeCall_enumerate_1 _) (F.newCall_enumerate_1 _) (fun ob => F.args_object_init_2 ob _) F.entry_enumerate_new
    (kd_meets_enum1 B) ⟨v1, ?_⟩
  have hz : (s.heap.push o).objs.size = s.heap.objs.size + 1 := Heap.size_push ..
  show _ ∧ _
  rw [hz]
  have he : IsEnum ((s.heap.push o).push { cls := .type "enumerate", data := .fields #[.none, .bool false, .ref s.heap.objs.size, rawInt 0, .none, .none] }) (s.heap.objs.size + 1) s.heap.objs.size 0 .none := by
    have := Heap.get?_push_size (s.heap.push o) (o := { cls := .type "enumerate", data := .fields #[.none, .bool false, .ref s.heap.objs.size, rawInt 0, .none, .none] }) rfl
    rw [hz] at this
    exact this
  exact ⟨⟨_, he, rfl⟩, hq _ he (Heap.get?_push_of_some _ (Heap.get?_push_size _ B.free)) (by rw [Heap.size_push, hz]) fun b o x => Heap.get?_push_of_some _ (Heap.get?_push_of_some _ x)⟩
end
end PySem
namespace KD
open PySem PySem.Spec PyProof.Rows L2
/-- the tuple at a, each item behind its number, from c on, in a new pair -/
def Ity (K : PySem.W.Frag) (a : Addr) (c : Int) : It :=
  ⟨fun i G => ∃ (xs : List V) (x : V), SqT K G a xs ∧ xs[i]? = some x, fun i G v G' => ∃ t x, v = .ref t ∧ G t = none ∧ G' = upd G t (.tup [.int (c + (i : Nat)), x]) ∧ ∀ xs, SqT K G a xs → xs[i]? = some x, fun i G => ∃ xs : List V, SqT K G a xs ∧ xs.length ≤ i⟩
theorem turn_ity {P : Program} {w : World} {K : PySem.W.Frag} {elts : List Expr} {kk : Nat} {tpos : Pos} (a e it : Addr) (c : Int) :
    Turn P w K (.Tuple elts kk tpos) (Ity K a c) [e, it] e (fun i h => (∃ old, IsEnum h e it (c + ((i : Nat) : Int)) old) ∧ h.IsTupleIter it a i ∧ e ≠ it) where
  mem := by simp
  obj := fun i h st b hb => by
    obtain ⟨⟨old, he⟩, ⟨o, ho, _, hd⟩, _⟩ := st
    have z : b = e ∨ b = it := by simpa using hb
    rcases z with z | z
    · rw [z]
      exact ⟨_, he, fun v q => nomatch q⟩
    · rw [z]
      exact ⟨o, ho, fun v q => by rw [hd] at q; cases q⟩
  keep := fun i h h' st k => let ⟨⟨old, he⟩, hi, hne⟩ := st; ⟨⟨old, k e (by simp) _ he⟩, hi.at fun o q => k it (by simp) o q, hne⟩
  item := by
    intro X hP hw hK hc i pins s σ G E I hf st hg
    subst hP hw hK
    obtain ⟨⟨old, he⟩, hit, hne⟩ := st
    obtain ⟨xs, x, hq, hx⟩ := hg
    obtain ⟨its, rv, p, hz⟩ := I.tuple hq
    obtain ⟨u, hu, ru⟩ := rv.get hx
    have p2 : s.heap.IsTuple a its.toArray := p
    obtain ⟨oa, g1, g2, n1, g3⟩ := id p2
    obtain ⟨oi, i1, i2, i3⟩ := id hit
    have nai : a ≠ it := fun z => by
      rw [z, i1] at g1
      cases g1
      rw [i3] at g3
      cases g3
    have nea : e ≠ a := fun z => by
      have he2 := he
      unfold IsEnum at he2
      rw [z, g1] at he2
      cases he2
      cases g3
    have hel : e < s.heap.objs.size := Heap.lt_size he
    have hil : it < s.heap.objs.size := Heap.lt_size i1
    have D := Draws.tuple (prog := X.prog) (w := X.w) (A := X.A.in1) (I.ok.hd hc) it a nai its.toArray
    have hin : i < its.toArray.size := by
      have z : i < its.length := (List.getElem?_eq_some_iff.mp hu).1
      simpa using z
    refine wpAny_pyNext_enum_itemC D he ⟨hit, p2⟩ hin hne (by simp [hne, nea]) fun y h' tk hy ho hst' hT hsz hk => ?_
    have hy2 : y = u := by
      have z : its[i]? = some y := by simpa using hy
      rw [hu] at z
      exact (Option.some.inj z).symm
    subst hy2
    refine ⟨_, rfl, wpAny_letOwnedTupleGo_enum (s := { s with heap := h', toks := tk + 1 }) ho fun h2 he2 sb => ?_⟩
    have hT2 : h2.get? s.heap.objs.size = some { cls := .type "tuple", data := .seq #[.int (c + ((i : Nat) : Int)) tk, y] } := (sb.2 _ (Nat.ne_of_gt hel)).trans hT
    have new : ObjOk X.prog X.w (upd G s.heap.objs.size (.tup [.int (c + ((i : Nat) : Int)), x])) h2 s.heap.objs.size (.tup [.int (c + ((i : Nat) : Int)), x]) :=
      ⟨by show 2 ≤ sizeLine; decide, [.int (c + ((i : Nat) : Int)) tk, y], .cons ⟨_, rfl⟩ (.cons ru .nil), ⟨_, hT2, rfl, _, rfl⟩⟩
    have I1 : Inv X pins σ (upd G s.heap.objs.size (.tup [.int (c + ((i : Nat) : Int)), x])) { s with heap := h2, toks := tk + 1 } :=
      I.turnedNew (ch := [e, it]) (fun b ob hb q => (sb.2 b (fun z => hb (by simp [z]))).trans (hk b ob (fun z => hb (by simp [z])) (fun z => hb (by simp [z])) q)) hf (Nat.le_refl _) new
    refine ⟨.ref s.heap.objs.size, _, I1, rfl, ⟨_, x, rfl, I.hok.fresh (Nat.le_refl _), rfl, fun ys hys => by rw [I.tuple_inj hys hq]; exact hx⟩, ⟨⟨y, ?_⟩, hst'.1.at fun o q => (sb.2 it (Ne.symm hne)).trans q, hne⟩, fun b hb => ?_⟩
    · have e1 : c + ((i + 1 : Nat) : Int) = c + (i : Int) + 1 := by omega
      rw [e1]
      exact he2
    · have hb2 : b < s.heap.objs.size := by
        have z : b = e ∨ b = it := by simpa using hb
        rcases z with z | z
        · rw [z]; exact hel
        · rw [z]; exact hil
      rw [upd_ne (Nat.ne_of_lt hb2)]
      exact (hf b hb).1
  done := by
    intro X hP hw hK hc i pins s σ G E I hf st hg
    subst hP hw hK
    obtain ⟨⟨old, he⟩, hit, hne⟩ := st
    obtain ⟨xs, hq, hx⟩ := hg
    obtain ⟨its, rv, p, hz⟩ := I.tuple hq
    have p2 : s.heap.IsTuple a its.toArray := p
    obtain ⟨oa, g1, g2, n1, g3⟩ := id p2
    obtain ⟨oi, i1, i2, i3⟩ := id hit
    obtain ⟨f0, f1, f2, f3, f4, f5⟩ := hf it (by simp)
    have hl := rv.length
    have hit2 := hit
    have ends : ∀ h', Heap.ExtBut it s.heap h' → (none : Option Value) = none ∧ Inv X pins σ G { s with heap := h' } := fun h' eb => ⟨rfl, I.turned (t' := s.toks) (fun b o hb q => eb b o hb q) f0 f1 f3 f4 f5⟩
    have hT : s.TypeIs (.ref e) "enumerate" := ⟨_, he, rfl⟩
    unfold pyNext
    refine wpAny_bind (wpAny_attempt (wpAny_callSpecial?_slot (name := Str.ofString "__next__") hT F.slot_enumerate_next (wpAny_call_entry F.slot_enumerate_next hT F.entry_enumerate_next ?_ (F.args_enumerate_next_1 _))))
    show wpAny _ _ (field (.ref e) 2 >>= _) _ _ _
    refine wpAny_bind (wpAny_field he rfl (x := .ref it) rfl ?_)
    refine wpAny_bind (wpAny_nextOf_tuple_end (I.ok.hd hc) hit p2 (by simp; omega) fun h' x he' hx' => ?_)
    obtain ⟨o, ho, hc2⟩ := hx'
    refine wpAny_bind (wpAny_isInstance (T := "StopIteration") (b := true) ⟨o, ho, hc2⟩ isSubtype_stop ?_)
    exact wpAny_pure (ends _ he')
  self := fun A i s Q E st h => let ⟨⟨_, he⟩, _⟩ := st; wpAny_pyIter_enum he h
def iEnT (K : PySem.W.Frag) (ta : TA) : TI := fun σ G R => ta σ G fun vs G1 => ∃ a xs, vs = [.ref a] ∧ SqT K G1 a xs ∧ R (Ity K a 0) G1
def iEnTS (K : PySem.W.Frag) (ta tk : TA) : TI := fun σ G R => ta σ G fun vs G1 => tk σ G1 fun zs G2 => ∃ a xs c, vs = [.ref a] ∧ zs = [.int c] ∧ -(2 ^ 63) ≤ c ∧ c < 2 ^ 63 ∧ SqT K G2 a xs ∧ R (Ity K a c) G2
section
variable {X : Cx} {e : Expr} {ta tk : TA} {p pos tpos : Pos} {elts : List Expr} {kk : Nat} {kws : List Keyword}
theorem begun {pins : List (Addr × Obj)} {σ : L2.St} {G : Hp} {s1 : Shared} {R : It → Hp → Prop} {a : Addr} {c : Int} {h' : Heap} (I1 : Inv X pins σ G s1) (he : IsEnum h' (s1.heap.objs.size + 1) s1.heap.objs.size c .none)
    (hit : h'.get? s1.heap.objs.size = some { cls := .type "tuple_iterator", data := .fields #[.ref a, .int 0 0] }) (hk : ∀ b o, s1.heap.get? b = some o → h'.get? b = some o) (q : R (Ity X.K a c) G) :
    PIE X pins σ (.Tuple elts kk tpos) R (.ref (s1.heap.objs.size + 1)) { s1 with heap := h' } := by
  have I2 : Inv X pins σ G { s1 with heap := h' } := I1.kept (t' := s1.toks) hk
  have he0 : IsEnum h' (s1.heap.objs.size + 1) s1.heap.objs.size (c + ((0 : Nat) : Int)) .none := by
    rw [show c + ((0 : Nat) : Int) = c from by omega]
    exact he
  refine ⟨s1.heap.objs.size + 1, [s1.heap.objs.size + 1, s1.heap.objs.size], _, _, G, rfl, I2, turn_ity a (s1.heap.objs.size + 1) s1.heap.objs.size c, ⟨⟨.none, he0⟩, ⟨_, hit, rfl, rfl⟩, Nat.succ_ne_self _⟩, fun b hb => ?_, q⟩
  have z : b = s1.heap.objs.size + 1 ∨ b = s1.heap.objs.size := by simpa using hb
  have hle : s1.heap.objs.size ≤ b := by
    rcases z with z | z
    · rw [z]; exact Nat.le_add_right _ _
    · rw [z]; exact Nat.le_refl _
  exact I1.fpOk hle (I1.hok.fresh hle)
theorem pi_enT (hg : Gl X "enumerate") (hm : X.mg "enumerate" = none) (ha : PA X [e] ta) (hs : starEach [e] X.env = [(false, eval e X.env)] := by rfl) :
    PI X (.Tuple elts kk tpos) (.Call (.Name "enumerate" p) [e] [] pos) (iEnT X.K ta) := by
  refine ⟨fun pins s σ G R I h => ?_⟩
  refine Call_ (ld_blt I hg hm boot_enumerate (PyProof.Rows.callWith_type1 (thn (ha.run pos pins s σ G _ I h) fun us s1 ⟨vs, G1, I1, r1, q1⟩ => ?_) hs rfl))
  obtain ⟨a, xs, ex, hq, q⟩ := q1
  subst ex
  cases r1 with
  | cons r rr =>
    cases rr
    cases r
    obtain ⟨its, rv, p', hz⟩ := I1.tuple hq
    refine kd_enum1 (begins_tuple a its.toArray) (show s1.heap.IsTuple a its.toArray from p') fun h' he hit hsz hk => wpAny_pyIter_enum he (begun I1 he hit hk q)
theorem callWith_typeK {M : Model} {A : Around} {E : Value → Shared → Prop} {s : Shared} {env : Env} {T : String} {e : Expr} {rest : List Expr} {kws : List Keyword} {Q : Value → Shared → Prop}
    (h : wpAny M A (spliced (backTo pos (starEach (e :: rest) env))) (fun vs s1 => wpAny M A (evalAll ((backToKw pos (keywordEach kws env)).map (·.2)))
      (fun kvs s2 => wpAny M A (call (.type T) vs (((backToKw pos (keywordEach kws env)).filterMap (·.1)).zip kvs)) Q E s2) E s1) E s)
    (he : backTo pos (starEach (e :: rest) env) = (false, eval e env) :: backTo pos (starEach rest env) := by rfl)
    (hplain : (backTo pos (starEach (e :: rest) env)).any (·.1) = false := by rfl)
    (hall : (backToKw pos (keywordEach kws env)).all (·.1.isSome) = true := by rfl)
    (hkw : (backToKw pos (keywordEach kws env)).any (·.1.isNone) = false := by rfl) :
    wpAny M A (callWith pos (.type T) [] (backTo pos (starEach (e :: rest) env)) (backToKw pos (keywordEach kws env))) Q E s := by
  unfold callWith
  have hE : wpAny M A (evalArgs (.type T) true (backTo pos (starEach (e :: rest) env)) (backToKw pos (keywordEach kws env))) (fun a s1 => wpAny M A (call (.type T) ([] ++ a.pos) a.kw) Q E s1) E s := by
    rw [he] at h ⊢
    exact PyProof.Rows.evalArgs_kwB hall h
  refine wpAny_bind (wpAny_holding (wpAny_mono hE (fun a s1 g1 => wpAny_bind (wpAny_standAt ?_)) fun _ _ x => x))
  simp only [hplain, hkw, Bool.or_false]
  refine wpAny_bind (wpAny_pure ?_)
  exact wpAny_bind (wpAny_mono g1 (fun r s2 hr => wpAny_bind (wpAny_holding (wpAny_point (wpAny_pure hr)))) fun _ _ x => x)
theorem pi_enTS (hg : Gl X "enumerate") (hm : X.mg "enumerate" = none) (ha : PA X [e] ta) (hk : PK X kws tk)
    (hks : (backToKw pos (keywordEach kws X.env)).filterMap (·.1) = [("start" : Str)] := by rfl)
    (he : backTo pos (starEach [e] X.env) = (false, eval e X.env) :: backTo pos (starEach [] X.env) := by rfl)
    (hplain : (backTo pos (starEach [e] X.env)).any (·.1) = false := by rfl)
    (hall : (backToKw pos (keywordEach kws X.env)).all (·.1.isSome) = true := by rfl)
    (hkw : (backToKw pos (keywordEach kws X.env)).any (·.1.isNone) = false := by rfl) :
    PI X (.Tuple elts kk tpos) (.Call (.Name "enumerate" p) [e] kws pos) (iEnTS X.K ta tk) := by
  refine ⟨fun pins s σ G R I h => ?_⟩
  refine wpAny_Call_Name_kw (ld_blt I hg hm boot_enumerate ?_)
  refine callWith_typeK (thn (ha.run pos pins s σ G _ I h) fun us s1 ⟨vs, G1, I1, r1, q1⟩ => thn (hk.run pos pins s1 σ G1 _ I1 q1) fun ws s2 ⟨zs, G2, I2, r2, q2⟩ => ?_) he hplain hall hkw
  rw [hks]
  obtain ⟨a, xs, c, ex, ez, c0, c1, hq, q⟩ := q2
  subst ex ez
  cases r1 with
  | cons r rr =>
    cases rr
    cases r
    cases r2 with
    | cons t tt =>
      cases tt
      obtain ⟨t0, rfl⟩ := t
      obtain ⟨its, rv, p', hz⟩ := I2.tuple hq
      exact enum_begins_start (begins_tuple a its.toArray) (show s2.heap.IsTuple a its.toArray from p') c0 c1 fun h' he hit hsz hk => wpAny_pyIter_enum he (begun I2 he hit hk q)
end
theorem walk_ity {K : PySem.W.Frag} {a : Addr} {xs : List V} {c : Int} : Walk (Ity K a c) xs.length (fun G => SqT K G a xs) (YPair (fun i => some (.int (c + (i : Nat)))) (fun i => xs[i]?)) := by
  refine ⟨fun i _ hi q => ⟨xs, xs[i], q, by simp [hi]⟩, fun _ q => ⟨xs, q, Nat.le_refl _⟩, fun i G v G' _ q y => ?_⟩
  obtain ⟨t, x, h1, h2, h3, h4⟩ := y
  exact ⟨t, .int (c + (i : Nat)), x, h1, h2, h3, rfl, h4 xs q⟩
section
variable {X : Cx}
/-- sorted(d), its keys ints, any number of them -/
theorem call_sortedDA (hcalm : X.calm = true) : CallR X (.builtin "sorted") (fun xs G Q => ∃ (a : Addr) (kvs : List (Key × V)) (ks : List Int), xs = [.ref a] ∧ Rd G a (.dK kvs) ∧ kvs.map (·.1) = ks.map Sum.inl ∧
    ∀ (ys : List Int) (p : Addr), ys.Perm ks → ys.Pairwise (· ≤ ·) → G p = none → Q (.ref p) (upd G p (.lst (ys.map V.int)))) := by
  intro pins s σ G xs us Q I r q
  obtain ⟨a, kvs, ks, ex, hd, hks, q⟩ := q
  subst ex
  obtain ⟨u, eu, rx⟩ := vals1 r
  subst eu
  cases rx
  obtain ⟨z, lo, vs, rel, dd⟩ := dk_rd I.hok hd
  obtain ⟨ep, hat⟩ := dd.dictAt
  have hkeys : vs.map (·.1) = ks.map Sum.inl := rel.keys.symm.trans hks
  have hl : vs.length = ks.length := by
    have e := congrArg List.length hkeys
    rw [List.length_map, List.length_map] at e
    exact e
  have zv : vs.length ≤ sizeLine := by rw [← rel.length]; exact z
  refine Calls.call_function_entry PyProof.Rows.kind_sorted PyProof.Rows.plain_sorted PyProof.Rows.entry_sorted (PyProof.Rows.args_sorted1 _) ?_
  unfold Builtin.«sorted»
  refine wpAny_bind (m := checkCount "sorted" 1 1 _) (wpAny_pure ?_)
  refine wpAny_bind (PySem.W.kdu_collect (A := X.A.in1) (PySem.W.kdl_dict (knd := mixKind X.prog X.w) (kvs := vs) (ep := ep) lo) (I.ok.hd hcalm) hat zv fun h' tk acc hk hacc => ?_)
  have hal : acc.toList.length = ks.length := by rw [Array.length_toList, hacc.1, hl]
  have hS : IntsAre acc.toList ks := ints_each hal fun j v e => by
    obtain ⟨k, x, e1, e2⟩ := hacc.2 j v (by rw [← Array.getElem?_toList]; exact e)
    have e3 : (vs.map (·.1))[j]? = some k := by rw [List.getElem?_map, e1]; rfl
    rw [hkeys, List.getElem?_map] at e3
    cases e4 : ks[j]? with
    | none => rw [e4] at e3; cases e3
    | some y =>
      rw [e4] at e3
      have e5 : Sum.inl y = k := Option.some.inj e3
      subst e5
      rcases keyIs_shape (show keyIs (Sum.inl y) v = true from e2) with ⟨i, t, ek, ev⟩ | ⟨zz, t, ek, ev⟩
      · cases ek
        exact ⟨y, t, rfl, ev⟩
      · cases ek
  have I1 : Inv X pins σ G { s with heap := h', toks := tk } := I.kept hk
  have hsz : acc.toList.length ≤ sizeLine := by rw [hal, ← hl]; exact zv
  refine wpAny_bind (wpAny_newList ?_ hsz)
  have hoL : (h'.push (seqObj "list" acc.toList.toArray 0)).get? h'.objs.size = some (seqObj "list" acc.toList.toArray 0) := Heap.get?_push_size _ rfl
  show wpAny _ _ _ _ _ { s with heap := h'.push (seqObj "list" acc.toList.toArray 0), toks := tk }
  refine wpAny_bind (wpAny_holding (wpAny_call_entry PyProof.Rows.slot_list_sort ⟨_, hoL, rfl⟩ PyProof.Rows.entry_list_sort
    (SrtO.list_sort_ord (s := { s with heap := h'.push (seqObj "list" acc.toList.toArray 0), toks := tk }) SrtO.swo_int hoL hsz (fun h2 => SrtO.ints_sortable hS h2) fun out g1 g2 => ⟨_, rfl, ?_⟩) (PyProof.Rows.args_list_sort _)))
  obtain ⟨k1, k2, k3⟩ := SrtO.ints_out hS g1 g2
  obtain ⟨e', he'⟩ := PyProof.Rows.sortedHeap_at (vs := acc.toList) (out := out.toArray) hoL
  have hlen : ((out.map SrtO.iv).map V.int).length ≤ sizeLine := by
    rw [List.length_map, k2.length_eq, ← hal]
    exact hsz
  refine wpAny_pure ⟨_, rfl, .ref h'.objs.size, upd G h'.objs.size (.lst ((out.map SrtO.iv).map V.int)), I1.laid (t' := tk) (fun b u e => ?_) (Nat.le_refl _)
    (show ObjOk X.prog X.w _ _ _ (.lst ((out.map SrtO.iv).map V.int)) from ⟨hlen, out, e', vals_of_ints k1, he'⟩), rfl, q _ _ k2 k3 (I1.hok.fresh (Nat.le_refl _))⟩
  have hb : b < h'.objs.size := Heap.lt_size e
  rw [PyProof.Rows.sortedHeap_old (Nat.ne_of_lt hb) (by rw [size_push']; exact Nat.lt_succ_of_lt hb)]
  exact Heap.get?_push_of_some _ e
/-! ### plain tuples, whose objects are known; dict of one -/
def FzT (G : Hp) (a : Addr) (ys : List V) : Prop := ∃ ob : Obj, ob.dict = none ∧ G a = some (.frz ob (.tup ys))
theorem FzT.sq {K : PySem.W.Frag} {G : Hp} {a : Addr} {ys : List V} (h : FzT G a ys) : SqT K G a ys := by
  obtain ⟨ob, _, e⟩ := h
  exact .inl (.inr ⟨ob, e⟩)
/-- tuple(xs), xs a list -/
theorem call_tupleFz : CallR X (.type "tuple") (fun xs G Q => ∃ p ys, xs = [.ref p] ∧ SqL X.K G p ys ∧ ∀ l ob, G l = none → ob.dict = none → Q (.ref l) (upd G l (.frz ob (.tup ys)))) := by
  intro pins s σ G xs us Q I r h
  obtain ⟨p, ys, rfl, hq, q⟩ := h
  obtain ⟨u, rfl, rx⟩ := vals1 r
  cases rx
  obtain ⟨its, r', pl, hz⟩ := I.list hq
  have hlen := r'.length
  refine call_tuple_list pl.isList (fun h' kp => ?_) (by simp only [List.size_toArray] <;> omega)
  have I1 : Inv X pins σ G { s with heap := h' } := I.kept (t' := s.toks) kp
  have I2 : Inv X pins σ (upd G h'.objs.size (.frz { cls := .type "tuple", data := .seq its.toArray } (.tup ys))) { s with heap := h'.push { cls := .type "tuple", data := .seq its.toArray } } :=
    I1.laid (t' := s.toks) (fun b o e => Heap.get?_push_of_some _ e) (Nat.le_refl _) (show ObjOk X.prog X.w _ _ _ (.frz { cls := .type "tuple", data := .seq its.toArray } (.tup ys)) from ⟨Heap.get?_push_size _ rfl, hz, its, r', IsTup.new _ _⟩)
  exact ⟨.ref h'.objs.size, _, I2, rfl, q _ _ (I1.hok.fresh (Nat.le_refl _)) rfl⟩
theorem pairs_both {pins : List (Addr × Obj)} {σ : L2.St} {G : Hp} {s : Shared} (I : Inv X pins σ G s) : ∀ {ps : List Addr} {kvs : List (Key × V)}, Paired (fun p kv => SqT X.K G p [kV kv.1, kv.2]) ps kvs →
    ∃ (prs : List (Key × Value)) (ks : List (Value × Value)), KV kvs prs ∧ prs.length = ps.length ∧ ks.length = ps.length ∧
      ∀ (j : Nat) (k v : Value), ks[j]? = some (k, v) → ∃ (b : Addr) (y : Key), ps[j]? = some b ∧ IsTup s.heap b #[k, v] ∧ prs[j]? = some (y, v) ∧ keyIs y k = true
  | _, _, .nil => ⟨[], [], .nil, rfl, rfl, fun j _ _ e => by simp at e⟩
  | _, _, .cons (a := p) (b := kv) h t => by
    obtain ⟨prs, ks, rr, l1, l2, hp⟩ := pairs_both I t
    obtain ⟨its, rv, ht, _⟩ := I.tuple h
    obtain ⟨u, y, ei, ru, ry⟩ := vals2 rv
    subst ei
    refine ⟨(kv.1, y) :: prs, (u, y) :: ks, .cons ⟨rfl, ry⟩ rr, by rw [List.length_cons, List.length_cons, l1], by rw [List.length_cons, List.length_cons, l2], fun j k v e => ?_⟩
    cases j with
    | zero =>
      have e' : (u, y) = (k, v) := Option.some.inj e
      cases e'
      exact ⟨p, kv.1, rfl, ht, rfl, kV_is (P := X.prog) (w := X.w) ru⟩
    | succ j =>
      obtain ⟨b, z, e1, e2, e3, e4⟩ := hp j k v (by simpa using e)
      exact ⟨b, z, by simpa using e1, e2, by simpa using e3, e4⟩
/-- dict(t), t a plain tuple of pairs -/
theorem call_dictFz (hcalm : X.calm = true) : CallR X (.type "dict") (fun xs G Q => ∃ (a : Addr) (ps : List Addr) (kvs : List (Key × V)), xs = [.ref a] ∧ FzT G a (ps.map V.ref) ∧ Paired (fun p kv => SqT X.K G p [kV kv.1, kv.2]) ps kvs ∧
    ∀ p, G p = none → Q (.ref p) (upd G p (.dK (mergeK [] kvs)))) := by
  intro pins s σ G xs us Q I r q
  obtain ⟨a, ps, kvs, rfl, ⟨ob, od, ha⟩, hp, q⟩ := q
  obtain ⟨u, rfl, rx⟩ := vals1 r
  cases rx
  obtain ⟨hget, hz, its, rv, o2, g1, g2, n, g3⟩ := (show ObjOk X.prog X.w G s.heap a (.frz ob (.tup (ps.map V.ref))) from I.hok a _ ha)
  rw [hget] at g1
  cases g1
  have ei := refs_at rv
  subst ei
  rw [List.length_map] at hz
  obtain ⟨prs, ks, rel, l1, l2, hpr⟩ := pairs_both I hp
  have ok : PlainSeq "tuple" s.heap a (ps.map Value.ref).toArray ∧ PairItems s.heap (ps.map Value.ref).toArray (fun j => ps.getD j 0) ks := by
    refine ⟨⟨ob, n, hget, g2, od, g3⟩, by simp [l2], fun j k v e => ?_⟩
    obtain ⟨b, y, e1, e2, e3, e4⟩ := hpr j k v e
    have eb : ps.getD j 0 = b := by
      rw [List.getD_eq_getElem?_getD, e1]
      rfl
    show _ = some (Value.ref (ps.getD j 0)) ∧ PairAt s.heap (ps.getD j 0) k v
    rw [eb]
    exact ⟨by simp [e1], .inl e2⟩
  refine PySem.call_dict_pairs (knd := mixKind X.prog X.w) (kvs := prs) (PairArg.tuple a _ (fun j => ps.getD j 0) ks) (I.ok.hd hcalm) ok ⟨by rw [l1, l2], fun j k v e => ?_⟩ (by rw [l2]; exact hz) fun h' tk hd' kk => ?_
  · obtain ⟨b, y, e1, e2, e3, e4⟩ := hpr j k v e
    exact ⟨y, e3, e4⟩
  · have hm : (s.heap.objs.size == sysModules) = false := beq_eq_false_iff_ne.mpr (Nat.ne_of_gt I.big)
    have hlen : (mergeK [] kvs).length ≤ sizeLine := by
      refine Nat.le_trans (length_mergeK kvs []) ?_
      rw [List.length_nil, Nat.zero_add, rel.length, l1]
      exact hz
    exact ⟨.ref s.heap.objs.size, upd G s.heap.objs.size (.dK (mergeK [] kvs)), I.laid (t' := tk) (fun b o e => kk b o (fun z => nomatch z) e) (Nat.le_refl _) (show ObjOk X.prog X.w _ _ _ (.dK (mergeK [] kvs)) from ⟨hlen, hm, merged [] prs, KV.merge rel .nil, hd'⟩), rfl, q _ (I.hok.fresh (Nat.le_refl _))⟩
end
end KD
set_option maxRecDepth 100000
set_option maxHeartbeats 4000000
/-! Calls by name, the names the other way about. -/
namespace KG
open PySem PySem.Spec PyProof.Rows L2
section
variable {X : Cx} {CX : CXT} {k : Nat} {f : Addr} {fd : FuncData} {ps ks : List Str} {sp : Sp} {E : XK} {x : Str} {p pos : Pos} {kws : List Keyword} {tk : TA} {g : List Value → List Value → List Value} {gV : List V → List V → List V}
theorem pe_callKw (F : FnOk X.prog X.w X.K X.mg X.base CX k f fd ps sp) (hr : Room k X.A) (hg : Gl X x) (hm : X.mg x = some (.ref f)) (hk : PySem.W.keepIn X.K (.ref f) = true) (hb : KBinds X.K fd ps ks g gV) (hx : Passes CX X E)
    (hkw : PK X kws tk) (hall : (backToKw pos (keywordEach kws X.env)).all (·.1.isSome) = true := by rfl) (hks : (backToKw pos (keywordEach kws X.env)).filterMap (·.1) = ks := by rfl)
    (hdb : (x == ("__debug__" : Str)) = false := by decide)
    (hpl : ((backTo pos (starEach [] X.env)).any (·.1) || (backToKw pos (keywordEach kws X.env)).any (·.1.isNone)) = false := by rfl) :
    PE X (.Call (.Name x p) [] kws pos) (tCallK sp gV E tNil tk) := by
  refine ⟨fun pins s σ H Q I h => ?_⟩
  refine wpAny_Call_Name_kw (ld_glob I hg hm ?_ hdb)
  refine PySem.W.callWith_KW0 (h₀ := X.base) I.ok.mod.kin hk hall ?_ hpl
  refine thn (hkw.run pos pins s σ H _ I h) fun ws s2 ⟨zs, H2, I2, rz, q2⟩ => ⟨I2.kIn, ?_⟩
  rw [hks]
  exact run_fnk (us := []) (vs := []) F hr hb hx I2 .nil rz q2
end
section
variable {x : Str} {ps ks : List Str} {f : Addr} {fd : FuncData}
def kR {α : Type} (us ws : List α) : List α := if us.isEmpty then ws.reverse else []
theorem vals_app : ∀ {vs us : List V} {ws zs : List Value}, Vals vs ws → Vals us zs → Vals (vs ++ us) (ws ++ zs)
  | _, _, _, _, .nil, h => h
  | _, _, _, _, .cons a t, h => .cons a (vals_app t h)
theorem vals_rev : ∀ {vs : List V} {ws : List Value}, Vals vs ws → Vals vs.reverse ws.reverse
  | _, _, .nil => .nil
  | _, _, .cons a t => by
    rw [List.reverse_cons, List.reverse_cons]
    exact vals_app (vals_rev t) (.cons a .nil)
theorem kb_rev {K : PySem.W.Frag} {qual : Str} {params : Arguments} {body : List Stmt} {scope : Scope} {kws : List (Str × V)} (F : FunD K x qual params body scope [] kws f fd) (hp : ps.length ≠ 0)
    (h : ∀ (kV doc pm : Value) (an : Option Addr) (cdv ct : Value) (ws : List Value), ws.length = ps.length → bindArgs (PySem.W.fnOf x qual params body scope .none kV doc pm an cdv ct) ⟨[], ks.zip ws⟩ = pure (ps.zip ws.reverse)) : KBinds K fd ps ks kR kR := by
  obtain ⟨oc, od, dV, kV, doc, pm, an, cdv, ct, osl, rfl, lk, hcd, hD, hK⟩ := F.ex
  rcases hD with ⟨_, rfl⟩ | ⟨e, _⟩
  · refine ⟨fun s us ws _ hl => ?_, fun {vs us zs ws} r rz => ?_⟩
    · cases us with
      | nil =>
        have hl2 : ws.length = ps.length := by
          have : ws.reverse.length = ps.length := hl
          rw [List.length_reverse] at this
          exact this
        exact .of_eq (h kV doc pm an cdv ct ws hl2)
      | cons a b => exact absurd hl.symm hp
    · cases r with
      | nil => exact vals_rev rz
      | cons _ _ => exact .nil
  · exact absurd rfl e
end
end KG
set_option maxRecDepth 100000
set_option maxHeartbeats 0
namespace K44
open PySem PySem.Spec PyProof.Rows L2
def top (i : Nat) : Stmt := PySem.Challenge.pw_latepresses_k44_whole_sums_and_where_run.main.body.getD i (.Pass ⟨0, 0, 0, 0⟩)
abbrev s_thing_sum : Stmt := top 9
abbrev s_stretch_sum : Stmt := top 10
abbrev s_chained : Stmt := top 11
abbrev s_parted : Stmt := top 12
abbrev s_need_pairs : Stmt := top 13
abbrev s_tick_by_halves : Stmt := top 14
abbrev s_cell_by_halves : Stmt := top 15
abbrev s_law_box : Stmt := top 17
abbrev s_law_is : Stmt := top 18
abbrev s_law_meet : Stmt := top 19
abbrev s_law_sign : Stmt := top 20
abbrev s_law_signs : Stmt := top 21
abbrev s_law_free : Stmt := top 22
abbrev s_law_lands : Stmt := top 23
abbrev s_law_buckets : Stmt := top 24
abbrev s_law_see : Stmt := top 25
abbrev s_law_meeting : Stmt := top 26
abbrev s_law_rest : Stmt := top 27
abbrev s_law_deck : Stmt := top 28
abbrev s_law_take : Stmt := top 29
abbrev s_law_piece : Stmt := top 30
abbrev s_law_kind : Stmt := top 31
abbrev s_law_floor : Stmt := top 32
abbrev s_law_stands : Stmt := top 33
abbrev s_law_game : Stmt := top 34
abbrev s_law_world : Stmt := top 35
abbrev s_law_same : Stmt := top 36
abbrev s_law_sum : Stmt := top 37
abbrev s_law_chained : Stmt := top 38
abbrev s_law_parted : Stmt := top 39
abbrev s_law_changed : Stmt := top 40
abbrev s_law_value : Stmt := top 41
abbrev s_law_rows_of_worlds : Stmt := top 42
abbrev s_law : Stmt := top 43
abbrev FnQ (K : PySem.W.Frag) (x q : Str) (st : Stmt) (f : Addr) (fd : FuncData) : Prop := FunD K x q (defArgs st) (defBody st) (defScope st) [] [] f fd
def fdAt (K : PySem.W.Frag) (a : Addr) : FuncData := match K.lookup a with
  | some ⟨_, _, .func fd, _⟩ => fd
  | _ => PySem.W.fnOf "" "" (defArgs (top 0)) [] (defScope (top 0)) .none .none .none .none none .none .none
theorem fdAt_eq {K : PySem.W.Frag} {a : Addr} {x q : Str} {st : Stmt} {fd : FuncData} (F : FnQ K x q st a fd) : FnQ K x q st a (fdAt K a) := by
  obtain ⟨oc, od, dV, kV, doc, pm, an, cdv, ct, osl, e, lk, r⟩ := F.ex
  have h : fdAt K a = fd := by
    unfold fdAt
    rw [lk]
  rw [h]
  exact F
def d_thing_sum : He.DefD := ⟨("thing_sum", none), "thing_sum", "thing_sum", defArgs s_thing_sum, defBody s_thing_sum, defScope s_thing_sum, [], []⟩
def d_stretch_sum : He.DefD := ⟨("stretch_sum", none), "stretch_sum", "stretch_sum", defArgs s_stretch_sum, defBody s_stretch_sum, defScope s_stretch_sum, [], []⟩
def d_chained : He.DefD := ⟨("chained", none), "chained", "chained", defArgs s_chained, defBody s_chained, defScope s_chained, [], []⟩
def d_parted : He.DefD := ⟨("parted", none), "parted", "parted", defArgs s_parted, defBody s_parted, defScope s_parted, [], []⟩
def d_need_pairs : He.DefD := ⟨("_need_pairs", none), "_need_pairs", "_need_pairs", defArgs s_need_pairs, defBody s_need_pairs, defScope s_need_pairs, [], []⟩
def d_tick_by_halves : He.DefD := ⟨("_tick_by_halves", none), "_tick_by_halves", "_tick_by_halves", defArgs s_tick_by_halves, defBody s_tick_by_halves, defScope s_tick_by_halves, [], []⟩
def d_cell_by_halves : He.DefD := ⟨("_cell_by_halves", none), "_cell_by_halves", "_cell_by_halves", defArgs s_cell_by_halves, defBody s_cell_by_halves, defScope s_cell_by_halves, [], []⟩
def d_law_box : He.DefD := ⟨("_law_box", none), "_law_box", "_law_box", defArgs s_law_box, defBody s_law_box, defScope s_law_box, [], []⟩
def d_law_is : He.DefD := ⟨("_law_is", none), "_law_is", "_law_is", defArgs s_law_is, defBody s_law_is, defScope s_law_is, [], []⟩
def d_law_meet : He.DefD := ⟨("_law_meet", none), "_law_meet", "_law_meet", defArgs s_law_meet, defBody s_law_meet, defScope s_law_meet, [], []⟩
def d_law_sign : He.DefD := ⟨("_law_sign", none), "_law_sign", "_law_sign", defArgs s_law_sign, defBody s_law_sign, defScope s_law_sign, [], []⟩
def d_law_signs : He.DefD := ⟨("_law_signs", none), "_law_signs", "_law_signs", defArgs s_law_signs, defBody s_law_signs, defScope s_law_signs, [], []⟩
def d_law_free : He.DefD := ⟨("_law_free", none), "_law_free", "_law_free", defArgs s_law_free, defBody s_law_free, defScope s_law_free, [], []⟩
def d_law_lands : He.DefD := ⟨("_law_lands", none), "_law_lands", "_law_lands", defArgs s_law_lands, defBody s_law_lands, defScope s_law_lands, [], []⟩
def d_law_buckets : He.DefD := ⟨("_law_buckets", none), "_law_buckets", "_law_buckets", defArgs s_law_buckets, defBody s_law_buckets, defScope s_law_buckets, [], []⟩
def d_law_see : He.DefD := ⟨("_law_see", none), "_law_see", "_law_see", defArgs s_law_see, defBody s_law_see, defScope s_law_see, [], []⟩
def d_law_meeting : He.DefD := ⟨("_law_meeting", none), "_law_meeting", "_law_meeting", defArgs s_law_meeting, defBody s_law_meeting, defScope s_law_meeting, [], []⟩
def d_law_rest : He.DefD := ⟨("_law_rest", none), "_law_rest", "_law_rest", defArgs s_law_rest, defBody s_law_rest, defScope s_law_rest, [], []⟩
def d_law_deck : He.DefD := ⟨("_law_deck", none), "_law_deck", "_law_deck", defArgs s_law_deck, defBody s_law_deck, defScope s_law_deck, [], []⟩
def d_law_take : He.DefD := ⟨("_law_take", none), "_law_take", "_law_take", defArgs s_law_take, defBody s_law_take, defScope s_law_take, [], []⟩
def d_law_piece : He.DefD := ⟨("_law_piece", none), "_law_piece", "_law_piece", defArgs s_law_piece, defBody s_law_piece, defScope s_law_piece, [], []⟩
def d_law_kind : He.DefD := ⟨("_law_kind", none), "_law_kind", "_law_kind", defArgs s_law_kind, defBody s_law_kind, defScope s_law_kind, [], []⟩
def d_law_floor : He.DefD := ⟨("_law_floor", none), "_law_floor", "_law_floor", defArgs s_law_floor, defBody s_law_floor, defScope s_law_floor, [], []⟩
def d_law_stands : He.DefD := ⟨("_law_stands", none), "_law_stands", "_law_stands", defArgs s_law_stands, defBody s_law_stands, defScope s_law_stands, [], []⟩
def d_law_game : He.DefD := ⟨("_law_game", none), "_law_game", "_law_game", defArgs s_law_game, defBody s_law_game, defScope s_law_game, [], []⟩
def d_law_world : He.DefD := ⟨("_law_world", none), "_law_world", "_law_world", defArgs s_law_world, defBody s_law_world, defScope s_law_world, [], []⟩
def d_law_same : He.DefD := ⟨("_law_same", none), "_law_same", "_law_same", defArgs s_law_same, defBody s_law_same, defScope s_law_same, [], []⟩
def d_law_sum : He.DefD := ⟨("_law_sum", none), "_law_sum", "_law_sum", defArgs s_law_sum, defBody s_law_sum, defScope s_law_sum, [], []⟩
def d_law_chained : He.DefD := ⟨("_law_chained", none), "_law_chained", "_law_chained", defArgs s_law_chained, defBody s_law_chained, defScope s_law_chained, [], []⟩
def d_law_parted : He.DefD := ⟨("_law_parted", none), "_law_parted", "_law_parted", defArgs s_law_parted, defBody s_law_parted, defScope s_law_parted, [], []⟩
def d_law_changed : He.DefD := ⟨("_law_changed", none), "_law_changed", "_law_changed", defArgs s_law_changed, defBody s_law_changed, defScope s_law_changed, [], []⟩
def d_law_value : He.DefD := ⟨("_law_value", none), "_law_value", "_law_value", defArgs s_law_value, defBody s_law_value, defScope s_law_value, [], []⟩
def d_law_rows_of_worlds : He.DefD := ⟨("_law_rows_of_worlds", none), "_law_rows_of_worlds", "_law_rows_of_worlds", defArgs s_law_rows_of_worlds, defBody s_law_rows_of_worlds, defScope s_law_rows_of_worlds, [], []⟩
def d_law : He.DefD := ⟨("law", none), "law", "law", defArgs s_law, defBody s_law, defScope s_law, [], []⟩
def loose0 : List Str := ["thing_sum", "stretch_sum", "chained", "parted", "_need_pairs", "_tick_by_halves", "_cell_by_halves", "_law_box", "_law_is", "_law_meet", "_law_sign", "_law_signs", "_law_free", "_law_lands", "_law_buckets", "_law_see", "_law_meeting", "_law_rest", "_law_deck", "_law_take", "_law_piece", "_law_kind", "_law_floor", "_law_stands", "_law_game", "_law_world", "_law_same", "_law_sum", "_law_chained", "_law_parted"]
def loose1 : List Str := ["_law_changed", "_law_value", "_law_rows_of_worlds", "GameError", "InvalidWorld", "InvalidNumber", "InvalidPair", "MODULUS", "NONE_SUM", "FIRST_SUM"]
def loose : List Str := loose0 ++ loose1
def fn : List He.DefD := [d_thing_sum, d_stretch_sum, d_chained, d_parted, d_need_pairs, d_tick_by_halves, d_cell_by_halves, d_law_box, d_law_is, d_law_meet, d_law_sign, d_law_signs, d_law_free, d_law_lands, d_law_buckets, d_law_see, d_law_meeting, d_law_rest, d_law_deck, d_law_take, d_law_piece, d_law_kind, d_law_floor, d_law_stands, d_law_game, d_law_world, d_law_same, d_law_sum, d_law_chained, d_law_parted, d_law_changed, d_law_value, d_law_rows_of_worlds, d_law]
def fa : List He.Fa := [.glo "thing_sum", .glo "stretch_sum", .glo "chained", .glo "parted", .glo "_need_pairs", .glo "_tick_by_halves", .glo "_cell_by_halves", .glo "_law_box", .glo "_law_is", .glo "_law_meet", .glo "_law_sign", .glo "_law_signs", .glo "_law_free", .glo "_law_lands", .glo "_law_buckets", .glo "_law_see", .glo "_law_meeting", .glo "_law_rest", .glo "_law_deck", .glo "_law_take", .glo "_law_piece", .glo "_law_kind", .glo "_law_floor", .glo "_law_stands", .glo "_law_game", .glo "_law_world", .glo "_law_same", .glo "_law_sum", .glo "_law_chained", .glo "_law_parted", .glo "_law_changed", .glo "_law_value", .glo "_law_rows_of_worlds", .glo "law", .free "len", .free "int", .free "isinstance", .free "range", .free "all", .free "any", .free "min", .free "max", .free "bool", .free "tuple", .free "list", .free "sorted", .free "zip", .free "ValueError", .free "repr", .free "abs", .int "MODULUS" 2305843009213693951, .int "NONE_SUM" 11, .int "FIRST_SUM" 13, .glo "GameError", .glo "InvalidWorld", .glo "InvalidNumber", .glo "InvalidPair"]
def tupA (K : PySem.W.Frag) (a : Addr) (vs : List He.Dv) : Bool := match K.lookup a with
  | some ⟨.type c, _, .seq its _, _⟩ => decide (c = "tuple") && (decide (its.size ≤ sizeLine) && He.relAll (vs.map (He.Dv.v K)) its.toList)
  | _ => false
theorem tupA_ok {K : PySem.W.Frag} {a : Addr} {vs : List He.Dv} (h : tupA K a vs = true) (H : Hp) : SqT K H a (vs.map (He.Dv.v K)) := by
  unfold tupA at h
  split at h
  · rename_i c dd its n sl q
    obtain ⟨h1, h2⟩ := He.ba h
    obtain ⟨h3, h4⟩ := He.ba h2
    exact .inr ⟨_, its, n, q, congrArg Value.type (of_decide_eq_true h1), rfl, of_decide_eq_true h3, He.relAll_ok h4⟩
  · cases h
/-- where a written dict's value lies -/
def dtA (K : PySem.W.Frag) (x k : Str) : Addr := match PySem.W.nsIn K (He.ga K x) k with
  | some (some (.ref a)) => a
  | _ => 0
def dtB (K : PySem.W.Frag) (x : Str) (q : Str × List He.Dv) : Bool := decide (PySem.W.nsIn K (He.ga K x) q.1 = some (some (.ref (dtA K x q.1)))) && tupA K (dtA K x q.1) q.2
def tabs : List He.Tab := []
def exs (K : PySem.W.Frag) : Bool := true
abbrev R : PySem.W.OpenRow := PySem.W.OpenLaw.row PySem.Challenge.rw_latepresses_k44_whole_sums_and_where_run
abbrev hk : PySem.W.Hook := He.hookX 6 fa fn tabs [] exs
def ob (s : PySem.W.SharedT) : He.AlX := He.obsX 6 fa fn tabs [] exs (HandSHeadRun.getT s)
theorem ob_eq (s : PySem.W.SharedT) : ob s = hk.obs s.abs := He.obsX_eq (HandSHeadRun.getT_eq s)
theorem run0 (w : World) : HandSHeadRun.RunEq R (PySem.W.view R.prog [43]) hk ob 20000 loose (w.withFollow "special-get-raises" false) := by
  intro os
  kernel_rfl
theorem run1 (w : World) : HandSHeadRun.RunEq R (PySem.W.view R.prog [43]) hk ob 20000 loose (w.withFollow "special-get-raises" true) := by
  intro os
  kernel_rfl
theorem run (w : World) : HandSHeadRun.RunEq R (PySem.W.view R.prog [43]) hk ob 20000 loose w :=
  PySem.W.byRow2 "special-get-raises" (P := fun w => HandSHeadRun.RunEq R (PySem.W.view R.prog [43]) hk ob 20000 loose w) run0 run1 w
structure Txt (K : PySem.W.Frag) (w : World) (mg : Str → Option Value) : Prop where
  F_thing_sum : FnQ K "thing_sum" "thing_sum" s_thing_sum (He.fAd K ("thing_sum", none)) (fdAt K (He.fAd K ("thing_sum", none)))
  b_thing_sum : Binds K (fdAt K (He.fAd K ("thing_sum", none))) ["value"] []
  F_stretch_sum : FnQ K "stretch_sum" "stretch_sum" s_stretch_sum (He.fAd K ("stretch_sum", none)) (fdAt K (He.fAd K ("stretch_sum", none)))
  b_stretch_sum : Binds K (fdAt K (He.fAd K ("stretch_sum", none))) ["world", "first", "last"] []
  F_chained : FnQ K "chained" "chained" s_chained (He.fAd K ("chained", none)) (fdAt K (He.fAd K ("chained", none)))
  b_chained : Binds K (fdAt K (He.fAd K ("chained", none))) ["worlds"] []
  F_parted : FnQ K "parted" "parted" s_parted (He.fAd K ("parted", none)) (fdAt K (He.fAd K ("parted", none)))
  b_parted : Binds K (fdAt K (He.fAd K ("parted", none))) ["one", "other"] []
  F_need_pairs : FnQ K "_need_pairs" "_need_pairs" s_need_pairs (He.fAd K ("_need_pairs", none)) (fdAt K (He.fAd K ("_need_pairs", none)))
  b_need_pairs : Binds K (fdAt K (He.fAd K ("_need_pairs", none))) ["one", "other"] []
  F_tick_by_halves : FnQ K "_tick_by_halves" "_tick_by_halves" s_tick_by_halves (He.fAd K ("_tick_by_halves", none)) (fdAt K (He.fAd K ("_tick_by_halves", none)))
  b_tick_by_halves : Binds K (fdAt K (He.fAd K ("_tick_by_halves", none))) ["one_sums", "other_sums"] []
  F_cell_by_halves : FnQ K "_cell_by_halves" "_cell_by_halves" s_cell_by_halves (He.fAd K ("_cell_by_halves", none)) (fdAt K (He.fAd K ("_cell_by_halves", none)))
  b_cell_by_halves : Binds K (fdAt K (He.fAd K ("_cell_by_halves", none))) ["one", "other"] []
  F_law_box : FnQ K "_law_box" "_law_box" s_law_box (He.fAd K ("_law_box", none)) (fdAt K (He.fAd K ("_law_box", none)))
  b_law_box : Binds K (fdAt K (He.fAd K ("_law_box", none))) ["game", "thing"] []
  F_law_is : FnQ K "_law_is" "_law_is" s_law_is (He.fAd K ("_law_is", none)) (fdAt K (He.fAd K ("_law_is", none)))
  b_law_is : Binds K (fdAt K (He.fAd K ("_law_is", none))) ["game", "thing", "trait"] []
  F_law_meet : FnQ K "_law_meet" "_law_meet" s_law_meet (He.fAd K ("_law_meet", none)) (fdAt K (He.fAd K ("_law_meet", none)))
  b_law_meet : Binds K (fdAt K (He.fAd K ("_law_meet", none))) ["item", "mate"] []
  F_law_sign : FnQ K "_law_sign" "_law_sign" s_law_sign (He.fAd K ("_law_sign", none)) (fdAt K (He.fAd K ("_law_sign", none)))
  b_law_sign : Binds K (fdAt K (He.fAd K ("_law_sign", none))) ["game", "x", "y"] []
  F_law_signs : FnQ K "_law_signs" "_law_signs" s_law_signs (He.fAd K ("_law_signs", none)) (fdAt K (He.fAd K ("_law_signs", none)))
  b_law_signs : Binds K (fdAt K (He.fAd K ("_law_signs", none))) ["game", "box"] []
  F_law_free : FnQ K "_law_free" "_law_free" s_law_free (He.fAd K ("_law_free", none)) (fdAt K (He.fAd K ("_law_free", none)))
  b_law_free : Binds K (fdAt K (He.fAd K ("_law_free", none))) ["game", "box"] []
  F_law_lands : FnQ K "_law_lands" "_law_lands" s_law_lands (He.fAd K ("_law_lands", none)) (fdAt K (He.fAd K ("_law_lands", none)))
  b_law_lands : Binds K (fdAt K (He.fAd K ("_law_lands", none))) ["game", "box"] []
  F_law_buckets : FnQ K "_law_buckets" "_law_buckets" s_law_buckets (He.fAd K ("_law_buckets", none)) (fdAt K (He.fAd K ("_law_buckets", none)))
  b_law_buckets : Binds K (fdAt K (He.fAd K ("_law_buckets", none))) ["game", "box"] []
  F_law_see : FnQ K "_law_see" "_law_see" s_law_see (He.fAd K ("_law_see", none)) (fdAt K (He.fAd K ("_law_see", none)))
  b_law_see : Binds K (fdAt K (He.fAd K ("_law_see", none))) ["held", "cell"] []
  F_law_meeting : FnQ K "_law_meeting" "_law_meeting" s_law_meeting (He.fAd K ("_law_meeting", none)) (fdAt K (He.fAd K ("_law_meeting", none)))
  b_law_meeting : Binds K (fdAt K (He.fAd K ("_law_meeting", none))) ["held", "box", "but"] []
  F_law_rest : FnQ K "_law_rest" "_law_rest" s_law_rest (He.fAd K ("_law_rest", none)) (fdAt K (He.fAd K ("_law_rest", none)))
  b_law_rest : Binds K (fdAt K (He.fAd K ("_law_rest", none))) ["held", "slot"] []
  F_law_deck : FnQ K "_law_deck" "_law_deck" s_law_deck (He.fAd K ("_law_deck", none)) (fdAt K (He.fAd K ("_law_deck", none)))
  b_law_deck : Binds K (fdAt K (He.fAd K ("_law_deck", none))) ["script", "k"] []
  F_law_take : FnQ K "_law_take" "_law_take" s_law_take (He.fAd K ("_law_take", none)) (fdAt K (He.fAd K ("_law_take", none)))
  b_law_take : Binds K (fdAt K (He.fAd K ("_law_take", none))) ["deck", "many"] []
  F_law_piece : FnQ K "_law_piece" "_law_piece" s_law_piece (He.fAd K ("_law_piece", none)) (fdAt K (He.fAd K ("_law_piece", none)))
  b_law_piece : Binds K (fdAt K (He.fAd K ("_law_piece", none))) ["deck", "kinds"] []
  F_law_kind : FnQ K "_law_kind" "_law_kind" s_law_kind (He.fAd K ("_law_kind", none)) (fdAt K (He.fAd K ("_law_kind", none)))
  b_law_kind : Binds K (fdAt K (He.fAd K ("_law_kind", none))) ["deck", "k", "kinds"] []
  F_law_floor : FnQ K "_law_floor" "_law_floor" s_law_floor (He.fAd K ("_law_floor", none)) (fdAt K (He.fAd K ("_law_floor", none)))
  b_law_floor : Binds K (fdAt K (He.fAd K ("_law_floor", none))) ["deck"] []
  F_law_stands : FnQ K "_law_stands" "_law_stands" s_law_stands (He.fAd K ("_law_stands", none)) (fdAt K (He.fAd K ("_law_stands", none)))
  b_law_stands : Binds K (fdAt K (He.fAd K ("_law_stands", none))) ["game", "thing", "things"] []
  F_law_game : FnQ K "_law_game" "_law_game" s_law_game (He.fAd K ("_law_game", none)) (fdAt K (He.fAd K ("_law_game", none)))
  b_law_game : Binds K (fdAt K (He.fAd K ("_law_game", none))) ["deck"] []
  F_law_world : FnQ K "_law_world" "_law_world" s_law_world (He.fAd K ("_law_world", none)) (fdAt K (He.fAd K ("_law_world", none)))
  b_law_world : Binds K (fdAt K (He.fAd K ("_law_world", none))) ["deck", "game", "things"] []
  F_law_same : FnQ K "_law_same" "_law_same" s_law_same (He.fAd K ("_law_same", none)) (fdAt K (He.fAd K ("_law_same", none)))
  b_law_same : Binds K (fdAt K (He.fAd K ("_law_same", none))) ["found", "due"] []
  F_law_sum : FnQ K "_law_sum" "_law_sum" s_law_sum (He.fAd K ("_law_sum", none)) (fdAt K (He.fAd K ("_law_sum", none)))
  b_law_sum : Binds K (fdAt K (He.fAd K ("_law_sum", none))) ["worth"] []
  F_law_chained : FnQ K "_law_chained" "_law_chained" s_law_chained (He.fAd K ("_law_chained", none)) (fdAt K (He.fAd K ("_law_chained", none)))
  b_law_chained : Binds K (fdAt K (He.fAd K ("_law_chained", none))) ["states"] []
  F_law_parted : FnQ K "_law_parted" "_law_parted" s_law_parted (He.fAd K ("_law_parted", none)) (fdAt K (He.fAd K ("_law_parted", none)))
  b_law_parted : Binds K (fdAt K (He.fAd K ("_law_parted", none))) ["item", "mate"] []
  F_law_changed : FnQ K "_law_changed" "_law_changed" s_law_changed (He.fAd K ("_law_changed", none)) (fdAt K (He.fAd K ("_law_changed", none)))
  b_law_changed : Binds K (fdAt K (He.fAd K ("_law_changed", none))) ["deck", "state"] []
  F_law_value : FnQ K "_law_value" "_law_value" s_law_value (He.fAd K ("_law_value", none)) (fdAt K (He.fAd K ("_law_value", none)))
  b_law_value : Binds K (fdAt K (He.fAd K ("_law_value", none))) ["deck", "deep"] []
  F_law_rows_of_worlds : FnQ K "_law_rows_of_worlds" "_law_rows_of_worlds" s_law_rows_of_worlds (He.fAd K ("_law_rows_of_worlds", none)) (fdAt K (He.fAd K ("_law_rows_of_worlds", none)))
  b_law_rows_of_worlds : Binds K (fdAt K (He.fAd K ("_law_rows_of_worlds", none))) ["script"] []
  F_law : FnQ K "law" "law" s_law (He.fAd K ("law", none)) (fdAt K (He.fAd K ("law", none)))
  b_law : Binds K (fdAt K (He.fAd K ("law", none))) ["script"] []
  g_thing_sum : mg "thing_sum" = some (.ref (He.ga K "thing_sum"))
  g_stretch_sum : mg "stretch_sum" = some (.ref (He.ga K "stretch_sum"))
  g_chained : mg "chained" = some (.ref (He.ga K "chained"))
  g_parted : mg "parted" = some (.ref (He.ga K "parted"))
  g_need_pairs : mg "_need_pairs" = some (.ref (He.ga K "_need_pairs"))
  g_tick_by_halves : mg "_tick_by_halves" = some (.ref (He.ga K "_tick_by_halves"))
  g_cell_by_halves : mg "_cell_by_halves" = some (.ref (He.ga K "_cell_by_halves"))
  g_law_box : mg "_law_box" = some (.ref (He.ga K "_law_box"))
  g_law_is : mg "_law_is" = some (.ref (He.ga K "_law_is"))
  g_law_meet : mg "_law_meet" = some (.ref (He.ga K "_law_meet"))
  g_law_sign : mg "_law_sign" = some (.ref (He.ga K "_law_sign"))
  g_law_signs : mg "_law_signs" = some (.ref (He.ga K "_law_signs"))
  g_law_free : mg "_law_free" = some (.ref (He.ga K "_law_free"))
  g_law_lands : mg "_law_lands" = some (.ref (He.ga K "_law_lands"))
  g_law_buckets : mg "_law_buckets" = some (.ref (He.ga K "_law_buckets"))
  g_law_see : mg "_law_see" = some (.ref (He.ga K "_law_see"))
  g_law_meeting : mg "_law_meeting" = some (.ref (He.ga K "_law_meeting"))
  g_law_rest : mg "_law_rest" = some (.ref (He.ga K "_law_rest"))
  g_law_deck : mg "_law_deck" = some (.ref (He.ga K "_law_deck"))
  g_law_take : mg "_law_take" = some (.ref (He.ga K "_law_take"))
  g_law_piece : mg "_law_piece" = some (.ref (He.ga K "_law_piece"))
  g_law_kind : mg "_law_kind" = some (.ref (He.ga K "_law_kind"))
  g_law_floor : mg "_law_floor" = some (.ref (He.ga K "_law_floor"))
  g_law_stands : mg "_law_stands" = some (.ref (He.ga K "_law_stands"))
  g_law_game : mg "_law_game" = some (.ref (He.ga K "_law_game"))
  g_law_world : mg "_law_world" = some (.ref (He.ga K "_law_world"))
  g_law_same : mg "_law_same" = some (.ref (He.ga K "_law_same"))
  g_law_sum : mg "_law_sum" = some (.ref (He.ga K "_law_sum"))
  g_law_chained : mg "_law_chained" = some (.ref (He.ga K "_law_chained"))
  g_law_parted : mg "_law_parted" = some (.ref (He.ga K "_law_parted"))
  g_law_changed : mg "_law_changed" = some (.ref (He.ga K "_law_changed"))
  g_law_value : mg "_law_value" = some (.ref (He.ga K "_law_value"))
  g_law_rows_of_worlds : mg "_law_rows_of_worlds" = some (.ref (He.ga K "_law_rows_of_worlds"))
  g_law : mg "law" = some (.ref (He.ga K "law"))
  n_len : mg "len" = none
  n_int : mg "int" = none
  n_isinstance : mg "isinstance" = none
  n_range : mg "range" = none
  n_all : mg "all" = none
  n_any : mg "any" = none
  n_min : mg "min" = none
  n_max : mg "max" = none
  n_bool : mg "bool" = none
  n_tuple : mg "tuple" = none
  n_list : mg "list" = none
  n_sorted : mg "sorted" = none
  n_zip : mg "zip" = none
  n_ValueError : mg "ValueError" = none
  n_repr : mg "repr" = none
  n_abs : mg "abs" = none
  c_MODULUS : ∃ u, mg "MODULUS" = some u ∧ RelV (.int 2305843009213693951) u
  c_NONE_SUM : ∃ u, mg "NONE_SUM" = some u ∧ RelV (.int 11) u
  c_FIRST_SUM : ∃ u, mg "FIRST_SUM" = some u ∧ RelV (.int 13) u
  g_GameError : mg "GameError" = some (.ref (He.ga K "GameError"))
  g_InvalidWorld : mg "InvalidWorld" = some (.ref (He.ga K "InvalidWorld"))
  g_InvalidNumber : mg "InvalidNumber" = some (.ref (He.ga K "InvalidNumber"))
  g_InvalidPair : mg "InvalidPair" = some (.ref (He.ga K "InvalidPair"))
theorem txt_of {K : PySem.W.Frag} {w : World} {h h0 : Heap} {mg : Str → Option Value} (X : K.In h) (G : h.Ns mainGlobals mg) (c : He.SaysX fa fn tabs [] exs w h0 K) : Txt K w mg := by
  have cd := c.t.d
  obtain ⟨fd_thing_sum, f_thing_sum⟩ := cd.def_ 0 (d := d_thing_sum) rfl
  obtain ⟨fd_stretch_sum, f_stretch_sum⟩ := cd.def_ 1 (d := d_stretch_sum) rfl
  obtain ⟨fd_chained, f_chained⟩ := cd.def_ 2 (d := d_chained) rfl
  obtain ⟨fd_parted, f_parted⟩ := cd.def_ 3 (d := d_parted) rfl
  obtain ⟨fd_need_pairs, f_need_pairs⟩ := cd.def_ 4 (d := d_need_pairs) rfl
  obtain ⟨fd_tick_by_halves, f_tick_by_halves⟩ := cd.def_ 5 (d := d_tick_by_halves) rfl
  obtain ⟨fd_cell_by_halves, f_cell_by_halves⟩ := cd.def_ 6 (d := d_cell_by_halves) rfl
  obtain ⟨fd_law_box, f_law_box⟩ := cd.def_ 7 (d := d_law_box) rfl
  obtain ⟨fd_law_is, f_law_is⟩ := cd.def_ 8 (d := d_law_is) rfl
  obtain ⟨fd_law_meet, f_law_meet⟩ := cd.def_ 9 (d := d_law_meet) rfl
  obtain ⟨fd_law_sign, f_law_sign⟩ := cd.def_ 10 (d := d_law_sign) rfl
  obtain ⟨fd_law_signs, f_law_signs⟩ := cd.def_ 11 (d := d_law_signs) rfl
  obtain ⟨fd_law_free, f_law_free⟩ := cd.def_ 12 (d := d_law_free) rfl
  obtain ⟨fd_law_lands, f_law_lands⟩ := cd.def_ 13 (d := d_law_lands) rfl
  obtain ⟨fd_law_buckets, f_law_buckets⟩ := cd.def_ 14 (d := d_law_buckets) rfl
  obtain ⟨fd_law_see, f_law_see⟩ := cd.def_ 15 (d := d_law_see) rfl
  obtain ⟨fd_law_meeting, f_law_meeting⟩ := cd.def_ 16 (d := d_law_meeting) rfl
  obtain ⟨fd_law_rest, f_law_rest⟩ := cd.def_ 17 (d := d_law_rest) rfl
  obtain ⟨fd_law_deck, f_law_deck⟩ := cd.def_ 18 (d := d_law_deck) rfl
  obtain ⟨fd_law_take, f_law_take⟩ := cd.def_ 19 (d := d_law_take) rfl
  obtain ⟨fd_law_piece, f_law_piece⟩ := cd.def_ 20 (d := d_law_piece) rfl
  obtain ⟨fd_law_kind, f_law_kind⟩ := cd.def_ 21 (d := d_law_kind) rfl
  obtain ⟨fd_law_floor, f_law_floor⟩ := cd.def_ 22 (d := d_law_floor) rfl
  obtain ⟨fd_law_stands, f_law_stands⟩ := cd.def_ 23 (d := d_law_stands) rfl
  obtain ⟨fd_law_game, f_law_game⟩ := cd.def_ 24 (d := d_law_game) rfl
  obtain ⟨fd_law_world, f_law_world⟩ := cd.def_ 25 (d := d_law_world) rfl
  obtain ⟨fd_law_same, f_law_same⟩ := cd.def_ 26 (d := d_law_same) rfl
  obtain ⟨fd_law_sum, f_law_sum⟩ := cd.def_ 27 (d := d_law_sum) rfl
  obtain ⟨fd_law_chained, f_law_chained⟩ := cd.def_ 28 (d := d_law_chained) rfl
  obtain ⟨fd_law_parted, f_law_parted⟩ := cd.def_ 29 (d := d_law_parted) rfl
  obtain ⟨fd_law_changed, f_law_changed⟩ := cd.def_ 30 (d := d_law_changed) rfl
  obtain ⟨fd_law_value, f_law_value⟩ := cd.def_ 31 (d := d_law_value) rfl
  obtain ⟨fd_law_rows_of_worlds, f_law_rows_of_worlds⟩ := cd.def_ 32 (d := d_law_rows_of_worlds) rfl
  obtain ⟨fd_law, f_law⟩ := cd.def_ 33 (d := d_law) rfl
  exact {
    F_thing_sum := fdAt_eq f_thing_sum
    b_thing_sum := (fdAt_eq (st := s_thing_sum) f_thing_sum).bindsN fun _ _ _ _ _ _ us hl => match us, hl with | [_], _ => rfl
    F_stretch_sum := fdAt_eq f_stretch_sum
    b_stretch_sum := (fdAt_eq (st := s_stretch_sum) f_stretch_sum).bindsN fun _ _ _ _ _ _ us hl => match us, hl with | [_, _, _], _ => rfl
    F_chained := fdAt_eq f_chained
    b_chained := (fdAt_eq (st := s_chained) f_chained).bindsN fun _ _ _ _ _ _ us hl => match us, hl with | [_], _ => rfl
    F_parted := fdAt_eq f_parted
    b_parted := (fdAt_eq (st := s_parted) f_parted).bindsN fun _ _ _ _ _ _ us hl => match us, hl with | [_, _], _ => rfl
    F_need_pairs := fdAt_eq f_need_pairs
    b_need_pairs := (fdAt_eq (st := s_need_pairs) f_need_pairs).bindsN fun _ _ _ _ _ _ us hl => match us, hl with | [_, _], _ => rfl
    F_tick_by_halves := fdAt_eq f_tick_by_halves
    b_tick_by_halves := (fdAt_eq (st := s_tick_by_halves) f_tick_by_halves).bindsN fun _ _ _ _ _ _ us hl => match us, hl with | [_, _], _ => rfl
    F_cell_by_halves := fdAt_eq f_cell_by_halves
    b_cell_by_halves := (fdAt_eq (st := s_cell_by_halves) f_cell_by_halves).bindsN fun _ _ _ _ _ _ us hl => match us, hl with | [_, _], _ => rfl
    F_law_box := fdAt_eq f_law_box
    b_law_box := (fdAt_eq (st := s_law_box) f_law_box).bindsN fun _ _ _ _ _ _ us hl => match us, hl with | [_, _], _ => rfl
    F_law_is := fdAt_eq f_law_is
    b_law_is := (fdAt_eq (st := s_law_is) f_law_is).bindsN fun _ _ _ _ _ _ us hl => match us, hl with | [_, _, _], _ => rfl
    F_law_meet := fdAt_eq f_law_meet
    b_law_meet := (fdAt_eq (st := s_law_meet) f_law_meet).bindsN fun _ _ _ _ _ _ us hl => match us, hl with | [_, _], _ => rfl
    F_law_sign := fdAt_eq f_law_sign
    b_law_sign := (fdAt_eq (st := s_law_sign) f_law_sign).bindsN fun _ _ _ _ _ _ us hl => match us, hl with | [_, _, _], _ => rfl
    F_law_signs := fdAt_eq f_law_signs
    b_law_signs := (fdAt_eq (st := s_law_signs) f_law_signs).bindsN fun _ _ _ _ _ _ us hl => match us, hl with | [_, _], _ => rfl
    F_law_free := fdAt_eq f_law_free
    b_law_free := (fdAt_eq (st := s_law_free) f_law_free).bindsN fun _ _ _ _ _ _ us hl => match us, hl with | [_, _], _ => rfl
    F_law_lands := fdAt_eq f_law_lands
    b_law_lands := (fdAt_eq (st := s_law_lands) f_law_lands).bindsN fun _ _ _ _ _ _ us hl => match us, hl with | [_, _], _ => rfl
    F_law_buckets := fdAt_eq f_law_buckets
    b_law_buckets := (fdAt_eq (st := s_law_buckets) f_law_buckets).bindsN fun _ _ _ _ _ _ us hl => match us, hl with | [_, _], _ => rfl
    F_law_see := fdAt_eq f_law_see
    b_law_see := (fdAt_eq (st := s_law_see) f_law_see).bindsN fun _ _ _ _ _ _ us hl => match us, hl with | [_, _], _ => rfl
    F_law_meeting := fdAt_eq f_law_meeting
    b_law_meeting := (fdAt_eq (st := s_law_meeting) f_law_meeting).bindsN fun _ _ _ _ _ _ us hl => match us, hl with | [_, _, _], _ => rfl
    F_law_rest := fdAt_eq f_law_rest
    b_law_rest := (fdAt_eq (st := s_law_rest) f_law_rest).bindsN fun _ _ _ _ _ _ us hl => match us, hl with | [_, _], _ => rfl
    F_law_deck := fdAt_eq f_law_deck
    b_law_deck := (fdAt_eq (st := s_law_deck) f_law_deck).bindsN fun _ _ _ _ _ _ us hl => match us, hl with | [_, _], _ => rfl
    F_law_take := fdAt_eq f_law_take
    b_law_take := (fdAt_eq (st := s_law_take) f_law_take).bindsN fun _ _ _ _ _ _ us hl => match us, hl with | [_, _], _ => rfl
    F_law_piece := fdAt_eq f_law_piece
    b_law_piece := (fdAt_eq (st := s_law_piece) f_law_piece).bindsN fun _ _ _ _ _ _ us hl => match us, hl with | [_, _], _ => rfl
    F_law_kind := fdAt_eq f_law_kind
    b_law_kind := (fdAt_eq (st := s_law_kind) f_law_kind).bindsN fun _ _ _ _ _ _ us hl => match us, hl with | [_, _, _], _ => rfl
    F_law_floor := fdAt_eq f_law_floor
    b_law_floor := (fdAt_eq (st := s_law_floor) f_law_floor).bindsN fun _ _ _ _ _ _ us hl => match us, hl with | [_], _ => rfl
    F_law_stands := fdAt_eq f_law_stands
    b_law_stands := (fdAt_eq (st := s_law_stands) f_law_stands).bindsN fun _ _ _ _ _ _ us hl => match us, hl with | [_, _, _], _ => rfl
    F_law_game := fdAt_eq f_law_game
    b_law_game := (fdAt_eq (st := s_law_game) f_law_game).bindsN fun _ _ _ _ _ _ us hl => match us, hl with | [_], _ => rfl
    F_law_world := fdAt_eq f_law_world
    b_law_world := (fdAt_eq (st := s_law_world) f_law_world).bindsN fun _ _ _ _ _ _ us hl => match us, hl with | [_, _, _], _ => rfl
    F_law_same := fdAt_eq f_law_same
    b_law_same := (fdAt_eq (st := s_law_same) f_law_same).bindsN fun _ _ _ _ _ _ us hl => match us, hl with | [_, _], _ => rfl
    F_law_sum := fdAt_eq f_law_sum
    b_law_sum := (fdAt_eq (st := s_law_sum) f_law_sum).bindsN fun _ _ _ _ _ _ us hl => match us, hl with | [_], _ => rfl
    F_law_chained := fdAt_eq f_law_chained
    b_law_chained := (fdAt_eq (st := s_law_chained) f_law_chained).bindsN fun _ _ _ _ _ _ us hl => match us, hl with | [_], _ => rfl
    F_law_parted := fdAt_eq f_law_parted
    b_law_parted := (fdAt_eq (st := s_law_parted) f_law_parted).bindsN fun _ _ _ _ _ _ us hl => match us, hl with | [_, _], _ => rfl
    F_law_changed := fdAt_eq f_law_changed
    b_law_changed := (fdAt_eq (st := s_law_changed) f_law_changed).bindsN fun _ _ _ _ _ _ us hl => match us, hl with | [_, _], _ => rfl
    F_law_value := fdAt_eq f_law_value
    b_law_value := (fdAt_eq (st := s_law_value) f_law_value).bindsN fun _ _ _ _ _ _ us hl => match us, hl with | [_, _], _ => rfl
    F_law_rows_of_worlds := fdAt_eq f_law_rows_of_worlds
    b_law_rows_of_worlds := (fdAt_eq (st := s_law_rows_of_worlds) f_law_rows_of_worlds).bindsN fun _ _ _ _ _ _ us hl => match us, hl with | [_], _ => rfl
    F_law := fdAt_eq f_law
    b_law := (fdAt_eq (st := s_law) f_law).bindsN fun _ _ _ _ _ _ us hl => match us, hl with | [_], _ => rfl
    g_thing_sum := He.glo_ok X G (cd.fact 0 (f := .glo "thing_sum") rfl)
    g_stretch_sum := He.glo_ok X G (cd.fact 1 (f := .glo "stretch_sum") rfl)
    g_chained := He.glo_ok X G (cd.fact 2 (f := .glo "chained") rfl)
    g_parted := He.glo_ok X G (cd.fact 3 (f := .glo "parted") rfl)
    g_need_pairs := He.glo_ok X G (cd.fact 4 (f := .glo "_need_pairs") rfl)
    g_tick_by_halves := He.glo_ok X G (cd.fact 5 (f := .glo "_tick_by_halves") rfl)
    g_cell_by_halves := He.glo_ok X G (cd.fact 6 (f := .glo "_cell_by_halves") rfl)
    g_law_box := He.glo_ok X G (cd.fact 7 (f := .glo "_law_box") rfl)
    g_law_is := He.glo_ok X G (cd.fact 8 (f := .glo "_law_is") rfl)
    g_law_meet := He.glo_ok X G (cd.fact 9 (f := .glo "_law_meet") rfl)
    g_law_sign := He.glo_ok X G (cd.fact 10 (f := .glo "_law_sign") rfl)
    g_law_signs := He.glo_ok X G (cd.fact 11 (f := .glo "_law_signs") rfl)
    g_law_free := He.glo_ok X G (cd.fact 12 (f := .glo "_law_free") rfl)
    g_law_lands := He.glo_ok X G (cd.fact 13 (f := .glo "_law_lands") rfl)
    g_law_buckets := He.glo_ok X G (cd.fact 14 (f := .glo "_law_buckets") rfl)
    g_law_see := He.glo_ok X G (cd.fact 15 (f := .glo "_law_see") rfl)
    g_law_meeting := He.glo_ok X G (cd.fact 16 (f := .glo "_law_meeting") rfl)
    g_law_rest := He.glo_ok X G (cd.fact 17 (f := .glo "_law_rest") rfl)
    g_law_deck := He.glo_ok X G (cd.fact 18 (f := .glo "_law_deck") rfl)
    g_law_take := He.glo_ok X G (cd.fact 19 (f := .glo "_law_take") rfl)
    g_law_piece := He.glo_ok X G (cd.fact 20 (f := .glo "_law_piece") rfl)
    g_law_kind := He.glo_ok X G (cd.fact 21 (f := .glo "_law_kind") rfl)
    g_law_floor := He.glo_ok X G (cd.fact 22 (f := .glo "_law_floor") rfl)
    g_law_stands := He.glo_ok X G (cd.fact 23 (f := .glo "_law_stands") rfl)
    g_law_game := He.glo_ok X G (cd.fact 24 (f := .glo "_law_game") rfl)
    g_law_world := He.glo_ok X G (cd.fact 25 (f := .glo "_law_world") rfl)
    g_law_same := He.glo_ok X G (cd.fact 26 (f := .glo "_law_same") rfl)
    g_law_sum := He.glo_ok X G (cd.fact 27 (f := .glo "_law_sum") rfl)
    g_law_chained := He.glo_ok X G (cd.fact 28 (f := .glo "_law_chained") rfl)
    g_law_parted := He.glo_ok X G (cd.fact 29 (f := .glo "_law_parted") rfl)
    g_law_changed := He.glo_ok X G (cd.fact 30 (f := .glo "_law_changed") rfl)
    g_law_value := He.glo_ok X G (cd.fact 31 (f := .glo "_law_value") rfl)
    g_law_rows_of_worlds := He.glo_ok X G (cd.fact 32 (f := .glo "_law_rows_of_worlds") rfl)
    g_law := He.glo_ok X G (cd.fact 33 (f := .glo "law") rfl)
    n_len := He.free_ok X G (cd.fact 34 (f := .free "len") rfl)
    n_int := He.free_ok X G (cd.fact 35 (f := .free "int") rfl)
    n_isinstance := He.free_ok X G (cd.fact 36 (f := .free "isinstance") rfl)
    n_range := He.free_ok X G (cd.fact 37 (f := .free "range") rfl)
    n_all := He.free_ok X G (cd.fact 38 (f := .free "all") rfl)
    n_any := He.free_ok X G (cd.fact 39 (f := .free "any") rfl)
    n_min := He.free_ok X G (cd.fact 40 (f := .free "min") rfl)
    n_max := He.free_ok X G (cd.fact 41 (f := .free "max") rfl)
    n_bool := He.free_ok X G (cd.fact 42 (f := .free "bool") rfl)
    n_tuple := He.free_ok X G (cd.fact 43 (f := .free "tuple") rfl)
    n_list := He.free_ok X G (cd.fact 44 (f := .free "list") rfl)
    n_sorted := He.free_ok X G (cd.fact 45 (f := .free "sorted") rfl)
    n_zip := He.free_ok X G (cd.fact 46 (f := .free "zip") rfl)
    n_ValueError := He.free_ok X G (cd.fact 47 (f := .free "ValueError") rfl)
    n_repr := He.free_ok X G (cd.fact 48 (f := .free "repr") rfl)
    n_abs := He.free_ok X G (cd.fact 49 (f := .free "abs") rfl)
    c_MODULUS := by
      obtain ⟨t, e⟩ := He.int_ok X G (cd.fact 50 (f := .int "MODULUS" 2305843009213693951) rfl)
      exact ⟨_, e, ⟨t, rfl⟩⟩
    c_NONE_SUM := by
      obtain ⟨t, e⟩ := He.int_ok X G (cd.fact 51 (f := .int "NONE_SUM" 11) rfl)
      exact ⟨_, e, ⟨t, rfl⟩⟩
    c_FIRST_SUM := by
      obtain ⟨t, e⟩ := He.int_ok X G (cd.fact 52 (f := .int "FIRST_SUM" 13) rfl)
      exact ⟨_, e, ⟨t, rfl⟩⟩
    g_GameError := He.glo_ok X G (cd.fact 53 (f := .glo "GameError") rfl)
    g_InvalidWorld := He.glo_ok X G (cd.fact 54 (f := .glo "InvalidWorld") rfl)
    g_InvalidNumber := He.glo_ok X G (cd.fact 55 (f := .glo "InvalidNumber") rfl)
    g_InvalidPair := He.glo_ok X G (cd.fact 56 (f := .glo "InvalidPair") rfl)
  }
end K44
set_option maxRecDepth 100000
set_option maxHeartbeats 4000000
/-! Sums of values. -/
namespace K44
open PySem PySem.Spec PyProof.Rows L2 KF KD
/-! ### what a sum is -/
def PM : Int := 2305843009213693951
mutual
def ts : PyData → Int
  | .none => 11
  | .int i => (i * 2654435761 + 97) % PM
  | .tuple ds => (tsAll 13 ds + (ds.length : Nat)) % PM
  | _ => 0
def tsAll : Int → List PyData → Int
  | t, [] => t
  | t, d :: ds => tsAll ((t * 1000003 + ts d + 17) % PM) ds
end
/-- none, numbers and tuples of these, at most n deep -/
def SmOk : Nat → PyData → Prop
  | 0, d => match d with
    | .none => True
    | .int i => i.natAbs < 2 ^ 200
    | _ => False
  | n + 1, d => match d with
    | .none => True
    | .int i => i.natAbs < 2 ^ 200
    | .tuple ds => ds.length ≤ 1100 ∧ NLs ds ∧ ∀ e ∈ ds, SmOk n e
    | _ => False
theorem ts_rng : ∀ d, 0 ≤ ts d ∧ ts d < PM := fun d => by
  have h : (0 : Int) < PM := by decide
  have h2 : PM ≠ 0 := by decide
  cases d <;> unfold ts
  · exact ⟨by decide, by decide⟩
  · exact ⟨by decide, by decide⟩
  · exact ⟨Int.emod_nonneg _ h2, Int.emod_lt_of_pos _ h⟩
  · exact ⟨by decide, by decide⟩
  · exact ⟨by decide, by decide⟩
  · exact ⟨Int.emod_nonneg _ h2, Int.emod_lt_of_pos _ h⟩
  · exact ⟨by decide, by decide⟩
theorem tsAll_snoc : ∀ (t : Int) (ds : List PyData) (d : PyData), tsAll t (ds ++ [d]) = (tsAll t ds * 1000003 + ts d + 17) % PM
  | t, [], d => by
    rw [List.nil_append, tsAll, tsAll, tsAll]
  | t, e :: ds, d => by
    rw [List.cons_append, tsAll, tsAll, tsAll_snoc _ ds d]
theorem tsAll_rng : ∀ (ds : List PyData) (t : Int), 0 ≤ t → t < PM → 0 ≤ tsAll t ds ∧ tsAll t ds < PM
  | [], t, h0, h1 => by
    rw [tsAll]
    exact ⟨h0, h1⟩
  | d :: ds, t, _, _ => by
    rw [tsAll]
    exact tsAll_rng ds _ (Int.emod_nonneg _ (by decide)) (Int.emod_lt_of_pos _ (by decide))
/-! ### from behind: found and power -/
def bk : List PyData → Int × Int
  | [] => (0, 1)
  | d :: ds => (((bk ds).1 + (ts d + 17) * (bk ds).2) % PM, (bk ds).2 * 1000003 % PM)
theorem tsAll_bk : ∀ (ds : List PyData) (t : Int), (tsAll t ds - (t * (bk ds).2 + (bk ds).1)) % PM = 0
  | [], t => by
    simp [tsAll, bk]
  | d :: ds, t => by
    rw [tsAll]
    have ih := tsAll_bk ds ((t * 1000003 + ts d + 17) % PM)
    obtain ⟨x, hx⟩ : ∃ x, x = (bk ds).2 := ⟨_, rfl⟩
    obtain ⟨y, hy⟩ : ∃ y, y = (bk ds).1 := ⟨_, rfl⟩
    have e1 : (bk (d :: ds)).2 = x * 1000003 % PM := by rw [hx]; rfl
    have e2 : (bk (d :: ds)).1 = (y + (ts d + 17) * x) % PM := by rw [hx, hy]; rfl
    rw [e1, e2]
    rw [← hx, ← hy] at ih
    generalize tsAll ((t * 1000003 + ts d + 17) % PM) ds = r at ih ⊢
    have d1 := Int.dvd_of_emod_eq_zero ih
    have d2 : PM ∣ ((t * 1000003 + ts d + 17) % PM - (t * 1000003 + ts d + 17)) := Int.dvd_of_emod_eq_zero (by rw [Int.sub_emod, Int.emod_emod, Int.sub_self, Int.zero_emod])
    have d3 : PM ∣ (x * 1000003 % PM - x * 1000003) := Int.dvd_of_emod_eq_zero (by rw [Int.sub_emod, Int.emod_emod, Int.sub_self, Int.zero_emod])
    have d4 : PM ∣ ((y + (ts d + 17) * x) % PM - (y + (ts d + 17) * x)) := Int.dvd_of_emod_eq_zero (by rw [Int.sub_emod, Int.emod_emod, Int.sub_self, Int.zero_emod])
    refine Int.emod_eq_zero_of_dvd ?_
    obtain ⟨a1, b1⟩ := d1
    obtain ⟨a2, b2⟩ := d2
    obtain ⟨a3, b3⟩ := d3
    obtain ⟨a4, b4⟩ := d4
    refine ⟨a1 + a2 * x - t * a3 - a4, ?_⟩
    generalize (t * 1000003 + ts d + 17) % PM = u at *
    generalize x * 1000003 % PM = v at *
    generalize (y + (ts d + 17) * x) % PM = w at *
    have eu : u = PM * a2 + (t * 1000003 + ts d + 17) := by omega
    have ev : v = PM * a3 + x * 1000003 := by omega
    have ew : w = PM * a4 + (y + (ts d + 17) * x) := by omega
    have er : r = PM * a1 + (u * x + y) := by omega
    rw [er, eu, ev, ew]
    generalize ts d = z
    simp only [Int.mul_add, Int.add_mul, Int.mul_sub, Int.sub_mul]
    have c1 : t * (PM * a3) = PM * (t * a3) := by rw [← Int.mul_assoc, Int.mul_comm t PM, Int.mul_assoc]
    have c2 : PM * a2 * x = PM * (a2 * x) := Int.mul_assoc _ _ _
    have c3 : t * (x * 1000003) = t * 1000003 * x := by rw [Int.mul_comm x, Int.mul_assoc]
    omega
theorem nl_get' : ∀ {ds : List PyData} {i : Nat}, NLs ds → (h : i < ds.length) → NL ds[i]
  | d :: ds, 0, h, _ => h.1
  | d :: ds, i + 1, h, hi => nl_get' (ds := ds) h.2 (Nat.lt_of_succ_lt_succ hi)
section
variable {P : Program} {w : World} {K : PySem.W.Frag} {mg : Str → Option Value} {base : Heap}
def spTs (K : PySem.W.Frag) (n : Nat) : Sp := fun vs H Q _ => ∃ (v : V) (d : PyData), vs = [v] ∧ Dp K H v d ∧ SmOk n d ∧ ∀ H', Same H H' → Q (.int (ts d)) H'
def spTsm (K : PySem.W.Frag) : Nat → Sp
  | 0 => fun _ _ _ _ => False
  | n + 1 => spTs K n
theorem scTs : FnScope ["value", "told", "part"] ["value"] (defScope s_thing_sum) := ⟨rfl, rfl, rfl, by decide +kernel, rfl, by decide +kernel, by decide +kernel⟩
theorem scLs : FnScope ["worth", "prime", "found", "power", "k"] ["worth"] (defScope s_law_sum) := ⟨rfl, rfl, rfl, by decide +kernel, rfl, by decide +kernel, by decide +kernel⟩
theorem ok_thing_sum (T : Txt K w mg) : ∀ n : Nat, FnOk P w K mg base CX0 n (He.fAd K ("thing_sum", none)) (fdAt K (He.fAd K ("thing_sum", none))) ["value"] (spTsm K n)
  | 0 => ⟨fun _ _ _ _ z => z.elim, fun _ _ _ _ _ _ _ _ _ _ _ _ _ z => z.elim⟩
  | n + 1 => by
    have G := ok_thing_sum T n
    obtain ⟨uM, gM, rM⟩ := T.c_MODULUS
    obtain ⟨uN, gN, rN⟩ := T.c_NONE_SUM
    obtain ⟨uF, gF, rF⟩ := T.c_FIRST_SUM
    refine T.F_thing_sum.ok scTs (fun vs H Q E h => ?_) (fun cdv A outer s H vs Q E hr h => ?_)
    · obtain ⟨v, d, rfl, _⟩ := h
      rfl
    · obtain ⟨v, d, rfl, h1, hp, k⟩ := h
      refine ⟨_, PSs.nox (pss_cons (ps_if (pt_cmpR op_isN (pv 0) pe_non (nomark _)) (pss_one (ps_ret (pe_glob (v := .int 11) (by rfl) gN rN))) pss_nil)
      (pss_cons (ps_if (pt_not (pt_val (pe_callB (r := rIsi K) call_isi (by rfl) T.n_isinstance PyProof.Rows.Boot.«isinstance» (pa_cons (pv 0) (pa_cons (pe_bltn (v := .ty "tuple") (by rfl) T.n_tuple PyProof.Rows.Boot.«tuple» rfl) pa_nil))))) (pss_one (ps_ret (pe_op op_mod (pe_op op_add (pe_op op_mulW (pv 0) pe_int) pe_int) (pe_glob (v := .int 2305843009213693951) (by rfl) gM rM)))) pss_nil)
      (pss_cons (ps_set (i := 1) scTs.nd rfl (Or.inl rfl) (pe_glob (v := .int 13) (by rfl) gF rF))
      (pss_cons (ps_for PassesOwn.never rfl (pi_tup (pv 0)) (pg_name (i := 2) scTs.nd rfl (Or.inl rfl)) (pss_one (ps_set (i := 1) scTs.nd rfl (Or.inl rfl) (pe_op op_mod (pe_op op_add (pe_op op_add (pe_op op_mulW (pv 1) pe_int) (pe_call G (hr.mono (by omega)) (by rfl) T.g_thing_sum (T.F_thing_sum).kp T.b_thing_sum .nil pass0 (pa_cons (pv 2) pa_nil))) pe_int) (pe_glob (v := .int 2305843009213693951) (by rfl) gM rM)))))
      (pss_one (ps_ret (pe_op op_mod (pe_op op_add (pv 1) (pe_callB (r := Evl.rLenS K) call_len_seq (by rfl) T.n_len PyProof.Rows.Boot.«len» (pa_cons (pv 0) pa_nil))) (pe_glob (v := .int 2305843009213693951) (by rfl) gM rM)))))))), ?_⟩
      cases d with
      | none =>
        cases h1
        have e : ts .none = 11 := by unfold ts; rfl
        rw [e] at k
        exact ⟨_, rfl, rfl, _, rfl, ite2 (fun _ => k _ (Same.refl _)) (fun z => (z rfl).elim)⟩
      | bool c => cases n <;> exact hp.elim
      | str x => cases n <;> exact hp.elim
      | list ds => cases n <;> exact hp.elim
      | dict ds => cases n <;> exact hp.elim
      | int i =>
        cases h1
        have hi : i.natAbs < 2 ^ 200 := by cases n <;> exact hp
        have e : ts (.int i) = (i * 2654435761 + 97) % 2305843009213693951 := by unfold ts; rfl
        rw [e] at k
        refine ⟨_, rfl, rfl, _, rfl, ite2 (fun z => nomatch (of_decide_eq_true z)) (fun _ => ?_)⟩
        refine ⟨_, rfl, _, _, _, _, _, rfl, .ty "tuple", .base (.int i), kit_ty (r := false) (by decide +kernel), _, rfl, iteT ?_⟩
        exact ⟨_, rfl, _, _, rfl, rfl, wide_mul (a := 200) (b := 40) hi (by decide) (by decide) (by decide) (by decide), _, _, rfl, rfl, _, _, rfl, rfl, (show (0 : Int) < 2305843009213693951 by decide), k _ (Same.refl _)⟩
      | tuple ds =>
        cases n with
        | zero => exact hp.elim
        | succ m =>
          cases h1 with
          | @tup p xs _ q1 a1 =>
            have l1 := dpa_len a1
            have e : ts (.tuple ds) = (tsAll 13 ds + (ds.length : Nat)) % 2305843009213693951 := by
              conv => lhs; unfold ts
              rfl
            rw [e] at k
            refine ⟨_, rfl, rfl, _, rfl, ite2 (fun z => nomatch (of_decide_eq_true z)) (fun _ => ?_)⟩
            refine ⟨_, rfl, _, _, _, _, _, rfl, .ty "tuple", ty_tup q1, kit_ty (r := true) (by decide +kernel), _, rfl, iteF ?_⟩
            refine ⟨_, rfl, p, rfl, ⟨_, q1⟩, ?_⟩
            refine for_it (walk_tup (K := K) (a := p) (xs := xs)) (fun i σ H' => (∃ v2, σ = [some (.ref p), some (.int (tsAll 13 (ds.take i))), v2]) ∧ Same H H') ⟨⟨none, by rw [show tsAll 13 (ds.take 0) = 13 by rw [List.take_zero, tsAll]]; rfl⟩, Same.refl _⟩ (fun i σ H' _ h => (same_tf h.2).sq q1) (fun i x σ H' H2 hi h y => ?_) (fun σ H' h => ?_)
            · obtain ⟨⟨v2, rfl⟩, sm⟩ := h
              obtain ⟨rfl, hx⟩ := y
              have hid : i < ds.length := by omega
              have he : ds[i]? = some ds[i] := List.getElem?_eq_getElem hid
              obtain ⟨v1, e1, d1⟩ := dpa_get a1 he
              rw [hx] at e1
              cases e1
              have nl2 : NL ds[i] := nl_get' hp.2.1 hid
              obtain ⟨r0, r1⟩ := tsAll_rng (ds.take i) 13 (by decide) (by decide)
              have r2 : tsAll 13 (ds.take i) < 2 ^ 62 := Int.lt_trans r1 (by decide)
              refine ⟨_, rfl, _, _, rfl, rfl, wide_mul (a := 62) (b := 40) (small_ab r0 r2) (by decide) (by decide) (by decide) (by decide), _, rfl, x, ds[i], rfl, dp_nl (same_tf sm) _ _ nl2 d1, hp.2.2 _ (List.getElem_mem hid), fun H3 s3 => ?_⟩
              refine ⟨_, _, rfl, rfl, _, _, rfl, rfl, _, _, rfl, rfl, (show (0 : Int) < 2305843009213693951 by decide), ⟨some x, ?_⟩, sm.trans s3⟩
              rw [List.take_add_one, he, Option.toList, tsAll_snoc]
              rfl
            · obtain ⟨⟨v2, rfl⟩, sm⟩ := h
              refine ⟨_, rfl, _, rfl, _, _, rfl, .inr ((same_tf sm).sq q1), _, _, rfl, rfl, _, _, rfl, rfl, (show (0 : Int) < 2305843009213693951 by decide), ?_⟩
              rw [l1, List.take_of_length_le (Nat.le_refl _)]
              exact k _ sm
end
end K44
set_option maxRecDepth 100000
set_option maxHeartbeats 4000000
/-! The law's sums. -/
namespace K44
open PySem PySem.Spec PyProof.Rows L2 KF KD
theorem walk_dn {n : Nat} : Walk (Itc ((n : Int) - 1) (-1) n) n (fun _ => True) (YFn fun i => .int ((n - 1 - i : Nat) : Int)) := by
  have h := walk_rangeC (lo := (n : Int) - 1) (c := -1) (n := n)
  refine ⟨h.goes, h.stops, fun i H x H' hi g y => ?_⟩
  obtain ⟨rfl, rfl⟩ := h.yields i H x H' hi g y
  refine ⟨rfl, ?_⟩
  show V.int ((n : Int) - 1 + (i : Nat) * (-1)) = V.int ((n - 1 - i : Nat) : Int)
  congr 1
  omega
theorem bk_rng : ∀ ds, 0 ≤ (bk ds).1 ∧ (bk ds).1 < PM ∧ 0 ≤ (bk ds).2 ∧ (bk ds).2 < PM
  | [] => by unfold bk; exact ⟨by decide, by decide, by decide, by decide⟩
  | d :: ds => by
    unfold bk
    exact ⟨Int.emod_nonneg _ (by decide), Int.emod_lt_of_pos _ (by decide), Int.emod_nonneg _ (by decide), Int.emod_lt_of_pos _ (by decide)⟩
theorem mod_of {a b : Int} (h : (a - b) % PM = 0) : a % PM = b % PM := Int.emod_eq_emod_iff_emod_sub_eq_zero.mpr h
theorem mod_to {a b : Int} (h : a % PM = b % PM) : (a - b) % PM = 0 := Int.emod_eq_emod_iff_emod_sub_eq_zero.mp h
/-- one part more from behind -/
theorem bk_step {f g n x y p : Int} (h : (f - (n + y)) % PM = 0) (hg : g = (f + x * p) % PM) : (g - (n + (y + x * p) % PM)) % PM = 0 := by
  obtain ⟨a, ha⟩ := Int.dvd_of_emod_eq_zero h
  have d2 : PM ∣ ((f + x * p) % PM - (f + x * p)) := Int.dvd_of_emod_eq_zero (by rw [Int.sub_emod, Int.emod_emod, Int.sub_self, Int.zero_emod])
  have d4 : PM ∣ ((y + x * p) % PM - (y + x * p)) := Int.dvd_of_emod_eq_zero (by rw [Int.sub_emod, Int.emod_emod, Int.sub_self, Int.zero_emod])
  obtain ⟨b, hb⟩ := d2
  obtain ⟨c, hc⟩ := d4
  rw [← hg] at hb
  refine Int.emod_eq_zero_of_dvd ⟨a + b - c, ?_⟩
  generalize x * p = z at *
  simp only [Int.mul_add, Int.mul_sub]
  omega
theorem bk_end {f n : Int} {ds : List PyData} (h : (f - (n + (bk ds).1)) % PM = 0) : (f + 13 * (bk ds).2) % PM = (tsAll 13 ds + n) % PM := by
  refine mod_of ?_
  obtain ⟨a, ha⟩ := Int.dvd_of_emod_eq_zero h
  obtain ⟨b, hb⟩ := Int.dvd_of_emod_eq_zero (tsAll_bk ds 13)
  refine Int.emod_eq_zero_of_dvd ⟨a - b, ?_⟩
  rw [Int.mul_sub]
  omega
section
variable {P : Program} {w : World} {K : PySem.W.Frag} {mg : Str → Option Value} {base : Heap}
theorem ok_law_sum (T : Txt K w mg) : ∀ n : Nat, FnOk P w K mg base CX0 n (He.fAd K ("_law_sum", none)) (fdAt K (He.fAd K ("_law_sum", none))) ["worth"] (spTsm K n)
  | 0 => ⟨fun _ _ _ _ z => z.elim, fun _ _ _ _ _ _ _ _ _ _ _ _ _ z => z.elim⟩
  | n + 1 => by
    have G := ok_law_sum T n
    refine T.F_law_sum.ok scLs (fun vs H Q E h => ?_) (fun cdv A outer s H vs Q E hr h => ?_)
    · obtain ⟨v, d, rfl, _⟩ := h
      rfl
    · obtain ⟨v, d, rfl, h1, hp, k⟩ := h
      refine ⟨_, PSs.nox (pss_cons (ps_set (i := 1) scLs.nd rfl (Or.inl rfl) pe_int)
      (pss_cons (ps_if (pt_cmpR op_isN (pv 0) pe_non (nomark _)) (pss_one (ps_ret pe_int)) pss_nil)
      (pss_cons (ps_if (pt_not (pt_val (pe_callB (r := rIsi K) call_isi (by rfl) T.n_isinstance PyProof.Rows.Boot.«isinstance» (pa_cons (pv 0) (pa_cons (pe_bltn (v := .ty "tuple") (by rfl) T.n_tuple PyProof.Rows.Boot.«tuple» rfl) pa_nil))))) (pss_one (ps_ret (pe_op op_mod (pe_callTy call_int1 (by rfl) T.n_int PyProof.Rows.Boot.«int» (pa_cons (pe_op op_add (pe_op op_mulW (pv 0) pe_int) pe_int) pa_nil)) (pv 1)))) pss_nil)
      (pss_cons (ps_par (i := 2) (j := 3) (by rfl) scLs.nd rfl rfl (by decide) rfl rfl (pa_cons (pe_callB (r := Evl.rLenS K) call_len_seq (by rfl) T.n_len PyProof.Rows.Boot.«len» (pa_cons (pv 0) pa_nil)) (pa_cons pe_int pa_nil)) (by rfl))
      (pss_cons (ps_for PassesOwn.never rfl (pi_range3 (by rfl) T.n_range (pa_cons (pe_op op_sub (pe_callB (r := Evl.rLenS K) call_len_seq (by rfl) T.n_len PyProof.Rows.Boot.«len» (pa_cons (pv 0) pa_nil)) pe_int) (pa_cons (pe_un un_neg pe_int) (pa_cons (pe_un un_neg pe_int) pa_nil)))) (pg_name (i := 4) scLs.nd rfl (Or.inl rfl)) (pss_cons (ps_set (i := 2) scLs.nd rfl (Or.inl rfl) (pe_op op_mod (pe_callTy call_int1 (by rfl) T.n_int PyProof.Rows.Boot.«int» (pa_cons (pe_op op_add (pv 2) (pe_op op_mulW (pe_op op_add (pe_call G (hr.mono (by omega)) (by rfl) T.g_law_sum (T.F_law_sum).kp T.b_law_sum .nil pass0 (pa_cons (pe_ix (r := rIxT K) ix_tup (pv 0) (pv 4) (fun _ _ => rfl)) pa_nil)) pe_int) (pv 3))) pa_nil)) (pv 1)))
      (pss_one (ps_set (i := 3) scLs.nd rfl (Or.inl rfl) (pe_op op_mod (pe_callTy call_int1 (by rfl) T.n_int PyProof.Rows.Boot.«int» (pa_cons (pe_op op_mulW (pv 3) pe_int) pa_nil)) (pv 1))))))
      (pss_one (ps_ret (pe_op op_mod (pe_callTy call_int1 (by rfl) T.n_int PyProof.Rows.Boot.«int» (pa_cons (pe_op op_add (pv 2) (pe_op op_mulW pe_int (pv 3))) pa_nil)) (pv 1))))))))), ?_⟩
      cases d with
      | none =>
        cases h1
        have e : ts .none = 11 := by unfold ts; rfl
        rw [e] at k
        exact ⟨_, rfl, rfl, _, rfl, ite2 (fun _ => k _ (Same.refl _)) (fun z => (z rfl).elim)⟩
      | bool c => cases n <;> exact hp.elim
      | str x => cases n <;> exact hp.elim
      | list ds => cases n <;> exact hp.elim
      | dict ds => cases n <;> exact hp.elim
      | int i =>
        cases h1
        have hi : i.natAbs < 2 ^ 200 := by cases n <;> exact hp
        have e : ts (.int i) = (i * 2654435761 + 97) % 2305843009213693951 := by unfold ts; rfl
        rw [e] at k
        refine ⟨_, rfl, rfl, _, rfl, ite2 (fun z => nomatch (of_decide_eq_true z)) (fun _ => ?_)⟩
        refine ⟨_, rfl, _, _, _, _, _, rfl, .ty "tuple", .base (.int i), kit_ty (r := false) (by decide +kernel), _, rfl, iteT ?_⟩
        exact ⟨_, rfl, _, _, rfl, rfl, wide_mul (a := 200) (b := 40) hi (by decide) (by decide) (by decide) (by decide), _, _, rfl, rfl, .inl ⟨_, rfl, _, rfl, _, _, rfl, rfl, (show (0 : Int) < 2305843009213693951 by decide), k _ (Same.refl _)⟩⟩
      | tuple ds =>
        cases n with
        | zero => exact hp.elim
        | succ m =>
          cases h1 with
          | @tup p xs _ q1 a1 =>
            have l1 := dpa_len a1
            have hlen : ds.length ≤ 1100 := hp.1
            have e : ts (.tuple ds) = (tsAll 13 ds + (ds.length : Nat)) % 2305843009213693951 := by
              conv => lhs; unfold ts
              rfl
            rw [e] at k
            refine ⟨_, rfl, rfl, _, rfl, ite2 (fun z => nomatch (of_decide_eq_true z)) (fun _ => ?_)⟩
            refine ⟨_, rfl, _, _, _, _, _, rfl, .ty "tuple", ty_tup q1, kit_ty (r := true) (by decide +kernel), _, rfl, iteF ?_⟩
            refine ⟨_, rfl, _, _, rfl, .inr q1, _, _, rfl, ?_⟩
            rw [l1]
            refine ⟨_, rfl, _, _, rfl, .inr q1, _, _, rfl, rfl, _, rfl, _, rfl, (ds.length : Int) - 1, -1, -1, ds.length, by rw [l1], ?_, ?_⟩
            · have h := RgC.neg (i := (ds.length : Int) - 1) (j := -1) (by omega) (by omega) (by omega) (by omega)
              rwa [show ((ds.length : Int) - 1 - -1).toNat = ds.length by omega] at h
            refine for_it (walk_dn (n := ds.length)) (fun i σ H' => ∃ (v4 : Option V) (f : Int), σ = [some (.ref p), some (.int 2305843009213693951), some (.int f), some (.int (bk (ds.drop (ds.length - i))).2), v4] ∧ (f - ((ds.length : Nat) + (bk (ds.drop (ds.length - i))).1)) % PM = 0 ∧ 0 ≤ f ∧ f < 2 ^ 62 ∧ Same H H')
              ⟨none, (ds.length : Nat), by rw [Nat.sub_zero, List.drop_length]; rfl, by rw [Nat.sub_zero, List.drop_length, bk]; simp, by omega, by omega, Same.refl _⟩ (fun _ _ _ _ _ => trivial) (fun i x σ H' H2 hi h y => ?_) (fun σ H' h => ?_)
            · obtain ⟨v4, f, rfl, hf, f0, f1, sm⟩ := h
              obtain ⟨rfl, rfl⟩ := y
              have hj : ds.length - 1 - i < ds.length := by omega
              have he : ds[ds.length - 1 - i]? = some ds[ds.length - 1 - i] := List.getElem?_eq_getElem hj
              obtain ⟨v1, e1, d1⟩ := dpa_get a1 he
              have nl2 : NL ds[ds.length - 1 - i] := nl_get' hp.2.1 hj
              have hdrop : ds.drop (ds.length - (i + 1)) = ds[ds.length - 1 - i] :: ds.drop (ds.length - i) := by
                rw [show ds.length - (i + 1) = ds.length - 1 - i by omega, List.drop_eq_getElem_cons hj, show ds.length - 1 - i + 1 = ds.length - i by omega]
              obtain ⟨b0, b1, b2, b3⟩ := bk_rng (ds.drop (ds.length - i))
              obtain ⟨t0, t1⟩ := ts_rng ds[ds.length - 1 - i]
              have q62 : PM < 2 ^ 62 := by decide
              refine ⟨_, rfl, _, rfl, _, rfl, p, _, _, _, rfl, rfl, (same_tf sm).sq q1, atI_nat e1, v1, _, rfl, dp_nl (same_tf sm) _ _ nl2 d1, hp.2.2 _ (List.getElem_mem hj), fun H3 s3 => ?_⟩
              refine ⟨_, _, rfl, rfl, _, rfl, _, _, rfl, rfl, wide_mul (a := 63) (b := 63) (small_ab (by omega) (by rw [pow63]; omega)) (small_ab b2 (by rw [pow63]; omega)) (by decide) (by decide) (by decide), _, _, rfl, rfl, .inl ⟨_, rfl, _, rfl, _, _, rfl, rfl, (show (0 : Int) < 2305843009213693951 by decide), ?_⟩⟩
              refine ⟨_, rfl, _, _, rfl, rfl, wide_mul (a := 63) (b := 40) (small_ab b2 (by rw [pow63]; omega)) (by decide) (by decide) (by decide) (by decide), .inl ⟨_, rfl, _, rfl, _, _, rfl, rfl, (show (0 : Int) < 2305843009213693951 by decide), ?_⟩⟩
              refine ⟨some (.int ((ds.length - 1 - i : Nat) : Int)), (f + (ts ds[ds.length - 1 - i] + 17) * (bk (ds.drop (ds.length - i))).2) % PM, ?_, ?_, Int.emod_nonneg _ (by decide), Int.lt_trans (Int.emod_lt_of_pos _ (by decide)) q62, sm.trans s3⟩
              · rw [hdrop]
                rfl
              · rw [hdrop]
                exact bk_step hf rfl
            · obtain ⟨v4, f, rfl, hf, f0, f1, sm⟩ := h
              rw [Nat.sub_self, List.drop_zero] at hf ⊢
              obtain ⟨b0, b1, b2, b3⟩ := bk_rng ds
              have q62 : PM < 2 ^ 62 := by decide
              refine ⟨_, rfl, _, rfl, _, _, rfl, rfl, wide_mul (a := 40) (b := 63) (by decide) (small_ab b2 (by rw [pow63]; omega)) (by decide) (by decide) (by decide), _, _, rfl, rfl, .inl ⟨_, rfl, _, rfl, _, _, rfl, rfl, (show (0 : Int) < 2305843009213693951 by decide), ?_⟩⟩
              have he := bk_end hf
              show Q (V.int ((f + 13 * (bk ds).2) % PM)) H'
              rw [he]
              exact k _ sm
end
end K44
set_option maxRecDepth 100000
set_option maxHeartbeats 4000000
/-! Chains of sums. -/
namespace K44
open PySem PySem.Spec PyProof.Rows L2 KF KD
theorem smok_mono : ∀ {n : Nat} {d : PyData}, SmOk n d → SmOk (n + 1) d
  | 0, d, h => by
    cases d <;> first | exact h | exact h.elim
  | n + 1, d, h => by
    cases d with
    | none => trivial
    | int i => exact h
    | tuple ds => exact ⟨h.1, h.2.1, fun e he => smok_mono (h.2.2 e he)⟩
    | bool c => exact h.elim
    | str x => exact h.elim
    | list ds => exact h.elim
    | dict ds => exact h.elim
theorem smok_le {n m : Nat} {d : PyData} (h : SmOk n d) (hm : n ≤ m) : SmOk m d := by
  obtain ⟨k, rfl⟩ := Nat.exists_eq_add_of_le hm
  clear hm
  induction k with
  | zero => exact h
  | succ k ih => exact smok_mono ih
theorem none_back {H H' : Hp} {b : Addr} (s : Same H H') (h : H' b = none) : H b = none := by
  cases e : H b with
  | none => rfl
  | some o => rw [s _ _ e] at h; cases h
theorem cut1V {xs : List V} : cutV xs (some 1) none = xs.drop 1 := by
  unfold cutV
  rw [show (1 : Int) = ((1 : Nat) : Int) from rfl, HT.sIx_nat, HT.sIx_none]
  cases xs with
  | nil => rfl
  | cons n ns =>
    rw [show min 1 (n :: ns).length = 1 by simp]
    exact List.take_of_length_le (by simp)
/-- the next sum of a chain -/
def nx (a : Int) (d : PyData) : Int := ts (.tuple [.int a, .int (ts d)])
/-- the last sum of a chain -/
def la (ds : List PyData) : Int := ds.foldl nx 0
def chs (ds : List PyData) (n : Nat) : List Int := (List.range n).map fun i => la (ds.take (i + 1))
theorem la_snoc (ds : List PyData) (d : PyData) : la (ds ++ [d]) = nx (la ds) d := by simp [la]
theorem la_rng (ds : List PyData) : 0 ≤ la ds ∧ la ds < PM := by
  rcases List.eq_nil_or_concat ds with rfl | ⟨es, d, rfl⟩
  · exact ⟨by decide, by decide⟩
  · rw [List.concat_eq_append, la_snoc]
    exact ts_rng _
theorem la_take {ds : List PyData} {i : Nat} {d : PyData} (h : ds[i]? = some d) : la (ds.take (i + 1)) = nx (la (ds.take i)) d := by
  rw [List.take_add_one, h, Option.toList, la_snoc]
theorem chs_len (ds : List PyData) (n : Nat) : (chs ds n).length = n := by simp [chs]
theorem chs_succ {ds : List PyData} {i : Nat} {d : PyData} (h : ds[i]? = some d) : chs ds i ++ [nx (la (ds.take i)) d] = chs ds (i + 1) := by
  rw [chs, chs, List.range_succ, List.map_append, List.map_cons, List.map_nil, la_take h]
theorem sm_pair {n : Nat} {a b : Int} (h0 : 0 ≤ a) (h1 : a < PM) (h2 : 0 ≤ b) (h3 : b < PM) : SmOk (n + 1) (.tuple [.int a, .int b]) := by
  have hp : PM.natAbs < 2 ^ 200 := by decide
  have hq : PM.natAbs = 2305843009213693951 := by decide
  have hq2 : PM = 2305843009213693951 := rfl
  refine ⟨(show 2 ≤ 1100 by decide), ⟨trivial, trivial, trivial⟩, fun e he => ?_⟩
  simp only [List.mem_cons, List.not_mem_nil, or_false] at he
  rcases he with rfl | rfl
  · have : a.natAbs < 2 ^ 200 := by omega
    cases n <;> exact this
  · have : b.natAbs < 2 ^ 200 := by omega
    cases n <;> exact this
/-- a row of worlds -/
def RwH (K : PySem.W.Frag) (H : Hp) (a : Addr) (ds : List PyData) : Prop := ∃ vs, SqT K H a vs ∧ DpAll K H vs ds ∧ NLs ds ∧ ds.length ≤ 100 ∧ ∀ d ∈ ds, SmOk 6 d
theorem RwH.tf {K : PySem.W.Frag} {H H' : Hp} {a : Addr} {ds : List PyData} (s : TF H H') (h : RwH K H a ds) : RwH K H' a ds := by
  obtain ⟨vs, h1, h2, h3, h4⟩ := h
  exact ⟨vs, s.sq h1, dpa_nl s _ _ h3 h2, h3, h4⟩
section
variable {P : Program} {w : World} {K : PySem.W.Frag} {mg : Str → Option Value} {base : Heap}
def spCh (K : PySem.W.Frag) : Sp := fun vs H Q _ => ∃ (a : Addr) (ds : List PyData), vs = [.ref a] ∧ RwH K H a ds ∧ ∀ l H', Same H H' → H l = none → H' l = some (.lst ((chs ds ds.length).map V.int)) → Q (.ref l) H'
theorem scCh : FnScope ["worlds", "sums", "ahead", "world"] ["worlds"] (defScope s_chained) := ⟨rfl, rfl, rfl, by decide +kernel, rfl, by decide +kernel, by decide +kernel⟩
theorem ok_chained (T : Txt K w mg) : FnOk P w K mg base CX0 8 (He.fAd K ("chained", none)) (fdAt K (He.fAd K ("chained", none))) ["worlds"] (spCh K) := by
  refine T.F_chained.ok scCh (fun vs H Q E h => ?_) (fun cdv A outer s H vs Q E hr h => ?_)
  · obtain ⟨a, ds, rfl, _⟩ := h
    rfl
  · obtain ⟨a, ds, rfl, ⟨xs, q1, a1, nl1, hlen, hsm⟩, k⟩ := h
    refine ⟨_, PSs.nox (pss_cons (ps_set (i := 1) scCh.nd rfl (Or.inl rfl) (pe_lst pa_nil))
      (pss_cons (ps_set (i := 2) scCh.nd rfl (Or.inl rfl) pe_int)
      (pss_cons (ps_for PassesOwn.never rfl (pi_tup (pv 0)) (pg_name (i := 3) scCh.nd rfl (Or.inl rfl)) (pss_cons (ps_set (i := 2) scCh.nd rfl (Or.inl rfl) (pe_call (ok_thing_sum T 7) (hr.mono (by omega)) (by rfl) T.g_thing_sum (T.F_thing_sum).kp T.b_thing_sum .nil pass0 (pa_cons (pe_tup (pa_cons (pv 2) (pa_cons (pe_call (ok_thing_sum T 7) (hr.mono (by omega)) (by rfl) T.g_thing_sum (T.F_thing_sum).kp T.b_thing_sum .nil pass0 (pa_cons (pv 3) pa_nil)) pa_nil))) pa_nil)))
      (pss_one (ps_expr (pe_bm PySem.F.plainAttrs_list PySem.F.slot_list_append PySem.F.type_list_append mt_append (pv 1) (pa_cons (pv 2) pa_nil))))))
      (pss_one (ps_ret (pv 1)))))), ?_⟩
    have l1 := dpa_len a1
    refine ⟨(show 0 ≤ sizeLine by decide), fun l nl => ?_⟩
    have tl := new_same (o := .lst []) nl
    refine ⟨_, rfl, a, rfl, ⟨_, (same_tf tl).sq q1⟩, ?_⟩
    refine for_it (walk_tup (K := K) (a := a) (xs := xs)) (fun i σ H' => (∃ v3, σ = [some (.ref a), some (.ref l), some (.int (la (ds.take i))), v3]) ∧ Same H H' ∧ H' l = some (.lst ((chs ds i).map V.int))) ⟨⟨none, rfl⟩, tl, upd_same⟩ (fun i σ H' _ h => (same_tf h.2.1).sq q1) (fun i x σ H' H2 hi h y => ?_) (fun σ H' h => ?_)
    · obtain ⟨⟨v3, rfl⟩, sm, hl⟩ := h
      obtain ⟨rfl, hx⟩ := y
      have hid : i < ds.length := by omega
      have he : ds[i]? = some ds[i] := List.getElem?_eq_getElem hid
      obtain ⟨v1, e1, d1⟩ := dpa_get a1 he
      rw [hx] at e1
      cases e1
      have nl2 : NL ds[i] := nl_get' nl1 hid
      obtain ⟨r0, r1⟩ := la_rng (ds.take i)
      obtain ⟨t0, t1⟩ := ts_rng ds[i]
      refine ⟨_, rfl, _, rfl, x, ds[i], rfl, dp_nl (same_tf sm) _ _ nl2 d1, hsm _ (List.getElem_mem hid), fun H3 s3 => ?_⟩
      refine ⟨(show 2 ≤ sizeLine by decide), fun p np => ?_⟩
      have tp := new_same (o := .tup [V.int (la (ds.take i)), V.int (ts ds[i])]) np
      refine ⟨.ref p, .tuple [.int (la (ds.take i)), .int (ts ds[i])], rfl, .tup (SqT.of upd_same) (.cons (.int _) (.cons (.int _) .nil)), sm_pair r0 r1 t0 t1, fun H4 s4 => ?_⟩
      have s24 := (s3.trans tp).trans s4
      have hl4 := s24 _ _ hl
      refine ⟨_, rfl, .inl ⟨rfl, _, SqL.of hl4⟩, _, rfl, l, _, _, rfl, rfl, hl4, by rw [List.length_map, chs_len]; exact Nat.lt_of_lt_of_le (show i < 1000 by omega) (by decide), ⟨some x, ?_⟩, fun bb o z => ?_, ?_⟩
      · rw [la_take he]
        rfl
      · rw [upd_ne (ne_of_none z nl)]
        exact s24 _ _ (sm _ _ z)
      · rw [upd_same, ← chs_succ he, List.map_append]
        rfl
    · obtain ⟨⟨v3, rfl⟩, sm, hl⟩ := h
      rw [l1] at hl
      exact ⟨_, rfl, k l H' sm nl hl⟩
theorem scLh : FnScope ["states", "found", "state"] ["states"] (defScope s_law_chained) := ⟨rfl, rfl, rfl, by decide +kernel, rfl, by decide +kernel, by decide +kernel⟩
theorem ok_law_chained (T : Txt K w mg) : FnOk P w K mg base CX0 8 (He.fAd K ("_law_chained", none)) (fdAt K (He.fAd K ("_law_chained", none))) ["states"] (spCh K) := by
  refine T.F_law_chained.ok scLh (fun vs H Q E h => ?_) (fun cdv A outer s H vs Q E hr h => ?_)
  · obtain ⟨a, ds, rfl, _⟩ := h
    rfl
  · obtain ⟨a, ds, rfl, ⟨xs, q1, a1, nl1, hlen, hsm⟩, k⟩ := h
    refine ⟨_, PSs.nox (pss_cons (ps_set (i := 1) scLh.nd rfl (Or.inl rfl) (pe_lst (pa_cons pe_int pa_nil)))
      (pss_cons (ps_for PassesOwn.never rfl (pi_tup (pv 0)) (pg_name (i := 2) scLh.nd rfl (Or.inl rfl)) (pss_one (ps_expr (pe_bm PySem.F.plainAttrs_list PySem.F.slot_list_append PySem.F.type_list_append mt_append (pv 1) (pa_cons (pe_call (ok_law_sum T 7) (hr.mono (by omega)) (by rfl) T.g_law_sum (T.F_law_sum).kp T.b_law_sum .nil pass0 (pa_cons (pe_tup (pa_cons (pe_ix (r := rIxL K) ix_list (pv 1) (pe_un un_neg pe_int) (fun _ _ => rfl)) (pa_cons (pe_call (ok_law_sum T 7) (hr.mono (by omega)) (by rfl) T.g_law_sum (T.F_law_sum).kp T.b_law_sum .nil pass0 (pa_cons (pv 2) pa_nil)) pa_nil))) pa_nil)) pa_nil)))))
      (pss_one (ps_ret (pe_slice sl_list (pv 1) (po_some pe_int) po_none))))), ?_⟩
    have l1 := dpa_len a1
    refine ⟨(show 1 ≤ sizeLine by decide), fun l nl => ?_⟩
    have tl := new_same (o := .lst [V.int 0]) nl
    refine ⟨_, rfl, a, rfl, ⟨_, (same_tf tl).sq q1⟩, ?_⟩
    refine for_it (walk_tup (K := K) (a := a) (xs := xs)) (fun i σ H' => (∃ v3, σ = [some (.ref a), some (.ref l), v3]) ∧ Same H H' ∧ H' l = some (.lst ((0 :: chs ds i).map V.int))) ⟨⟨none, rfl⟩, tl, upd_same⟩ (fun i σ H' _ h => (same_tf h.2.1).sq q1) (fun i x σ H' H2 hi h y => ?_) (fun σ H' h => ?_)
    · obtain ⟨⟨v3, rfl⟩, sm, hl⟩ := h
      obtain ⟨rfl, hx⟩ := y
      have hid : i < ds.length := by omega
      have he : ds[i]? = some ds[i] := List.getElem?_eq_getElem hid
      obtain ⟨v1, e1, d1⟩ := dpa_get a1 he
      rw [hx] at e1
      cases e1
      have nl2 : NL ds[i] := nl_get' nl1 hid
      obtain ⟨r0, r1⟩ := la_rng (ds.take i)
      obtain ⟨t0, t1⟩ := ts_rng ds[i]
      have hlast : atI ((0 :: chs ds i).map V.int) (-1) = some (.int (la (ds.take i))) := by
        cases i with
        | zero => exact atI_last [] _
        | succ j =>
          have : 0 :: chs ds (j + 1) = (0 :: chs ds j) ++ [la (ds.take (j + 1))] := by simp [chs, List.range_succ]
          rw [this, List.map_append]
          exact atI_last _ _
      refine ⟨_, rfl, .inl ⟨rfl, _, SqL.of hl⟩, _, rfl, _, rfl, l, _, _, _, rfl, rfl, SqL.of hl, hlast, _, rfl, x, ds[i], rfl, dp_nl (same_tf sm) _ _ nl2 d1, hsm _ (List.getElem_mem hid), fun H3 s3 => ?_⟩
      refine ⟨(show 2 ≤ sizeLine by decide), fun p np => ?_⟩
      have tp := new_same (o := .tup [V.int (la (ds.take i)), V.int (ts ds[i])]) np
      refine ⟨.ref p, .tuple [.int (la (ds.take i)), .int (ts ds[i])], rfl, .tup (SqT.of upd_same) (.cons (.int _) (.cons (.int _) .nil)), sm_pair r0 r1 t0 t1, fun H4 s4 => ?_⟩
      have s24 := (s3.trans tp).trans s4
      have hl4 := s24 _ _ hl
      refine ⟨l, _, _, rfl, rfl, hl4, by rw [List.length_map, List.length_cons, chs_len]; exact Nat.lt_of_lt_of_le (show i + 1 < 1000 by omega) (by decide), ⟨some x, rfl⟩, fun bb o z => ?_, ?_⟩
      · rw [upd_ne (ne_of_none z nl)]
        exact s24 _ _ (sm _ _ z)
      · rw [upd_same, ← chs_succ he, List.map_cons, List.map_cons, List.map_append]
        rfl
    · obtain ⟨⟨v3, rfl⟩, sm, hl⟩ := h
      rw [l1] at hl
      refine ⟨_, rfl, _, rfl, l, _, rfl, SqL.of hl, fun p np => ?_⟩
      rw [cut1V]
      exact k p _ (sm.trans (new_same np)) (none_back sm np) (by rw [upd_same]; rfl)
end
end K44
set_option maxRecDepth 100000
set_option maxHeartbeats 4000000
/-! By halves. -/
namespace K44
open PySem PySem.Spec PyProof.Rows L2 KF KD
def itr {α : Type} (f : α → α) : Nat → α → α
  | 0, s => s
  | n + 1, s => f (itr f n s)
theorem itr_add {α : Type} (f : α → α) (n : Nat) (s : α) : ∀ m, itr f (n + m) s = itr f m (itr f n s)
  | 0 => rfl
  | m + 1 => by
    show f (itr f (n + m) s) = f (itr f m (itr f n s))
    rw [itr_add f n s m]
theorem itr_fix {α : Type} {f : α → α} {s : α} (h : f s = s) : ∀ n, itr f n s = s
  | 0 => rfl
  | n + 1 => by
    show f (itr f n s) = s
    rw [itr_fix h n, h]
theorem itr_same {α : Type} {f : α → α} {s : α} {n m : Nat} (h : f (itr f n s) = itr f n s) (g : f (itr f m s) = itr f m s) : itr f n s = itr f m s := by
  have h1 := itr_add f n s m
  have h2 := itr_add f m s n
  rw [itr_fix h] at h1
  rw [itr_fix g, Nat.add_comm] at h2
  exact h1.symm.trans h2
/-- by halves to the first tick whose sums differ -/
def tkf (P : Nat → Bool) (s : Nat × Nat × Nat) : Nat × Nat × Nat := if s.1 < s.2.1 then (if P ((s.1 + s.2.1) / 2) then (s.1, (s.1 + s.2.1) / 2, s.2.2 + 1) else ((s.1 + s.2.1) / 2 + 1, s.2.1, s.2.2 + 1)) else s
/-- by halves to the first cell -/
def clf (P : Nat → Nat → Bool) (s : Nat × Nat × Nat) : Nat × Nat × Nat := if s.1 + 1 < s.2.1 then (if P s.1 ((s.1 + s.2.1) / 2) then (s.1, (s.1 + s.2.1) / 2, s.2.2 + 1) else ((s.1 + s.2.1) / 2, s.2.1, s.2.2 + 1)) else s
theorem tkf_le {P : Nat → Bool} {n : Nat} : ∀ i, (itr (tkf P) i (0, n, 0)).1 ≤ n ∧ (itr (tkf P) i (0, n, 0)).2.1 ≤ n ∧ (itr (tkf P) i (0, n, 0)).2.2 ≤ i ∧ ((itr (tkf P) i (0, n, 0)).1 < (itr (tkf P) i (0, n, 0)).2.1 → (itr (tkf P) i (0, n, 0)).2.1 - (itr (tkf P) i (0, n, 0)).1 + i ≤ n)
  | 0 => ⟨Nat.zero_le _, Nat.le_refl _, Nat.le_refl _, fun _ => by show n - 0 + 0 ≤ n; omega⟩
  | i + 1 => by
    have ih := tkf_le (P := P) (n := n) i
    have e : itr (tkf P) (i + 1) (0, n, 0) = tkf P (itr (tkf P) i (0, n, 0)) := rfl
    rw [e]
    generalize itr (tkf P) i (0, n, 0) = s at ih ⊢
    obtain ⟨b, e, c⟩ := s
    simp only at ih
    unfold tkf
    simp only
    split
    · split <;> simp only <;> omega
    · simp only
      omega
theorem tkf_fix {P : Nat → Bool} {n i : Nat} (h : n ≤ i) : tkf P (itr (tkf P) i (0, n, 0)) = itr (tkf P) i (0, n, 0) := by
  have h1 := tkf_le (P := P) (n := n) i
  generalize itr (tkf P) i (0, n, 0) = s at h1 ⊢
  obtain ⟨b, e, c⟩ := s
  simp only at h1
  unfold tkf
  simp only
  rw [if_neg (by omega)]
theorem clf_le {P : Nat → Nat → Bool} {n : Nat} : ∀ i, (itr (clf P) i (0, n, 0)).1 ≤ n ∧ (itr (clf P) i (0, n, 0)).2.1 ≤ n ∧ (itr (clf P) i (0, n, 0)).2.2 ≤ i ∧ ((itr (clf P) i (0, n, 0)).1 + 1 < (itr (clf P) i (0, n, 0)).2.1 → (itr (clf P) i (0, n, 0)).2.1 - (itr (clf P) i (0, n, 0)).1 + i ≤ n)
  | 0 => ⟨Nat.zero_le _, Nat.le_refl _, Nat.le_refl _, fun _ => by show n - 0 + 0 ≤ n; omega⟩
  | i + 1 => by
    have ih := clf_le (P := P) (n := n) i
    have e : itr (clf P) (i + 1) (0, n, 0) = clf P (itr (clf P) i (0, n, 0)) := rfl
    rw [e]
    generalize itr (clf P) i (0, n, 0) = s at ih ⊢
    obtain ⟨b, e, c⟩ := s
    simp only at ih
    unfold clf
    simp only
    split
    · split <;> simp only <;> omega
    · simp only
      omega
theorem clf_fix {P : Nat → Nat → Bool} {n i : Nat} (h : n ≤ i) : clf P (itr (clf P) i (0, n, 0)) = itr (clf P) i (0, n, 0) := by
  have h1 := clf_le (P := P) (n := n) i
  generalize itr (clf P) i (0, n, 0) = s at h1 ⊢
  obtain ⟨b, e, c⟩ := s
  simp only at h1
  unfold clf
  simp only
  rw [if_neg (by omega)]
section
variable {P : Program} {w : World} {K : PySem.W.Frag} {mg : Str → Option Value} {base : Heap}
theorem row_at {row : List Int} {b : Nat} (h : b < row.length) : (row.map V.int)[b]? = some (.int (row.getD b 0)) := by
  rw [List.getElem?_map, List.getD_eq_getElem?_getD, List.getElem?_eq_getElem h]
  rfl
theorem half_div (b e : Nat) : ((b : Int) + (e : Int)) / 2 = (((b + e) / 2 : Nat) : Int) := by omega
theorem tk_yes {P : Nat → Bool} {b e c : Nat} (h : b < e) (hp : P ((b + e) / 2) = true) : tkf P (b, e, c) = (b, (b + e) / 2, c + 1) := by
  unfold tkf
  simp only
  rw [if_pos h, if_pos hp]
theorem tk_no {P : Nat → Bool} {b e c : Nat} (h : b < e) (hp : P ((b + e) / 2) = false) : tkf P (b, e, c) = ((b + e) / 2 + 1, e, c + 1) := by
  unfold tkf
  simp only
  rw [if_pos h, if_neg (by rw [hp]; decide)]
def dif (xs ys : List Int) (m : Nat) : Bool := decide (xs.getD m 0 ≠ ys.getD m 0)
def spTk (K : PySem.W.Frag) : Sp := fun vs H Q _ => ∃ (A B : Addr) (xs ys : List Int) (n : Nat), vs = [.ref A, .ref B] ∧ H A = some (.lst (xs.map V.int)) ∧ H B = some (.lst (ys.map V.int)) ∧ xs.length = n + 1 ∧ ys.length = n + 1 ∧ n ≤ 100 ∧
  ∀ p H' b e c, Same H H' → itr (tkf (dif xs ys)) n (0, n, 0) = (b, e, c) → H' p = some (.tup [.int (b : Nat), .int (c : Nat)]) → Q (.ref p) H'
theorem scTk : FnScope ["one_sums", "other_sums", "first", "last", "asked", "middle"] ["one_sums", "other_sums"] (defScope s_tick_by_halves) := ⟨rfl, rfl, rfl, by decide +kernel, rfl, by decide +kernel, by decide +kernel⟩
theorem ok_tick_by_halves (T : Txt K w mg) : FnOk P w K mg base CX0 1 (He.fAd K ("_tick_by_halves", none)) (fdAt K (He.fAd K ("_tick_by_halves", none))) ["one_sums", "other_sums"] (spTk K) := by
  refine T.F_tick_by_halves.ok scTk (fun vs H Q E h => ?_) (fun cdv A outer s H vs Q E hr h => ?_)
  · obtain ⟨A, B, xs, ys, n, rfl, _⟩ := h
    rfl
  · obtain ⟨A', B, xs, ys, n, rfl, hA, hB, hx, hy, hn, k⟩ := h
    refine ⟨_, PSs.nox (pss_cons (ps_set (i := 2) scTk.nd rfl (Or.inl rfl) pe_int)
      (pss_cons (ps_set (i := 3) scTk.nd rfl (Or.inl rfl) (pe_op op_sub (pe_callB (r := Evl.rLenS K) call_len_seq (by rfl) T.n_len PyProof.Rows.Boot.«len» (pa_cons (pv 0) pa_nil)) pe_int))
      (pss_cons (ps_set (i := 4) scTk.nd rfl (Or.inl rfl) pe_int)
      (pss_cons (ps_while PassesOwn.never (pt_cmpR op_lt (pv 2) (pv 3) (nomark _)) (pss_cons (ps_set (i := 5) scTk.nd rfl (Or.inl rfl) (pe_op op_fdivW (pe_op op_add (pv 2) (pv 3)) pe_int))
      (pss_cons (ps_aug (i := 4) scTk.nd rfl (Or.inl rfl) pe_int ip_add)
      (pss_one (ps_if (pt_cmpR op_ne (pe_ix (r := rIxL K) ix_list (pv 0) (pv 5) (fun _ _ => rfl)) (pe_ix (r := rIxL K) ix_list (pv 1) (pv 5) (fun _ _ => rfl)) (nomark _)) (pss_one (ps_set (i := 3) scTk.nd rfl (Or.inl rfl) (pv 5))) (pss_one (ps_set (i := 2) scTk.nd rfl (Or.inl rfl) (pe_op op_add (pv 5) pe_int))))))))
      (pss_one (ps_ret (pe_tup (pa_cons (pv 2) (pa_cons (pv 4) pa_nil))))))))), ?_⟩
    have hlx : (xs.map V.int).length = n + 1 := by rw [List.length_map, hx]
    have e0 : (((n + 1 : Nat)) : Int) - 1 = (n : Int) := by omega
    refine ⟨_, rfl, _, _, rfl, .inl (SqL.of hA), _, _, rfl, rfl, ?_⟩
    dsimp only
    rw [hlx, e0]
    refine ⟨fun m σ H' => ∃ (v5 : Option V) (j b e c : Nat), σ = [some (.ref A'), some (.ref B), some (.int (b : Int)), some (.int (e : Int)), some (.int (c : Int)), v5] ∧ Same H H' ∧ itr (tkf (dif xs ys)) j (0, n, 0) = (b, e, c) ∧ m = e - b,
      ⟨n, none, 0, 0, n, 0, rfl, Same.refl _, rfl, rfl⟩, fun m σ H' h => ?_⟩
    obtain ⟨v5, j, b, e, c, rfl, sm, hit, rfl⟩ := h
    have hle := tkf_le (P := dif xs ys) (n := n) j
    rw [hit] at hle
    simp only at hle
    refine ⟨_, rfl, _, rfl, _, _, rfl, rfl, _, rfl, ite2 (fun z => ?_) (fun z => ?_)⟩
    · have z : (b : Int) < (e : Int) := of_decide_eq_true z
      have hbe : b < e := by omega
      refine ⟨fun σ' H'' => ∃ (v5 : Option V) (j b' e' c : Nat), σ' = [some (.ref A'), some (.ref B), some (.int (b' : Int)), some (.int (e' : Int)), some (.int (c : Int)), v5] ∧ Same H H'' ∧ itr (tkf (dif xs ys)) j (0, n, 0) = (b', e', c) ∧ e' - b' < e - b,
        fun σ' H'' h => ?_, ?_⟩
      · obtain ⟨v5, j, b', e', c, h1, h2, h3, h4⟩ := h
        exact ⟨e' - b', h4, v5, j, b', e', c, h1, h2, h3, rfl⟩
      · have hW : CDivW ((b : Int) + (e : Int)) 2 := wide_div (b := 20) (by decide) (by decide) (by decide) (by decide)
        refine ⟨_, rfl, _, rfl, _, _, rfl, rfl, _, _, rfl, rfl, hW, ?_⟩
        dsimp only
        rw [half_div]
        obtain ⟨mid, hmid⟩ : ∃ mid, mid = (b + e) / 2 := ⟨_, rfl⟩
        rw [← hmid]
        refine ⟨_, rfl, _, _, rfl, rfl, ?_⟩
        refine ⟨_, rfl, _, rfl, A', _, _, _, rfl, rfl, SqL.of (sm _ _ hA), atI_nat (row_at (b := mid) (by omega)), _, rfl, _, rfl, B, _, _, _, rfl, rfl, SqL.of (sm _ _ hB), atI_nat (row_at (b := mid) (by omega)), rfl, _, rfl, ite2 (fun y => ?_) (fun y => ?_)⟩
        · have hd : dif xs ys ((b + e) / 2) = true := by
            rw [← hmid]
            refine decide_eq_true fun q => ?_
            rw [q] at y
            simp at y
          refine ⟨_, rfl, some (.int (mid : Int)), j + 1, b, mid, c + 1, rfl, sm, ?_, by omega⟩
          show tkf (dif xs ys) (itr (tkf (dif xs ys)) j (0, n, 0)) = _
          rw [hit, tk_yes hbe hd, hmid]
        · have hd : dif xs ys ((b + e) / 2) = false := by
            rw [← hmid]
            refine decide_eq_false fun q => y ?_
            rw [decide_eq_false (fun w => q (by injection w))]
            rfl
          refine ⟨_, rfl, _, _, rfl, rfl, some (.int (mid : Int)), j + 1, mid + 1, e, c + 1, rfl, sm, ?_, by omega⟩
          show tkf (dif xs ys) (itr (tkf (dif xs ys)) j (0, n, 0)) = _
          rw [hit, tk_no hbe hd, hmid]
    · have z : ¬ (b : Int) < (e : Int) := fun y => z (decide_eq_true y)
      have hfix : tkf (dif xs ys) (itr (tkf (dif xs ys)) j (0, n, 0)) = itr (tkf (dif xs ys)) j (0, n, 0) := by
        rw [hit]
        unfold tkf
        simp only
        rw [if_neg (by omega)]
      have heq := itr_same (tkf_fix (P := dif xs ys) (n := n) (Nat.le_refl n)) hfix
      refine ⟨_, rfl, _, rfl, (show 2 ≤ sizeLine by decide), fun p np => ?_⟩
      exact k p _ b e c (sm.trans (new_same np)) (heq.trans hit) upd_same
end
end K44
set_option maxRecDepth 100000
set_option maxHeartbeats 4000000
/-! By halves to a cell. -/
namespace K44
open PySem PySem.Spec PyProof.Rows L2 KF KD
theorem cutIJ {xs : List V} {i j : Nat} (h : i ≤ j) (hj : j ≤ xs.length) : cutV xs (some (i : Int)) (some (j : Int)) = (xs.drop i).take (j - i) := by
  unfold cutV
  rw [HT.sIx_nat, HT.sIx_nat, Nat.min_eq_left (Nat.le_trans h hj), Nat.min_eq_left hj]
def slc (ds : List PyData) (i j : Nat) : List PyData := (ds.drop i).take (j - i)
def dfc (ds es : List PyData) (b m : Nat) : Bool := decide (ts (.tuple (slc ds b m)) ≠ ts (.tuple (slc es b m)))
section
variable {K : PySem.W.Frag} {H : Hp}
theorem dpa_drop : ∀ {vs : List V} {ds : List PyData} (i : Nat), DpAll K H vs ds → DpAll K H (vs.drop i) (ds.drop i)
  | _, _, 0, h => by simpa using h
  | _, _, _ + 1, .nil => .nil
  | _ :: _, _ :: _, i + 1, .cons a t => dpa_drop i t
theorem dpa_take : ∀ {vs : List V} {ds : List PyData} (i : Nat), DpAll K H vs ds → DpAll K H (vs.take i) (ds.take i)
  | _, _, 0, _ => by simpa using DpAll.nil
  | _, _, _ + 1, .nil => .nil
  | _ :: _, _ :: _, i + 1, .cons a t => .cons a (dpa_take i t)
theorem nls_drop : ∀ {ds : List PyData} (i : Nat), NLs ds → NLs (ds.drop i)
  | _, 0, h => by simpa using h
  | [], _ + 1, h => h
  | _ :: _, i + 1, h => nls_drop i h.2
theorem nls_take : ∀ {ds : List PyData} (i : Nat), NLs ds → NLs (ds.take i)
  | _, 0, _ => by rw [List.take_zero]; trivial
  | [], _ + 1, h => h
  | _ :: _, i + 1, h => ⟨h.1, nls_take i h.2⟩
end
/-- a world -/
structure WdH (K : PySem.W.Frag) (H : Hp) (a : Addr) (vs : List V) (ds : List PyData) : Prop where
  sq : SqT K H a vs
  dp : DpAll K H vs ds
  nl : NLs ds
  len : ds.length ≤ 1100
  sm : ∀ d ∈ ds, SmOk 5 d
theorem WdH.tf {K : PySem.W.Frag} {H H' : Hp} {a : Addr} {vs : List V} {ds : List PyData} (s : TF H H') (h : WdH K H a vs ds) : WdH K H' a vs ds := ⟨s.sq h.sq, dpa_nl s _ _ h.nl h.dp, h.nl, h.len, h.sm⟩
theorem smok_slc {ds : List PyData} {i j : Nat} (h1 : ds.length ≤ 1100) (h2 : NLs ds) (h3 : ∀ d ∈ ds, SmOk 5 d) : SmOk 6 (.tuple (slc ds i j)) := by
  refine ⟨?_, nls_take _ (nls_drop _ h2), fun e he => h3 e ?_⟩
  · unfold slc
    rw [List.length_take, List.length_drop]
    omega
  · exact List.mem_of_mem_drop (List.mem_of_mem_take he)
/-- a slice of a world, told as it is or as a new tuple -/
theorem slice_ok {K : PySem.W.Frag} {H : Hp} {a : Addr} {vs : List V} {ds : List PyData} {i j : Nat} {Q : VK} (h : WdH K H a vs ds) (hij : i ≤ j) (hj : j ≤ ds.length)
    (hq : ∀ v H', Same H H' → Dp K H' v (.tuple (slc ds i j)) → Q v H') : rSlA K (.ref a) (some (i : Int)) (some (j : Int)) H Q := by
  have hl := dpa_len h.dp
  refine ⟨a, vs, rfl, h.sq, fun hw => ?_, fun _ p np => ?_⟩
  · rw [HT.sIx_nat, HT.sIx_nat] at hw
    have hi0 : i = 0 := by omega
    have hjn : j = ds.length := by omega
    subst hi0
    subst hjn
    refine hq _ H (Same.refl _) ?_
    have : slc ds 0 ds.length = ds := by simp [slc]
    rw [this]
    exact .tup h.sq h.dp
  · rw [cutIJ hij (by omega)]
    have tp := new_same (o := .tup ((vs.drop i).take (j - i))) np
    exact hq _ _ tp (.tup (SqT.of upd_same) (dpa_take _ (dpa_drop _ (dpa_nl (same_tf tp) _ _ h.nl h.dp))))
theorem cl_yes {P : Nat → Nat → Bool} {b e c : Nat} (h : b + 1 < e) (hp : P b ((b + e) / 2) = true) : clf P (b, e, c) = (b, (b + e) / 2, c + 1) := by
  unfold clf
  simp only
  rw [if_pos h, if_pos hp]
theorem cl_no {P : Nat → Nat → Bool} {b e c : Nat} (h : b + 1 < e) (hp : P b ((b + e) / 2) = false) : clf P (b, e, c) = ((b + e) / 2, e, c + 1) := by
  unfold clf
  simp only
  rw [if_pos h, if_neg (by rw [hp]; decide)]
section
variable {P : Program} {w : World} {K : PySem.W.Frag} {mg : Str → Option Value} {base : Heap}
def spCl (K : PySem.W.Frag) : Sp := fun vs H Q _ => ∃ (A B : Addr) (xs ys : List V) (ds es : List PyData), vs = [.ref A, .ref B] ∧ WdH K H A xs ds ∧ WdH K H B ys es ∧ ds.length = es.length ∧
  ∀ p H' b e c, Same H H' → itr (clf (dfc ds es)) ds.length (0, ds.length, 0) = (b, e, c) → H' p = some (.tup [.int (b : Nat), .int (c : Nat)]) → Q (.ref p) H'
theorem scCl : FnScope ["one", "other", "first", "last", "asked", "middle"] ["one", "other"] (defScope s_cell_by_halves) := ⟨rfl, rfl, rfl, by decide +kernel, rfl, by decide +kernel, by decide +kernel⟩
theorem ok_cell_by_halves (T : Txt K w mg) : FnOk P w K mg base CX0 8 (He.fAd K ("_cell_by_halves", none)) (fdAt K (He.fAd K ("_cell_by_halves", none))) ["one", "other"] (spCl K) := by
  refine T.F_cell_by_halves.ok scCl (fun vs H Q E h => ?_) (fun cdv A outer s H vs Q E hr h => ?_)
  · obtain ⟨A, B, xs, ys, ds, es, rfl, _⟩ := h
    rfl
  · obtain ⟨A', B, xs, ys, ds, es, rfl, hA, hB, hne, k⟩ := h
    refine ⟨_, PSs.nox (pss_cons (ps_set (i := 2) scCl.nd rfl (Or.inl rfl) pe_int)
      (pss_cons (ps_set (i := 3) scCl.nd rfl (Or.inl rfl) (pe_callB (r := Evl.rLenS K) call_len_seq (by rfl) T.n_len PyProof.Rows.Boot.«len» (pa_cons (pv 0) pa_nil)))
      (pss_cons (ps_set (i := 4) scCl.nd rfl (Or.inl rfl) pe_int)
      (pss_cons (ps_while PassesOwn.never (pt_cmpR op_gt (pe_op op_sub (pv 3) (pv 2)) pe_int (nomark _)) (pss_cons (ps_set (i := 5) scCl.nd rfl (Or.inl rfl) (pe_op op_fdivW (pe_op op_add (pv 2) (pv 3)) pe_int))
      (pss_cons (ps_aug (i := 4) scCl.nd rfl (Or.inl rfl) pe_int ip_add)
      (pss_one (ps_if (pt_cmpR op_ne (pe_call (ok_thing_sum T 7) (hr.mono (by omega)) (by rfl) T.g_thing_sum (T.F_thing_sum).kp T.b_thing_sum .nil pass0 (pa_cons (pe_slice sl_tupA (pv 0) (po_some (pv 2)) (po_some (pv 5))) pa_nil)) (pe_call (ok_thing_sum T 7) (hr.mono (by omega)) (by rfl) T.g_thing_sum (T.F_thing_sum).kp T.b_thing_sum .nil pass0 (pa_cons (pe_slice sl_tupA (pv 1) (po_some (pv 2)) (po_some (pv 5))) pa_nil)) (nomark _)) (pss_one (ps_set (i := 3) scCl.nd rfl (Or.inl rfl) (pv 5))) (pss_one (ps_set (i := 2) scCl.nd rfl (Or.inl rfl) (pv 5))))))))
      (pss_one (ps_ret (pe_tup (pa_cons (pv 2) (pa_cons (pv 4) pa_nil))))))))), ?_⟩
    have hl1 := dpa_len hA.dp
    refine ⟨_, rfl, _, _, rfl, .inr hA.sq, ?_⟩
    dsimp only
    rw [hl1]
    have hn := hA.len
    refine ⟨fun m σ H' => ∃ (v5 : Option V) (j b e c : Nat), σ = [some (.ref A'), some (.ref B), some (.int (b : Int)), some (.int (e : Int)), some (.int (c : Int)), v5] ∧ Same H H' ∧ itr (clf (dfc ds es)) j (0, ds.length, 0) = (b, e, c) ∧ m = e - b,
      ⟨ds.length, none, 0, 0, ds.length, 0, rfl, Same.refl _, rfl, rfl⟩, fun m σ H' h => ?_⟩
    obtain ⟨v5, j, b, e, c, rfl, sm, hit, rfl⟩ := h
    have hle := clf_le (P := dfc ds es) (n := ds.length) j
    rw [hit] at hle
    simp only at hle
    refine ⟨_, rfl, _, rfl, _, _, rfl, rfl, _, _, rfl, rfl, _, rfl, ite2 (fun z => ?_) (fun z => ?_)⟩
    · have z : (1 : Int) < (e : Int) - (b : Int) := of_decide_eq_true z
      have hbe : b + 1 < e := by omega
      refine ⟨fun σ' H'' => ∃ (v5 : Option V) (j b' e' c : Nat), σ' = [some (.ref A'), some (.ref B), some (.int (b' : Int)), some (.int (e' : Int)), some (.int (c : Int)), v5] ∧ Same H H'' ∧ itr (clf (dfc ds es)) j (0, ds.length, 0) = (b', e', c) ∧ e' - b' < e - b,
        fun σ' H'' h => ?_, ?_⟩
      · obtain ⟨v5, j, b', e', c, h1, h2, h3, h4⟩ := h
        exact ⟨e' - b', h4, v5, j, b', e', c, h1, h2, h3, rfl⟩
      · have hW : CDivW ((b : Int) + (e : Int)) 2 := wide_div (b := 20) (by decide) (by decide) (by decide) (by decide)
        refine ⟨_, rfl, _, rfl, _, _, rfl, rfl, _, _, rfl, rfl, hW, ?_⟩
        dsimp only
        rw [half_div]
        obtain ⟨mid, hmid⟩ : ∃ mid, mid = (b + e) / 2 := ⟨_, rfl⟩
        rw [← hmid]
        refine ⟨_, rfl, _, _, rfl, rfl, ?_⟩
        refine ⟨_, rfl, _, rfl, _, rfl, _, rfl, _, rfl, slice_ok (hA.tf (same_tf sm)) (by omega) (by omega) fun v1 H1 s1 d1 => ?_⟩
        refine ⟨v1, _, rfl, d1, smok_slc hA.len hA.nl hA.sm, fun H2 s2 => ?_⟩
        have s12 := (sm.trans s1).trans s2
        refine ⟨_, rfl, _, rfl, _, rfl, _, rfl, _, rfl, slice_ok (hB.tf (same_tf s12)) (by omega) (by omega) fun v3 H3 s3 d3 => ?_⟩
        refine ⟨v3, _, rfl, d3, smok_slc hB.len hB.nl hB.sm, fun H4 s4 => ?_⟩
        have s14 := (s12.trans s3).trans s4
        refine ⟨rfl, _, rfl, ite2 (fun y => ?_) (fun y => ?_)⟩
        · have hd : dfc ds es b ((b + e) / 2) = true := by
            rw [← hmid]
            refine decide_eq_true fun q => ?_
            rw [q] at y
            simp at y
          refine ⟨_, rfl, some (.int (mid : Int)), j + 1, b, mid, c + 1, rfl, s14, ?_, by omega⟩
          show clf (dfc ds es) (itr (clf (dfc ds es)) j (0, ds.length, 0)) = _
          rw [hit, cl_yes hbe hd, hmid]
        · have hd : dfc ds es b ((b + e) / 2) = false := by
            rw [← hmid]
            refine decide_eq_false fun q => y ?_
            rw [decide_eq_false (fun w => q (by injection w))]
            rfl
          refine ⟨_, rfl, some (.int (mid : Int)), j + 1, mid, e, c + 1, rfl, s14, ?_, by omega⟩
          show clf (dfc ds es) (itr (clf (dfc ds es)) j (0, ds.length, 0)) = _
          rw [hit, cl_no hbe hd, hmid]
    · have z : ¬ (1 : Int) < (e : Int) - (b : Int) := fun y => z (decide_eq_true y)
      have hfix : clf (dfc ds es) (itr (clf (dfc ds es)) j (0, ds.length, 0)) = itr (clf (dfc ds es)) j (0, ds.length, 0) := by
        rw [hit]
        unfold clf
        simp only
        rw [if_neg (by omega)]
      have heq := itr_same (clf_fix (P := dfc ds es) (n := ds.length) (Nat.le_refl _)) hfix
      refine ⟨_, rfl, _, rfl, (show 2 ≤ sizeLine by decide), fun p np => ?_⟩
      exact k p _ b e c (sm.trans (new_same np)) (heq.trans hit) upd_same
end
end K44
set_option maxRecDepth 100000
set_option maxHeartbeats 4000000
/-! Where runs part. -/
namespace K44
open PySem PySem.Spec PyProof.Rows L2 KF KD
/-- rows of worlds of one size each -/
structure RwW (K : PySem.W.Frag) (H : Hp) (a : Addr) (vs : List V) (dss : List (List PyData)) : Prop where
  sq : SqT K H a vs
  len : vs.length = dss.length
  le : dss.length ≤ 100
  at_ : ∀ i, i < dss.length → ∃ c xs, vs[i]? = some (.ref c) ∧ WdH K H c xs (dss.getD i [])
theorem RwW.tf {K : PySem.W.Frag} {H H' : Hp} {a : Addr} {vs : List V} {dss : List (List PyData)} (s : TF H H') (h : RwW K H a vs dss) : RwW K H' a vs dss := ⟨s.sq h.sq, h.len, h.le, fun i hi => by
  obtain ⟨c, xs, e, hw⟩ := h.at_ i hi
  exact ⟨c, xs, e, hw.tf s⟩⟩
theorem getD_mem {dss : List (List PyData)} {i : Nat} (h : i < dss.length) : dss.getD i [] ∈ dss := by
  rw [List.getD_eq_getElem?_getD, List.getElem?_eq_getElem h]
  exact List.getElem_mem h
theorem walk_zipT {K : PySem.W.Frag} {a b : Addr} {xs ys : List V} {n : Nat} (hn : n = min xs.length ys.length) : Walk (RZ.ItzT K a b) n (fun H => SqT K H a xs ∧ SqT K H b ys) (YPair (fun i => xs[i]?) (fun i => ys[i]?)) := by
  subst hn
  refine ⟨fun i _ hi q => ?_, fun _ q => ⟨xs, ys, q.1, q.2, by omega⟩, fun i H v H' _ q y => ?_⟩
  · have h1 : i < xs.length := by omega
    have h2 : i < ys.length := by omega
    exact ⟨xs, ys, xs[i], ys[i], q.1, q.2, by simp [h1], by simp [h2]⟩
  · obtain ⟨T, x, z, h1, h2, h3, h4, h5⟩ := y
    exact ⟨T, x, z, h1, h2, h3, h4 xs q.1, h5 ys q.2⟩
section
variable {P : Program} {w : World} {K : PySem.W.Frag} {mg : Str → Option Value} {base : Heap}
def spSs (K : PySem.W.Frag) : Sp := fun vs H Q _ => ∃ (a : Addr) (xs : List V) (ds : List PyData) (i j : Nat), vs = [.ref a, .int (i : Int), .int (j : Int)] ∧ WdH K H a xs ds ∧ i < j ∧ j ≤ ds.length ∧ ∀ H', Same H H' → Q (.int (ts (.tuple (slc ds i j)))) H'
theorem scSs : FnScope ["world", "first", "last"] ["world", "first", "last"] (defScope s_stretch_sum) := ⟨rfl, rfl, rfl, by decide +kernel, rfl, by decide +kernel, by decide +kernel⟩
theorem ok_stretch_sum (T : Txt K w mg) : FnOk P w K mg base CX0 8 (He.fAd K ("stretch_sum", none)) (fdAt K (He.fAd K ("stretch_sum", none))) ["world", "first", "last"] (spSs K) := by
  refine T.F_stretch_sum.ok scSs (fun vs H Q E h => ?_) (fun cdv A outer s H vs Q E hr h => ?_)
  · obtain ⟨a, xs, ds, i, j, rfl, _⟩ := h
    rfl
  · obtain ⟨a, xs, ds, i, j, rfl, hw, hij, hj, k⟩ := h
    refine ⟨_, PSs.nox (pss_cons (ps_if (PW.pt (pw_or (pt_cmpR op_lt (pv 1) pe_int (nomark _)) (pw_or1 (pt_cmpR op_ge (pv 1) (pe_callB (r := Evl.rLenS K) call_len_seq (by rfl) T.n_len PyProof.Rows.Boot.«len» (pa_cons (pv 0) pa_nil)) (nomark _))))) (pss_one ps_never) pss_nil)
      (pss_cons (ps_if (PW.pt (pw_or (pt_cmpR op_le (pv 2) (pv 1) (nomark _)) (pw_or1 (pt_cmpR op_gt (pv 2) (pe_callB (r := Evl.rLenS K) call_len_seq (by rfl) T.n_len PyProof.Rows.Boot.«len» (pa_cons (pv 0) pa_nil)) (nomark _))))) (pss_one ps_never) pss_nil)
      (pss_one (ps_ret (pe_call (ok_thing_sum T 7) (hr.mono (by omega)) (by rfl) T.g_thing_sum (T.F_thing_sum).kp T.b_thing_sum .nil pass0 (pa_cons (pe_slice sl_tupA (pv 0) (po_some (pv 1)) (po_some (pv 2))) pa_nil)))))), ?_⟩
    have hl := dpa_len hw.dp
    refine ⟨_, rfl, _, _, rfl, rfl, _, rfl, ite2 (fun z => absurd (of_decide_eq_true z) (by omega)) (fun _ => ?_)⟩
    refine ⟨_, rfl, _, rfl, _, _, rfl, .inr hw.sq, _, _, rfl, rfl, _, rfl, ite2 (fun z => absurd (of_decide_eq_true z) (by rw [hl]; omega)) (fun _ => ?_)⟩
    refine ⟨_, rfl, _, rfl, _, _, rfl, rfl, _, rfl, ite2 (fun z => absurd (of_decide_eq_true z) (by omega)) (fun _ => ?_)⟩
    refine ⟨_, rfl, _, rfl, _, _, rfl, .inr hw.sq, _, _, rfl, rfl, _, rfl, ite2 (fun z => absurd (of_decide_eq_true z) (by rw [hl]; omega)) (fun _ => ?_)⟩
    refine ⟨_, rfl, _, rfl, _, rfl, _, rfl, _, rfl, slice_ok hw (by omega) hj fun v1 H1 s1 d1 => ?_⟩
    exact ⟨v1, _, rfl, d1, smok_slc hw.len hw.nl hw.sm, fun H2 s2 => k H2 (s1.trans s2)⟩
def spNp (K : PySem.W.Frag) : Sp := fun vs H Q _ => ∃ (a b : Addr) (us vs' : List V) (dA dB : List (List PyData)), vs = [.ref a, .ref b] ∧ RwW K H a us dA ∧ RwW K H b vs' dB ∧ dA.length = dB.length ∧ 0 < dA.length ∧ (∀ i, i < dA.length → (dA.getD i []).length = (dB.getD i []).length) ∧ ∀ H', Same H H' → Q .non H'
theorem scNp : FnScope ["one", "other", "world", "beside"] ["one", "other"] (defScope s_need_pairs) := ⟨rfl, rfl, rfl, by decide +kernel, rfl, by decide +kernel, by decide +kernel⟩
theorem ok_need_pairs (T : Txt K w mg) : FnOk P w K mg base CX0 1 (He.fAd K ("_need_pairs", none)) (fdAt K (He.fAd K ("_need_pairs", none))) ["one", "other"] (spNp K) := by
  refine T.F_need_pairs.ok scNp (fun vs H Q E h => ?_) (fun cdv A outer s H vs Q E hr h => ?_)
  · obtain ⟨a, b, us, vs', dA, dB, rfl, _⟩ := h
    rfl
  · obtain ⟨a, b, us, vs', dA, dB, rfl, hA, hB, hAB, h0, hpr, k⟩ := h
    refine ⟨_, PSs.nox (pss_cons (ps_if (pt_cmpR op_ne (pe_callB (r := Evl.rLenS K) call_len_seq (by rfl) T.n_len PyProof.Rows.Boot.«len» (pa_cons (pv 0) pa_nil)) (pe_callB (r := Evl.rLenS K) call_len_seq (by rfl) T.n_len PyProof.Rows.Boot.«len» (pa_cons (pv 1) pa_nil)) (nomark _)) (pss_one ps_never) pss_nil)
      (pss_cons (ps_for PassesOwn.never rfl (RZ.pi_zipA (by rfl) T.n_zip (pa_cons (pv 0) (pa_cons (pv 1) pa_nil))) (pg_tup (by rfl) (pgs_cons (pg_name (i := 2) scNp.nd rfl (Or.inl rfl)) (pgs_cons (pg_name (i := 3) scNp.nd rfl (Or.inl rfl)) pgs_nil))) (pss_one (ps_if (pt_cmpR op_ne (pe_callB (r := Evl.rLenS K) call_len_seq (by rfl) T.n_len PyProof.Rows.Boot.«len» (pa_cons (pv 2) pa_nil)) (pe_callB (r := Evl.rLenS K) call_len_seq (by rfl) T.n_len PyProof.Rows.Boot.«len» (pa_cons (pv 3) pa_nil)) (nomark _)) (pss_one ps_never) pss_nil)))
      (pss_one (ps_if (pt_cmpR op_eq (pe_callB (r := Evl.rLenS K) call_len_seq (by rfl) T.n_len PyProof.Rows.Boot.«len» (pa_cons (pv 0) pa_nil)) pe_int (nomark _)) (pss_one ps_never) pss_nil)))), ?_⟩
    have la1 := hA.len
    have lb1 := hB.len
    refine ⟨_, rfl, _, _, rfl, .inr hA.sq, _, rfl, _, _, rfl, .inr hB.sq, rfl, _, rfl, ?_⟩
    rw [show us.length = vs'.length by omega, decide_eq_true (rfl : V.int (vs'.length : Int) = V.int (vs'.length : Int))]
    refine iteF ?_
    refine ⟨_, rfl, _, rfl, a, b, _, _, rfl, .inr ⟨hA.sq, hB.sq, ?_⟩⟩
    refine for_it (walk_zipT (K := K) (a := a) (b := b) (xs := us) (ys := vs') rfl) (fun i σ H' => (∃ v2 v3, σ = [some (.ref a), some (.ref b), v2, v3]) ∧ Same H H') ⟨⟨_, _, rfl⟩, Same.refl _⟩ (fun i σ H' _ h => ⟨(same_tf h.2).sq hA.sq, (same_tf h.2).sq hB.sq⟩) (fun i v σ H' H2 hi h y => ?_) (fun σ H' h => ?_)
    · obtain ⟨⟨v2, v3, rfl⟩, sm⟩ := h
      obtain ⟨t, x, z, rfl, nt, rfl, hx, hz⟩ := y
      have hiA : i < dA.length := by omega
      obtain ⟨c1, xs1, e1, w1⟩ := hA.at_ i hiA
      obtain ⟨c2, xs2, e2, w2⟩ := hB.at_ i (by omega)
      replace hx : us[i]? = some x := hx
      replace hz : vs'[i]? = some z := hz
      rw [e1] at hx
      rw [e2] at hz
      cases hx
      cases hz
      have st := new_same (o := .tup [V.ref c1, V.ref c2]) nt
      have tf := same_tf (sm.trans st)
      have n1 := dpa_len w1.dp
      have n2 := dpa_len w2.dp
      refine ⟨t, _, rfl, SqT.of upd_same, rfl, _, _, rfl, _, _, rfl, rfl, ?_⟩
      refine ⟨_, rfl, _, _, rfl, .inr (tf.sq w1.sq), _, rfl, _, _, rfl, .inr (tf.sq w2.sq), rfl, _, rfl, ?_⟩
      rw [show xs1.length = xs2.length by rw [n1, n2, hpr i hiA], decide_eq_true (rfl : V.int (xs2.length : Int) = V.int (xs2.length : Int))]
      exact iteF ⟨⟨_, _, rfl⟩, sm.trans st⟩
    · obtain ⟨⟨v2, v3, rfl⟩, sm⟩ := h
      refine ⟨_, rfl, _, _, rfl, .inr ((same_tf sm).sq hA.sq), rfl, _, rfl, ?_⟩
      rw [decide_eq_false (fun z => by
        have z : V.int (us.length : Int) = V.int 0 := z
        injection z with z
        omega)]
      exact iteF (k H' sm)
end
end K44
set_option maxRecDepth 100000
set_option maxHeartbeats 4000000
/-! Where runs part, the whole answer. -/
namespace K44
open PySem PySem.Spec PyProof.Rows L2 KF KD
def tps (dss : List (List PyData)) : List PyData := dss.map PyData.tuple
theorem rwh_of {K : PySem.W.Frag} {H : Hp} {a : Addr} {vs : List V} {dss : List (List PyData)} (h : RwW K H a vs dss) : RwH K H a (tps dss) := by
  have key : ∀ (vs : List V) (dss : List (List PyData)), vs.length = dss.length → (∀ i, i < dss.length → ∃ c xs, vs[i]? = some (V.ref c) ∧ WdH K H c xs (dss.getD i [])) → DpAll K H vs (tps dss) ∧ NLs (tps dss) ∧ ∀ d ∈ tps dss, SmOk 6 d := by
    intro vs dss
    induction dss generalizing vs with
    | nil =>
      intro hl _
      have : vs = [] := List.eq_nil_of_length_eq_zero (by simpa using hl)
      subst this
      exact ⟨.nil, trivial, fun d hd => by cases hd⟩
    | cons d dss ih =>
      intro hl hat
      cases vs with
      | nil => simp at hl
      | cons v vs =>
        obtain ⟨c, xs, e, hw⟩ := hat 0 (Nat.zero_lt_succ _)
        have ev : v = .ref c := by simpa using e
        subst ev
        have hw : WdH K H c xs d := hw
        obtain ⟨i1, i2, i3⟩ := ih vs (by simpa using hl) (fun i hi => by
          obtain ⟨c, xs, e, hw⟩ := hat (i + 1) (Nat.succ_lt_succ hi)
          exact ⟨c, xs, by simpa using e, hw⟩)
        refine ⟨.cons (.tup hw.sq hw.dp) i1, ⟨hw.nl, i2⟩, fun e he => ?_⟩
        rcases List.mem_cons.mp he with rfl | he
        · exact ⟨hw.len, hw.nl, hw.sm⟩
        · exact i3 e he
  obtain ⟨k1, k2, k3⟩ := key vs dss h.len h.at_
  exact ⟨vs, h.sq, k1, k2, by simp [tps]; exact h.le, k3⟩
def sms (dss : List (List PyData)) : List Int := chs (tps dss) dss.length
theorem sms_len (dss : List (List PyData)) : (sms dss).length = dss.length := chs_len _ _
/-- what parted tells -/
def PtV (H : Hp) (v : V) (dA dB : List (List PyData)) : Prop :=
  ((sms dA).getD (dA.length - 1) 0 = (sms dB).getD (dA.length - 1) 0 ∧ v = .non) ∨
  ((sms dA).getD (dA.length - 1) 0 ≠ (sms dB).getD (dA.length - 1) 0 ∧ ∃ (p : Addr) (t e c u e2 c2 : Nat), v = .ref p ∧ itr (tkf (dif (sms dA) (sms dB))) (dA.length - 1) (0, dA.length - 1, 0) = (t, e, c) ∧
    itr (clf (dfc (dA.getD t []) (dB.getD t []))) (dA.getD t []).length (0, (dA.getD t []).length, 0) = (u, e2, c2) ∧ H p = some (.tup [.int (t : Nat), .int (u : Nat), .int ((c + c2 : Nat) : Int)]))
theorem atI_endI {xs : List Int} {n : Nat} (h : xs.length = n + 1) : atI (xs.map V.int) (-1) = some (.int (xs.getD n 0)) := by
  have e : xs = xs.take n ++ [xs.getD n 0] := by
    have h1 : xs.take (n + 1) = xs := List.take_of_length_le (by omega)
    rw [List.take_add_one, List.getElem?_eq_getElem (by omega)] at h1
    rw [List.getD_eq_getElem?_getD, List.getElem?_eq_getElem (by omega)]
    exact h1.symm
  have e2 : (xs.map V.int) = (xs.take n).map V.int ++ [V.int (xs.getD n 0)] := by
    conv => lhs; rw [e]
    rw [List.map_append]
    rfl
  rw [e2]
  exact atI_last _ _
section
variable {P : Program} {w : World} {K : PySem.W.Frag} {mg : Str → Option Value} {base : Heap}
def spPt (K : PySem.W.Frag) : Sp := fun vs H Q _ => ∃ (a b : Addr) (us vs' : List V) (dA dB : List (List PyData)), vs = [.ref a, .ref b] ∧ RwW K H a us dA ∧ RwW K H b vs' dB ∧ dA.length = dB.length ∧ 0 < dA.length ∧ (∀ i, i < dA.length → (dA.getD i []).length = (dB.getD i []).length) ∧ ∀ v H', Same H H' → PtV H' v dA dB → Q v H'
theorem scPt : FnScope ["one", "other", "one_sums", "other_sums", "tick", "asked", "cell", "asked_behind"] ["one", "other"] (defScope s_parted) := ⟨rfl, rfl, rfl, by decide +kernel, rfl, by decide +kernel, by decide +kernel⟩
theorem ok_parted (T : Txt K w mg) : FnOk P w K mg base CX0 9 (He.fAd K ("parted", none)) (fdAt K (He.fAd K ("parted", none))) ["one", "other"] (spPt K) := by
  refine T.F_parted.ok scPt (fun vs H Q E h => ?_) (fun cdv A outer s H vs Q E hr h => ?_)
  · obtain ⟨a, b, us, vs', dA, dB, rfl, _⟩ := h
    rfl
  · obtain ⟨a, b, us, vs', dA, dB, rfl, hA, hB, hAB, h0, hpr, k⟩ := h
    refine ⟨_, PSs.nox (pss_cons (ps_expr (pe_call (ok_need_pairs T) (hr.mono (by decide)) (by rfl) T.g_need_pairs (T.F_need_pairs).kp T.b_need_pairs .nil pass0 (pa_cons (pv 0) (pa_cons (pv 1) pa_nil))))
      (pss_cons (ps_set (i := 2) scPt.nd rfl (Or.inl rfl) (pe_call (ok_chained T) (hr.mono (by decide)) (by rfl) T.g_chained (T.F_chained).kp T.b_chained .nil pass0 (pa_cons (pv 0) pa_nil)))
      (pss_cons (ps_set (i := 3) scPt.nd rfl (Or.inl rfl) (pe_call (ok_chained T) (hr.mono (by decide)) (by rfl) T.g_chained (T.F_chained).kp T.b_chained .nil pass0 (pa_cons (pv 1) pa_nil)))
      (pss_cons (ps_if (pt_cmpR op_eq (pe_ix (r := rIxL K) ix_list (pv 2) (pe_un un_neg pe_int) (fun _ _ => rfl)) (pe_ix (r := rIxL K) ix_list (pv 3) (pe_un un_neg pe_int) (fun _ _ => rfl)) (nomark _)) (pss_one (ps_ret pe_non)) pss_nil)
      (pss_cons (ps_asg (pe_call (ok_tick_by_halves T) (hr.mono (by decide)) (by rfl) T.g_tick_by_halves (T.F_tick_by_halves).kp T.b_tick_by_halves .nil pass0 (pa_cons (pv 2) (pa_cons (pv 3) pa_nil))) (pg_tup (by rfl) (pgs_cons (pg_name (i := 4) scPt.nd rfl (Or.inl rfl)) (pgs_cons (pg_name (i := 5) scPt.nd rfl (Or.inl rfl)) pgs_nil))))
      (pss_cons (ps_asg (pe_call (ok_cell_by_halves T) (hr.mono (by decide)) (by rfl) T.g_cell_by_halves (T.F_cell_by_halves).kp T.b_cell_by_halves .nil pass0 (pa_cons (pe_ix (r := rIxT K) ix_tup (pv 0) (pv 4) (fun _ _ => rfl)) (pa_cons (pe_ix (r := rIxT K) ix_tup (pv 1) (pv 4) (fun _ _ => rfl)) pa_nil))) (pg_tup (by rfl) (pgs_cons (pg_name (i := 6) scPt.nd rfl (Or.inl rfl)) (pgs_cons (pg_name (i := 7) scPt.nd rfl (Or.inl rfl)) pgs_nil))))
      (pss_one (ps_ret (pe_tup (pa_cons (pv 4) (pa_cons (pv 6) (pa_cons (pe_op op_add (pv 5) (pv 7)) pa_nil)))))))))))), ?_⟩
    obtain ⟨n, hn⟩ : ∃ n, dA.length = n + 1 := ⟨dA.length - 1, by omega⟩
    have hle := hA.le
    refine ⟨_, rfl, _, rfl, a, b, us, vs', dA, dB, rfl, hA, hB, hAB, h0, hpr, fun H1 s1 => ?_⟩
    have hA1 := hA.tf (same_tf s1)
    have hB1 := hB.tf (same_tf s1)
    refine ⟨_, rfl, a, tps dA, rfl, rwh_of hA1, fun l1 H2 s2 nl1 e1 => ?_⟩
    refine ⟨_, rfl, b, tps dB, rfl, rwh_of (hB1.tf (same_tf s2)), fun l2 H3 s3 nl2 e2 => ?_⟩
    have e1' : H2 l1 = some (.lst ((sms dA).map V.int)) := by rw [e1]; simp [sms, tps]
    have e2' : H3 l2 = some (.lst ((sms dB).map V.int)) := by rw [e2]; simp [sms, tps]
    have e1'' := s3 _ _ e1'
    have s13 := (s1.trans s2).trans s3
    have lenA : (sms dA).length = n + 1 := by rw [sms_len, hn]
    have lenB : (sms dB).length = n + 1 := by rw [sms_len, ← hAB, hn]
    have hn1 : dA.length - 1 = n := by omega
    refine ⟨_, rfl, _, rfl, l1, _, _, _, rfl, rfl, SqL.of e1'', atI_endI lenA, _, rfl, _, rfl, l2, _, _, _, rfl, rfl, SqL.of e2', atI_endI lenB, rfl, _, rfl, ite2 (fun z => ?_) (fun z => ?_)⟩
    · have z : V.int ((sms dA).getD n 0) = V.int ((sms dB).getD n 0) := of_decide_eq_true z
      injection z with z
      exact k .non H3 s13 (.inl ⟨by rw [hn1]; exact z, rfl⟩)
    · have z : (sms dA).getD n 0 ≠ (sms dB).getD n 0 := fun y => z (decide_eq_true (by rw [y]))
      refine ⟨_, rfl, _, rfl, l1, l2, sms dA, sms dB, n, rfl, e1'', e2', lenA, lenB, by omega, fun p H4 t e c s4 hit hp => ?_⟩
      have hle2 := tkf_le (P := dif (sms dA) (sms dB)) (n := n) n
      rw [hit] at hle2
      simp only at hle2
      refine ⟨p, _, rfl, SqT.of hp, rfl, _, _, rfl, _, _, rfl, rfl, ?_⟩
      have s14 := s13.trans s4
      have hA4 := hA.tf (same_tf s14)
      have hB4 := hB.tf (same_tf s14)
      obtain ⟨c1, xs1, f1, w1⟩ := hA4.at_ t (by omega)
      obtain ⟨c2, xs2, f2, w2⟩ := hB4.at_ t (by omega)
      refine ⟨_, rfl, _, rfl, a, _, _, _, rfl, rfl, hA4.sq, atI_nat f1, _, rfl, _, rfl, b, _, _, _, rfl, rfl, hB4.sq, atI_nat f2, c1, c2, xs1, xs2, _, _, rfl, w1, w2, hpr t (by omega), fun p2 H5 u e2 c2' s5 hit2 hp2 => ?_⟩
      refine ⟨p2, _, rfl, SqT.of hp2, rfl, _, _, rfl, _, _, rfl, rfl, ?_⟩
      refine ⟨_, rfl, _, rfl, _, rfl, _, rfl, _, _, rfl, rfl, (show 3 ≤ sizeLine by decide), fun p3 n3 => ?_⟩
      refine k (.ref p3) _ ((s14.trans s5).trans (new_same n3)) (.inr ⟨by rw [hn1]; exact z, p3, t, e, c, u, e2, c2', rfl, by rw [hn1]; exact hit, hit2, by rw [upd_same]; rfl⟩)
end
end K44
set_option maxRecDepth 100000
set_option maxHeartbeats 4000000
/-! Where runs part, by the law. -/
namespace K44
open PySem PySem.Spec PyProof.Rows L2 KF KD
section
variable {P : Program} {w : World} {K : PySem.W.Frag} {mg : Str → Option Value} {base : Heap}
def spPl (K : PySem.W.Frag) : Sp := fun vs H Q E => ∃ (a b : Addr) (us vs' : List V) (dA dB : List (List PyData)), vs = [.ref a, .ref b] ∧ RwW K H a us dA ∧ RwW K H b vs' dB ∧ dA.length = dB.length ∧ 0 < dA.length ∧ (∀ i, i < dA.length → (dA.getD i []).length = (dB.getD i []).length) ∧ (∀ i, i < dA.length → (dA.getD i []).length = (dA.getD 0 []).length) ∧
  ∀ v H', Same H H' → PtV H' v dA dB → Q v H'
theorem scLp : FnScope ["item", "mate", "sums", "begun", "ended", "asked", "turn", "middle", "at"] ["item", "mate"] (defScope s_law_parted) := ⟨rfl, rfl, rfl, by decide +kernel, rfl, by decide +kernel, by decide +kernel⟩
theorem ok_law_parted (T : Txt K w mg) : FnOk P w K mg base CX0 9 (He.fAd K ("_law_parted", none)) (fdAt K (He.fAd K ("_law_parted", none))) ["item", "mate"] (spPl K) := by
  refine T.F_law_parted.ok scLp (fun vs H Q E h => ?_) (fun cdv A outer s H vs Q E hr h => ?_)
  · obtain ⟨a, b, us, vs', dA, dB, rfl, _⟩ := h
    rfl
  · obtain ⟨a, b, us, vs', dA, dB, rfl, hA, hB, hAB, h0, hpr, hsz, k⟩ := h
    refine ⟨_, PSs.nox (pss_cons (ps_set (i := 2) scLp.nd rfl (Or.inl rfl) (pe_lst (pa_cons (pe_call (ok_law_chained T) (hr.mono (by decide)) (by rfl) T.g_law_chained (T.F_law_chained).kp T.b_law_chained .nil pass0 (pa_cons (pv 0) pa_nil)) (pa_cons (pe_call (ok_law_chained T) (hr.mono (by decide)) (by rfl) T.g_law_chained (T.F_law_chained).kp T.b_law_chained .nil pass0 (pa_cons (pv 1) pa_nil)) pa_nil))))
      (pss_cons (ps_if (pt_cmpR op_eq (pe_ix (r := rIxL K) ix_list (pe_ix (r := rIxL K) ix_list (pv 2) pe_int (fun _ _ => rfl)) (pe_un un_neg pe_int) (fun _ _ => rfl)) (pe_ix (r := rIxL K) ix_list (pe_ix (r := rIxL K) ix_list (pv 2) pe_int (fun _ _ => rfl)) (pe_un un_neg pe_int) (fun _ _ => rfl)) (nomark _)) (pss_one (ps_ret pe_non)) pss_nil)
      (pss_cons (ps_par3 (i := 3) (j := 4) (l := 5) (by rfl) scLp.nd rfl rfl rfl (by decide) (by decide) (by decide) rfl rfl rfl (pa_cons pe_int (pa_cons (pe_op op_sub (pe_callB (r := Evl.rLenS K) call_len_seq (by rfl) T.n_len PyProof.Rows.Boot.«len» (pa_cons (pv 0) pa_nil)) pe_int) (pa_cons pe_int pa_nil))) (by rfl))
      (pss_cons (ps_for PassesOwn.never rfl (pi_range1 (by rfl) T.n_range (pa_cons (pe_callB (r := Evl.rLenS K) call_len_seq (by rfl) T.n_len PyProof.Rows.Boot.«len» (pa_cons (pv 0) pa_nil)) pa_nil)) (pg_name (i := 6) scLp.nd rfl (Or.inl rfl)) (pss_one (ps_if (pt_cmpR op_lt (pv 3) (pv 4) (nomark _)) (pss_cons (ps_par (i := 7) (j := 5) (by rfl) scLp.nd rfl rfl (by decide) rfl rfl (pa_cons (pe_op op_fdivW (pe_op op_add (pv 3) (pv 4)) pe_int) (pa_cons (pe_op op_add (pv 5) pe_int) pa_nil)) (by rfl))
      (pss_one (ps_if (pt_cmpR op_eq (pe_ix (r := rIxL K) ix_list (pe_ix (r := rIxL K) ix_list (pv 2) pe_int (fun _ _ => rfl)) (pv 7) (fun _ _ => rfl)) (pe_ix (r := rIxL K) ix_list (pe_ix (r := rIxL K) ix_list (pv 2) pe_int (fun _ _ => rfl)) (pv 7) (fun _ _ => rfl)) (nomark _)) (pss_one (ps_set (i := 3) scLp.nd rfl (Or.inl rfl) (pe_op op_add (pv 7) pe_int))) (pss_one (ps_set (i := 4) scLp.nd rfl (Or.inl rfl) (pv 7)))))) pss_nil)))
      (pss_cons (ps_par3 (i := 8) (j := 3) (l := 4) (by rfl) scLp.nd rfl rfl rfl (by decide) (by decide) (by decide) rfl rfl rfl (pa_cons (pv 3) (pa_cons pe_int (pa_cons (pe_callB (r := Evl.rLenS K) call_len_seq (by rfl) T.n_len PyProof.Rows.Boot.«len» (pa_cons (pe_ix (r := rIxT K) ix_tup (pv 0) pe_int (fun _ _ => rfl)) pa_nil)) pa_nil))) (by rfl))
      (pss_cons (ps_for PassesOwn.never rfl (pi_range1 (by rfl) T.n_range (pa_cons (pe_callB (r := Evl.rLenS K) call_len_seq (by rfl) T.n_len PyProof.Rows.Boot.«len» (pa_cons (pe_ix (r := rIxT K) ix_tup (pv 0) pe_int (fun _ _ => rfl)) pa_nil)) pa_nil)) (pg_name (i := 6) scLp.nd rfl (Or.inl rfl)) (pss_one (ps_if (pt_cmpR op_lt (pe_op op_add (pv 3) pe_int) (pv 4) (nomark _)) (pss_cons (ps_par (i := 7) (j := 5) (by rfl) scLp.nd rfl rfl (by decide) rfl rfl (pa_cons (pe_op op_fdivW (pe_op op_add (pv 3) (pv 4)) pe_int) (pa_cons (pe_op op_add (pv 5) pe_int) pa_nil)) (by rfl))
      (pss_one (ps_if (pt_cmpR op_eq (pe_call (ok_law_sum T 7) (hr.mono (by omega)) (by rfl) T.g_law_sum (T.F_law_sum).kp T.b_law_sum .nil pass0 (pa_cons (pe_slice sl_tupA (pe_ix (r := rIxT K) ix_tup (pv 0) (pv 8) (fun _ _ => rfl)) (po_some (pv 3)) (po_some (pv 7))) pa_nil)) (pe_call (ok_law_sum T 7) (hr.mono (by omega)) (by rfl) T.g_law_sum (T.F_law_sum).kp T.b_law_sum .nil pass0 (pa_cons (pe_slice sl_tupA (pe_ix (r := rIxT K) ix_tup (pv 1) (pv 8) (fun _ _ => rfl)) (po_some (pv 3)) (po_some (pv 7))) pa_nil)) (nomark _)) (pss_one (ps_set (i := 3) scLp.nd rfl (Or.inl rfl) (pv 7))) (pss_one (ps_set (i := 4) scLp.nd rfl (Or.inl rfl) (pv 7)))))) pss_nil)))
      (pss_one (ps_ret (pe_tup (pa_cons (pv 8) (pa_cons (pv 3) (pa_cons (pv 5) pa_nil)))))))))))), ?_⟩
    obtain ⟨n, hn⟩ : ∃ n, dA.length = n + 1 := ⟨dA.length - 1, by omega⟩
    have hle := hA.le
    have hul := hA.len
    refine ⟨_, rfl, a, tps dA, rfl, rwh_of hA, fun l1 H2 s2 nl1 e1 => ?_⟩
    refine ⟨_, rfl, b, tps dB, rfl, rwh_of (hB.tf (same_tf s2)), fun l2 H3 s3 nl2 e2 => ⟨(show 2 ≤ sizeLine by decide), fun L nL => ?_⟩⟩
    have tL := new_same (o := .lst [V.ref l1, V.ref l2]) nL
    have e1' : H2 l1 = some (.lst ((sms dA).map V.int)) := by rw [e1]; simp [sms, tps]
    have e2' : H3 l2 = some (.lst ((sms dB).map V.int)) := by rw [e2]; simp [sms, tps]
    have f1 := tL _ _ (s3 _ _ e1')
    have f2 := tL _ _ e2'
    have f3 : (upd H3 L (.lst [V.ref l1, V.ref l2])) L = some (.lst [V.ref l1, V.ref l2]) := upd_same
    have s4 := (s2.trans s3).trans tL
    generalize upd H3 L (.lst [V.ref l1, V.ref l2]) = H4 at f1 f2 f3 s4 ⊢
    have lenA : (sms dA).length = n + 1 := by rw [sms_len, hn]
    have lenB : (sms dB).length = n + 1 := by rw [sms_len, ← hAB, hn]
    have hn1 : dA.length - 1 = n := by omega
    have hA4 := hA.tf (same_tf s4)
    have hB4 := hB.tf (same_tf s4)
    refine ⟨_, rfl, L, _, _, _, rfl, rfl, SqL.of f3, atI_nat (j := 0) rfl, _, rfl, l1, _, _, _, rfl, rfl, SqL.of f1, atI_endI lenA, _, rfl, L, _, _, _, rfl, rfl, SqL.of f3, atI_nat (j := 1) rfl, _, rfl, l2, _, _, _, rfl, rfl, SqL.of f2, atI_endI lenB, rfl, _, rfl, ite2 (fun z => ?_) (fun z => ?_)⟩
    · have z : V.int ((sms dA).getD n 0) = V.int ((sms dB).getD n 0) := of_decide_eq_true z
      injection z with z
      exact k .non H4 s4 (.inl ⟨by rw [hn1]; exact z, rfl⟩)
    · have z : (sms dA).getD n 0 ≠ (sms dB).getD n 0 := fun y => z (decide_eq_true (by rw [y]))
      have e0 : (us.length : Int) - 1 = (n : Int) := by omega
      refine ⟨_, rfl, _, _, rfl, .inr hA4.sq, _, _, rfl, rfl, _, _, _, rfl, ?_⟩
      dsimp only
      rw [e0]
      refine ⟨_, rfl, _, _, rfl, .inr hA4.sq, (us.length : Int), rfl, by omega, by omega, ?_⟩
      rw [Int.toNat_natCast]
      refine for_it (walk_range (lo := 0) (n := us.length)) (fun i σ H' => ∃ (v6 v7 : Option V) (b' e c : Nat), σ = [some (.ref a), some (.ref b), some (.ref L), some (.int (b' : Int)), some (.int (e : Int)), some (.int (c : Int)), v6, v7, none] ∧ itr (tkf (dif (sms dA) (sms dB))) i (0, n, 0) = (b', e, c) ∧ H' = H4)
        ⟨none, none, 0, n, 0, rfl, rfl, rfl⟩ (fun _ _ _ _ _ => trivial) (fun i x σ H5 H6 hi h y => ?_) (fun σ H5 h => ?_)
      · obtain ⟨v6, v7, b', e, c, rfl, hit, rfl⟩ := h
        obtain ⟨rfl, rfl⟩ := y
        have hle2 := tkf_le (P := dif (sms dA) (sms dB)) (n := n) i
        rw [hit] at hle2
        simp only at hle2
        have hst : itr (tkf (dif (sms dA) (sms dB))) (i + 1) (0, n, 0) = tkf (dif (sms dA) (sms dB)) (b', e, c) := by rw [← hit]; rfl
        refine ⟨_, rfl, _, rfl, _, _, rfl, rfl, _, rfl, ite2 (fun z => ?_) (fun z => ?_)⟩
        · have z : (b' : Int) < (e : Int) := of_decide_eq_true z
          have hbe : b' < e := by omega
          have hW : CDivW ((b' : Int) + (e : Int)) 2 := wide_div (b := 20) (by decide) (by decide) (by decide) (by decide)
          refine ⟨_, rfl, _, rfl, _, _, rfl, rfl, _, _, rfl, rfl, hW, _, rfl, _, _, rfl, rfl, _, _, rfl, ?_⟩
          dsimp only
          rw [half_div]
          obtain ⟨mid, hmid⟩ : ∃ mid, mid = (b' + e) / 2 := ⟨_, rfl⟩
          rw [← hmid]
          refine ⟨_, rfl, L, _, _, _, rfl, rfl, SqL.of f3, atI_nat (j := 0) rfl, _, rfl, l1, _, _, _, rfl, rfl, SqL.of f1, atI_nat (row_at (b := mid) (by omega)), _, rfl, L, _, _, _, rfl, rfl, SqL.of f3, atI_nat (j := 1) rfl, _, rfl, l2, _, _, _, rfl, rfl, SqL.of f2, atI_nat (row_at (b := mid) (by omega)), rfl, _, rfl, ite2 (fun y => ?_) (fun y => ?_)⟩
          · have y : V.int ((sms dA).getD mid 0) = V.int ((sms dB).getD mid 0) := of_decide_eq_true y
            injection y with y
            have hd : dif (sms dA) (sms dB) ((b' + e) / 2) = false := by
              rw [← hmid]
              exact decide_eq_false fun q => q y
            refine ⟨_, rfl, _, _, rfl, rfl, some (.int (0 + (i : Nat))), some (.int (mid : Int)), mid + 1, e, c + 1, rfl, ?_, rfl⟩
            rw [hst, tk_no hbe hd, hmid]
          · have hd : dif (sms dA) (sms dB) ((b' + e) / 2) = true := by
              rw [← hmid]
              exact decide_eq_true fun q => y (decide_eq_true (by rw [q]))
            refine ⟨_, rfl, some (.int (0 + (i : Nat))), some (.int (mid : Int)), b', mid, c + 1, rfl, ?_, rfl⟩
            rw [hst, tk_yes hbe hd, hmid]
        · have z : ¬ (b' : Int) < (e : Int) := fun y => z (decide_eq_true y)
          refine ⟨some (.int (0 + (i : Nat))), v7, b', e, c, rfl, ?_, rfl⟩
          rw [hst]
          unfold tkf
          simp only
          rw [if_neg (by omega)]
      · obtain ⟨v6, v7, t, e, c, rfl, hit, rfl⟩ := h
        have hle2 := tkf_le (P := dif (sms dA) (sms dB)) (n := n) us.length
        rw [hit] at hle2
        simp only at hle2
        have hitn : itr (tkf (dif (sms dA) (sms dB))) n (0, n, 0) = (t, e, c) := (itr_same (tkf_fix (Nat.le_refl n)) (tkf_fix (n := n) (i := us.length) (by omega))).trans hit
        obtain ⟨c0, xs0, g0, w0⟩ := hA4.at_ 0 h0
        obtain ⟨c1, xs1, g1, w1⟩ := hA4.at_ t (by omega)
        obtain ⟨c2, xs2, g2, w2⟩ := hB4.at_ t (by omega)
        have hl0 := dpa_len w0.dp
        obtain ⟨N, hN⟩ : ∃ N, N = (dA.getD t []).length := ⟨_, rfl⟩
        have hN0 : xs0.length = N := by rw [hl0, hN, hsz t (by omega)]
        have hNB : N = (dB.getD t []).length := by rw [hN, hpr t (by omega)]
        have hNle := w1.len
        refine ⟨_, rfl, _, rfl, a, _, _, _, rfl, rfl, hA4.sq, atI_nat (j := 0) g0, _, _, rfl, .inr w0.sq, _, _, _, rfl, ?_⟩
        dsimp only
        rw [hN0]
        refine ⟨_, rfl, a, _, _, _, rfl, rfl, hA4.sq, atI_nat (j := 0) g0, _, _, rfl, .inr w0.sq, (N : Int), by rw [hN0], by omega, by omega, ?_⟩
        rw [Int.toNat_natCast]
        refine for_it (walk_range (lo := 0) (n := N)) (fun i σ H' => ∃ (v6 v7 : Option V) (b' e' c' : Nat), σ = [some (.ref a), some (.ref b), some (.ref L), some (.int (b' : Int)), some (.int (e' : Int)), some (.int ((c + c' : Nat) : Int)), v6, v7, some (.int (t : Int))] ∧ itr (clf (dfc (dA.getD t []) (dB.getD t []))) i (0, N, 0) = (b', e', c') ∧ Same H5 H')
          ⟨_, _, 0, N, 0, rfl, rfl, Same.refl _⟩ (fun _ _ _ _ _ => trivial) (fun i x σ H6 H7 hi h y => ?_) (fun σ H6 h => ?_)
        · obtain ⟨v6, v7, b', e', c', rfl, hit2, sm⟩ := h
          obtain ⟨rfl, rfl⟩ := y
          have hle3 := clf_le (P := dfc (dA.getD t []) (dB.getD t [])) (n := N) i
          rw [hit2] at hle3
          simp only at hle3
          have hst : itr (clf (dfc (dA.getD t []) (dB.getD t []))) (i + 1) (0, N, 0) = clf (dfc (dA.getD t []) (dB.getD t [])) (b', e', c') := by rw [← hit2]; rfl
          refine ⟨_, rfl, _, _, rfl, rfl, _, rfl, _, _, rfl, rfl, _, rfl, ite2 (fun z => ?_) (fun z => ?_)⟩
          · have z : (b' : Int) + 1 < (e' : Int) := of_decide_eq_true z
            have hbe : b' + 1 < e' := by omega
            have hW : CDivW ((b' : Int) + (e' : Int)) 2 := wide_div (b := 20) (by decide) (by decide) (by decide) (by decide)
            refine ⟨_, rfl, _, rfl, _, _, rfl, rfl, _, _, rfl, rfl, hW, _, rfl, _, _, rfl, rfl, _, _, rfl, ?_⟩
            dsimp only
            rw [half_div]
            obtain ⟨mid, hmid⟩ : ∃ mid, mid = (b' + e') / 2 := ⟨_, rfl⟩
            rw [← hmid]
            refine ⟨_, rfl, _, rfl, a, _, _, _, rfl, rfl, (same_tf sm).sq hA4.sq, atI_nat g1, _, rfl, _, rfl, _, rfl, _, rfl, slice_ok (w1.tf (same_tf sm)) (by omega) (by omega) fun v1 Ha sa d1 => ?_⟩
            refine ⟨v1, _, rfl, d1, smok_slc w1.len w1.nl w1.sm, fun Hb sb => ?_⟩
            have sab := (sm.trans sa).trans sb
            refine ⟨_, rfl, _, rfl, b, _, _, _, rfl, rfl, (same_tf sab).sq hB4.sq, atI_nat g2, _, rfl, _, rfl, _, rfl, _, rfl, slice_ok (w2.tf (same_tf sab)) (by omega) (by omega) fun v3 Hc sc d3 => ?_⟩
            refine ⟨v3, _, rfl, d3, smok_slc w2.len w2.nl w2.sm, fun Hd sd => ?_⟩
            have sad := (sab.trans sc).trans sd
            refine ⟨rfl, _, rfl, ite2 (fun y => ?_) (fun y => ?_)⟩
            · have y : V.int _ = V.int _ := of_decide_eq_true y
              injection y with y
              have hd : dfc (dA.getD t []) (dB.getD t []) b' ((b' + e') / 2) = false := by
                rw [← hmid]
                exact decide_eq_false fun q => q y
              refine ⟨_, rfl, some (.int (0 + (i : Nat))), some (.int (mid : Int)), mid, e', c' + 1, rfl, ?_, sad⟩
              rw [hst, cl_no hbe hd, hmid]
            · have hd : dfc (dA.getD t []) (dB.getD t []) b' ((b' + e') / 2) = true := by
                rw [← hmid]
                exact decide_eq_true fun q => y (decide_eq_true (by rw [q]))
              refine ⟨_, rfl, some (.int (0 + (i : Nat))), some (.int (mid : Int)), b', mid, c' + 1, rfl, ?_, sad⟩
              rw [hst, cl_yes hbe hd, hmid]
          · have z : ¬ (b' : Int) + 1 < (e' : Int) := fun y => z (decide_eq_true y)
            refine ⟨some (.int (0 + (i : Nat))), v7, b', e', c', rfl, ?_, sm⟩
            rw [hst]
            unfold clf
            simp only
            rw [if_neg (by omega)]
        · obtain ⟨v6, v7, u, e', c', rfl, hit2, sm⟩ := h
          refine ⟨_, rfl, _, rfl, _, rfl, (show 3 ≤ sizeLine by decide), fun p np => ?_⟩
          exact k (.ref p) _ ((s4.trans sm).trans (new_same np)) (.inr ⟨by rw [hn1]; exact z, p, t, e, c, u, e', c', rfl, by rw [hn1]; exact hitn, by rw [← hN]; exact hit2, upd_same⟩)
end
end K44
set_option maxRecDepth 100000
set_option maxHeartbeats 4000000
/-! The law's draws. -/
namespace K44
open PySem PySem.Spec PyProof.Rows L2 KF KD
def CPowW (i j : Int) : Prop := 0 ≤ j ∧ j ≤ 1000 ∧ i.natAbs < 2 ^ 1000
theorem op_powW {X : Cx} : OpR X (binaryOp .Pow) (rI CPowW fun i j => .int (i ^ j.toNat)) := opI fun i j _ _ _ _ _ hc q => by
  refine PyProof.Rows.pow_int hc.1 ?_ q
  have hb : Builtin.Int.intBits i ≤ 1000 := by
    have h := PySem.Flt.log2_lt_of (by decide) hc.2.2
    unfold Builtin.Int.intBits
    split <;> omega
  have h1 : (Builtin.Int.intBits i : Int) ≤ 1000 := by omega
  have h2 := Int.mul_le_mul h1 hc.2.1 hc.1 (by decide)
  exact Int.le_trans h2 (by decide)
/-- a row of draws at d, good for n more -/
def Dk (H : Hp) (d : Addr) (n : Nat) : Prop := ∃ r m c : Int, H d = some (.lst [.int r, .int m, .int c]) ∧ 0 ≤ m ∧ m < 100000000000000000000000000000000000000000 ∧ 0 ≤ c ∧ c + n ≤ 1000000000000
theorem Dk.le {H : Hp} {d : Addr} {n k : Nat} (h : Dk H d n) (hk : k ≤ n) : Dk H d k := by
  obtain ⟨r, m, c, h0, h1, h2, h3, h4⟩ := h
  exact ⟨r, m, c, h0, h1, h2, h3, by omega⟩
theorem Dk.lst {H : Hp} {d : Addr} {n : Nat} (h : Dk H d n) : ∃ xs, H d = some (.lst xs) := by
  obtain ⟨r, m, c, h0, _⟩ := h
  exact ⟨_, h0⟩
theorem Dk.same {H H' : Hp} {d : Addr} {n : Nat} (h : Dk H d n) (e : Same H H') : Dk H' d n := by
  obtain ⟨r, m, c, h0, h1⟩ := h
  exact ⟨r, m, c, e _ _ h0, h1⟩
section
variable {P : Program} {w : World} {K : PySem.W.Frag} {mg : Str → Option Value} {base : Heap}
def spDeck (K : PySem.W.Frag) : Sp := fun vs H Q _ => ∃ (a : Addr) (ns : List Int) (k : Nat), vs = [.ref a, .int (k : Int)] ∧ SqL K H a (ns.map V.int) ∧ k ≤ 100 ∧ ∀ l H', Same H H' → H l = none → Dk H' l 900000000000 → Q (.ref l) H'
theorem scD : FnScope ["script", "k", "cell", "mixed"] ["script", "k"] (defScope s_law_deck) := ⟨rfl, rfl, rfl, by decide +kernel, rfl, by decide +kernel, by decide +kernel⟩
theorem ok_law_deck (T : Txt K w mg) : FnOk P w K mg base CX0 1 (He.fAd K ("_law_deck", none)) (fdAt K (He.fAd K ("_law_deck", none))) ["script", "k"] (spDeck K) := by
  refine T.F_law_deck.ok scD (fun vs H Q E h => ?_) (fun cdv A outer s H vs Q E hr h => ?_)
  · obtain ⟨a, ns, k, rfl, _⟩ := h
    rfl
  · obtain ⟨a, ns, k, rfl, hS, hk, kk⟩ := h
    refine ⟨_, PSs.nox (pss_cons (ps_set (i := 2) scD.nd rfl (Or.inl rfl) (pe_ifExp (pt_cmpR op_lt (pv 1) (pe_callB (r := Evl.rLenS K) call_len_seq (by rfl) T.n_len PyProof.Rows.Boot.«len» (pa_cons (pv 0) pa_nil)) (nomark _)) (pe_ix (r := rIxL K) ix_list (pv 0) (pv 1) (fun _ _ => rfl)) (pe_op op_add (pe_op op_mulW pe_int (pv 1)) pe_int)))
      (pss_cons (ps_set (i := 3) scD.nd rfl (Or.inl rfl) (pe_op op_add (pe_op op_add (pe_op op_mod (pe_callTy call_int1 (by rfl) T.n_int PyProof.Rows.Boot.«int» (pa_cons (pv 2) pa_nil)) (pe_op op_pow pe_int pe_int)) (pe_op op_mulW pe_int (pv 1))) pe_int))
      (pss_one (ps_ret (pe_lst (pa_cons (pe_ifExp (pt_cmpR op_ge (pv 2) (pe_op op_pow pe_int pe_int) (nomark _)) (pe_op op_sub (pv 2) (pe_op op_pow pe_int pe_int)) pe_int) (pa_cons (pv 3) (pa_cons pe_int pa_nil)))))))), ?_⟩
    have fin : ∀ (r z : Int) (l : Addr), H l = none → Q (.ref l) (upd H l (.lst [.int r, .int (z % 10 ^ (40 : Int).toNat + 65537 * (k : Int) + 11), .int 0])) := fun r z l n => by
      have e0 : (10 : Int) ^ (40 : Int).toNat = 10000000000000000000000000000000000000000 := by decide
      have e1 := Int.emod_nonneg z (show (10000000000000000000000000000000000000000 : Int) ≠ 0 by decide)
      have e2 := Int.emod_lt_of_pos z (show (0 : Int) < 10000000000000000000000000000000000000000 by decide)
      rw [e0]
      exact kk l _ (fun b o e => by rw [upd_ne (ne_of_none e n)]; exact e) n ⟨r, _, _, upd_same, by omega, by omega, by omega, by omega⟩
    have wm : ∀ c : Int, 0 ≤ c → c < 1048576 → CMulW c (k : Int) := fun c h0 h1 => wide_mul (a := 40) (b := 20) (small_ab h0 (by rw [pow40]; omega)) (small_ab (by omega) (by rw [pow20]; omega)) (by decide) (by decide) (by decide)
    refine ⟨_, rfl, _, rfl, a, _, rfl, .inl hS, _, _, rfl, rfl, _, rfl, ite2 (fun z => ?_) (fun z => ?_)⟩
    · have hk2 := of_decide_eq_true z
      have hk3 : k < ns.length := by
        rw [List.length_map] at hk2
        omega
      refine ⟨_, rfl, _, rfl, a, _, _, _, rfl, rfl, hS, atI_nat (v := .int ns[k]) (by rw [List.getElem?_map, List.getElem?_eq_getElem hk3]; rfl), ?_⟩
      refine ⟨_, rfl, .inl ⟨_, rfl, _, _, rfl, rfl, ⟨by decide, by decide, by decide⟩, _, _, rfl, rfl, (show (0 : Int) < 10 ^ (40 : Int).toNat by decide), _, rfl, _, _, rfl, rfl, wm _ (by decide) (by decide), _, _, rfl, rfl, _, _, rfl, rfl, ?_⟩⟩
      refine ⟨_, rfl, _, _, rfl, rfl, ⟨by decide, by decide, by decide⟩, _, _, rfl, rfl, _, rfl, ite2 (fun z => ?_) (fun z => ?_)⟩
      · exact ⟨_, rfl, _, _, rfl, rfl, ⟨by decide, by decide, by decide⟩, _, _, rfl, rfl, _, rfl, (show 3 ≤ sizeLine by decide), fun l n => fin _ _ l n⟩
      · exact ⟨_, rfl, (show 3 ≤ sizeLine by decide), fun l n => fin _ _ l n⟩
    · refine ⟨_, rfl, _, _, rfl, rfl, wm _ (by decide) (by decide), _, _, rfl, rfl, ?_⟩
      refine ⟨_, rfl, .inl ⟨_, rfl, _, _, rfl, rfl, ⟨by decide, by decide, by decide⟩, _, _, rfl, rfl, (show (0 : Int) < 10 ^ (40 : Int).toNat by decide), _, rfl, _, _, rfl, rfl, wm _ (by decide) (by decide), _, _, rfl, rfl, _, _, rfl, rfl, ?_⟩⟩
      refine ⟨_, rfl, _, _, rfl, rfl, ⟨by decide, by decide, by decide⟩, _, _, rfl, rfl, _, rfl, ite2 (fun z => ?_) (fun z => ?_)⟩
      · exact ⟨_, rfl, _, _, rfl, rfl, ⟨by decide, by decide, by decide⟩, _, _, rfl, rfl, _, rfl, (show 3 ≤ sizeLine by decide), fun l n => fin _ _ l n⟩
      · exact ⟨_, rfl, (show 3 ≤ sizeLine by decide), fun l n => fin _ _ l n⟩
def spTake : Sp := fun vs H Q _ => ∃ (d : Addr) (m : Int) (n : Nat), vs = [.ref d, .int m] ∧ 0 < m ∧ m < 1267650600228229401496703205376 ∧ Dk H d (n + 1) ∧ ∀ (x : Int) H', 0 ≤ x → x < m → Frm d H H' → Dk H' d n → Q (.int x) H'
theorem scT : FnScope ["deck", "many", "found", "number"] ["deck", "many"] (defScope s_law_take) := ⟨rfl, rfl, rfl, by decide +kernel, rfl, by decide +kernel, by decide +kernel⟩
theorem ok_law_take (T : Txt K w mg) : FnOk P w K mg base CX0 1 (He.fAd K ("_law_take", none)) (fdAt K (He.fAd K ("_law_take", none))) ["deck", "many"] spTake := by
  refine T.F_law_take.ok scT (fun vs H Q E h => ?_) (fun cdv A outer s H vs Q E hr h => ?_)
  · obtain ⟨d, m, n, rfl, _⟩ := h
    rfl
  · obtain ⟨d, m, n, rfl, hm0, hm1, ⟨r, mm, c, hd, a1, a2, a3, a4⟩, k⟩ := h
    refine ⟨_, PSs.nox (pss_cons (ps_if (pt_cmpR op_gt (pe_ix (r := rIxL K) ix_list (pv 0) pe_int (fun _ _ => rfl)) pe_int (nomark _)) (pss_cons (ps_set (i := 2) scT.nd rfl (Or.inl rfl) (pe_op op_mod (pe_callTy call_int1 (by rfl) T.n_int PyProof.Rows.Boot.«int» (pa_cons (pe_ix (r := rIxL K) ix_list (pv 0) pe_int (fun _ _ => rfl)) pa_nil)) (pv 1)))
      (pss_cons (ps_asg (pe_op op_fdivW (pe_ix (r := rIxL K) ix_list (pv 0) pe_int (fun _ _ => rfl)) (pv 1)) (pg_sub (pv 0) pe_int set_list))
      (pss_one (ps_ret (pv 2))))) pss_nil)
      (pss_cons (ps_asg (pe_op op_add (pe_ix (r := rIxL K) ix_list (pv 0) pe_int (fun _ _ => rfl)) pe_int) (pg_sub (pv 0) pe_int set_list))
      (pss_cons (ps_set (i := 3) scT.nd rfl (Or.inl rfl) (pe_op op_mod (pe_callTy call_int1 (by rfl) T.n_int PyProof.Rows.Boot.«int» (pa_cons (pe_op op_powW (pe_op op_add (pe_ix (r := rIxL K) ix_list (pv 0) pe_int (fun _ _ => rfl)) (pe_op op_mulW pe_int (pe_ix (r := rIxL K) ix_list (pv 0) pe_int (fun _ _ => rfl)))) pe_int) pa_nil)) pe_int))
      (pss_cons (ps_set (i := 3) scT.nd rfl (Or.inl rfl) (pe_op op_mod (pe_callTy call_int1 (by rfl) T.n_int PyProof.Rows.Boot.«int» (pa_cons (pe_op op_powW (pe_op op_add (pv 3) (pe_op op_mulW pe_int (pe_ix (r := rIxL K) ix_list (pv 0) pe_int (fun _ _ => rfl)))) pe_int) pa_nil)) pe_int))
      (pss_one (ps_ret (pe_op op_mod (pe_callTy call_int1 (by rfl) T.n_int PyProof.Rows.Boot.«int» (pa_cons (pe_op op_fdivW (pv 3) pe_int) pa_nil)) (pv 1)))))))), ?_⟩
    have hW : CDivW 0 m := wide_div hm0 (small_ab (n := 100) (by omega) (by rw [show (2 : Int) ^ 100 = 1267650600228229401496703205376 by decide]; omega)) (by decide) (by decide)
    refine ⟨_, rfl, _, _, _, _, rfl, rfl, SqL.of hd, at_of (j := 0) rfl rfl, _, _, rfl, rfl, _, rfl, ite2 (fun z => ?_) (fun z => ?_)⟩
    · refine ⟨_, rfl, _, _, _, _, rfl, rfl, SqL.of hd, at_of (j := 0) rfl rfl, .inl ⟨_, rfl, _, rfl, _, _, rfl, rfl, hm0, ?_⟩⟩
      refine ⟨_, rfl, _, _, _, _, rfl, rfl, SqL.of hd, at_of (j := 0) rfl rfl, _, rfl, _, _, rfl, rfl, hW, _, rfl, _, _, _, 0, rfl, rfl, hd, rfl, _, rfl, ?_⟩
      exact k _ _ (Int.emod_nonneg _ (by omega)) (Int.emod_lt_of_pos _ hm0) Frm.of_upd ⟨_, mm, c, upd_same, a1, a2, a3, by omega⟩
    · have hd1 : (upd H d (.lst [.int r, .int mm, .int (c + 1)])) d = some (.lst [.int r, .int mm, .int (c + 1)]) := upd_same
      refine ⟨_, rfl, _, _, _, _, rfl, rfl, SqL.of hd, at_of (j := 2) rfl rfl, _, _, rfl, rfl, _, rfl, _, _, _, 2, rfl, rfl, hd, rfl, ?_⟩
      have b1 : CMulW 7919 (c + 1) := wide_mul (a := 40) (b := 40) (by decide) (small_ab (by omega) (by rw [pow40]; omega)) (by decide) (by decide) (by decide)
      have b2 : CMulW 31 (c + 1) := wide_mul (a := 40) (b := 40) (by decide) (small_ab (by omega) (by rw [pow40]; omega)) (by decide) (by decide) (by decide)
      have x0a : (mm + 7919 * (c + 1)).natAbs < 2 ^ 1000 := Nat.lt_of_lt_of_le (small_ab (n := 140) (i := mm + 7919 * (c + 1)) (by omega) (by rw [show (2 : Int) ^ 140 = 1393796574908163946345982392040522594123776 by decide]; omega)) (Nat.pow_le_pow_right (by decide) (by decide))
      refine ⟨_, rfl, _, _, _, _, rfl, rfl, SqL.of hd1, at_of (j := 1) rfl rfl, _, rfl, _, _, _, _, rfl, rfl, SqL.of hd1, at_of (j := 2) rfl rfl, _, _, rfl, rfl, b1, _, _, rfl, rfl, ?_⟩
      refine ⟨_, _, rfl, rfl, ⟨by decide, by decide, x0a⟩, .inl ⟨_, rfl, _, _, rfl, rfl, (show (0 : Int) < 2305843009213693951 by decide), ?_⟩⟩
      obtain ⟨x1, hx1⟩ : ∃ x1, x1 = (mm + 7919 * (c + 1)) ^ (3 : Int).toNat % 2305843009213693951 := ⟨_, rfl⟩
      have y1 := Int.emod_nonneg ((mm + 7919 * (c + 1)) ^ (3 : Int).toNat) (show (2305843009213693951 : Int) ≠ 0 by decide)
      have y2 := Int.emod_lt_of_pos ((mm + 7919 * (c + 1)) ^ (3 : Int).toNat) (show (0 : Int) < 2305843009213693951 by decide)
      show L2.tSeq _ _ _ (List.set _ 3 (some (V.int ((mm + 7919 * (c + 1)) ^ (3 : Int).toNat % 2305843009213693951)))) _
      rw [← hx1] at y1 y2 ⊢
      have x1a : (x1 + 31 * (c + 1)).natAbs < 2 ^ 1000 := Nat.lt_of_lt_of_le (small_ab (n := 120) (i := x1 + 31 * (c + 1)) (by omega) (by rw [show (2 : Int) ^ 120 = 1329227995784915872903807060280344576 by decide]; omega)) (Nat.pow_le_pow_right (by decide) (by decide))
      refine ⟨_, rfl, _, rfl, _, _, _, _, rfl, rfl, SqL.of hd1, at_of (j := 2) rfl rfl, _, _, rfl, rfl, b2, _, _, rfl, rfl, ?_⟩
      refine ⟨_, _, rfl, rfl, ⟨by decide, by decide, x1a⟩, .inl ⟨_, rfl, _, _, rfl, rfl, (show (0 : Int) < 1000000000000000003 by decide), ?_⟩⟩
      refine ⟨_, rfl, _, _, rfl, rfl, wide_div (b := 30) (by decide) (by decide) (by decide) (by decide), .inl ⟨_, rfl, _, rfl, _, _, rfl, rfl, hm0, ?_⟩⟩
      exact k _ _ (Int.emod_nonneg _ (by omega)) (Int.emod_lt_of_pos _ hm0) Frm.of_upd ⟨r, mm, c + 1, upd_same, a1, a2, by omega, by omega⟩
end
end K44
set_option maxRecDepth 100000
set_option maxHeartbeats 4000000
/-! Equal, and of one kind. -/
namespace K44
open PySem PySem.Spec PyProof.Rows L2 KF KD
def AlOk : Nat → PyData → Prop
  | 0, d => match d with
    | .none => True
    | .int _ => True
    | _ => False
  | n + 1, d => match d with
    | .none => True
    | .int _ => True
    | .tuple ds => ds.length ≤ 1100 ∧ NLs ds ∧ ∀ e ∈ ds, AlOk n e
    | _ => False
def spSame (K : PySem.W.Frag) (n : Nat) : Sp := fun vs H Q _ => ∃ (v1 v2 : V) (d : PyData), vs = [v1, v2] ∧ Dp K H v1 d ∧ Dp K H v2 d ∧ AlOk n d ∧ ∀ H', Same H H' → Q (.bl true) H'
def spSm (K : PySem.W.Frag) : Nat → Sp
  | 0 => fun _ _ _ _ => False
  | n + 1 => spSame K n
section
variable {P : Program} {w : World} {K : PySem.W.Frag} {mg : Str → Option Value} {base : Heap}
theorem scSm : FnScope ["found", "due", "k"] ["found", "due"] (defScope s_law_same) := ⟨rfl, rfl, rfl, by decide +kernel, rfl, by decide +kernel, by decide +kernel⟩
theorem ok_law_same (T : Txt K w mg) : ∀ n : Nat, FnOk P w K mg base CX0 n (He.fAd K ("_law_same", none)) (fdAt K (He.fAd K ("_law_same", none))) ["found", "due"] (spSm K n)
  | 0 => ⟨fun _ _ _ _ z => z.elim, fun _ _ _ _ _ _ _ _ _ _ _ _ _ z => z.elim⟩
  | n + 1 => by
    have G := ok_law_same T n
    refine T.F_law_same.ok scSm (fun vs H Q E h => ?_) (fun cdv A outer s H vs Q E hr h => ?_)
    · obtain ⟨v1, v2, d, rfl, _⟩ := h
      rfl
    · obtain ⟨v1, v2, d, rfl, h1, h2, hp, k⟩ := h
      refine ⟨_, PSs.nox (pss_cons (ps_if (pt_val (pe_callB (r := rIsi K) call_isi (by rfl) T.n_isinstance PyProof.Rows.Boot.«isinstance» (pa_cons (pv 1) (pa_cons (pe_bltn (v := .ty "tuple") (by rfl) T.n_tuple PyProof.Rows.Boot.«tuple» rfl) pa_nil)))) (pss_cons (ps_if (PW.pt (pw_or (pt_not (pt_val (pe_callB (r := rIsi K) call_isi (by rfl) T.n_isinstance PyProof.Rows.Boot.«isinstance» (pa_cons (pv 0) (pa_cons (pe_bltn (v := .ty "tuple") (by rfl) T.n_tuple PyProof.Rows.Boot.«tuple» rfl) pa_nil))))) (pw_or1 (pt_cmpR op_ne (pe_callB (r := Evl.rLenS K) call_len_seq (by rfl) T.n_len PyProof.Rows.Boot.«len» (pa_cons (pv 0) pa_nil)) (pe_callB (r := Evl.rLenS K) call_len_seq (by rfl) T.n_len PyProof.Rows.Boot.«len» (pa_cons (pv 1) pa_nil)) (nomark _))))) (pss_one (ps_ret pe_bl)) pss_nil)
      (pss_one (ps_ret (pe_callB (cr_all rfl) (by rfl) T.n_all PyProof.Rows.Boot.«all» (pa_cons (pe_lc (own := [("k", 2)]) (g := gName 2) (tt := tYes) (by rfl) scSm.nd (pi_range1 (by rfl) T.n_range (pa_cons (pe_callB (r := Evl.rLenS K) call_len_seq (by rfl) T.n_len PyProof.Rows.Boot.«len» (pa_cons (pv 1) pa_nil)) pa_nil)) (blkOk_by (own := [("k", 2)]) (N := ["found", "due", "k"]) (sc := defScope s_law_same) (by decide +kernel)) (fun _ _ _ _ _ => pg_name (i := 2) scSm.nd rfl (Or.inl rfl)) (fun _ _ _ _ _ => pts_nil) (fun _ _ _ _ _ => (pe_call G (hr.mono (by omega)) (by rfl) T.g_law_same (T.F_law_same).kp T.b_law_same .nil pass0 (pa_cons (pe_ix (r := rIxT K) ix_tup (pv 0) (pv 2) (fun _ _ => rfl)) (pa_cons (pe_ix (r := rIxT K) ix_tup (pv 1) (pv 2) (fun _ _ => rfl)) pa_nil))))) pa_nil))))) pss_nil)
      (pss_one (ps_ret (pe_and (pe_cmpR op_eq (pv 0) (pv 1) (nomark _)) (pe_one (pe_cmpR op_eq (pe_callB (r := rIsi K) call_isi (by rfl) T.n_isinstance PyProof.Rows.Boot.«isinstance» (pa_cons (pv 0) (pa_cons (pe_bltn (v := .ty "bool") (by rfl) T.n_bool PyProof.Rows.Boot.«bool» rfl) pa_nil))) (pe_callB (r := rIsi K) call_isi (by rfl) T.n_isinstance PyProof.Rows.Boot.«isinstance» (pa_cons (pv 1) (pa_cons (pe_bltn (v := .ty "bool") (by rfl) T.n_bool PyProof.Rows.Boot.«bool» rfl) pa_nil))) (nomark _))))))), ?_⟩
      cases d with
      | none =>
        cases h1
        cases h2
        refine ⟨_, rfl, _, _, _, _, _, rfl, .ty "tuple", .base .non, kit_ty (r := false) (by decide +kernel), _, rfl, iteF ?_⟩
        refine ⟨_, rfl, _, rfl, rfl, ?_⟩
        rw [decide_eq_true (rfl : V.non = V.non)]
        refine ⟨_, rfl, iteT ?_⟩
        refine ⟨_, rfl, _, _, _, _, _, rfl, .ty "bool", .base .non, kit_ty (r := false) (by decide +kernel), _, rfl, _, _, _, _, _, rfl, .ty "bool", .base .non, kit_ty (r := false) (by decide +kernel), rfl, ?_⟩
        exact k _ (Same.refl _)
      | bool c => cases n <;> exact hp.elim
      | str x => cases n <;> exact hp.elim
      | int i =>
        cases h1
        cases h2
        refine ⟨_, rfl, _, _, _, _, _, rfl, .ty "tuple", .base (.int i), kit_ty (r := false) (by decide +kernel), _, rfl, iteF ?_⟩
        refine ⟨_, rfl, _, rfl, rfl, ?_⟩
        rw [decide_eq_true (rfl : V.int i = V.int i)]
        refine ⟨_, rfl, iteT ?_⟩
        refine ⟨_, rfl, _, _, _, _, _, rfl, .ty "bool", .base (.int i), kit_ty (r := false) (by decide +kernel), _, rfl, _, _, _, _, _, rfl, .ty "bool", .base (.int i), kit_ty (r := false) (by decide +kernel), rfl, ?_⟩
        exact k _ (Same.refl _)
      | list ds => cases n <;> exact hp.elim
      | dict ds => cases n <;> exact hp.elim
      | tuple ds =>
        cases n with
        | zero => exact hp.elim
        | succ m =>
          cases h1 with
          | @tup p xs _ q1 a1 =>
            cases h2 with
            | @tup q ys _ q2 a2 =>
              have l1 := dpa_len a1
              have l2 := dpa_len a2
              have hlen : ds.length ≤ 1100 := hp.1
              refine ⟨_, rfl, _, _, _, _, _, rfl, .ty "tuple", ty_tup q2, kit_ty (r := true) (by decide +kernel), _, rfl, iteT ?_⟩
              refine ⟨_, rfl, _, _, _, _, _, rfl, .ty "tuple", ty_tup q1, kit_ty (r := true) (by decide +kernel), ?_⟩
              refine ⟨_, rfl, ?_⟩
              refine iteF (A := _) ?_
              refine ⟨_, rfl, _, _, rfl, .inr q1, _, rfl, _, _, rfl, .inr q2, rfl, _, rfl, ?_⟩
              rw [l1, l2, decide_eq_true (rfl : V.int (ds.length : Int) = V.int (ds.length : Int))]
              refine iteF ?_
              refine ⟨_, rfl, q, ys, rfl, .inr q2, (ys.length : Int), rfl, by omega, by omega, fun D hD => ?_⟩
              have hN : ((ys.length : Int)).toNat = ds.length := by omega
              rw [hN]
              refine lc_range (lo := 0) (n := ds.length) (fun i H' => Same H H' ∧ H' D = some (.lst ((List.replicate i true).map V.bl))) ⟨new_same hD, upd_same⟩ (fun i H' hi hPv => ?_) (fun H' hPv => ?_)
              · obtain ⟨s1, hl⟩ := hPv
                have he : ds[i]? = some ds[i] := List.getElem?_eq_getElem hi
                obtain ⟨v1, e1, d1⟩ := dpa_get a1 he
                obtain ⟨v2, e2, d2⟩ := dpa_get a2 he
                have tf := same_tf s1
                have hr2 : AlOk m ds[i] := hp.2.2 _ (List.getElem_mem hi)
                have nl2 : NL ds[i] := nl_get' hp.2.1 hi
                refine ⟨rfl, ?_⟩
                dsimp only [tYes]
                rw [if_pos rfl]
                refine ⟨_, rfl, _, rfl, p, xs, _, v1, rfl, rfl, tf.sq q1, at_of (j := i) (by omega) e1, _, rfl, _, rfl, q, ys, _, v2, rfl, rfl, tf.sq q2, at_of (j := i) (by omega) e2, ?_⟩
                refine ⟨v1, v2, ds[i], rfl, dp_nl tf _ _ nl2 d1, dp_nl tf _ _ nl2 d2, hr2, fun H2 s2 => ?_⟩
                refine ⟨_, s2 _ _ hl, by rw [List.length_map, List.length_replicate]; exact Nat.lt_of_lt_of_le (show i < 1101 by omega) (by decide), fun b o z => ?_, ?_⟩
                · have hbD : b ≠ D := ne_of_none z hD
                  rw [upd_ne hbD]
                  exact s2 _ _ (s1 _ _ z)
                · rw [upd_same, List.replicate_succ', List.map_append]
                  rfl
              · refine ⟨D, _, rfl, SqL.of hPv.2, ?_⟩
                rw [show ∀ n, (List.replicate n true).all id = true by intro n; simp]
                exact k _ hPv.1
end
end K44
set_option maxRecDepth 100000
set_option maxHeartbeats 4000000
/-! Values, drawn. -/
namespace K44
open PySem PySem.Spec PyProof.Rows L2 KF KD
def cnt : Nat → Nat
  | 0 => 10
  | n + 1 => 10 + 5 * cnt n
theorem dpa_snoc {K : PySem.W.Frag} {H : Hp} {v : V} {d : PyData} : ∀ {vs : List V} {ds : List PyData}, DpAll K H vs ds → Dp K H v d → DpAll K H (vs ++ [v]) (ds ++ [d])
  | _, _, .nil, h => .cons h .nil
  | _, _, .cons a t, h => .cons a (dpa_snoc t h)
theorem nls_snoc {d : PyData} : ∀ {ds : List PyData}, NLs ds → NL d → NLs (ds ++ [d])
  | [], _, h => ⟨h, trivial⟩
  | _ :: _, h, g => ⟨h.1, nls_snoc h.2 g⟩
theorem Dk.ne {H : Hp} {d l : Addr} {n : Nat} (h : Dk H d n) (e : H l = none) : l ≠ d := fun z => by
  obtain ⟨r, m, c, h0, _⟩ := h
  rw [z, h0] at e
  cases e
theorem frm_new {d D : Addr} {H0 H' : Hp} {o : HO} (f : Frm d H0 H') (h : H0 D = none) : Frm d H0 (upd H' D o) := fun b u n z => by
  rw [upd_ne (ne_of_none z h)]
  exact f b u n z
section
variable {P : Program} {w : World} {K : PySem.W.Frag} {mg : Str → Option Value} {base : Heap}
def spLv (K : PySem.W.Frag) (m : Nat) : Sp := fun vs H Q _ => ∃ (d : Addr) (n : Nat), vs = [.ref d, .int (m : Int)] ∧ Dk H d (n + cnt m) ∧ ∀ v dd H', Frm d H H' → Dk H' d n → Dp K H' v dd → NL dd → SmOk m dd → Q v H'
def spLvm (K : PySem.W.Frag) : Nat → Sp
  | 0 => fun _ _ _ _ => False
  | n + 1 => fun vs H Q E => spLv K n vs H Q E
theorem scLv : FnScope ["deck", "deep", "choice", "number", "turn"] ["deck", "deep"] (defScope s_law_value) := ⟨rfl, rfl, rfl, by decide +kernel, rfl, by decide +kernel, by decide +kernel⟩
theorem ok_law_value (T : Txt K w mg) : ∀ n : Nat, FnOk P w K mg base CX0 (n + 1) (He.fAd K ("_law_value", none)) (fdAt K (He.fAd K ("_law_value", none))) ["deck", "deep"] (spLvm K n)
  | 0 => ⟨fun _ _ _ _ z => z.elim, fun _ _ _ _ _ _ _ _ _ _ _ _ _ z => z.elim⟩
  | n + 1 => by
    have G := ok_law_value T n
    refine T.F_law_value.ok scLv (fun vs H Q E h => ?_) (fun cdv A outer s H vs Q E hr h => ?_)
    · obtain ⟨d, N, rfl, _⟩ := h
      rfl
    · obtain ⟨d, N, rfl, hd, k⟩ := h
      refine ⟨_, PSs.nox (pss_cons (ps_par (i := 2) (j := 3) (by rfl) scLv.nd rfl rfl (by decide) rfl rfl (pa_cons (pe_call (ok_law_take T) (hr.mono (by omega)) (by rfl) T.g_law_take (T.F_law_take).kp T.b_law_take .nil pass0 (pa_cons (pv 0) (pa_cons pe_int pa_nil))) (pa_cons (pe_op op_sub (pe_call (ok_law_take T) (hr.mono (by omega)) (by rfl) T.g_law_take (T.F_law_take).kp T.b_law_take .nil pass0 (pa_cons (pv 0) (pa_cons (pe_op op_pow pe_int pe_int) pa_nil))) (pe_op op_pow pe_int pe_int)) pa_nil)) (by rfl))
      (pss_cons (ps_if (PW.pt (pw_or (pt_cmpR op_lt (pv 2) pe_int (nomark _)) (pw_or1 (pt_cmpR op_eq (pv 1) pe_int (nomark _))))) (pss_one (ps_ret (pe_ix (r := rIxL K) ix_list (pe_lst (pa_cons (pv 3) (pa_cons (pe_op op_sub (pe_op op_mod (pe_callTy call_int1 (by rfl) T.n_int PyProof.Rows.Boot.«int» (pa_cons (pv 3) pa_nil)) pe_int) pe_int) (pa_cons pe_non pa_nil)))) (pe_call (ok_law_take T) (hr.mono (by omega)) (by rfl) T.g_law_take (T.F_law_take).kp T.b_law_take .nil pass0 (pa_cons (pv 0) (pa_cons pe_int pa_nil))) (fun _ _ => rfl)))) pss_nil)
      (pss_one (ps_ret (pe_callTy call_tuple_of (by rfl) T.n_tuple PyProof.Rows.Boot.«tuple» (pa_cons (pe_lc (own := [("turn", 4)]) (g := gName 4) (tt := tYes) (by rfl) scLv.nd (pi_range1 (by rfl) T.n_range (pa_cons (pe_call (ok_law_take T) (hr.mono (by omega)) (by rfl) T.g_law_take (T.F_law_take).kp T.b_law_take .nil pass0 (pa_cons (pv 0) (pa_cons pe_int pa_nil))) pa_nil)) (blkOk_by (own := [("turn", 4)]) (N := ["deck", "deep", "choice", "number", "turn"]) (sc := defScope s_law_value) (by decide +kernel)) (fun _ _ _ _ _ => pg_name (i := 4) scLv.nd rfl (Or.inl rfl)) (fun _ _ _ _ _ => pts_nil) (fun _ _ _ _ _ => (pe_call G (hr.mono (by omega)) (by rfl) T.g_law_value (T.F_law_value).kp T.b_law_value .nil pass0 (pa_cons (pv 0) (pa_cons (pe_op op_sub (pv 1) pe_int) pa_nil))))) pa_nil)))))), ?_⟩
      have hc : 10 ≤ cnt n := by cases n <;> simp [cnt]
      have e60 : (2 : Int) ^ (60 : Int).toNat = 1152921504606846976 := by decide
      have e61 : (2 : Int) ^ (61 : Int).toNat = 2305843009213693952 := by decide
      refine ⟨_, rfl, d, 5, N + cnt n - 1, rfl, by decide, by decide, hd.le (by omega), fun x1 Ha a0 a1 fa da => ?_⟩
      refine ⟨_, rfl, _, _, rfl, rfl, ⟨by decide, by decide, by decide⟩, d, _, N + cnt n - 2, rfl, (show (0 : Int) < 2 ^ (61 : Int).toNat by decide), (show (2 : Int) ^ (61 : Int).toNat < 1267650600228229401496703205376 by decide), da.le (by omega), fun x2 Hb b0 b1 fb db => ?_⟩
      refine ⟨_, _, rfl, rfl, ⟨by decide, by decide, by decide⟩, _, _, rfl, rfl, _, _, rfl, ?_⟩
      rw [e61] at b1
      have vals : ∀ x3 : Int, 0 ≤ x3 → x3 < 3 → ∀ Hc, ∃ v dd, atI [V.int (x2 - 2 ^ (60 : Int).toNat), V.int ((x2 - 2 ^ (60 : Int).toNat) % 2000 - 1000), V.non] x3 = some v ∧ Dp K Hc v dd ∧ NL dd ∧ SmOk n dd := fun x3 h0 h1 Hc => by
        have hx : x3 = 0 ∨ x3 = 1 ∨ x3 = 2 := by omega
        have big : ∀ z : Int, -1152921504606846976 ≤ z → z ≤ 2305843009213693952 → SmOk n (.int z) := fun z z0 z1 => by
          have : z.natAbs < 2 ^ 200 := Nat.lt_of_le_of_lt (show z.natAbs ≤ 2305843009213693952 by omega) (by decide)
          cases n <;> exact this
        rw [e60]
        rcases hx with rfl | rfl | rfl
        · exact ⟨_, _, rfl, .int _, trivial, big _ (by omega) (by omega)⟩
        · exact ⟨_, _, rfl, .int _, trivial, big _ (by omega) (by omega)⟩
        · exact ⟨_, .none, rfl, .non, trivial, by cases n <;> trivial⟩
      refine ⟨_, rfl, _, _, rfl, rfl, _, rfl, ite2 (fun z => ?_) (fun z => ?_)⟩
      · refine ⟨_, rfl, _, rfl, .inl ⟨_, rfl, _, _, rfl, rfl, (show (0 : Int) < 2000 by decide), _, _, rfl, rfl, (show 3 ≤ sizeLine by decide), fun p np => ?_⟩⟩
        have tp := new_same (o := .lst [V.int (x2 - 2 ^ (60 : Int).toNat), V.int ((x2 - 2 ^ (60 : Int).toNat) % 2000 - 1000), V.non]) np
        refine ⟨_, rfl, d, 3, N + cnt n - 3, rfl, by decide, by decide, (db.same tp).le (by omega), fun x3 Hc c0 c1 fc dc => ?_⟩
        have hp := fc p _ (db.ne np) upd_same
        obtain ⟨v, dd, hv, hdp, hnl, hsm⟩ := vals x3 c0 c1 Hc
        exact ⟨p, _, _, v, rfl, rfl, SqL.of hp, hv, k v dd Hc (((fa.trans fb).trans (Frm.of_same tp)).trans fc) (dc.le (by omega)) hdp hnl hsm⟩
      · refine ⟨_, rfl, rfl, _, rfl, ite2 (fun z => ?_) (fun z => ?_)⟩
        · refine ⟨_, rfl, _, rfl, .inl ⟨_, rfl, _, _, rfl, rfl, (show (0 : Int) < 2000 by decide), _, _, rfl, rfl, (show 3 ≤ sizeLine by decide), fun p np => ?_⟩⟩
          have tp := new_same (o := .lst [V.int (x2 - 2 ^ (60 : Int).toNat), V.int ((x2 - 2 ^ (60 : Int).toNat) % 2000 - 1000), V.non]) np
          refine ⟨_, rfl, d, 3, N + cnt n - 3, rfl, by decide, by decide, (db.same tp).le (by omega), fun x3 Hc c0 c1 fc dc => ?_⟩
          have hp := fc p _ (db.ne np) upd_same
          obtain ⟨v, dd, hv, hdp, hnl, hsm⟩ := vals x3 c0 c1 Hc
          exact ⟨p, _, _, v, rfl, rfl, SqL.of hp, hv, k v dd Hc (((fa.trans fb).trans (Frm.of_same tp)).trans fc) (dc.le (by omega)) hdp hnl hsm⟩
        · have z : n ≠ 0 := fun y => z (decide_eq_true (by rw [y]; rfl))
          obtain ⟨m, rfl⟩ : ∃ m, n = m + 1 := ⟨n - 1, by omega⟩
          have hcm : cnt (m + 1) = 10 + 5 * cnt m := rfl
          refine ⟨_, rfl, d, 5, N + 5 * cnt m, rfl, by decide, by decide, db.le (by omega), fun x3 Hc c0 c1 fc dc => ?_⟩
          refine ⟨_, rfl, by omega, by omega, fun D hD => ?_⟩
          obtain ⟨M, rfl⟩ := Int.eq_ofNat_of_zero_le c0
          rw [show ((M : Nat) : Int).toNat = M from Int.toNat_natCast M]
          have Dd := dc.ne hD
          refine lc_range (lo := 0) (n := M) (fun i H' => ∃ us dds, Frm d Hc H' ∧ Dk H' d (N + 5 * cnt m - i * cnt m) ∧ H' D = some (.lst us) ∧ DpAll K H' us dds ∧ NLs dds ∧ dds.length = i ∧ ∀ e ∈ dds, SmOk m e) ⟨[], [], frm_new (Frm.refl _ _) hD, (dc.same (new_same hD)).le (by omega), upd_same, .nil, trivial, rfl, fun _ q => (nomatch q)⟩ (fun i H' hi h => ?_) (fun H' h => ?_)
          · obtain ⟨us, dds, f1, dk1, hl, hda, hnl, hlen, hsm⟩ := h
            have hmul : (i + 1) * cnt m ≤ 5 * cnt m := Nat.mul_le_mul_right _ (by omega)
            have hsucc : (i + 1) * cnt m = i * cnt m + cnt m := Nat.succ_mul _ _
            have hul := dpa_len hda
            refine ⟨rfl, ?_⟩
            dsimp only [tYes]
            rw [if_pos rfl]
            refine ⟨_, rfl, _, rfl, _, _, rfl, rfl, d, N + 5 * cnt m - (i + 1) * cnt m, by
              show [V.ref d, V.int (((m + 1 : Nat) : Int) - 1)] = [V.ref d, V.int (m : Int)]
              rw [show ((m + 1 : Nat) : Int) - 1 = (m : Int) by omega], dk1.le (by omega), fun v dd Hx f2 dk2 dv nlv smv => ?_⟩
            obtain ⟨xs1, hx1⟩ := dk1.lst
            have hl2 := f2 _ _ Dd hl
            have tf := Frm.tf (d := D) (Frm.of_upd (o := .lst (us ++ [v]))) hl2
            refine ⟨us, hl2, Nat.lt_of_le_of_lt (show us.length ≤ 100 by omega) (by decide), us ++ [v], dds ++ [dd], frm_new (f1.trans f2) hD, ?_, upd_same, dpa_snoc (dpa_nl ((f2.tf hx1).trans tf) _ _ hnl hda) (dp_nl tf _ _ nlv dv), nls_snoc hnl nlv, by simp [hlen], fun e he => ?_⟩
            · obtain ⟨r, q, cc, h0, h1⟩ := dk2
              exact ⟨r, q, cc, by rw [upd_ne (Ne.symm Dd)]; exact h0, h1⟩
            · rcases List.mem_append.mp he with he | he
              · exact hsm e he
              · rw [List.mem_singleton] at he
                subst he
                exact smv
          · obtain ⟨us, dds, f1, dk1, hl, hda, hnl, hlen, hsm⟩ := h
            refine ⟨D, _, rfl, .inl ⟨SqL.of hl, fun t nt => ?_⟩⟩
            have tt := new_same (o := .tup us) nt
            have hmul : M * cnt m ≤ 5 * cnt m := Nat.mul_le_mul_right _ (by omega)
            exact k (.ref t) (.tuple dds) _ (((fa.trans fb).trans fc).trans (f1.trans (Frm.of_same tt))) ((dk1.same tt).le (by omega)) (.tup (SqT.of upd_same) (dpa_nl (same_tf tt) _ _ hnl hda)) hnl ⟨by omega, hnl, hsm⟩
end
end K44
set_option maxRecDepth 100000
set_option maxHeartbeats 4000000
/-! Floors, drawn. -/
namespace K44
open PySem PySem.Spec PyProof.Rows L2 KF KD
theorem foldl_size (x : Array Nat) : ∀ (n : Nat) (a : Array Nat), ((List.replicate n x).foldl (· ++ ·) a).size = a.size + n * x.size
  | 0, a => by simp
  | n + 1, a => by
    rw [List.replicate_succ, List.foldl_cons, foldl_size x n, Array.size_append, Nat.succ_mul]
    omega
def rMulS : R2 := fun x y H Q => ∃ (a : Str) (n : Nat), x = .str a ∧ y = .int (n : Int) ∧ 1 ≤ n ∧ n ≤ 1000 ∧ 1 ≤ a.length ∧ a.length ≤ 1000 ∧ ∀ z : Str, z.length = n * a.length → Q (.str z) H
theorem op_mulS {X : Cx} : OpR X (binaryOp .Mult) rMulS := by
  intro pins s σ H x y v u Q I rx ry h
  obtain ⟨a, n, rfl, rfl, h1, h2, h3, h4, q⟩ := h
  obtain ⟨t, rfl⟩ := rx
  obtain ⟨t', rfl⟩ := ry
  have hm : a.length * n ≤ 1000 * 1000 := Nat.mul_le_mul h4 h2
  have hn : ¬ (n : Int) < 1 := by omega
  refine P.mul_str (by rw [decide_eq_false (by omega), decide_eq_false (by omega)]; rfl) (fun _ _ => ?_) (fun _ _ => ?_) ?_
  · have : (a.length : Int) ≤ (2 ^ 63 - 1) / (n : Int) := (Int.le_ediv_iff_mul_le (by omega)).mpr (by
      have : ((a.length * n : Nat) : Int) ≤ 1000000 := by omega
      rw [Int.natCast_mul] at this
      exact Int.le_trans this (by decide))
    omega
  · rw [Int.toNat_natCast]
    exact decide_eq_false (by
      have : (1000 * 1000 : Nat) < sizeLine := by decide
      omega)
  · rw [if_neg hn]
    split
    · rename_i z
      have hz : n = 1 := by
        rcases (Bool.or_eq_true_iff.mp z) with z | z
        · have := of_decide_eq_true z
          omega
        · have := of_decide_eq_true z
          omega
      subst hz
      exact ⟨.str a, H, I, ⟨t, rfl⟩, q a (by omega)⟩
    · have hl : ((List.replicate (n : Int).toNat a.cps).foldl (· ++ ·) #[]).size = n * a.length := by
        rw [foldl_size, Int.toNat_natCast]
        simp [Str.length]
      have hm2 : n * a.length ≤ 1000 * 1000 := Nat.mul_le_mul h2 h4
      refine ⟨show ((List.replicate (n : Int).toNat a.cps).foldl (· ++ ·) #[]).size ≤ sizeLine by rw [hl]; exact Nat.le_trans hm2 (by decide), ⟨.str _, H, I.tok _, ⟨_, rfl⟩, q _ hl⟩⟩

def rJoinK (K : PySem.W.Frag) : V → List V → Hp → VK → Prop := fun x xs H Q => ∃ a p, ∃ ys : List Str, x = .str a ∧ xs = [.ref p] ∧ (SqL K H p (ys.map V.str) ∨ SqT K H p (ys.map V.str)) ∧ (ys.map (·.length)).sum + ys.length * a.length ≤ 16777216 ∧ Q (.str (Txt.join a ys)) H
theorem seq_cut {a b : TS} {D : Ends} {σ : L2.St} {H : Hp} (Pv : L2.St → Hp → Prop) (hb : ∀ σ' H', Pv σ' H' → b D σ' H') (ha : ∀ R : L2.St → Hp → Prop, (∀ σ' H', Pv σ' H' → R σ' H') → a { D with nx := R } σ H) : tSeq a b D σ H := ha _ hb
theorem at_mem {α : Type} {xs : List α} {x : Int} (h0 : 0 ≤ x) (h1 : x < xs.length) : ∃ v ∈ xs, atI xs x = some v := by
  obtain ⟨j, rfl⟩ := Int.eq_ofNat_of_zero_le h0
  have hj : j < xs.length := by omega
  exact ⟨xs[j], List.getElem_mem hj, atI_nat (List.getElem?_eq_getElem hj)⟩
theorem at_strs {l : List Str} {x : Int} (h0 : 0 ≤ x) (h1 : x < l.length) : ∃ m ∈ l, atI (l.map V.str) x = some (.str m) := by
  obtain ⟨v, hv, e⟩ := at_mem (xs := l.map V.str) h0 (by rw [List.length_map]; exact h1)
  obtain ⟨m, hm, rfl⟩ := List.mem_map.mp hv
  exact ⟨m, hm, e⟩
theorem at_sign {z : Str} {x : Int} (h0 : 0 ≤ x) (h1 : x < z.length) : ∃ c, atI z.cps.toList x = some c := by
  obtain ⟨v, _, e⟩ := at_mem (xs := z.cps.toList) h0 (by rw [Array.length_toList]; exact h1)
  exact ⟨v, e⟩
theorem cut_len {z : Str} {n : Nat} (h : n ≤ z.length) : (cutS z none (some (n : Int))).length = n := by
  show (((z.cps.toList.drop (HT.sIx z.length 0 none)).take (HT.sIx z.length z.length (some (n : Int)) - HT.sIx z.length 0 none)).toArray).size = n
  have e : HT.sIx z.length 0 none = 0 := rfl
  have h2 : n ≤ z.cps.size := h
  rw [List.size_toArray, List.length_take, List.length_drop, Array.length_toList, HT.sIx_nat, e]
  omega
theorem sum_ones : ∀ {l : List Str}, (∀ y ∈ l, y.length = 1) → (l.map (·.length)).sum = l.length
  | [], _ => rfl
  | x :: l, h => by
    rw [List.map_cons, List.sum_cons, h x List.mem_cons_self, sum_ones fun y hy => h y (List.mem_cons_of_mem _ hy), List.length_cons]
    omega
theorem Dk.upd {H : Hp} {d l : Addr} {n : Nat} {o : HO} (h : Dk H d n) (e : l ≠ d) : Dk (upd H l o) d n := by
  obtain ⟨r, m, c, h0, h1⟩ := h
  exact ⟨r, m, c, by rw [upd_ne (Ne.symm e)]; exact h0, h1⟩
def menus : List Str := [".................=#^wg<>........", "........==##^^^^ww..<>g........."]
def lows : List Str := ["#", "<", ">", "=", ".#", "#.^#", "w#"]
structure FlR (K : PySem.W.Frag) (H : Hp) (f : Addr) (rows : List Str) (W : Nat) : Prop where
  sq : SqT K H f (rows.map V.str)
  row : ∀ r ∈ rows, r.length = W
  wid : 4 ≤ W ∧ W ≤ 24
  hig : 3 ≤ rows.length ∧ rows.length ≤ 17
theorem FlR.tf {K : PySem.W.Frag} {H H' : Hp} {f : Addr} {rows : List Str} {W : Nat} (s : TF H H') (h : FlR K H f rows W) : FlR K H' f rows W := ⟨s.sq h.sq, h.row, h.wid, h.hig⟩
section
variable {P : Program} {w : World} {K : PySem.W.Frag} {mg : Str → Option Value} {base : Heap}
def spFl (K : PySem.W.Frag) : Sp := fun vs H Q _ => ∃ (d : Addr) (n : Nat), vs = [.ref d] ∧ Dk H d (n + 500) ∧ ∀ f rows W H', Frm d H H' → Dk H' d n → FlR K H' f rows W → Q (.ref f) H'
theorem scFl : FnScope ["deck", "wide", "high", "menu", "lowest", "rows", "row", "column"] ["deck"] (defScope s_law_floor) := ⟨rfl, rfl, rfl, by decide +kernel, rfl, by decide +kernel, by decide +kernel⟩
theorem ok_law_floor (T : Txt K w mg) : FnOk P w K mg base CX0 2 (He.fAd K ("_law_floor", none)) (fdAt K (He.fAd K ("_law_floor", none))) ["deck"] (spFl K) := by
  refine T.F_law_floor.ok scFl (fun vs H Q E h => ?_) (fun cdv A outer s H vs Q E hr h => ?_)
  · obtain ⟨d, N, rfl, _⟩ := h
    rfl
  · obtain ⟨d, N, rfl, hd, k⟩ := h
    refine ⟨_, PSs.nox (pss_cons (ps_asg (pe_tup (pa_cons (pe_op op_add pe_int (pe_call (ok_law_take T) (hr.mono (by decide)) (by rfl) T.g_law_take (T.F_law_take).kp T.b_law_take .nil pass0 (pa_cons (pv 0) (pa_cons pe_int pa_nil)))) (pa_cons (pe_op op_add pe_int (pe_call (ok_law_take T) (hr.mono (by decide)) (by rfl) T.g_law_take (T.F_law_take).kp T.b_law_take .nil pass0 (pa_cons (pv 0) (pa_cons pe_int pa_nil)))) pa_nil))) (pg_tup (by rfl) (pgs_cons (pg_name (i := 1) scFl.nd rfl (Or.inr rfl)) (pgs_cons (pg_name (i := 2) scFl.nd rfl (Or.inl rfl)) pgs_nil))))
      (pss_cons (ps_if (pt_cmpR op_eq (pe_call (ok_law_take T) (hr.mono (by decide)) (by rfl) T.g_law_take (T.F_law_take).kp T.b_law_take .nil pass0 (pa_cons (pv 0) (pa_cons pe_int pa_nil))) pe_int (nomark _)) (pss_one (ps_asg (pe_tup (pa_cons (pe_op op_add pe_int (pe_call (ok_law_take T) (hr.mono (by decide)) (by rfl) T.g_law_take (T.F_law_take).kp T.b_law_take .nil pass0 (pa_cons (pv 0) (pa_cons pe_int pa_nil)))) (pa_cons (pe_op op_add pe_int (pe_call (ok_law_take T) (hr.mono (by decide)) (by rfl) T.g_law_take (T.F_law_take).kp T.b_law_take .nil pass0 (pa_cons (pv 0) (pa_cons pe_int pa_nil)))) pa_nil))) (pg_tup (by rfl) (pgs_cons (pg_name (i := 1) scFl.nd rfl (Or.inr rfl)) (pgs_cons (pg_name (i := 2) scFl.nd rfl (Or.inl rfl)) pgs_nil))))) pss_nil)
      (pss_cons (ps_set (i := 3) scFl.nd rfl (Or.inr rfl) (pe_ix (r := rIxL K) ix_list (pe_lst (pa_cons pe_str (pa_cons pe_str pa_nil))) (pe_call (ok_law_take T) (hr.mono (by decide)) (by rfl) T.g_law_take (T.F_law_take).kp T.b_law_take .nil pass0 (pa_cons (pv 0) (pa_cons pe_int pa_nil))) (fun _ _ => rfl)))
      (pss_cons (ps_set (i := 4) scFl.nd rfl (Or.inl rfl) (pe_ix (r := rIxL K) ix_list (pe_lst (pa_cons pe_str (pa_cons pe_str (pa_cons pe_str (pa_cons pe_str (pa_cons pe_str (pa_cons pe_str (pa_cons pe_str pa_nil)))))))) (pe_call (ok_law_take T) (hr.mono (by decide)) (by rfl) T.g_law_take (T.F_law_take).kp T.b_law_take .nil pass0 (pa_cons (pv 0) (pa_cons pe_int pa_nil))) (fun _ _ => rfl)))
      (pss_cons (ps_setLc (i := 5) (own := [("row", 6)]) (g := gName 6) (tt := tYes) (by rfl) scFl.nd rfl rfl (sw_true rfl rfl rfl (by decide +kernel)) (pi_range1 (by rfl) T.n_range (pa_cons (pe_op op_sub (pv 2) pe_int) pa_nil)) (blkOk_by (own := [("row", 6)]) (N := ["deck", "wide", "high", "menu", "lowest", "rows", "row", "column"]) (sc := defScope s_law_floor) (by decide +kernel)) (fun _ _ _ _ _ => pg_name (i := 6) scFl.nd rfl (Or.inl rfl)) (fun _ _ _ _ _ => pts_nil) (fun _ _ _ _ _ => (show PE _ _ (tM1 (rJoinK K) _ _) from pe_join pe_str (pe_lc (own := [("column", 7)]) (g := gName 7) (tt := tYes) (by rfl) scFl.nd (pi_range1 (by rfl) T.n_range (pa_cons (pv 1) pa_nil)) (blkOk_by (by kernel_rfl)) (fun _ _ _ _ _ => pg_name (i := 7) scFl.nd rfl (Or.inl rfl)) (fun _ _ _ _ _ => pts_nil) (fun _ _ _ _ _ => (pe_ix ix_str (pv 3) (pe_call (ok_law_take T) (hr.mono (by decide)) (by rfl) T.g_law_take (T.F_law_take).kp T.b_law_take .nil pass0 (pa_cons (pv 0) (pa_cons pe_int pa_nil))) (fun _ _ => rfl)))))))
      (pss_one (ps_ret (pe_callTy call_tuple_of (by rfl) T.n_tuple PyProof.Rows.Boot.«tuple» (pa_cons (pe_op op_cat (pv 5) (pe_lst (pa_cons (pe_slice sl_str (pe_op op_mulS (pv 4) (pv 1)) po_none (po_some (pv 1))) pa_nil))) pa_nil))))))))), ?_⟩
    refine seq_cut (fun σ' H' => ∃ W h : Int, σ' = [some (.ref d), some (.int W), some (.int h), none, none, none, none, none] ∧ 4 ≤ W ∧ W ≤ 24 ∧ 3 ≤ h ∧ h ≤ 17 ∧ Frm d H H' ∧ Dk H' d (N + 498)) (fun σ' H' hP => ?_) (fun R hR => ?_)
    rotate_left
    · refine ⟨_, rfl, d, 7, N + 499, rfl, by decide, by decide, hd.le (by omega), fun x1 H1 a0 a1 f1 d1 => ?_⟩
      refine ⟨_, _, rfl, rfl, _, rfl, d, 4, N + 498, rfl, by decide, by decide, d1.le (by omega), fun x2 H2 b0 b1 f2 d2 => ?_⟩
      refine ⟨_, _, rfl, rfl, (show 2 ≤ sizeLine by decide), fun p np => ?_⟩
      have sp := new_same (o := .tup [V.int (4 + x1), V.int (3 + x2)]) np
      refine ⟨p, _, rfl, SqT.of upd_same, rfl, _, _, rfl, _, _, rfl, rfl, hR _ _ ⟨_, _, rfl, by omega, by omega, by omega, by omega, (f1.trans f2).trans (Frm.of_same sp), d2.same sp⟩⟩
    obtain ⟨W0, h0, rfl, w1, w2, h1, h2, f1, d1⟩ := hP
    refine seq_cut (fun σ' H' => ∃ W h : Int, σ' = [some (.ref d), some (.int W), some (.int h), none, none, none, none, none] ∧ 4 ≤ W ∧ W ≤ 24 ∧ 3 ≤ h ∧ h ≤ 17 ∧ Frm d H H' ∧ Dk H' d (N + 495)) (fun σ' H'' hP => ?_) (fun R hR => ?_)
    rotate_left
    · refine ⟨_, rfl, d, 12, N + 497, rfl, by decide, by decide, d1.le (by omega), fun x0 Ha q0 q1 fa da => ?_⟩
      refine ⟨rfl, _, rfl, ite2 (fun z => ?_) (fun z => ?_)⟩
      · refine ⟨_, rfl, d, 14, N + 496, rfl, by decide, by decide, da.le (by omega), fun x1 H1 a0 a1 f1' d1 => ?_⟩
        refine ⟨_, _, rfl, rfl, _, rfl, d, 10, N + 495, rfl, by decide, by decide, d1.le (by omega), fun x2 H2 b0 b1 f2 d2 => ?_⟩
        refine ⟨_, _, rfl, rfl, (show 2 ≤ sizeLine by decide), fun p np => ?_⟩
        have sp := new_same (o := .tup [V.int (11 + x1), V.int (7 + x2)]) np
        refine ⟨p, _, rfl, SqT.of upd_same, rfl, _, _, rfl, _, _, rfl, rfl, hR _ _ ⟨_, _, rfl, by omega, by omega, by omega, by omega, ((f1.trans fa).trans (f1'.trans f2)).trans (Frm.of_same sp), d2.same sp⟩⟩
      · exact hR _ _ ⟨_, _, rfl, w1, w2, h1, h2, f1.trans fa, da.le (by omega)⟩
    clear w1 w2 h1 h2 d1
    obtain ⟨W1, h1, rfl, w1, w2, h1', h2, f1, d1⟩ := hP
    obtain ⟨W, rfl⟩ := Int.eq_ofNat_of_zero_le (show 0 ≤ W1 by omega)
    obtain ⟨h, rfl⟩ := Int.eq_ofNat_of_zero_le (show 0 ≤ h1 by omega)
    -- menu
    refine ⟨(show 2 ≤ sizeLine by decide), fun p np => ?_⟩
    have sp := new_same (o := .lst (menus.map V.str)) np
    refine ⟨_, rfl, d, 2, N + 494, rfl, by decide, by decide, (d1.same sp).le (by omega), fun x1 Ha a0 a1 fa da => ?_⟩
    have hp := fa p _ (d1.ne np) upd_same
    obtain ⟨menu, hm, em⟩ := at_strs (l := menus) a0 a1
    have lm : menu.length = 32 := by
      have : ∀ m ∈ menus, m.length = 32 := by decide +kernel
      exact this _ hm
    refine ⟨p, _, _, _, rfl, rfl, SqL.of hp, em, ?_⟩
    -- lowest
    refine ⟨(show 7 ≤ sizeLine by decide), fun p2 np2 => ?_⟩
    have sp2 := new_same (o := .lst (lows.map V.str)) np2
    refine ⟨_, rfl, d, 7, N + 493, rfl, by decide, by decide, (da.same sp2).le (by omega), fun x2 Hb b0 b1 fb db => ?_⟩
    have hp2 := fb p2 _ (da.ne np2) upd_same
    obtain ⟨low, hm2, em2⟩ := at_strs (l := lows) b0 b1
    have ll : 1 ≤ low.length ∧ low.length ≤ 4 := by
      have : ∀ m ∈ lows, 1 ≤ m.length ∧ m.length ≤ 4 := by decide +kernel
      exact this _ hm2
    refine ⟨p2, _, _, _, rfl, rfl, SqL.of hp2, em2, ?_⟩
    have fHb := (f1.trans (Frm.of_same sp)).trans ((fa.trans (Frm.of_same sp2)).trans fb)
    -- rows
    refine ⟨_, rfl, _, _, rfl, rfl, ?_⟩
    obtain ⟨g, rfl⟩ : ∃ g, h = g + 1 := ⟨h - 1, by omega⟩
    refine ⟨(g : Int), congrArg (fun z => [V.int z]) (show ((g + 1 : Nat) : Int) - 1 = (g : Int) by omega), by omega, by omega, fun D hD => ?_⟩
    rw [show ((g : Nat) : Int).toNat = g from Int.toNat_natCast g]
    have Dd := db.ne hD
    refine lc_range (lo := 0) (n := g) (fun i H' => ∃ rs : List Str, Frm d Hb H' ∧ Dk H' d (N + 493 - 24 * i) ∧ H' D = some (.lst (rs.map V.str)) ∧ rs.length = i ∧ ∀ r ∈ rs, r.length = W) ⟨[], frm_new (Frm.refl _ _) hD, db.upd Dd, upd_same, rfl, fun _ q => (nomatch q)⟩ (fun i H' hi h => ?_) (fun H' h => ?_)
    · obtain ⟨rs, f2, d2, hl, hlen, hrs⟩ := h
      refine ⟨rfl, ?_⟩
      dsimp only [tYes]
      rw [if_pos rfl]
      refine ⟨⟨_, rfl⟩, _, rfl, (W : Int), rfl, by omega, by omega, fun D2 hD2 => ?_⟩
      rw [show ((W : Nat) : Int).toNat = W from Int.toNat_natCast W]
      have D2d := d2.ne hD2
      refine lc_range (lo := 0) (n := W) (fun j Hx => ∃ ys : List Str, Frm d H' Hx ∧ Dk Hx d (N + 493 - 24 * i - j) ∧ Hx D2 = some (.lst (ys.map V.str)) ∧ ys.length = j ∧ ∀ y ∈ ys, y.length = 1) ⟨[], frm_new (Frm.refl _ _) hD2, d2.upd D2d, upd_same, rfl, fun _ q => (nomatch q)⟩ (fun j Hx hj h => ?_) (fun Hx h => ?_)
      · obtain ⟨ys, f3, d3, hl3, hlen3, hys⟩ := h
        refine ⟨rfl, ?_⟩
        dsimp only [tYes]
        rw [if_pos rfl]
        refine ⟨_, rfl, _, rfl, d, 32, N + 493 - 24 * i - (j + 1), rfl, by decide, by decide, d3.le (by omega), fun x Hy c0 c1 f4 d4 => ?_⟩
        obtain ⟨c, hc⟩ := at_sign (z := menu) c0 (by omega)
        have hl4 := f4 _ _ D2d hl3
        refine ⟨_, _, c, rfl, rfl, Nat.le_trans (Nat.le_of_eq lm) (by decide), hc, _, hl4, Nat.lt_of_le_of_lt (show (ys.map V.str).length ≤ 24 by rw [List.length_map]; omega) (by decide), ys ++ [⟨#[c]⟩], frm_new (f3.trans f4) hD2, d4.upd D2d, ?_, by simp [hlen3], fun y hy => ?_⟩
        · rw [List.map_append]
          exact upd_same
        · rcases List.mem_append.mp hy with hy | hy
          · exact hys y hy
          · rw [List.mem_singleton.mp hy]
            rfl
      · obtain ⟨ys, f3, d3, hl3, hlen3, hys⟩ := h
        have e1 := PySem.W.KT.join_ones ys hys
        have hl2 := f3 _ _ Dd hl
        refine ⟨_, D2, ys, rfl, rfl, .inl (SqL.of hl3), by rw [sum_ones hys, show (Str.ofString "").length = 0 by decide]; omega, _, hl2, Nat.lt_of_le_of_lt (show (rs.map V.str).length ≤ 24 by rw [List.length_map]; omega) (by decide), rs ++ [Txt.join (Str.ofString "") ys], frm_new (f2.trans f3) hD, (d3.le (by omega)).upd Dd, ?_, by simp [hlen], fun r hr => ?_⟩
        · rw [List.map_append]
          exact upd_same
        · rcases List.mem_append.mp hr with hr | hr
          · exact hrs r hr
          · rw [List.mem_singleton.mp hr, e1, hlen3]
    · obtain ⟨rs, f2, d2, hl, hlen, hrs⟩ := h
      have hmul : W ≤ W * low.length := Nat.le_mul_of_pos_right _ (by omega)
      have hmul2 : W * low.length ≤ 24 * 4 := Nat.mul_le_mul (by omega) (by omega)
      refine ⟨_, rfl, _, rfl, _, rfl, low, W, rfl, rfl, by omega, by omega, by omega, by omega, fun z hz => ?_⟩
      refine ⟨_, rfl, _, rfl, z, rfl, Nat.le_trans (show z.length ≤ 100 by omega) (by decide), (show 1 ≤ sizeLine by decide), fun q nq => ?_⟩
      have sq := new_same (o := .lst [V.str (cutS z none (some (W : Int)))]) nq
      refine ⟨D, q, _, _, rfl, rfl, sq _ _ hl, upd_same, Nat.le_trans (show (rs.map V.str).length + 1 ≤ 100 by rw [List.length_map]; omega) (by decide), fun q2 nq2 => ?_⟩
      refine ⟨q2, _, rfl, .inl ⟨SqL.of upd_same, fun t nt => ?_⟩⟩
      have sq2 := new_same (o := .lst (rs.map V.str ++ [V.str (cutS z none (some (W : Int)))])) nq2
      have st := new_same (o := .tup (rs.map V.str ++ [V.str (cutS z none (some (W : Int)))])) nt
      have sA := (sq.trans sq2).trans st
      refine k t (rs ++ [cutS z none (some (W : Int))]) W _ ((fHb.trans f2).trans (Frm.of_same sA)) ((d2.same sA).le (by omega)) ⟨?_, fun r hr => ?_, by omega, by rw [List.length_append, hlen]; simp only [List.length_cons, List.length_nil]; omega⟩
      · rw [List.map_append]
        exact SqT.of upd_same
      · rcases List.mem_append.mp hr with hr | hr
        · exact hrs r hr
        · rw [List.mem_singleton.mp hr]
          exact cut_len (by omega)
end
end K44
set_option maxRecDepth 100000
set_option maxHeartbeats 4000000
/-! Deeds of rules, drawn. -/
namespace K44
open PySem PySem.Spec PyProof.Rows L2 KF KD
section
variable {P : Program} {w : World} {K : PySem.W.Frag} {mg : Str → Option Value} {base : Heap}
def spPc (K : PySem.W.Frag) : Sp := fun vs H Q _ => ∃ (d : Addr) (n : Nat) (m : Int), vs = [.ref d, .int m] ∧ 1 ≤ m ∧ m ≤ 8 ∧ Dk H d (n + 10) ∧ ∀ v H', Frm d H H' → Dk H' d n → Q v H'
theorem scPc : FnScope ["deck", "kinds", "choice", "b", "n", "i", "m", "c", "held", "own", "mark", "dy", "others", "numbers", "kept", "many"] ["deck", "kinds"] (defScope s_law_piece) := ⟨rfl, rfl, rfl, by decide +kernel, rfl, by decide +kernel, by decide +kernel⟩
theorem ok_law_piece (T : Txt K w mg) : FnOk P w K mg base CX0 2 (He.fAd K ("_law_piece", none)) (fdAt K (He.fAd K ("_law_piece", none))) ["deck", "kinds"] (spPc K) := by
  refine T.F_law_piece.ok scPc (fun vs H Q E h => ?_) (fun cdv A outer s H vs Q E hr h => ?_)
  · obtain ⟨d, N, m, rfl, _⟩ := h
    rfl
  · obtain ⟨d, N, m, rfl, m1, m8, hd, k⟩ := h
    refine ⟨_, PSs.nox (pss_cons (ps_asg (pe_lc (own := [("many", 15)]) (g := gName 15) (tt := tYes) (by rfl) scPc.nd (pi_list (pe_lst (pa_cons pe_int (pa_cons pe_int (pa_cons pe_int (pa_cons pe_int (pa_cons pe_int (pa_cons (pv 1) pa_nil)))))))) (blkOk_by (own := [("many", 15)]) (N := ["deck", "kinds", "choice", "b", "n", "i", "m", "c", "held", "own", "mark", "dy", "others", "numbers", "kept", "many"]) (sc := defScope s_law_piece) (by decide +kernel)) (fun _ _ _ _ _ => pg_name (i := 15) scPc.nd rfl (Or.inl rfl)) (fun _ _ _ _ _ => pts_nil) (fun _ _ _ _ _ => (pe_call (ok_law_take T) (hr.mono (by decide)) (by rfl) T.g_law_take (T.F_law_take).kp T.b_law_take .nil pass0 (pa_cons (pv 0) (pa_cons (pv 15) pa_nil))))) (pg_lst (by rfl) (pgs_cons (pg_name (i := 2) scPc.nd rfl (Or.inl rfl)) (pgs_cons (pg_name (i := 3) scPc.nd rfl (Or.inl rfl)) (pgs_cons (pg_name (i := 4) scPc.nd rfl (Or.inl rfl)) (pgs_cons (pg_name (i := 5) scPc.nd rfl (Or.inl rfl)) (pgs_cons (pg_name (i := 6) scPc.nd rfl (Or.inl rfl)) (pgs_cons (pg_name (i := 7) scPc.nd rfl (Or.inl rfl)) pgs_nil))))))))
      (pss_cons (ps_set (i := 2) scPc.nd rfl (Or.inl rfl) (pe_ix (r := rIxL K) ix_list (pe_lst (pa_cons pe_int (pa_cons pe_int (pa_cons pe_int (pa_cons pe_int (pa_cons pe_int (pa_cons pe_int (pa_cons pe_int (pa_cons pe_int (pa_cons pe_int (pa_cons pe_int (pa_cons pe_int (pa_cons pe_int (pa_cons pe_int (pa_cons pe_int (pa_cons pe_int (pa_cons pe_int pa_nil))))))))))))))))) (pv 2) (fun _ _ => rfl)))
      (pss_cons (ps_asg (pe_tup (pa_cons (pe_tup (pa_cons pe_str (pa_cons (pv 3) pa_nil))) (pa_cons (pe_tup (pa_cons pe_str (pa_cons (pv 5) pa_nil))) (pa_cons (pe_tup (pa_cons pe_str (pa_cons (pv 6) pa_nil))) (pa_cons (pe_tup (pa_cons pe_str pa_nil)) pa_nil))))) (pg_tup (by rfl) (pgs_cons (pg_name (i := 8) scPc.nd rfl (Or.inl rfl)) (pgs_cons (pg_name (i := 9) scPc.nd rfl (Or.inl rfl)) (pgs_cons (pg_name (i := 10) scPc.nd rfl (Or.inl rfl)) (pgs_cons (pg_name (i := 11) scPc.nd rfl (Or.inl rfl)) pgs_nil))))))
      (pss_cons (ps_if (pt_cmpR op_lt (pv 2) pe_int (nomark _)) (pss_cons (ps_set (i := 12) scPc.nd rfl (Or.inl rfl) (pe_slice (show SlR _ (rSlA K) from sl_tupA) (pe_tup (pa_cons (pe_tup (pa_cons pe_str (pa_cons (pe_tup (pa_cons pe_str (pa_cons (pe_op op_sub pe_int (pv 3)) pa_nil))) (pa_cons (pe_tup (pa_cons (pe_tup (pa_cons pe_str (pa_cons (pe_tup (pa_cons pe_str (pa_cons (pe_op op_sub pe_int (pv 4)) pa_nil))) (pa_cons (pv 11) pa_nil)))) pa_nil)) (pa_cons (pe_tup pa_nil) pa_nil))))) pa_nil)) (po_some (pe_op op_mod (pe_callTy call_int1 (by rfl) T.n_int PyProof.Rows.Boot.«int» (pa_cons (pv 5) pa_nil)) pe_int)) po_none))
      (pss_one (ps_ret (pe_tup (pa_cons pe_str (pa_cons (pv 8) (pa_cons (pe_tup (pa_cons (pe_tup (pa_cons pe_str (pa_cons (pe_tup (pa_cons pe_str (pa_cons (pe_ix (r := rIxL K) ix_list (pe_lst (pa_cons (pe_op op_sub (pv 4) pe_int) (pa_cons pe_int (pa_cons (pe_un un_neg pe_int) pa_nil)))) (pv 2) (fun _ _ => rfl)) pa_nil))) (pa_cons (pv 11) pa_nil)))) pa_nil)) (pa_cons (pv 12) pa_nil)))))))) pss_nil)
      (pss_cons (ps_if (pt_cmpR op_eq (pv 2) pe_int (nomark _)) (pss_one (ps_ret (pe_tup (pa_cons pe_str (pa_cons (pe_tup (pa_cons pe_str (pa_cons (pv 8) (pa_cons (pe_tup (pa_cons pe_str pa_nil)) pa_nil)))) (pa_cons (pe_tup (pa_cons (pe_tup (pa_cons pe_str (pa_cons (pe_tup (pa_cons pe_str pa_nil)) (pa_cons (pe_tup (pa_cons pe_str (pa_cons (pe_un un_neg (pv 4)) pa_nil))) pa_nil)))) pa_nil)) (pa_cons (pe_tup pa_nil) pa_nil))))))) pss_nil)
      (pss_cons (ps_if (pt_cmpR op_eq (pv 2) pe_int (nomark _)) (pss_cons (ps_set (i := 13) scPc.nd rfl (Or.inl rfl) (pe_tup (pa_cons (pe_tup (pa_cons pe_str (pa_cons (pe_op op_sub (pe_op op_mulW pe_int (pv 4)) pe_int) pa_nil))) (pa_cons (pe_tup (pa_cons pe_str (pa_cons (pe_op op_sub pe_int (pe_op op_mulW pe_int (pv 4))) pa_nil))) (pa_cons (pe_tup (pa_cons pe_str (pa_cons (pe_op op_sub (pv 4) pe_int) pa_nil))) (pa_cons (pe_tup (pa_cons pe_str (pa_cons (pe_op op_sub pe_int (pv 4)) pa_nil))) pa_nil))))))
      (pss_one (ps_ret (pe_tup (pa_cons pe_str (pa_cons (pv 8) (pa_cons (pe_tup (pa_cons (pe_op (show OpR _ _ (rCatT K) from op_catT) (pe_tup (pa_cons pe_str (pa_cons (pv 7) pa_nil))) (pv 13)) pa_nil)) (pa_cons (pe_tup pa_nil) pa_nil)))))))) pss_nil)
      (pss_cons (ps_if (pt_cmpR op_eq (pv 2) pe_int (nomark _)) (pss_cons (ps_set (i := 14) scPc.nd rfl (Or.inl rfl) (pe_ix (r := rIxL K) ix_list (pe_lst (pa_cons (pv 9) (pa_cons (pv 10) pa_nil))) (pe_op op_mod (pe_callTy call_int1 (by rfl) T.n_int PyProof.Rows.Boot.«int» (pa_cons (pv 4) pa_nil)) pe_int) (fun _ _ => rfl)))
      (pss_one (ps_ret (pe_op (show OpR _ _ (rCatT K) from op_catT) (pv 14) (pe_tup (pa_cons (pe_ix (r := rIxL K) ix_list (pe_lst (pa_cons (pv 8) (pa_cons (pv 8) (pa_cons (pv 8) (pa_cons (pe_tup (pa_cons pe_str (pa_cons (pv 14) (pa_cons (pv 8) pa_nil)))) pa_nil))))) (pe_op op_fdivW (pv 4) pe_int) (fun _ _ => rfl)) pa_nil)))))) pss_nil)
      (pss_cons (ps_if (pt_cmpR op_eq (pv 2) pe_int (nomark _)) (pss_one (ps_ret (pe_op (show OpR _ _ (rCatT K) from op_catT) (pv 9) (pe_tup (pa_cons (pe_tup (pa_cons pe_str (pa_cons (pv 9) (pa_cons (pe_tup (pa_cons pe_str (pa_cons (pv 7) pa_nil))) pa_nil)))) pa_nil))))) pss_nil)
      (pss_cons (ps_if (pt_cmpR op_eq (pv 2) pe_int (nomark _)) (pss_one (ps_ret (pe_tup (pa_cons pe_str (pa_cons (pe_tup (pa_cons pe_str (pa_cons (pv 7) pa_nil))) (pa_cons (pe_tup (pa_cons (pe_tup (pa_cons pe_str (pa_cons (pe_tup (pa_cons pe_str (pa_cons (pe_tup (pa_cons pe_str (pa_cons pe_int pa_nil))) (pa_cons (pe_tup (pa_cons pe_str pa_nil)) pa_nil)))) (pa_cons (pv 11) pa_nil)))) (pa_cons (pe_op (show OpR _ _ (rCatT K) from op_catT) (pv 9) (pe_tup (pa_cons (pv 8) pa_nil))) pa_nil))) (pa_cons (pe_tup pa_nil) pa_nil))))))) pss_nil)
      (pss_cons (ps_if (pt_cmpR op_eq (pv 2) pe_int (nomark _)) (pss_one (ps_ret (pe_tup (pa_cons pe_str (pa_cons (pe_tup (pa_cons pe_str (pa_cons (pe_tup (pa_cons pe_str (pa_cons (pe_op op_add (pv 4) pe_int) pa_nil))) (pa_cons (pe_tup (pa_cons pe_str (pa_cons pe_int pa_nil))) pa_nil)))) (pa_cons (pv 11) pa_nil)))))) pss_nil)
      (pss_cons (ps_if (pt_cmpR op_eq (pv 2) pe_int (nomark _)) (pss_one (ps_ret (pe_tup (pa_cons pe_str (pa_cons (pe_tup (pa_cons pe_str (pa_cons (pv 9) (pa_cons (pv 10) pa_nil)))) (pa_cons (pe_tup (pa_cons (pe_tup (pa_cons pe_str pa_nil)) pa_nil)) (pa_cons (pe_tup (pa_cons (pe_op (show OpR _ _ (rCatT K) from op_catT) (pv 9) (pe_tup (pa_cons (pe_tup (pa_cons pe_str (pa_cons (pv 9) (pa_cons (pe_tup (pa_cons pe_str (pa_cons pe_int pa_nil))) pa_nil)))) pa_nil))) pa_nil)) pa_nil))))))) pss_nil)
      (pss_one (ps_ret (pe_tup (pa_cons pe_str (pa_cons (pe_tup (pa_cons pe_str (pa_cons (pe_tup (pa_cons pe_str (pa_cons (pe_ix ix_str pe_str (pv 4) (fun _ _ => rfl)) pa_nil))) (pa_cons (pv 10) (pa_cons (pe_tup (pa_cons pe_str (pa_cons (pv 7) (pa_cons (pv 5) pa_nil)))) pa_nil))))) (pa_cons (pv 11) pa_nil))))))))))))))))), ?_⟩
    have pick : ∀ {A : Prop} (x : Int), 0 ≤ x → x < 16 → True := fun _ _ _ => trivial
    clear pick
    have vals : ∀ x : Int, 0 ≤ x → x < 16 → ∃ j : Nat, j ≤ 10 ∧ atI [V.int 0, .int 1, .int 2, .int 0, .int 1, .int 2, .int 3, .int 4, .int 5, .int 5, .int 5, .int 6, .int 7, .int 8, .int 9, .int 10] x = some (.int (j : Int)) := fun x h0 h1 => by
      obtain ⟨j, rfl⟩ := Int.eq_ofNat_of_zero_le h0
      have : ∀ j < 16, ∃ i : Nat, i ≤ 10 ∧ [V.int 0, .int 1, .int 2, .int 0, .int 1, .int 2, .int 3, .int 4, .int 5, .int 5, .int 5, .int 6, .int 7, .int 8, .int 9, .int 10][j]? = some (.int (i : Int)) := fun j hj => by
        match j, hj with
        | 0, _ => exact ⟨0, by decide, rfl⟩
        | 1, _ => exact ⟨1, by decide, rfl⟩
        | 2, _ => exact ⟨2, by decide, rfl⟩
        | 3, _ => exact ⟨0, by decide, rfl⟩
        | 4, _ => exact ⟨1, by decide, rfl⟩
        | 5, _ => exact ⟨2, by decide, rfl⟩
        | 6, _ => exact ⟨3, by decide, rfl⟩
        | 7, _ => exact ⟨4, by decide, rfl⟩
        | 8, _ => exact ⟨5, by decide, rfl⟩
        | 9, _ => exact ⟨5, by decide, rfl⟩
        | 10, _ => exact ⟨5, by decide, rfl⟩
        | 11, _ => exact ⟨6, by decide, rfl⟩
        | 12, _ => exact ⟨7, by decide, rfl⟩
        | 13, _ => exact ⟨8, by decide, rfl⟩
        | 14, _ => exact ⟨9, by decide, rfl⟩
        | 15, _ => exact ⟨10, by decide, rfl⟩
        | j + 16, h => omega
      obtain ⟨i, hi, e⟩ := this j (by omega)
      exact ⟨i, hi, atI_nat e⟩
    have mns : ∀ x ∈ [16, 6, 8, 4, 16, m], 0 < x ∧ x < 1267650600228229401496703205376 := fun x hx => by
      simp only [List.mem_cons, List.not_mem_nil, or_false] at hx
      omega
    refine ⟨_, rfl, (show 6 ≤ sizeLine by decide), fun p0 np0 => ?_⟩
    have s0 := new_same (o := .lst ([16, 6, 8, 4, 16, m].map V.int)) np0
    have hp0 : (upd H p0 (.lst ([16, 6, 8, 4, 16, m].map V.int))) p0 = some (.lst ([16, 6, 8, 4, 16, m].map V.int)) := upd_same
    refine ⟨p0, rfl, ⟨_, SqL.of hp0⟩, fun D hD => ?_⟩
    have d0 := hd.same s0
    have Dd := d0.ne hD
    refine lc_it (walk_list (K := K) (a := p0) (xs := [16, 6, 8, 4, 16, m].map V.int)) (fun i H' => ∃ xs : List Int, Frm d (upd H p0 (.lst ([16, 6, 8, 4, 16, m].map V.int))) H' ∧ Dk H' d (N + 10 - i) ∧ H' D = some (.lst (xs.map V.int)) ∧ xs.length = i ∧ ∀ j, j < i → 0 ≤ xs.getD j 0 ∧ xs.getD j 0 < [16, 6, 8, 4, 16, m].getD j 0) ⟨[], frm_new (Frm.refl _ _) hD, d0.upd Dd, upd_same, rfl, fun _ q => absurd q (by omega)⟩ (fun i H' hi h => ?_) (fun i x H' Hx hi h y => ?_) (fun H' h => ?_)
    · obtain ⟨xs, f2, d2, hl, hlen, hb⟩ := h
      exact SqL.of (f2 _ _ (hd.ne np0) hp0)
    · obtain ⟨xs, f2, d2, hl, hlen, hb⟩ := h
      obtain ⟨rfl, hx⟩ := y
      have hi6 : i < 6 := hi
      rw [List.getElem?_map, List.getElem?_eq_getElem hi6] at hx
      cases hx
      have hm := mns _ (List.getElem_mem hi6)
      refine ⟨rfl, ?_⟩
      dsimp only [tYes]
      rw [if_pos rfl]
      refine ⟨_, rfl, _, rfl, d, _, N + 9 - i, rfl, hm.1, hm.2, d2.le (by omega), fun x Hy c0 c1 f4 d4 => ?_⟩
      have hl4 := f4 _ _ Dd hl
      refine ⟨_, hl4, Nat.lt_of_le_of_lt (show (xs.map V.int).length ≤ 24 by rw [List.length_map]; omega) (by decide), xs ++ [x], frm_new (f2.trans f4) hD, (d4.le (by omega)).upd Dd, ?_, by simp [hlen], fun j hj => ?_⟩
      · rw [List.map_append]
        exact upd_same
      · by_cases e : j < i
        · have := hb j e
          rw [List.getD_eq_getElem?_getD, List.getElem?_append_left (by omega), ← List.getD_eq_getElem?_getD]
          exact this
        · have e : j = i := by omega
          subst e
          have e2 : (xs ++ [x]).getD j 0 = x := by
            rw [List.getD_eq_getElem?_getD, List.getElem?_append_right (by omega), hlen]
            simp
          have e3 : [16, 6, 8, 4, 16, m].getD j 0 = [16, 6, 8, 4, 16, m][j] := by
            rw [List.getD_eq_getElem?_getD, List.getElem?_eq_getElem hi6]
            rfl
          rw [e2, e3]
          exact ⟨c0, c1⟩
    obtain ⟨xs, f2, d2, hl, hlen, hb⟩ := h
    match xs, hlen, hl, hb with
    | [x0, b, n, i, mm, c], _, hl, hb =>
    have fa := (Frm.of_same s0).trans f2
    obtain ⟨a0, a1⟩ : 0 ≤ x0 ∧ x0 < 16 := hb 0 (show 0 < 6 by decide)
    obtain ⟨b0, b1⟩ : 0 ≤ b ∧ b < 6 := hb 1 (show 1 < 6 by decide)
    obtain ⟨n0, n1⟩ : 0 ≤ n ∧ n < 8 := hb 2 (show 2 < 6 by decide)
    obtain ⟨i0, i1⟩ : 0 ≤ i ∧ i < 4 := hb 3 (show 3 < 6 by decide)
    clear hb mns f2
    refine ⟨D, _, rfl, SqL.of hl, rfl, _, _, rfl, _, _, rfl, _, _, rfl, _, _, rfl, _, _, rfl, _, _, rfl, rfl, ?_⟩
    clear hl Dd d0 hp0 s0
    refine ⟨(show 16 ≤ sizeLine by decide), fun p1 np1 => ?_⟩
    obtain ⟨ch, hch, ec⟩ := vals x0 a0 a1
    refine ⟨_, rfl, p1, _, _, _, rfl, rfl, SqL.of upd_same, ec, ?_⟩
    replace fa := fa.trans (Frm.of_new (o := .lst [V.int 0, .int 1, .int 2, .int 0, .int 1, .int 2, .int 3, .int 4, .int 5, .int 5, .int 5, .int 6, .int 7, .int 8, .int 9, .int 10]) np1)
    replace d2 := d2.same (new_same (o := .lst [V.int 0, .int 1, .int 2, .int 0, .int 1, .int 2, .int 3, .int 4, .int 5, .int 5, .int 5, .int 6, .int 7, .int 8, .int 9, .int 10]) np1)
    have w6 : CMulW 6 n := wide_mul (a := 40) (b := 20) (by decide) (small_ab n0 (by rw [pow20]; omega)) (by decide) (by decide) (by decide)
    have w3 : CMulW 3 n := wide_mul (a := 40) (b := 20) (by decide) (small_ab n0 (by rw [pow20]; omega)) (by decide) (by decide) (by decide)
    have w2 : CDivW n 2 := wide_div (b := 30) (by decide) (by decide) (by decide) (by decide)
    generalize upd H' p1 _ = G at fa d2
    clear np1 vals a0 a1
    -- held, own, mark, dy
    dsimp only
    refine seq_cut (fun σ' H' => ∃ p2 p3 p4 p5 : Addr, σ' = [some (.ref d), some (.int m), some (.int (ch : Int)), some (.int b), some (.int n), some (.int i), some (.int mm), some (.int c), some (.ref p2), some (.ref p3), some (.ref p4), some (.ref p5), none, none, none, none] ∧ SqT K H' p3 [V.str (Str.ofString "own"), V.int i] ∧ SqT K H' p4 [V.str (Str.ofString "mark"), V.int mm] ∧ Frm d H H' ∧ Dk H' d (N + 4)) (fun σ' G2 hP => ?_) (fun R hR => ?_)
    rotate_left
    · refine ⟨_, rfl, (show 2 ≤ sizeLine by decide), fun p2 np2 => ⟨_, rfl, (show 2 ≤ sizeLine by decide), fun p3 np3 => ⟨_, rfl, (show 2 ≤ sizeLine by decide), fun p4 np4 => ⟨(show 1 ≤ sizeLine by decide), fun p5 np5 => ⟨(show 4 ≤ sizeLine by decide), fun p6 np6 => ?_⟩⟩⟩⟩⟩
      have t4 := (new_same (o := .tup [V.str (Str.ofString "mark"), V.int mm]) np4)
      have t5 := (new_same (o := .tup [V.str (Str.ofString "dy")]) np5)
      have t6 := (new_same (o := .tup [V.ref p2, V.ref p3, V.ref p4, V.ref p5]) np6)
      have tt := ((new_same (o := .tup [V.str (Str.ofString "held"), V.int b]) np2).trans (new_same (o := .tup [V.str (Str.ofString "own"), V.int i]) np3)).trans ((t4.trans t5).trans t6)
      refine ⟨p6, _, rfl, SqT.of upd_same, rfl, _, _, rfl, _, _, rfl, _, _, rfl, _, _, rfl, rfl, hR _ _ ⟨p2, p3, p4, p5, rfl, (same_tf ((t4.trans t5).trans t6)).sq (SqT.of upd_same), (same_tf (t5.trans t6)).sq (SqT.of upd_same), fa.trans (Frm.of_same tt), (d2.same tt).le (by show N + 4 ≤ N + 10 - 6; omega)⟩⟩
    clear fa d2
    obtain ⟨p2, p3, p4, p5, rfl, so, sm, fb, db⟩ := hP
    refine ⟨_, rfl, _, _, rfl, rfl, _, rfl, ite2 (fun z => ?_) (fun z => ?_)⟩
    · obtain ⟨v, _, hv⟩ := at_mem (xs := [V.int (n - 3), V.int 4, V.int (-4)]) (x := (ch : Int)) (by omega) (by have := of_decide_eq_true z; show (ch : Int) < 3; exact this)
      repeat (first | refine ⟨_, rfl, ?_⟩ | refine ⟨_, _, rfl, rfl, ?_⟩ | refine ⟨(Nat.le_of_ble_eq_true rfl : _ ≤ sizeLine), fun p np => ?_⟩ | refine ⟨w6, ?_⟩ | refine ⟨w3, ?_⟩ | refine ⟨w2, ?_⟩ | refine ⟨_, _, _, _, rfl, rfl, SqL.of upd_same, hv, ?_⟩ | refine ⟨_, _, _, rfl, rfl, (show (Str.ofString ".#=<>^wg").length ≤ sizeLine by decide), hc, ?_⟩ | refine .inl ⟨_, rfl, ?_⟩ | refine ⟨(by decide : (0 : Int) < 2), ?_⟩ | refine ⟨_, _, _, _, rfl, rfl, (by repeat (first | exact so | refine (same_tf (new_same (by assumption))).sq ?_)), SqT.of upd_same, List.cons_ne_nil _ _, (Nat.le_of_ble_eq_true rfl : _ ≤ sizeLine), fun z => absurd z (List.cons_ne_nil _ _), fun _ p np => ?_⟩)
      refine ⟨_, _, rfl, SqT.of upd_same, fun _ => ?_, fun _ p np => ?_⟩
      · repeat (first | refine ⟨_, rfl, ?_⟩ | refine ⟨_, _, rfl, rfl, ?_⟩ | refine ⟨(Nat.le_of_ble_eq_true rfl : _ ≤ sizeLine), fun p np => ?_⟩ | refine ⟨w6, ?_⟩ | refine ⟨w3, ?_⟩ | refine ⟨w2, ?_⟩ | refine ⟨_, _, _, _, rfl, rfl, SqL.of upd_same, hv, ?_⟩ | refine ⟨_, _, _, rfl, rfl, (show (Str.ofString ".#=<>^wg").length ≤ sizeLine by decide), hc, ?_⟩ | refine .inl ⟨_, rfl, ?_⟩ | refine ⟨(by decide : (0 : Int) < 2), ?_⟩ | refine ⟨_, _, _, _, rfl, rfl, (by repeat (first | exact so | refine (same_tf (new_same (by assumption))).sq ?_)), SqT.of upd_same, List.cons_ne_nil _ _, (Nat.le_of_ble_eq_true rfl : _ ≤ sizeLine), fun z => absurd z (List.cons_ne_nil _ _), fun _ p np => ?_⟩)
        exact k _ _ (by repeat (first | exact fb | refine Frm.trans ?_ (Frm.of_new (by assumption)))) (by repeat (first | exact db.le (by omega) | refine Dk.same ?_ (new_same (by assumption))))
      · repeat (first | refine ⟨_, rfl, ?_⟩ | refine ⟨_, _, rfl, rfl, ?_⟩ | refine ⟨(Nat.le_of_ble_eq_true rfl : _ ≤ sizeLine), fun p np => ?_⟩ | refine ⟨w6, ?_⟩ | refine ⟨w3, ?_⟩ | refine ⟨w2, ?_⟩ | refine ⟨_, _, _, _, rfl, rfl, SqL.of upd_same, hv, ?_⟩ | refine ⟨_, _, _, rfl, rfl, (show (Str.ofString ".#=<>^wg").length ≤ sizeLine by decide), hc, ?_⟩ | refine .inl ⟨_, rfl, ?_⟩ | refine ⟨(by decide : (0 : Int) < 2), ?_⟩ | refine ⟨_, _, _, _, rfl, rfl, (by repeat (first | exact so | refine (same_tf (new_same (by assumption))).sq ?_)), SqT.of upd_same, List.cons_ne_nil _ _, (Nat.le_of_ble_eq_true rfl : _ ≤ sizeLine), fun z => absurd z (List.cons_ne_nil _ _), fun _ p np => ?_⟩)
        exact k _ _ (by repeat (first | exact fb | refine Frm.trans ?_ (Frm.of_new (by assumption)))) (by repeat (first | exact db.le (by omega) | refine Dk.same ?_ (new_same (by assumption))))
    dsimp only [tNext]
    clear z
    refine ⟨_, rfl, rfl, _, rfl, ite2 (fun z => ?_) (fun z => ?_)⟩
    · repeat (first | refine ⟨_, rfl, ?_⟩ | refine ⟨_, _, rfl, rfl, ?_⟩ | refine ⟨(Nat.le_of_ble_eq_true rfl : _ ≤ sizeLine), fun p np => ?_⟩ | refine ⟨w6, ?_⟩ | refine ⟨w3, ?_⟩ | refine ⟨w2, ?_⟩ | refine ⟨_, _, _, _, rfl, rfl, SqL.of upd_same, hv, ?_⟩ | refine ⟨_, _, _, rfl, rfl, (show (Str.ofString ".#=<>^wg").length ≤ sizeLine by decide), hc, ?_⟩ | refine .inl ⟨_, rfl, ?_⟩ | refine ⟨(by decide : (0 : Int) < 2), ?_⟩ | refine ⟨_, _, _, _, rfl, rfl, (by repeat (first | exact so | refine (same_tf (new_same (by assumption))).sq ?_)), SqT.of upd_same, List.cons_ne_nil _ _, (Nat.le_of_ble_eq_true rfl : _ ≤ sizeLine), fun z => absurd z (List.cons_ne_nil _ _), fun _ p np => ?_⟩)
      exact k _ _ (by repeat (first | exact fb | refine Frm.trans ?_ (Frm.of_new (by assumption)))) (by repeat (first | exact db.le (by omega) | refine Dk.same ?_ (new_same (by assumption))))
    dsimp only [tNext]
    clear z
    refine ⟨_, rfl, rfl, _, rfl, ite2 (fun z => ?_) (fun z => ?_)⟩
    · repeat (first | refine ⟨_, rfl, ?_⟩ | refine ⟨_, _, rfl, rfl, ?_⟩ | refine ⟨(Nat.le_of_ble_eq_true rfl : _ ≤ sizeLine), fun p np => ?_⟩ | refine ⟨w6, ?_⟩ | refine ⟨w3, ?_⟩ | refine ⟨w2, ?_⟩ | refine ⟨_, _, _, _, rfl, rfl, SqL.of upd_same, hv, ?_⟩ | refine ⟨_, _, _, rfl, rfl, (show (Str.ofString ".#=<>^wg").length ≤ sizeLine by decide), hc, ?_⟩ | refine .inl ⟨_, rfl, ?_⟩ | refine ⟨(by decide : (0 : Int) < 2), ?_⟩ | refine ⟨_, _, _, _, rfl, rfl, (by repeat (first | exact so | refine (same_tf (new_same (by assumption))).sq ?_)), SqT.of upd_same, List.cons_ne_nil _ _, (Nat.le_of_ble_eq_true rfl : _ ≤ sizeLine), fun z => absurd z (List.cons_ne_nil _ _), fun _ p np => ?_⟩)
      refine ⟨_, _, _, [_, _, _, _], rfl, rfl, SqT.of upd_same, (by repeat (first | exact SqT.of upd_same | refine (same_tf (new_same (by assumption))).sq ?_)), List.cons_ne_nil _ _, (Nat.le_of_ble_eq_true rfl : _ ≤ sizeLine), fun z => absurd z (List.cons_ne_nil _ _), fun _ p np => ?_⟩
      repeat (first | refine ⟨_, rfl, ?_⟩ | refine ⟨_, _, rfl, rfl, ?_⟩ | refine ⟨(Nat.le_of_ble_eq_true rfl : _ ≤ sizeLine), fun p np => ?_⟩ | refine ⟨w6, ?_⟩ | refine ⟨w3, ?_⟩ | refine ⟨w2, ?_⟩ | refine ⟨_, _, _, _, rfl, rfl, SqL.of upd_same, hv, ?_⟩ | refine ⟨_, _, _, rfl, rfl, (show (Str.ofString ".#=<>^wg").length ≤ sizeLine by decide), hc, ?_⟩ | refine .inl ⟨_, rfl, ?_⟩ | refine ⟨(by decide : (0 : Int) < 2), ?_⟩ | refine ⟨_, _, _, _, rfl, rfl, (by repeat (first | exact so | refine (same_tf (new_same (by assumption))).sq ?_)), SqT.of upd_same, List.cons_ne_nil _ _, (Nat.le_of_ble_eq_true rfl : _ ≤ sizeLine), fun z => absurd z (List.cons_ne_nil _ _), fun _ p np => ?_⟩)
      exact k _ _ (by repeat (first | exact fb | refine Frm.trans ?_ (Frm.of_new (by assumption)))) (by repeat (first | exact db.le (by omega) | refine Dk.same ?_ (new_same (by assumption))))
    dsimp only [tNext]
    clear z
    refine ⟨_, rfl, rfl, _, rfl, ite2 (fun z => ?_) (fun z => ?_)⟩
    · obtain ⟨q, y, y2, hv, so⟩ : ∃ (q : Addr) (y y2 : V), atI [V.ref p3, V.ref p4] (n % 2) = some (V.ref q) ∧ SqT K G2 q [y, y2] := by
        have : n % 2 = 0 ∨ n % 2 = 1 := by omega
        rcases this with e | e
        · rw [e]
          exact ⟨p3, _, _, rfl, so⟩
        · rw [e]
          exact ⟨p4, _, _, rfl, sm⟩
      refine ⟨_, rfl, _, rfl, (Nat.le_of_ble_eq_true rfl : _ ≤ sizeLine), fun p np => ⟨_, rfl, .inl ⟨_, rfl, _, _, rfl, rfl, (by decide : (0 : Int) < 2), _, _, _, _, rfl, rfl, SqL.of upd_same, hv, ?_⟩⟩⟩
      refine ⟨_, rfl, _, rfl, _, rfl, _, rfl, _, rfl, _, rfl, (Nat.le_of_ble_eq_true rfl : _ ≤ sizeLine), fun q1 nq1 => ⟨(Nat.le_of_ble_eq_true rfl : _ ≤ sizeLine), fun q2 nq2 => ?_⟩⟩
      obtain ⟨v, _, hv⟩ := at_mem (xs := [V.ref p2, V.ref p2, V.ref p2, V.ref q1]) (x := n / 2) (by omega) (by show n / 2 < 4; omega)
      repeat (first | refine ⟨_, rfl, ?_⟩ | refine ⟨_, _, rfl, rfl, ?_⟩ | refine ⟨(Nat.le_of_ble_eq_true rfl : _ ≤ sizeLine), fun p np => ?_⟩ | refine ⟨w6, ?_⟩ | refine ⟨w3, ?_⟩ | refine ⟨w2, ?_⟩ | refine ⟨_, _, _, _, rfl, rfl, SqL.of upd_same, hv, ?_⟩ | refine ⟨_, _, _, rfl, rfl, (show (Str.ofString ".#=<>^wg").length ≤ sizeLine by decide), hc, ?_⟩ | refine .inl ⟨_, rfl, ?_⟩ | refine ⟨(by decide : (0 : Int) < 2), ?_⟩ | refine ⟨_, _, _, _, rfl, rfl, (by repeat (first | exact so | refine (same_tf (new_same (by assumption))).sq ?_)), SqT.of upd_same, List.cons_ne_nil _ _, (Nat.le_of_ble_eq_true rfl : _ ≤ sizeLine), fun z => absurd z (List.cons_ne_nil _ _), fun _ p np => ?_⟩)
      exact k _ _ (by repeat (first | exact fb | refine Frm.trans ?_ (Frm.of_new (by assumption)))) (by repeat (first | exact db.le (by omega) | refine Dk.same ?_ (new_same (by assumption))))
    dsimp only [tNext]
    clear z
    refine ⟨_, rfl, rfl, _, rfl, ite2 (fun z => ?_) (fun z => ?_)⟩
    · repeat (first | refine ⟨_, rfl, ?_⟩ | refine ⟨_, _, rfl, rfl, ?_⟩ | refine ⟨(Nat.le_of_ble_eq_true rfl : _ ≤ sizeLine), fun p np => ?_⟩ | refine ⟨w6, ?_⟩ | refine ⟨w3, ?_⟩ | refine ⟨w2, ?_⟩ | refine ⟨_, _, _, _, rfl, rfl, SqL.of upd_same, hv, ?_⟩ | refine ⟨_, _, _, rfl, rfl, (show (Str.ofString ".#=<>^wg").length ≤ sizeLine by decide), hc, ?_⟩ | refine .inl ⟨_, rfl, ?_⟩ | refine ⟨(by decide : (0 : Int) < 2), ?_⟩ | refine ⟨_, _, _, _, rfl, rfl, (by repeat (first | exact so | refine (same_tf (new_same (by assumption))).sq ?_)), SqT.of upd_same, List.cons_ne_nil _ _, (Nat.le_of_ble_eq_true rfl : _ ≤ sizeLine), fun z => absurd z (List.cons_ne_nil _ _), fun _ p np => ?_⟩)
      exact k _ _ (by repeat (first | exact fb | refine Frm.trans ?_ (Frm.of_new (by assumption)))) (by repeat (first | exact db.le (by omega) | refine Dk.same ?_ (new_same (by assumption))))
    dsimp only [tNext]
    clear z
    refine ⟨_, rfl, rfl, _, rfl, ite2 (fun z => ?_) (fun z => ?_)⟩
    · repeat (first | refine ⟨_, rfl, ?_⟩ | refine ⟨_, _, rfl, rfl, ?_⟩ | refine ⟨(Nat.le_of_ble_eq_true rfl : _ ≤ sizeLine), fun p np => ?_⟩ | refine ⟨w6, ?_⟩ | refine ⟨w3, ?_⟩ | refine ⟨w2, ?_⟩ | refine ⟨_, _, _, _, rfl, rfl, SqL.of upd_same, hv, ?_⟩ | refine ⟨_, _, _, rfl, rfl, (show (Str.ofString ".#=<>^wg").length ≤ sizeLine by decide), hc, ?_⟩ | refine .inl ⟨_, rfl, ?_⟩ | refine ⟨(by decide : (0 : Int) < 2), ?_⟩ | refine ⟨_, _, _, _, rfl, rfl, (by repeat (first | exact so | refine (same_tf (new_same (by assumption))).sq ?_)), SqT.of upd_same, List.cons_ne_nil _ _, (Nat.le_of_ble_eq_true rfl : _ ≤ sizeLine), fun z => absurd z (List.cons_ne_nil _ _), fun _ p np => ?_⟩)
      exact k _ _ (by repeat (first | exact fb | refine Frm.trans ?_ (Frm.of_new (by assumption)))) (by repeat (first | exact db.le (by omega) | refine Dk.same ?_ (new_same (by assumption))))
    dsimp only [tNext]
    clear z
    refine ⟨_, rfl, rfl, _, rfl, ite2 (fun z => ?_) (fun z => ?_)⟩
    · repeat (first | refine ⟨_, rfl, ?_⟩ | refine ⟨_, _, rfl, rfl, ?_⟩ | refine ⟨(Nat.le_of_ble_eq_true rfl : _ ≤ sizeLine), fun p np => ?_⟩ | refine ⟨w6, ?_⟩ | refine ⟨w3, ?_⟩ | refine ⟨w2, ?_⟩ | refine ⟨_, _, _, _, rfl, rfl, SqL.of upd_same, hv, ?_⟩ | refine ⟨_, _, _, rfl, rfl, (show (Str.ofString ".#=<>^wg").length ≤ sizeLine by decide), hc, ?_⟩ | refine .inl ⟨_, rfl, ?_⟩ | refine ⟨(by decide : (0 : Int) < 2), ?_⟩ | refine ⟨_, _, _, _, rfl, rfl, (by repeat (first | exact so | refine (same_tf (new_same (by assumption))).sq ?_)), SqT.of upd_same, List.cons_ne_nil _ _, (Nat.le_of_ble_eq_true rfl : _ ≤ sizeLine), fun z => absurd z (List.cons_ne_nil _ _), fun _ p np => ?_⟩)
      exact k _ _ (by repeat (first | exact fb | refine Frm.trans ?_ (Frm.of_new (by assumption)))) (by repeat (first | exact db.le (by omega) | refine Dk.same ?_ (new_same (by assumption))))
    dsimp only [tNext]
    clear z
    refine ⟨_, rfl, rfl, _, rfl, ite2 (fun z => ?_) (fun z => ?_)⟩
    · repeat (first | refine ⟨_, rfl, ?_⟩ | refine ⟨_, _, rfl, rfl, ?_⟩ | refine ⟨(Nat.le_of_ble_eq_true rfl : _ ≤ sizeLine), fun p np => ?_⟩ | refine ⟨w6, ?_⟩ | refine ⟨w3, ?_⟩ | refine ⟨w2, ?_⟩ | refine ⟨_, _, _, _, rfl, rfl, SqL.of upd_same, hv, ?_⟩ | refine ⟨_, _, _, rfl, rfl, (show (Str.ofString ".#=<>^wg").length ≤ sizeLine by decide), hc, ?_⟩ | refine .inl ⟨_, rfl, ?_⟩ | refine ⟨(by decide : (0 : Int) < 2), ?_⟩ | refine ⟨_, _, _, _, rfl, rfl, (by repeat (first | exact so | refine (same_tf (new_same (by assumption))).sq ?_)), SqT.of upd_same, List.cons_ne_nil _ _, (Nat.le_of_ble_eq_true rfl : _ ≤ sizeLine), fun z => absurd z (List.cons_ne_nil _ _), fun _ p np => ?_⟩)
      exact k _ _ (by repeat (first | exact fb | refine Frm.trans ?_ (Frm.of_new (by assumption)))) (by repeat (first | exact db.le (by omega) | refine Dk.same ?_ (new_same (by assumption))))
    dsimp only [tNext]
    clear z
    obtain ⟨cc, hc⟩ := at_sign (z := Str.ofString ".#=<>^wg") n0 (by rw [show (Str.ofString ".#=<>^wg").length = 8 by decide]; exact n1)
    repeat (first | refine ⟨_, rfl, ?_⟩ | refine ⟨_, _, rfl, rfl, ?_⟩ | refine ⟨(Nat.le_of_ble_eq_true rfl : _ ≤ sizeLine), fun p np => ?_⟩ | refine ⟨w6, ?_⟩ | refine ⟨w3, ?_⟩ | refine ⟨w2, ?_⟩ | refine ⟨_, _, _, _, rfl, rfl, SqL.of upd_same, hv, ?_⟩ | refine ⟨_, _, _, rfl, rfl, (show (Str.ofString ".#=<>^wg").length ≤ sizeLine by decide), hc, ?_⟩ | refine .inl ⟨_, rfl, ?_⟩ | refine ⟨(by decide : (0 : Int) < 2), ?_⟩ | refine ⟨_, _, _, _, rfl, rfl, (by repeat (first | exact so | refine (same_tf (new_same (by assumption))).sq ?_)), SqT.of upd_same, List.cons_ne_nil _ _, (Nat.le_of_ble_eq_true rfl : _ ≤ sizeLine), fun z => absurd z (List.cons_ne_nil _ _), fun _ p np => ?_⟩)
    exact k _ _ (by repeat (first | exact fb | refine Frm.trans ?_ (Frm.of_new (by assumption)))) (by repeat (first | exact db.le (by omega) | refine Dk.same ?_ (new_same (by assumption))))
end
end K44
set_option maxRecDepth 100000
set_option maxHeartbeats 4000000
/-! Kinds, drawn. -/
namespace K44
open PySem PySem.Spec PyProof.Rows L2 KF KD
theorem lc_dk {n c N : Nat} {d D : Addr} {g : TG} {te : TE} {vs : List Nat} {σ : L2.St} {H1 : Hp} {Qd : Hp → Prop} (A : Nat → V → Hp → Prop)
    (mono : ∀ i v H H', TF H H' → A i v H → A i v H') (hD : H1 D = none) (hd : Dk H1 d (N + n * c)) (hn : n ≤ 1000)
    (hs : ∀ (i : Nat) Hx M, i < n → Frm d H1 Hx → Dk Hx d (M + c) → ∀ (R : VK) (S : Hp → Prop), (∀ y H4, Frm d Hx H4 → Dk H4 d M → A i y H4 → R y H4) →
      g (.int (0 + (i : Nat))) (wipe σ vs) Hx fun σ2 H2 => wipe σ2 vs = wipe σ vs ∧ tYes σ2 H2 fun b H3 => if b = true then te σ2 H3 R else S H3)
    (hq : ∀ H' us, Frm d H1 H' → Dk H' d N → H' D = some (.lst us) → us.length = n → (∀ j u, us[j]? = some u → A j u H') → Qd H') :
    ∃ W : Nat → Nat → Hp → Prop, (∃ m, W 0 m (upd H1 D (.lst []))) ∧ ∀ i m H, W i m H →
      ((Itr 0 n).stop i H ∧ Qd H) ∨ ((Itr 0 n).go i H ∧ ∃ Nx : Hp → Prop, (∀ H', Nx H' → ∃ m', m' < m ∧ W (i + 1) m' H') ∧ ∀ x H', (Itr 0 n).yld i H x H' → g x (wipe σ vs) H' fun σ2 H2 => wipe σ2 vs = wipe σ vs ∧ tYes σ2 H2 fun b H3 =>
        if b = true then te σ2 H3 fun y H4 => ∃ acc, H4 D = some (.lst acc) ∧ acc.length < sizeLine ∧ Nx (upd H4 D (.lst (acc ++ [y]))) else Nx H3) := by
  have Dd := hd.ne hD
  refine lc_range (lo := 0) (n := n) (fun i H' => ∃ us, Frm d H1 H' ∧ Dk H' d (N + (n - i) * c) ∧ H' D = some (.lst us) ∧ us.length = i ∧ ∀ j u, us[j]? = some u → A j u H')
    ⟨[], frm_new (Frm.refl _ _) hD, hd.upd Dd, upd_same, rfl, fun j u h => by simp at h⟩ (fun i H' hi h => ?_) (fun H' h => ?_)
  · obtain ⟨us, f, dk, hl, hlen, hA⟩ := h
    have e : (n - i) * c = (n - (i + 1)) * c + c := by
      rw [show n - i = (n - (i + 1)) + 1 by omega, Nat.succ_mul]
    refine hs i H' (N + (n - (i + 1)) * c) hi f (dk.le (by omega)) _ _ fun y H4 f4 d4 hy => ?_
    have hl4 := f4 _ _ Dd hl
    obtain ⟨xs1, hx1⟩ := dk.lst
    have tf4 := f4.tf hx1
    have tfD := Frm.tf (Frm.of_upd (d := D) (H := H4) (o := .lst (us ++ [y]))) hl4
    refine ⟨us, hl4, Nat.lt_of_le_of_lt (show us.length ≤ 1000 by omega) (by decide), us ++ [y], frm_new (f.trans f4) hD, d4.upd Dd, upd_same, by simp [hlen], fun j u hj => ?_⟩
    by_cases hlt : j < us.length
    · rw [List.getElem?_append_left hlt] at hj
      exact mono _ _ _ _ (tf4.trans tfD) (hA j u hj)
    · have hj2 : j = us.length := by
        have := (List.getElem?_eq_some_iff.mp hj).1
        rw [List.length_append, List.length_singleton] at this
        omega
      subst hj2
      rw [List.getElem?_append_right (Nat.le_refl _), Nat.sub_self] at hj
      cases hj
      rw [hlen]
      exact mono _ _ _ _ tfD hy
  · obtain ⟨us, f, dk, hl, hlen, hA⟩ := h
    exact hq _ us f (dk.le (by omega)) hl hlen hA
theorem at_nat0 {α : Type} {xs : List α} {j : Nat} {v : α} (h : xs[j]? = some v) : atI xs (0 + (j : Int)) = some v := by
  rw [Int.zero_add]
  exact atI_nat h
def trn : List Str := ["bars", "carries", "falls", "frail", "pushed"]
structure KdR (K : PySem.W.Frag) (H : Hp) (a : Addr) (wd hg : Int) : Prop where
  ex : ∃ (nm : Str) (tr : Addr) (ts : List Str) (ow ru : V), SqT K H a [.str nm, .int wd, .int hg, .ref tr, ow, ru] ∧ SqT K H tr (ts.map V.str) ∧ ts.length ≤ 5
  wd : 1 ≤ wd ∧ wd ≤ 16
  hg : 1 ≤ hg ∧ hg ≤ 16
theorem KdR.tf {K : PySem.W.Frag} {H H' : Hp} {a : Addr} {wd hg : Int} (s : TF H H') (h : KdR K H a wd hg) : KdR K H' a wd hg := by
  obtain ⟨⟨nm, tr, ts, ow, ru, h1, h2, h3⟩, hw, hh⟩ := h
  exact ⟨⟨nm, tr, ts, ow, ru, s.sq h1, s.sq h2, h3⟩, hw, hh⟩
section
variable {P : Program} {w : World} {K : PySem.W.Frag} {mg : Str → Option Value} {base : Heap}
def spKd (K : PySem.W.Frag) : Sp := fun vs H Q _ => ∃ (d : Addr) (n j : Nat) (m : Int), vs = [.ref d, .int (j : Int), .int m] ∧ j ≤ 7 ∧ 1 ≤ m ∧ m ≤ 8 ∧ Dk H d (n + 100) ∧ ∀ a wd hg H', Frm d H H' → Dk H' d n → KdR K H' a wd hg → Q (.ref a) H'
theorem scKd : FnScope ["deck", "k", "kinds", "size", "wide", "high", "bars", "carries", "falls", "frail", "pushed", "likely", "names", "own", "rules", "traits", "turn", "j"] ["deck", "k", "kinds"] (defScope s_law_kind) := ⟨rfl, rfl, rfl, by decide +kernel, rfl, by decide +kernel, by decide +kernel⟩
theorem ok_law_kind (T : Txt K w mg) : FnOk P w K mg base CX0 3 (He.fAd K ("_law_kind", none)) (fdAt K (He.fAd K ("_law_kind", none))) ["deck", "k", "kinds"] (spKd K) := by
  refine T.F_law_kind.ok scKd (fun vs H Q E h => ?_) (fun cdv A outer s H vs Q E hr h => ?_)
  · obtain ⟨d, N, j, m, rfl, _⟩ := h
    rfl
  · obtain ⟨d, N, j, m, rfl, hj, m1, m8, hd, k⟩ := h
    refine ⟨_, PSs.nox (pss_cons (ps_set (i := 3) scKd.nd rfl (Or.inl rfl) (pe_ix (r := rIxL K) ix_list (pe_lst (pa_cons pe_int (pa_cons pe_int (pa_cons pe_int pa_nil)))) (pe_call (ok_law_take T) (hr.mono (by decide)) (by rfl) T.g_law_take (T.F_law_take).kp T.b_law_take .nil pass0 (pa_cons (pv 0) (pa_cons pe_int pa_nil))) (fun _ _ => rfl)))
      (pss_cons (ps_par (i := 4) (j := 5) (by rfl) scKd.nd rfl rfl (by decide) rfl rfl (pa_cons (pe_op op_add pe_int (pe_call (ok_law_take T) (hr.mono (by decide)) (by rfl) T.g_law_take (T.F_law_take).kp T.b_law_take .nil pass0 (pa_cons (pv 0) (pa_cons (pv 3) pa_nil)))) (pa_cons (pe_op op_add pe_int (pe_call (ok_law_take T) (hr.mono (by decide)) (by rfl) T.g_law_take (T.F_law_take).kp T.b_law_take .nil pass0 (pa_cons (pv 0) (pa_cons (pv 3) pa_nil)))) pa_nil)) (by rfl))
      (pss_cons (ps_asg (pe_lc (own := [("turn", 16)]) (g := gName 16) (tt := tYes) (by rfl) scKd.nd (pi_range1 (by rfl) T.n_range (pa_cons pe_int pa_nil)) (blkOk_by (own := [("turn", 16)]) (N := ["deck", "k", "kinds", "size", "wide", "high", "bars", "carries", "falls", "frail", "pushed", "likely", "names", "own", "rules", "traits", "turn", "j"]) (sc := defScope s_law_kind) (by decide +kernel)) (fun _ _ _ _ _ => pg_name (i := 16) scKd.nd rfl (Or.inl rfl)) (fun _ _ _ _ _ => pts_nil) (fun _ _ _ _ _ => (pe_call (ok_law_take T) (hr.mono (by decide)) (by rfl) T.g_law_take (T.F_law_take).kp T.b_law_take .nil pass0 (pa_cons (pv 0) (pa_cons pe_int pa_nil))))) (pg_lst (by rfl) (pgs_cons (pg_name (i := 6) scKd.nd rfl (Or.inl rfl)) (pgs_cons (pg_name (i := 7) scKd.nd rfl (Or.inl rfl)) (pgs_cons (pg_name (i := 8) scKd.nd rfl (Or.inl rfl)) (pgs_cons (pg_name (i := 9) scKd.nd rfl (Or.inl rfl)) (pgs_cons (pg_name (i := 10) scKd.nd rfl (Or.inl rfl)) pgs_nil)))))))
      (pss_cons (ps_set (i := 11) scKd.nd rfl (Or.inr rfl) (pe_lst (pa_cons (pe_or (pe_cmpR op_gt (pv 6) pe_int (nomark _)) (pe_or (pe_cmpR op_eq (pv 7) pe_int (nomark _)) (pe_one (pe_cmpR op_gt (pv 10) pe_int (nomark _))))) (pa_cons (pe_cmpR op_eq (pv 7) pe_int (nomark _)) (pa_cons (pe_cmpR op_gt (pv 8) pe_int (nomark _)) (pa_cons (pe_cmpR op_gt (pv 9) pe_int (nomark _)) (pa_cons (pe_cmpR op_gt (pv 10) pe_int (nomark _)) pa_nil)))))))
      (pss_cons (ps_set (i := 12) scKd.nd rfl (Or.inr rfl) (pe_lst (pa_cons pe_str (pa_cons pe_str (pa_cons pe_str (pa_cons pe_str (pa_cons pe_str pa_nil)))))))
      (pss_cons (ps_set (i := 13) scKd.nd rfl (Or.inl rfl) (pe_callTy call_tuple_of (by rfl) T.n_tuple PyProof.Rows.Boot.«tuple» (pa_cons (pe_lc (own := [("turn", 16)]) (g := gName 16) (tt := tYes) (by rfl) scKd.nd (pi_range1 (by rfl) T.n_range (pa_cons pe_int pa_nil)) (blkOk_by (own := [("turn", 16)]) (N := ["deck", "k", "kinds", "size", "wide", "high", "bars", "carries", "falls", "frail", "pushed", "likely", "names", "own", "rules", "traits", "turn", "j"]) (sc := defScope s_law_kind) (by decide +kernel)) (fun _ _ _ _ _ => pg_name (i := 16) scKd.nd rfl (Or.inl rfl)) (fun _ _ _ _ _ => pts_nil) (fun _ _ _ _ _ => (pe_op op_sub (pe_call (ok_law_take T) (hr.mono (by decide)) (by rfl) T.g_law_take (T.F_law_take).kp T.b_law_take .nil pass0 (pa_cons (pv 0) (pa_cons pe_int pa_nil))) pe_int))) pa_nil)))
      (pss_cons (ps_set (i := 14) scKd.nd rfl (Or.inl rfl) (pe_callTy call_tuple_of (by rfl) T.n_tuple PyProof.Rows.Boot.«tuple» (pa_cons (pe_lc (own := [("turn", 16)]) (g := gName 16) (tt := tYes) (by rfl) scKd.nd (pi_range1 (by rfl) T.n_range (pa_cons (pe_ix (r := rIxL K) ix_list (pe_lst (pa_cons pe_int (pa_cons pe_int (pa_cons pe_int (pa_cons pe_int (pa_cons pe_int (pa_cons pe_int pa_nil))))))) (pe_call (ok_law_take T) (hr.mono (by decide)) (by rfl) T.g_law_take (T.F_law_take).kp T.b_law_take .nil pass0 (pa_cons (pv 0) (pa_cons pe_int pa_nil))) (fun _ _ => rfl)) pa_nil)) (blkOk_by (own := [("turn", 16)]) (N := ["deck", "k", "kinds", "size", "wide", "high", "bars", "carries", "falls", "frail", "pushed", "likely", "names", "own", "rules", "traits", "turn", "j"]) (sc := defScope s_law_kind) (by decide +kernel)) (fun _ _ _ _ _ => pg_name (i := 16) scKd.nd rfl (Or.inl rfl)) (fun _ _ _ _ _ => pts_nil) (fun _ _ _ _ _ => (pe_call (ok_law_piece T) (hr.mono (by decide)) (by rfl) T.g_law_piece (T.F_law_piece).kp T.b_law_piece .nil pass0 (pa_cons (pv 0) (pa_cons (pv 2) pa_nil))))) pa_nil)))
      (pss_cons (ps_set (i := 15) scKd.nd rfl (Or.inl rfl) (pe_callTy call_tuple_of (by rfl) T.n_tuple PyProof.Rows.Boot.«tuple» (pa_cons (pe_lc (own := [("j", 17)]) (g := gName 17) (by rfl) scKd.nd (pi_range1 (by rfl) T.n_range (pa_cons pe_int pa_nil)) (blkOk_by (own := [("j", 17)]) (N := ["deck", "k", "kinds", "size", "wide", "high", "bars", "carries", "falls", "frail", "pushed", "likely", "names", "own", "rules", "traits", "turn", "j"]) (sc := defScope s_law_kind) (by decide +kernel)) (fun _ _ _ _ _ => pg_name (i := 17) scKd.nd rfl (Or.inl rfl)) (fun _ _ _ _ _ => pts_one (pt_val (pe_ix (r := rIxL K) ix_list (pv 11) (pv 17) (fun _ _ => rfl)))) (fun _ _ _ _ _ => (pe_ix (r := rIxL K) ix_list (pv 12) (pv 17) (fun _ _ => rfl)))) pa_nil)))
      (pss_one (ps_ret (pe_tup (pa_cons (pe_op op_mulS (pe_ix ix_str pe_str (pv 1) (fun _ _ => rfl)) (pe_op op_add pe_int (pe_call (ok_law_take T) (hr.mono (by decide)) (by rfl) T.g_law_take (T.F_law_take).kp T.b_law_take .nil pass0 (pa_cons (pv 0) (pa_cons pe_int pa_nil))))) (pa_cons (pv 4) (pa_cons (pv 5) (pa_cons (pv 15) (pa_cons (pv 13) (pa_cons (pv 14) pa_nil))))))))))))))))), ?_⟩
    -- size
    refine ⟨(show 3 ≤ sizeLine by decide), fun p np => ?_⟩
    have sp := new_same (o := .lst [V.int 3, V.int 7, V.int 16]) np
    refine ⟨_, rfl, d, 3, N + 98, rfl, by decide, by decide, (hd.same sp).le (by omega), fun x1 Ha a0 a1 fa da => ?_⟩
    have hp := fa p _ (hd.ne np) upd_same
    obtain ⟨sz, e1, sz1, sz2⟩ : ∃ sz : Int, atI [V.int 3, V.int 7, V.int 16] x1 = some (.int sz) ∧ 3 ≤ sz ∧ sz ≤ 16 := by
      have : x1 = 0 ∨ x1 = 1 ∨ x1 = 2 := by omega
      rcases this with e | e | e <;> subst e
      · exact ⟨_, rfl, by decide, by decide⟩
      · exact ⟨_, rfl, by decide, by decide⟩
      · exact ⟨_, rfl, by decide, by decide⟩
    refine ⟨p, _, _, _, rfl, rfl, SqL.of hp, e1, ?_⟩
    have f1 := (Frm.of_same (d := d) sp).trans fa
    clear sp fa hp e1 np
    -- wide, high
    refine ⟨_, rfl, _, rfl, d, sz, N + 97, rfl, by omega, by omega, da.le (by omega), fun x2 Hb b0 b1 fb db => ?_⟩
    refine ⟨_, _, rfl, rfl, _, rfl, _, rfl, d, sz, N + 96, rfl, by omega, by omega, db.le (by omega), fun x3 Hc c0 c1 fc dc => ?_⟩
    refine ⟨_, _, rfl, rfl, _, _, rfl, ?_⟩
    have f2 := (f1.trans fb).trans fc
    clear f1 fb fc da db
    -- bars, ..
    try dsimp only
    refine ⟨_, rfl, by decide, by decide, fun D hD => ?_⟩
    refine lc_dk (n := 5) (c := 1) (N := N + 91) (d := d) (fun _ v _ => ∃ z : Int, v = .int z) (fun _ _ _ _ _ h => h) hD (dc.le (by omega)) (by decide) (fun i Hx M hi f dk R S q => ?_) (fun H1 us f dk hl hlen hA => ?_)
    · refine ⟨rfl, ?_⟩
      dsimp only [tYes]
      rw [if_pos rfl]
      exact ⟨_, rfl, d, 4, M, rfl, by decide, by decide, dk, fun y H4 _ _ f4 d4 => q _ _ f4 d4 ⟨_, rfl⟩⟩
    obtain ⟨v0, v1, v2, v3, v4, rfl⟩ : ∃ v0 v1 v2 v3 v4 : Int, us = [.int v0, .int v1, .int v2, .int v3, .int v4] := by
      match us, hlen with
      | [a, b, c, e, g], _ =>
        obtain ⟨v0, rfl⟩ := hA 0 _ rfl
        obtain ⟨v1, rfl⟩ := hA 1 _ rfl
        obtain ⟨v2, rfl⟩ := hA 2 _ rfl
        obtain ⟨v3, rfl⟩ := hA 3 _ rfl
        obtain ⟨v4, rfl⟩ := hA 4 _ rfl
        exact ⟨v0, v1, v2, v3, v4, rfl⟩
    have f3 := f2.trans f
    refine ⟨D, _, rfl, SqL.of hl, rfl, _, _, rfl, _, _, rfl, _, _, rfl, _, _, rfl, _, _, rfl, rfl, ?_⟩
    clear hA hl f2 f hlen
    -- likely
    try dsimp only
    refine seq_cut (fun σ' H' => ∃ (pl : Addr) (l0 l1 l2 l3 l4 : Bool), σ' = [some (.ref d), some (.int (j : Int)), some (.int m), some (.int sz), some (.int (1 + x2)), some (.int (1 + x3)), some (.int v0), some (.int v1), some (.int v2), some (.int v3), some (.int v4), some (.ref pl), none, none, none, none, none, none] ∧ pl ≠ d ∧ H' pl = some (.lst ([l0, l1, l2, l3, l4].map V.bl)) ∧ Frm d H H' ∧ Dk H' d (N + 91)) (fun σ' H' hP => ?_) (fun R hR => ?_)
    rotate_left
    · refine ⟨_, rfl, _, _, rfl, rfl, _, rfl, ite2 (fun z => ?_) (fun z => ⟨_, rfl, rfl, _, rfl, ite2 (fun z => ?_) (fun z => ⟨_, rfl, _, _, rfl, rfl, ?_⟩)⟩)⟩
      all_goals exact ⟨_, rfl, rfl, _, rfl, _, _, rfl, rfl, _, rfl, _, _, rfl, rfl, _, rfl, _, _, rfl, rfl, (show 5 ≤ sizeLine by decide), fun pl npl => hR _ _ ⟨pl, _, _, _, _, _, rfl, dk.ne npl, upd_same, f3.trans (Frm.of_same (new_same npl)), dk.same (new_same npl)⟩⟩
    clear f3 dk dc
    obtain ⟨pl, l0, l1, l2, l3, l4, rfl, pld, hpl, fe, de⟩ := hP
    -- names
    refine ⟨(show 5 ≤ sizeLine by decide), fun pn npn => ?_⟩
    have sn := new_same (o := .lst (trn.map V.str)) npn
    have pnd := de.ne npn
    have hpn : (upd H' pn (.lst (trn.map V.str))) pn = some (.lst (trn.map V.str)) := upd_same
    replace hpl := sn _ _ hpl
    replace fe := fe.trans (Frm.of_same sn)
    replace de := de.same sn
    try dsimp only [gName]
    refine seq_cut (fun σ' H'' => ∃ (ow : V), σ' = [some (.ref d), some (.int (j : Int)), some (.int m), some (.int sz), some (.int (1 + x2)), some (.int (1 + x3)), some (.int v0), some (.int v1), some (.int v2), some (.int v3), some (.int v4), some (.ref pl), some (.ref pn), some ow, none, none, none, none] ∧ Frm d (upd H' pn (.lst (trn.map V.str))) H'' ∧ Dk H'' d (N + 87)) (fun σ' H'' hP => ?_) (fun R hR => ?_)
    rotate_left
    · refine ⟨_, rfl, by decide, by decide, fun D hD => ?_⟩
      refine lc_dk (n := 4) (c := 1) (N := N + 87) (d := d) (fun _ v _ => ∃ z : Int, v = .int z) (fun _ _ _ _ _ h => h) hD (de.le (by omega)) (by decide) (fun i Hx M hi f dk R S q => ?_) (fun H1 us f dk hl hlen hA => ?_)
      · refine ⟨rfl, ?_⟩
        dsimp only [tYes]
        rw [if_pos rfl]
        exact ⟨_, rfl, d, 1999, M, rfl, by decide, by decide, dk, fun y H4 _ _ f4 d4 => ⟨_, _, rfl, rfl, q _ _ f4 d4 ⟨_, rfl⟩⟩⟩
      · exact ⟨D, _, rfl, .inl ⟨SqL.of hl, fun t nt => hR _ _ ⟨_, rfl, f.trans (Frm.of_same (new_same nt)), dk.same (new_same nt)⟩⟩⟩
    obtain ⟨ow, rfl, f5, d5⟩ := hP
    clear de
    try dsimp only
    refine seq_cut (fun σ' H2 => ∃ (ru : V), σ' = [some (.ref d), some (.int (j : Int)), some (.int m), some (.int sz), some (.int (1 + x2)), some (.int (1 + x3)), some (.int v0), some (.int v1), some (.int v2), some (.int v3), some (.int v4), some (.ref pl), some (.ref pn), some ow, some ru, none, none, none] ∧ Frm d (upd H' pn (.lst (trn.map V.str))) H2 ∧ Dk H2 d (N + 20)) (fun σ' H2 hP => ?_) (fun R hR => ?_)
    rotate_left
    · refine ⟨(show 6 ≤ sizeLine by decide), fun p np => ?_⟩
      have sp := new_same (o := .lst [V.int 0, V.int 1, V.int 2, V.int 2, V.int 3, V.int 3]) np
      refine ⟨_, rfl, d, 6, N + 86, rfl, by decide, by decide, (d5.same sp).le (by omega), fun x1 Ha a0 a1 fa da => ?_⟩
      have hp := fa p _ (d5.ne np) upd_same
      obtain ⟨M, e1, hM⟩ : ∃ M : Nat, atI [V.int 0, V.int 1, V.int 2, V.int 2, V.int 3, V.int 3] x1 = some (.int (M : Int)) ∧ M ≤ 3 := by
        have : x1 = 0 ∨ x1 = 1 ∨ x1 = 2 ∨ x1 = 3 ∨ x1 = 4 ∨ x1 = 5 := by omega
        rcases this with e | e | e | e | e | e <;> subst e
        · exact ⟨0, rfl, by decide⟩
        · exact ⟨1, rfl, by decide⟩
        · exact ⟨2, rfl, by decide⟩
        · exact ⟨2, rfl, by decide⟩
        · exact ⟨3, rfl, by decide⟩
        · exact ⟨3, rfl, by decide⟩
      refine ⟨p, _, _, _, rfl, rfl, SqL.of hp, e1, _, rfl, by omega, by omega, fun D hD => ?_⟩
      rw [show ((M : Nat) : Int).toNat = M from Int.toNat_natCast M]
      refine lc_dk (n := M) (c := 10) (N := N + 20) (d := d) (fun _ v _ => True) (fun _ _ _ _ _ h => h) hD (da.le (by omega)) (by omega) (fun i Hx M hi f dk R S q => ?_) (fun H1 us f dk hl hlen hA => ?_)
      · refine ⟨rfl, ?_⟩
        dsimp only [tYes]
        rw [if_pos rfl]
        exact ⟨_, rfl, _, rfl, d, M, m, rfl, m1, m8, dk, fun y H4 f4 d4 => q _ _ f4 d4 trivial⟩
      · exact ⟨D, _, rfl, .inl ⟨SqL.of hl, fun t nt => hR _ _ ⟨_, rfl, ((f5.trans (Frm.of_same sp)).trans (fa.trans f)).trans (Frm.of_same (new_same nt)), dk.same (new_same nt)⟩⟩⟩
    obtain ⟨ru, rfl, f6, d6⟩ := hP
    clear f5 d5
    try dsimp only
    replace hpl := f6 _ _ pld hpl
    replace hpn := f6 _ _ pnd hpn
    replace f6 := fe.trans f6
    clear fe
    -- traits
    refine ⟨_, rfl, by decide, by decide, fun D hD => ?_⟩
    refine lc_range (lo := 0) (n := 5) (fun i H3 => ∃ ts : List Str, Same H2 H3 ∧ H3 D = some (.lst (ts.map V.str)) ∧ ts.length ≤ i) ⟨[], new_same hD, upd_same, Nat.le_refl _⟩ (fun i H3 hi h => ?_) (fun H3 h => ?_)
    · obtain ⟨ts, s3, hl, hlen⟩ := h
      have b1 : ([l0, l1, l2, l3, l4].map V.bl)[i]? = some (.bl ([l0, l1, l2, l3, l4][i]'hi)) := by rw [List.getElem?_map, List.getElem?_eq_getElem hi]; rfl
      have b2 : (trn.map V.str)[i]? = some (.str (trn[i]'hi)) := by rw [List.getElem?_map, List.getElem?_eq_getElem (show i < trn.length from hi)]; rfl
      refine ⟨rfl, _, rfl, _, rfl, pl, _, _, _, rfl, rfl, SqL.of (s3 _ _ hpl), at_nat0 b1, _, rfl, ?_⟩
      refine ite2 (fun z => ?_) (fun z => ⟨ts, s3, hl, by omega⟩)
      refine ⟨_, rfl, _, rfl, pn, _, _, _, rfl, rfl, SqL.of (s3 _ _ hpn), at_nat0 b2, _, hl, Nat.lt_of_le_of_lt (show (ts.map V.str).length ≤ 24 by rw [List.length_map]; omega) (by decide), ts ++ [trn[i]'hi], frm_same s3 hD Frm.of_upd, ?_, by simp [hlen]⟩
      rw [List.map_append]
      exact upd_same
    obtain ⟨ts, s3, hl, hlen⟩ := h
    refine ⟨D, _, rfl, .inl ⟨SqL.of hl, fun t nt => ?_⟩⟩
    have st := new_same (o := .tup (ts.map V.str)) nt
    obtain ⟨c0, hc⟩ := at_sign (z := Str.ofString "abcdefgh") (x := (j : Int)) (by omega) (by rw [show (Str.ofString "abcdefgh").length = 8 by decide]; omega)
    refine ⟨_, rfl, _, _, c0, rfl, rfl, (show (Str.ofString "abcdefgh").length ≤ sizeLine by decide), hc, _, rfl, d, 8, N, rfl, by decide, by decide, ((d6.same s3).same st).le (by omega), fun x H5 g0 g1 f7 d7 => ?_⟩
    obtain ⟨X, rfl⟩ := Int.eq_ofNat_of_zero_le g0
    refine ⟨_, _, rfl, rfl, ⟨#[c0]⟩, X + 1, rfl, congrArg V.int (by omega), by omega, by omega, Nat.le_refl 1, (show 1 ≤ 1000 by decide), fun z hz => ?_⟩
    refine ⟨_, rfl, _, rfl, _, rfl, _, rfl, _, rfl, (show 6 ≤ sizeLine by decide), fun p np => ?_⟩
    have sp := new_same (o := .tup [V.str z, .int (1 + x2), .int (1 + x3), .ref t, ow, ru]) np
    obtain ⟨xs1, hx1⟩ := ((d6.same s3).same st).lst
    exact k p (1 + x2) (1 + x3) _ (((f6.trans (Frm.of_same (s3.trans st))).trans f7).trans (Frm.of_same sp)) (d7.same sp) ⟨⟨z, t, ts, ow, ru, SqT.of upd_same, (same_tf sp).sq ((f7.tf hx1).sq (SqT.of upd_same)), hlen⟩, by omega, by omega⟩
end
end K44
set_option maxRecDepth 100000
set_option maxHeartbeats 4000000
/-! Boxes, traits, meetings. -/
namespace K44
open PySem PySem.Spec PyProof.Rows L2 KF KD
structure Gm where
  rows : List Str
  W : Nat
  kd : List (Int × Int)
structure GmR (K : PySem.W.Frag) (H : Hp) (g : Addr) (G : Gm) : Prop where
  ex : ∃ (g0 fl gk : Addr) (st ho pu : V) (ks : List V), SqT K H g [.ref g0, .ref gk] ∧ SqT K H g0 [.ref fl, st, ho, pu] ∧ FlR K H fl G.rows G.W ∧ SqT K H gk ks ∧ ks.length = G.kd.length ∧
    ∀ (i : Nat) (q : Int × Int), G.kd[i]? = some q → ∃ a, ks[i]? = some (.ref a) ∧ KdR K H a q.1 q.2
  many : 1 ≤ G.kd.length ∧ G.kd.length ≤ 8
theorem GmR.tf {K : PySem.W.Frag} {H H' : Hp} {g : Addr} {G : Gm} (s : TF H H') (h : GmR K H g G) : GmR K H' g G := by
  obtain ⟨⟨g0, fl, gk, st, ho, pu, ks, h1, h2, h3, h4, h5, h6⟩, hm⟩ := h
  exact ⟨⟨g0, fl, gk, st, ho, pu, ks, s.sq h1, s.sq h2, h3.tf s, s.sq h4, h5, fun i q hq => by
    obtain ⟨a, e, r⟩ := h6 i q hq
    exact ⟨a, e, r.tf s⟩⟩, hm⟩
structure Th where
  idx : Nat
  ho : Int
  x : Int
  y : Int
  dx : Int
  dy : Int
  re : Int
  own : List Int
structure ThR (K : PySem.W.Frag) (H : Hp) (t : Addr) (h : Th) : Prop where
  ex : ∃ o, SqT K H t [.int (h.idx : Int), .int h.ho, .int h.x, .int h.y, .int h.dx, .int h.dy, .int h.re, .ref o] ∧ SqT K H o (h.own.map V.int)
  len : h.own.length = 4
  sm : h.ho.natAbs < 100000 ∧ h.x.natAbs < 100000 ∧ h.y.natAbs < 100000 ∧ h.dx.natAbs < 100000 ∧ h.dy.natAbs < 100000 ∧ h.re.natAbs < 100000 ∧ ∀ z ∈ h.own, z.natAbs < 100000
theorem ThR.tf {K : PySem.W.Frag} {H H' : Hp} {t : Addr} {h : Th} (s : TF H H') (r : ThR K H t h) : ThR K H' t h := by
  obtain ⟨⟨o, h1, h2⟩, h3, h4⟩ := r
  exact ⟨⟨o, s.sq h1, s.sq h2⟩, h3, h4⟩
section
variable {P : Program} {w : World} {K : PySem.W.Frag} {mg : Str → Option Value} {base : Heap}
def spBx (K : PySem.W.Frag) : Sp := fun vs H Q _ => ∃ (g t : Addr) (G : Gm) (h : Th) (q : Int × Int), vs = [.ref g, .ref t] ∧ GmR K H g G ∧ ThR K H t h ∧ G.kd[h.idx]? = some q ∧ 
  ((1 ≤ q.1 ∧ q.1 ≤ 16) → (1 ≤ q.2 ∧ q.2 ≤ 16) → ∀ p H', Same H H' → SqT K H' p [.int h.x, .int h.y, .int q.1, .int q.2] → Q (.ref p) H')
theorem scBx : FnScope ["game", "thing", "kind"] ["game", "thing"] (defScope s_law_box) := ⟨rfl, rfl, rfl, by decide +kernel, rfl, by decide +kernel, by decide +kernel⟩
theorem ok_law_box (T : Txt K w mg) : FnOk P w K mg base CX0 1 (He.fAd K ("_law_box", none)) (fdAt K (He.fAd K ("_law_box", none))) ["game", "thing"] (spBx K) := by
  refine T.F_law_box.ok scBx (fun vs H Q E h => ?_) (fun cdv A outer s H vs Q E hr h => ?_)
  · obtain ⟨g, t, G, h, q, rfl, _⟩ := h
    rfl
  · obtain ⟨g, t, G, h, q, rfl, hg, ht, hq, k⟩ := h
    refine ⟨_, PSs.nox (pss_cons (ps_set (i := 2) scBx.nd rfl (Or.inl rfl) (pe_ix (r := rIxT K) ix_tup (pe_ix (r := rIxT K) ix_tup (pv 0) pe_int (fun _ _ => rfl)) (pe_ix (r := rIxT K) ix_tup (pv 1) pe_int (fun _ _ => rfl)) (fun _ _ => rfl)))
      (pss_one (ps_ret (pe_tup (pa_cons (pe_ix (r := rIxT K) ix_tup (pv 1) pe_int (fun _ _ => rfl)) (pa_cons (pe_ix (r := rIxT K) ix_tup (pv 1) pe_int (fun _ _ => rfl)) (pa_cons (pe_ix (r := rIxT K) ix_tup (pv 2) pe_int (fun _ _ => rfl)) (pa_cons (pe_ix (r := rIxT K) ix_tup (pv 2) pe_int (fun _ _ => rfl)) pa_nil)))))))), ?_⟩
    obtain ⟨⟨g0, fl, gk, st, ho, pu, ks, h1, h2, h3, h4, h5, h6⟩, hm⟩ := hg
    obtain ⟨⟨o, t1, t2⟩, t3, t4⟩ := ht
    obtain ⟨a, ea, ⟨nm, tr, ts, ow, ru, r1, r2, r3⟩, hw, hh⟩ := h6 _ _ hq
    refine ⟨_, rfl, g, _, _, _, rfl, rfl, h1, at_of (j := 1) rfl rfl, _, rfl, t, _, _, _, rfl, rfl, t1, at_of (j := 0) rfl rfl, gk, _, _, _, rfl, rfl, h4, atI_nat ea, ?_⟩
    refine ⟨_, rfl, t, _, _, _, rfl, rfl, t1, at_of (j := 2) rfl rfl, _, rfl, t, _, _, _, rfl, rfl, t1, at_of (j := 3) rfl rfl, _, rfl, a, _, _, _, rfl, rfl, r1, at_of (j := 1) rfl rfl, _, rfl, a, _, _, _, rfl, rfl, r1, at_of (j := 2) rfl rfl, (show 4 ≤ sizeLine by decide), fun p np => ?_⟩
    exact k hw hh p _ (new_same np) (SqT.of upd_same)
def spIs (K : PySem.W.Frag) : Sp := fun vs H Q _ => ∃ (g t : Addr) (G : Gm) (h : Th) (q : Int × Int) (z : Str), vs = [.ref g, .ref t, .str z] ∧ GmR K H g G ∧ ThR K H t h ∧ G.kd[h.idx]? = some q ∧ ∀ b, Q (.bl b) H
theorem scIs : FnScope ["game", "thing", "trait"] ["game", "thing", "trait"] (defScope s_law_is) := ⟨rfl, rfl, rfl, by decide +kernel, rfl, by decide +kernel, by decide +kernel⟩
theorem ok_law_is (T : Txt K w mg) : FnOk P w K mg base CX0 1 (He.fAd K ("_law_is", none)) (fdAt K (He.fAd K ("_law_is", none))) ["game", "thing", "trait"] (spIs K) := by
  refine T.F_law_is.ok scIs (fun vs H Q E h => ?_) (fun cdv A outer s H vs Q E hr h => ?_)
  · obtain ⟨g, t, G, h, q, z, rfl, _⟩ := h
    rfl
  · obtain ⟨g, t, G, h, q, z, rfl, hg, ht, hq, k⟩ := h
    refine ⟨_, PSs.nox (pss_one (ps_ret (pe_cmpR (r := rIn K false) op_in_seq (pv 2) (pe_ix (r := rIxT K) ix_tup (pe_ix (r := rIxT K) ix_tup (pe_ix (r := rIxT K) ix_tup (pv 0) pe_int (fun _ _ => rfl)) (pe_ix (r := rIxT K) ix_tup (pv 1) pe_int (fun _ _ => rfl)) (fun _ _ => rfl)) pe_int (fun _ _ => rfl)) rfl))), ?_⟩
    obtain ⟨⟨g0, fl, gk, st, ho, pu, ks, h1, h2, h3, h4, h5, h6⟩, hm⟩ := hg
    obtain ⟨⟨o, t1, t2⟩, t3, t4⟩ := ht
    obtain ⟨a, ea, ⟨nm, tr, ts, ow, ru, r1, r2, r3⟩, hw, hh⟩ := h6 _ _ hq
    refine ⟨_, rfl, _, rfl, g, _, _, _, rfl, rfl, h1, at_of (j := 1) rfl rfl, _, rfl, t, _, _, _, rfl, rfl, t1, at_of (j := 0) rfl rfl, gk, _, _, _, rfl, rfl, h4, atI_nat ea, a, _, _, _, rfl, rfl, r1, at_of (j := 3) rfl rfl, tr, _, rfl, .inr r2, rfl, ?_, k _⟩
    rw [List.all_map]
    exact List.all_eq_true.mpr fun _ _ => rfl
def spMe (K : PySem.W.Frag) : Sp := fun vs H Q _ => ∃ (p q : Addr) (x y c d x2 y2 c2 d2 : Int), vs = [.ref p, .ref q] ∧ SqT K H p [.int x, .int y, .int c, .int d] ∧ SqT K H q [.int x2, .int y2, .int c2, .int d2] ∧ ∀ b, Q (.bl b) H
theorem scMe : FnScope ["item", "mate", "across"] ["item", "mate"] (defScope s_law_meet) := ⟨rfl, rfl, rfl, by decide +kernel, rfl, by decide +kernel, by decide +kernel⟩
theorem ok_law_meet (T : Txt K w mg) : FnOk P w K mg base CX0 1 (He.fAd K ("_law_meet", none)) (fdAt K (He.fAd K ("_law_meet", none))) ["item", "mate"] (spMe K) := by
  refine T.F_law_meet.ok scMe (fun vs H Q E h => ?_) (fun cdv A outer s H vs Q E hr h => ?_)
  · obtain ⟨p, q, x, y, c, d, x2, y2, c2, d2, rfl, _⟩ := h
    rfl
  · obtain ⟨p, q, x, y, c, d, x2, y2, c2, d2, rfl, hp, hq, k⟩ := h
    refine ⟨_, PSs.nox (pss_cons (ps_set (i := 2) scMe.nd rfl (Or.inl rfl) (pe_op op_sub (pe_callB (call_min2 rfl) (by rfl) T.n_min PyProof.Rows.Boot.«min» (pa_cons (pe_op op_add (pe_ix (r := rIxT K) ix_tup (pv 0) pe_int (fun _ _ => rfl)) (pe_ix (r := rIxT K) ix_tup (pv 0) pe_int (fun _ _ => rfl))) (pa_cons (pe_op op_add (pe_ix (r := rIxT K) ix_tup (pv 1) pe_int (fun _ _ => rfl)) (pe_ix (r := rIxT K) ix_tup (pv 1) pe_int (fun _ _ => rfl))) pa_nil))) (pe_callB (call_max2 rfl) (by rfl) T.n_max PyProof.Rows.Boot.«max» (pa_cons (pe_ix (r := rIxT K) ix_tup (pv 0) pe_int (fun _ _ => rfl)) (pa_cons (pe_ix (r := rIxT K) ix_tup (pv 1) pe_int (fun _ _ => rfl)) pa_nil)))))
      (pss_one (ps_ret (pe_and (pe_cmpR op_gt (pv 2) pe_int (nomark _)) (pe_one (pe_cmpR op_gt (pe_callB (call_min2 rfl) (by rfl) T.n_min PyProof.Rows.Boot.«min» (pa_cons (pe_op op_add (pe_ix (r := rIxT K) ix_tup (pv 0) pe_int (fun _ _ => rfl)) (pe_ix (r := rIxT K) ix_tup (pv 0) pe_int (fun _ _ => rfl))) (pa_cons (pe_op op_add (pe_ix (r := rIxT K) ix_tup (pv 1) pe_int (fun _ _ => rfl)) (pe_ix (r := rIxT K) ix_tup (pv 1) pe_int (fun _ _ => rfl))) pa_nil))) (pe_callB (call_max2 rfl) (by rfl) T.n_max PyProof.Rows.Boot.«max» (pa_cons (pe_ix (r := rIxT K) ix_tup (pv 0) pe_int (fun _ _ => rfl)) (pa_cons (pe_ix (r := rIxT K) ix_tup (pv 1) pe_int (fun _ _ => rfl)) pa_nil))) (nomark _))))))), ?_⟩
    repeat (first | refine ⟨_, rfl, ?_⟩ | refine ⟨_, _, rfl, rfl, ?_⟩ | refine ⟨_, _, rfl, ?_⟩ | refine ⟨p, _, _, _, rfl, rfl, hp, at_of (j := 0) rfl rfl, ?_⟩ | refine ⟨p, _, _, _, rfl, rfl, hp, at_of (j := 1) rfl rfl, ?_⟩ | refine ⟨p, _, _, _, rfl, rfl, hp, at_of (j := 2) rfl rfl, ?_⟩ | refine ⟨p, _, _, _, rfl, rfl, hp, at_of (j := 3) rfl rfl, ?_⟩ | refine ⟨q, _, _, _, rfl, rfl, hq, at_of (j := 0) rfl rfl, ?_⟩ | refine ⟨q, _, _, _, rfl, rfl, hq, at_of (j := 1) rfl rfl, ?_⟩ | refine ⟨q, _, _, _, rfl, rfl, hq, at_of (j := 2) rfl rfl, ?_⟩ | refine ⟨q, _, _, _, rfl, rfl, hq, at_of (j := 3) rfl rfl, ?_⟩)
    refine ite2 (fun _ => ?_) (fun _ => k _)
    repeat (first | refine ⟨_, rfl, ?_⟩ | refine ⟨_, _, rfl, rfl, ?_⟩ | refine ⟨_, _, rfl, ?_⟩ | refine ⟨p, _, _, _, rfl, rfl, hp, at_of (j := 0) rfl rfl, ?_⟩ | refine ⟨p, _, _, _, rfl, rfl, hp, at_of (j := 1) rfl rfl, ?_⟩ | refine ⟨p, _, _, _, rfl, rfl, hp, at_of (j := 2) rfl rfl, ?_⟩ | refine ⟨p, _, _, _, rfl, rfl, hp, at_of (j := 3) rfl rfl, ?_⟩ | refine ⟨q, _, _, _, rfl, rfl, hq, at_of (j := 0) rfl rfl, ?_⟩ | refine ⟨q, _, _, _, rfl, rfl, hq, at_of (j := 1) rfl rfl, ?_⟩ | refine ⟨q, _, _, _, rfl, rfl, hq, at_of (j := 2) rfl rfl, ?_⟩ | refine ⟨q, _, _, _, rfl, rfl, hq, at_of (j := 3) rfl rfl, ?_⟩)
    exact k _
def isSign (v : V) : Prop := ∃ c : Nat, v = .str ⟨#[c]⟩
def spSg (K : PySem.W.Frag) : Sp := fun vs H Q _ => ∃ (g : Addr) (G : Gm) (x y : Int), vs = [.ref g, .int x, .int y] ∧ GmR K H g G ∧ ∀ v, isSign v → Q v H
theorem scSg : FnScope ["game", "x", "y", "rows"] ["game", "x", "y"] (defScope s_law_sign) := ⟨rfl, rfl, rfl, by decide +kernel, rfl, by decide +kernel, by decide +kernel⟩
theorem ok_law_sign (T : Txt K w mg) : FnOk P w K mg base CX0 1 (He.fAd K ("_law_sign", none)) (fdAt K (He.fAd K ("_law_sign", none))) ["game", "x", "y"] (spSg K) := by
  refine T.F_law_sign.ok scSg (fun vs H Q E h => ?_) (fun cdv A outer s H vs Q E hr h => ?_)
  · obtain ⟨g, G, x, y, rfl, _⟩ := h
    rfl
  · obtain ⟨g, G, x, y, rfl, hg, k⟩ := h
    refine ⟨_, PSs.nox (pss_cons (ps_set (i := 3) scSg.nd rfl (Or.inl rfl) (pe_ix (r := rIxT K) ix_tup (pe_ix (r := rIxT K) ix_tup (pv 0) pe_int (fun _ _ => rfl)) pe_int (fun _ _ => rfl)))
      (pss_cons (ps_if (PW.pt (pw_or (pt_cmpR op_lt (pv 1) pe_int (nomark _)) (pw_or (pt_cmpR op_ge (pv 1) (pe_op op_mulW pe_int (pe_callB call_len_str (by rfl) T.n_len PyProof.Rows.Boot.«len» (pa_cons (pe_ix (r := rIxT K) ix_tup (pv 3) pe_int (fun _ _ => rfl)) pa_nil))) (nomark _)) (pw_or1 (pt_cmpR op_lt (pv 2) pe_int (nomark _)))))) (pss_one (ps_ret pe_str)) pss_nil)
      (pss_cons (ps_if (pt_cmpR op_ge (pv 2) (pe_op op_mulW pe_int (pe_callB (r := Evl.rLenS K) call_len_seq (by rfl) T.n_len PyProof.Rows.Boot.«len» (pa_cons (pv 3) pa_nil))) (nomark _)) (pss_one (ps_ret pe_str)) pss_nil)
      (pss_one (ps_ret (pe_ix ix_str (pe_ix (r := rIxT K) ix_tup (pv 3) (pe_op op_fdivW (pv 2) pe_int) (fun _ _ => rfl)) (pe_op op_fdivW (pv 1) pe_int) (fun _ _ => rfl))))))), ?_⟩
    obtain ⟨⟨g0, fl, gk, st, ho, pu, ks, h1, h2, h3, h4, h5, h6⟩, hm⟩ := hg
    refine ⟨_, rfl, g, _, _, _, rfl, rfl, h1, at_of (j := 0) rfl rfl, g0, _, _, _, rfl, rfl, h2, at_of (j := 0) rfl rfl, ?_⟩
    obtain ⟨sq, hrow, ⟨w4, w24⟩, l3, l17⟩ := h3
    have hrl : 0 < G.rows.length := by omega
    have l0 : (G.rows[0]'hrl).length = G.W := hrow _ (List.getElem_mem _)
    have r0 : (G.rows.map V.str)[0]? = some (.str (G.rows[0]'hrl)) := by rw [List.getElem?_map, List.getElem?_eq_getElem hrl]; rfl
    have wmW : CMulW 8 ((G.rows[0]'hrl).length : Int) := wide_mul (a := 40) (b := 40) (by decide) (small_ab (by omega) (by rw [pow40]; omega)) (by decide) (by decide) (by decide)
    have wmH : CMulW 8 ((G.rows.map V.str).length : Int) := wide_mul (a := 40) (b := 40) (by decide) (small_ab (by omega) (by rw [pow40, List.length_map]; omega)) (by decide) (by decide) (by decide)
    refine ⟨_, rfl, _, _, rfl, rfl, _, rfl, ite2 (fun z => iteT (k _ ⟨_, rfl⟩)) (fun z1 => ?_)⟩
    refine ⟨_, rfl, _, rfl, fl, _, _, _, rfl, rfl, sq, atI_nat (j := 0) r0, _, rfl, Nat.le_trans (show (G.rows[0]'hrl).length ≤ 24 by omega) (by decide), _, _, rfl, rfl, wmW, _, _, rfl, rfl, _, rfl, ite2 (fun z => iteT (k _ ⟨_, rfl⟩)) (fun z2 => ?_)⟩
    refine ⟨_, rfl, _, _, rfl, rfl, _, rfl, ite2 (fun z => k _ ⟨_, rfl⟩) (fun z3 => ?_)⟩
    refine ⟨_, rfl, _, rfl, fl, _, rfl, .inr sq, _, _, rfl, rfl, wmH, _, _, rfl, rfl, _, rfl, ite2 (fun z => k _ ⟨_, rfl⟩) (fun z4 => ?_)⟩
    rw [decide_eq_true_eq] at z1 z2 z3 z4
    rw [List.length_map] at z4
    obtain ⟨r, hr, er⟩ := at_strs (l := G.rows) (x := y / 8) (by omega) (by omega)
    have lr := hrow _ hr
    obtain ⟨c, hc⟩ := at_sign (z := r) (x := x / 8) (by omega) (by omega)
    refine ⟨_, rfl, _, rfl, _, _, rfl, rfl, wide_div (b := 30) (by decide) (by decide) (by decide) (by decide), fl, _, _, _, rfl, rfl, sq, er, _, rfl, _, _, rfl, rfl, wide_div (b := 30) (by decide) (by decide) (by decide) (by decide), _, _, c, rfl, rfl, Nat.le_trans (show r.length ≤ 24 by omega) (by decide), hc, k _ ⟨_, rfl⟩⟩
structure BxR (K : PySem.W.Frag) (H : Hp) (p : Addr) (x y a b : Int) : Prop where
  sq : SqT K H p [.int x, .int y, .int a, .int b]
  xs : x.natAbs < 1000000 ∧ y.natAbs < 1000000
  a : 1 ≤ a ∧ a ≤ 20
  b : 1 ≤ b ∧ b ≤ 20
theorem BxR.tf {K : PySem.W.Frag} {H H' : Hp} {p : Addr} {x y a b : Int} (s : TF H H') (h : BxR K H p x y a b) : BxR K H' p x y a b := ⟨s.sq h.sq, h.xs, h.a, h.b⟩
def spSn (K : PySem.W.Frag) : Sp := fun vs H Q _ => ∃ (g p : Addr) (G : Gm) (x y a b : Int), vs = [.ref g, .ref p] ∧ GmR K H g G ∧ BxR K H p x y a b ∧ ∀ l us H', Same H H' → H' l = some (.lst us) → us.length ≤ 25 → (∀ u ∈ us, isSign u) → Q (.ref l) H'
theorem scSs2 : FnScope ["game", "box", "found", "row", "column"] ["game", "box"] (defScope s_law_signs) := ⟨rfl, rfl, rfl, by decide +kernel, rfl, by decide +kernel, by decide +kernel⟩
theorem ok_law_signs (T : Txt K w mg) : FnOk P w K mg base CX0 2 (He.fAd K ("_law_signs", none)) (fdAt K (He.fAd K ("_law_signs", none))) ["game", "box"] (spSn K) := by
  refine T.F_law_signs.ok scSs2 (fun vs H Q E h => ?_) (fun cdv A outer s H vs Q E hr h => ?_)
  · obtain ⟨g, p, G, x, y, a, b, rfl, _⟩ := h
    rfl
  · obtain ⟨g, p, G, x, y, a, b, rfl, hg, hp, k⟩ := h
    refine ⟨_, PSs.nox (pss_cons (ps_set (i := 2) scSs2.nd rfl (Or.inl rfl) (pe_lst pa_nil))
      (pss_cons (ps_for PassesOwn.never rfl (pi_range2 (by rfl) T.n_range (pa_cons (pe_op op_fdivW (pe_ix (r := rIxT K) ix_tup (pv 1) pe_int (fun _ _ => rfl)) pe_int) (pa_cons (pe_op op_add (pe_op op_fdivW (pe_op op_sub (pe_op op_add (pe_ix (r := rIxT K) ix_tup (pv 1) pe_int (fun _ _ => rfl)) (pe_ix (r := rIxT K) ix_tup (pv 1) pe_int (fun _ _ => rfl))) pe_int) pe_int) pe_int) pa_nil))) (pg_name (i := 3) scSs2.nd rfl (Or.inl rfl)) (pss_one (ps_for PassesOwn.never rfl (pi_range2 (by rfl) T.n_range (pa_cons (pe_op op_fdivW (pe_ix (r := rIxT K) ix_tup (pv 1) pe_int (fun _ _ => rfl)) pe_int) (pa_cons (pe_op op_add (pe_op op_fdivW (pe_op op_sub (pe_op op_add (pe_ix (r := rIxT K) ix_tup (pv 1) pe_int (fun _ _ => rfl)) (pe_ix (r := rIxT K) ix_tup (pv 1) pe_int (fun _ _ => rfl))) pe_int) pe_int) pe_int) pa_nil))) (pg_name (i := 4) scSs2.nd rfl (Or.inl rfl)) (pss_one (ps_expr (pe_bm PySem.F.plainAttrs_list PySem.F.slot_list_append PySem.F.type_list_append mt_append (pv 2) (pa_cons (pe_call (ok_law_sign T) (hr.mono (by decide)) (by rfl) T.g_law_sign (T.F_law_sign).kp T.b_law_sign .nil pass0 (pa_cons (pv 0) (pa_cons (pe_op op_mulW pe_int (pv 4)) (pa_cons (pe_op op_mulW pe_int (pv 3)) pa_nil)))) pa_nil)))))))
      (pss_one (ps_ret (pv 2))))), ?_⟩
    have hs := hp.sq
    have hxs := hp.xs
    have ha := hp.a
    have hb := hp.b
    have dv : ∀ z : Int, CDivW z 8 := fun z => wide_div (b := 30) (by decide) (by decide) (by decide) (by decide)
    refine ⟨(show 0 ≤ sizeLine by decide), fun L nL => ?_⟩
    have sL := new_same (o := .lst []) nL
    have hs1 := (same_tf sL).sq hs
    refine ⟨_, rfl, p, _, _, _, rfl, rfl, hs1, at_of (j := 1) rfl rfl, _, _, rfl, rfl, dv _, _, rfl, p, _, _, _, rfl, rfl, hs1, at_of (j := 1) rfl rfl, _, rfl, p, _, _, _, rfl, rfl, hs1, at_of (j := 3) rfl rfl, _, _, rfl, rfl, _, _, rfl, rfl, _, _, rfl, rfl, dv _, _, _, rfl, rfl, _, _, rfl, ⟨by omega, by omega, by omega, by omega⟩, ?_⟩
    refine for_it (walk_range (lo := y / 8) (n := ((y + b - 1) / 8 + 1 - y / 8).toNat)) (fun i σ H' => ∃ (v3 v4 : Option V) (us : List V), σ = [some (.ref g), some (.ref p), some (.ref L), v3, v4] ∧ Same H H' ∧ H' L = some (.lst us) ∧ us.length ≤ 5 * i ∧ ∀ u ∈ us, isSign u) ⟨_, _, [], rfl, sL, upd_same, Nat.zero_le _, fun _ q => (nomatch q)⟩ (fun _ _ _ _ _ => trivial) (fun i v σ H' H2 hi h yy => ?_) (fun σ H' h => ?_)
    · obtain ⟨v3, v4, us, rfl, sm, hl, hlen, hu⟩ := h
      obtain ⟨rfl, rfl⟩ := yy
      have hs2 := (same_tf sm).sq hs
      refine ⟨_, rfl, p, _, _, _, rfl, rfl, hs2, at_of (j := 0) rfl rfl, _, _, rfl, rfl, dv _, _, rfl, p, _, _, _, rfl, rfl, hs2, at_of (j := 0) rfl rfl, _, rfl, p, _, _, _, rfl, rfl, hs2, at_of (j := 2) rfl rfl, _, _, rfl, rfl, _, _, rfl, rfl, _, _, rfl, rfl, dv _, _, _, rfl, rfl, _, _, rfl, ⟨by omega, by omega, by omega, by omega⟩, ?_⟩
      refine for_it (walk_range (lo := x / 8) (n := ((x + a - 1) / 8 + 1 - x / 8).toNat)) (fun j σ H' => ∃ (v4 : Option V) (us : List V), σ = [some (.ref g), some (.ref p), some (.ref L), some (.int (y / 8 + i)), v4] ∧ Same H H' ∧ H' L = some (.lst us) ∧ us.length ≤ 5 * i + j ∧ ∀ u ∈ us, isSign u) ⟨_, us, rfl, sm, hl, by omega, hu⟩ (fun _ _ _ _ _ => trivial) (fun j v σ H' H2 hj h yy => ?_) (fun σ H' h => ?_)
      · obtain ⟨v4, us, rfl, sm, hl, hlen, hu⟩ := h
        obtain ⟨rfl, rfl⟩ := yy
        have mw : ∀ c : Int, c.natAbs < 10000000 → CMulW 8 c := fun c hc => wide_mul (a := 40) (b := 40) (by decide) (Nat.lt_trans hc (by decide)) (by decide) (by decide) (by decide)
        refine ⟨_, rfl, .inl ⟨rfl, _, SqL.of hl⟩, _, rfl, _, rfl, _, _, rfl, rfl, mw _ (by omega), _, rfl, _, _, rfl, rfl, mw _ (by omega), g, G, _, _, rfl, hg.tf (same_tf sm), fun v hv => ?_⟩
        refine ⟨L, _, _, rfl, rfl, hl, Nat.lt_of_le_of_lt (show us.length ≤ 1000 by omega) (by decide), _, us ++ [v], rfl, frm_same sm nL Frm.of_upd, upd_same, by simp; omega, fun u hu2 => ?_⟩
        rcases List.mem_append.mp hu2 with h | h
        · exact hu u h
        · rw [List.mem_singleton.mp h]
          exact hv
      · obtain ⟨v4, us, rfl, sm, hl, hlen, hu⟩ := h
        exact ⟨_, _, us, rfl, sm, hl, by omega, hu⟩
    · obtain ⟨v3, v4, us, rfl, sm, hl, hlen, hu⟩ := h
      exact ⟨_, rfl, k L us H' sm hl (by omega) hu⟩
theorem isSign.cmp {v : V} (h : isSign v) : ∃ c : Nat, v = .str ⟨#[c]⟩ := h
def spFr (K : PySem.W.Frag) : Sp := fun vs H Q _ => ∃ (g p : Addr) (G : Gm) (x y a b : Int), vs = [.ref g, .ref p] ∧ GmR K H g G ∧ BxR K H p x y a b ∧ ∀ r H', Same H H' → Q (.bl r) H'
theorem scFr : FnScope ["game", "box", "sign"] ["game", "box"] (defScope s_law_free) := ⟨rfl, rfl, rfl, by decide +kernel, rfl, by decide +kernel, by decide +kernel⟩
theorem ok_law_free (T : Txt K w mg) : FnOk P w K mg base CX0 3 (He.fAd K ("_law_free", none)) (fdAt K (He.fAd K ("_law_free", none))) ["game", "box"] (spFr K) := by
  refine T.F_law_free.ok scFr (fun vs H Q E h => ?_) (fun cdv A outer s H vs Q E hr h => ?_)
  · obtain ⟨g, p, G, x, y, a, b, rfl, _⟩ := h
    rfl
  · obtain ⟨g, p, G, x, y, a, b, rfl, hg, hp, k⟩ := h
    refine ⟨_, PSs.nox (pss_one (ps_ret (pe_not (pe_callB (cr_any rfl) (by rfl) T.n_any PyProof.Rows.Boot.«any» (pa_cons (pe_lc (own := [("sign", 2)]) (g := gName 2) (tt := tYes) (by rfl) scFr.nd (pi_list (pe_call (ok_law_signs T) (hr.mono (by decide)) (by rfl) T.g_law_signs (T.F_law_signs).kp T.b_law_signs .nil pass0 (pa_cons (pv 0) (pa_cons (pv 1) pa_nil)))) (blkOk_by (by kernel_rfl)) (fun _ _ _ _ _ => pg_name (i := 2) scFr.nd rfl (Or.inl rfl)) (fun _ _ _ _ _ => pts_nil) (fun _ _ _ _ _ => pe_cmpR op_in_sign (pv 2) pe_str rfl)) pa_nil))))), ?_⟩
    refine ⟨_, rfl, _, rfl, g, p, G, x, y, a, b, rfl, hg, hp, fun l us H1 s1 hl hlen hu => ⟨l, rfl, ⟨_, SqL.of hl⟩, fun D hD => ?_⟩⟩
    refine lc_it (walk_list (K := K) (a := l) (xs := us)) (fun i H' => ∃ bs : List Bool, Same H1 H' ∧ H' D = some (.lst (bs.map V.bl)) ∧ bs.length = i) ⟨[], new_same hD, upd_same, rfl⟩ (fun i H' hi h => ?_) (fun i v H' Hx hi h yy => ?_) (fun H' h => ?_)
    · obtain ⟨bs, sm, hb, hbl⟩ := h
      exact SqL.of (sm _ _ hl)
    · obtain ⟨bs, sm, hb, hbl⟩ := h
      obtain ⟨rfl, hv⟩ := yy
      obtain ⟨c, rfl⟩ := hu v (List.mem_of_getElem? hv)
      refine ⟨rfl, ?_⟩
      dsimp only [tYes]
      rw [if_pos rfl]
      refine ⟨_, rfl, c, _, rfl, rfl, _, hb, Nat.lt_of_le_of_lt (show (bs.map V.bl).length ≤ 100 by rw [List.length_map]; omega) (by decide), bs ++ [decide (c ∈ (Str.ofString "#<>").cps.toList)], frm_same sm hD Frm.of_upd, ?_, by simp [hbl]⟩
      rw [List.map_append]
      exact upd_same
    · obtain ⟨bs, sm, hb, hbl⟩ := h
      exact ⟨D, bs, rfl, SqL.of hb, _, rfl, k _ H' (s1.trans sm)⟩
def spLd (K : PySem.W.Frag) : Sp := fun vs H Q _ => ∃ (g p : Addr) (G : Gm) (x y a b : Int), vs = [.ref g, .ref p] ∧ GmR K H g G ∧ BxR K H p x y a b ∧ x.natAbs < 500000 ∧ y.natAbs < 500000 ∧ ∀ r H', Same H H' → Q (.bl r) H'
theorem scLd : FnScope ["game", "box", "x", "y", "wide", "high"] ["game", "box"] (defScope s_law_lands) := ⟨rfl, rfl, rfl, by decide +kernel, rfl, by decide +kernel, by decide +kernel⟩
theorem ok_law_lands (T : Txt K w mg) : FnOk P w K mg base CX0 4 (He.fAd K ("_law_lands", none)) (fdAt K (He.fAd K ("_law_lands", none))) ["game", "box"] (spLd K) := by
  refine T.F_law_lands.ok scLd (fun vs H Q E h => ?_) (fun cdv A outer s H vs Q E hr h => ?_)
  · obtain ⟨g, p, G, x, y, a, b, rfl, _⟩ := h
    rfl
  · obtain ⟨g, p, G, x, y, a, b, rfl, hg, hp, bx, yb, k⟩ := h
    refine ⟨_, PSs.nox (pss_cons (ps_asg (pv 1) (pg_tup (by rfl) (pgs_cons (pg_name (i := 2) scLd.nd rfl (Or.inl rfl)) (pgs_cons (pg_name (i := 3) scLd.nd rfl (Or.inl rfl)) (pgs_cons (pg_name (i := 4) scLd.nd rfl (Or.inl rfl)) (pgs_cons (pg_name (i := 5) scLd.nd rfl (Or.inl rfl)) pgs_nil))))))
      (pss_cons (ps_if (pt_not (pt_val (pe_call (ok_law_free T) (hr.mono (by decide)) (by rfl) T.g_law_free (T.F_law_free).kp T.b_law_free .nil pass0 (pa_cons (pv 0) (pa_cons (pe_tup (pa_cons (pv 2) (pa_cons (pe_op op_add (pv 3) pe_int) (pa_cons (pv 4) (pa_cons (pv 5) pa_nil))))) pa_nil))))) (pss_one (ps_ret pe_bl)) pss_nil)
      (pss_one (ps_ret (pe_and (pe_cmpR op_eq (pe_op op_mod (pe_callTy call_int1 (by rfl) T.n_int PyProof.Rows.Boot.«int» (pa_cons (pe_op op_add (pv 3) (pv 5)) pa_nil)) pe_int) pe_int (nomark _)) (pe_one (pe_cmpR (r := rIn K false) op_in_seq pe_str (pe_call (ok_law_signs T) (hr.mono (by decide)) (by rfl) T.g_law_signs (T.F_law_signs).kp T.b_law_signs .nil pass0 (pa_cons (pv 0) (pa_cons (pe_tup (pa_cons (pv 2) (pa_cons (pe_op op_add (pv 3) (pv 5)) (pa_cons (pv 4) (pa_cons pe_int pa_nil))))) pa_nil))) rfl))))))), ?_⟩
    have ha := hp.a
    have hb := hp.b
    refine ⟨_, rfl, p, _, rfl, hp.sq, rfl, _, _, rfl, _, _, rfl, _, _, rfl, _, _, rfl, rfl, ?_⟩
    refine ⟨_, rfl, _, rfl, _, rfl, _, _, rfl, rfl, _, rfl, _, rfl, (show 4 ≤ sizeLine by decide), fun q nq => ?_⟩
    have sq := new_same (o := .tup [V.int x, .int (y + 1), .int a, .int b]) nq
    refine ⟨g, q, G, x, y + 1, a, b, rfl, hg.tf (same_tf sq), ⟨SqT.of upd_same, by omega, by omega, by omega⟩, fun r H1 s1 => ?_⟩
    have s01 := sq.trans s1
    refine ⟨_, rfl, ite2 (fun _ => k _ _ s01) (fun _ => ?_)⟩
    refine ⟨_, rfl, _, rfl, _, _, rfl, rfl, .inl ⟨_, rfl, _, _, rfl, rfl, (show (0 : Int) < 8 by decide), rfl, _, rfl, ite2 (fun _ => ?_) (fun _ => k _ _ s01)⟩⟩
    refine ⟨_, rfl, _, rfl, _, rfl, _, rfl, _, _, rfl, rfl, _, rfl, (show 4 ≤ sizeLine by decide), fun q2 nq2 => ?_⟩
    have sq2 := new_same (o := .tup [V.int x, .int (y + b), .int a, .int 1]) nq2
    refine ⟨g, q2, G, x, y + b, a, 1, rfl, hg.tf (same_tf (s01.trans sq2)), ⟨SqT.of upd_same, by omega, by omega, by omega⟩, fun l us H2 s2 hl hlen hu => ?_⟩
    refine ⟨l, us, rfl, .inl (SqL.of hl), rfl, ?_, k _ H2 ((s01.trans sq2).trans s2)⟩
    refine List.all_eq_true.mpr fun u hm => ?_
    obtain ⟨c, rfl⟩ := hu u hm
    rfl
end
end K44
set_option maxRecDepth 100000
set_option maxHeartbeats 4000000
/-! Whether a thing stands; buckets; what is seen. -/
namespace K44
open PySem PySem.Spec PyProof.Rows L2 KF KD
def ThE (K : PySem.W.Frag) (H : Hp) (G : Gm) (a : Addr) : Prop := ∃ h, ThR K H a h ∧ h.idx < G.kd.length
theorem ThE.tf {K : PySem.W.Frag} {H H' : Hp} {G : Gm} {a : Addr} (s : TF H H') (r : ThE K H G a) : ThE K H' G a := by
  obtain ⟨h, h1, h2⟩ := r
  exact ⟨h, h1.tf s, h2⟩
theorem kd_of {G : Gm} {i : Nat} (h : i < G.kd.length) : G.kd[i]? = some (G.kd[i]'h) := List.getElem?_eq_getElem h
def BxE (K : PySem.W.Frag) (H : Hp) (a : Addr) : Prop := ∃ x y c d, BxR K H a x y c d
theorem BxE.tf {K : PySem.W.Frag} {H H' : Hp} {a : Addr} (s : TF H H') (r : BxE K H a) : BxE K H' a := by
  obtain ⟨x, y, c, d, h⟩ := r
  exact ⟨x, y, c, d, h.tf s⟩
theorem bx_th {K : PySem.W.Frag} {H H' : Hp} {t p : Addr} {h : Th} {q : Int × Int} (r : ThR K H t h) (a : 1 ≤ q.1 ∧ q.1 ≤ 16) (b : 1 ≤ q.2 ∧ q.2 ≤ 16) (s : SqT K H' p [.int h.x, .int h.y, .int q.1, .int q.2]) : BxR K H' p h.x h.y q.1 q.2 := by
  have := r.sm
  exact ⟨s, by omega, by omega, by omega⟩
section
variable {P : Program} {w : World} {K : PySem.W.Frag} {mg : Str → Option Value} {base : Heap}
def spSt (K : PySem.W.Frag) : Sp := fun vs H Q _ => ∃ (g t l : Addr) (G : Gm) (ts : List Addr), vs = [.ref g, .ref t, .ref l] ∧ GmR K H g G ∧ ThE K H G t ∧ H l = some (.lst (ts.map V.ref)) ∧ ts.length ≤ 100 ∧ (∀ a ∈ ts, ThE K H G a) ∧ ∀ r H', Same H H' → Q (.bl r) H'
theorem scSt : FnScope ["game", "thing", "things", "box", "barring", "mate"] ["game", "thing", "things"] (defScope s_law_stands) := ⟨rfl, rfl, rfl, by decide +kernel, rfl, by decide +kernel, by decide +kernel⟩
theorem ok_law_stands (T : Txt K w mg) : FnOk P w K mg base CX0 4 (He.fAd K ("_law_stands", none)) (fdAt K (He.fAd K ("_law_stands", none))) ["game", "thing", "things"] (spSt K) := by
  refine T.F_law_stands.ok scSt (fun vs H Q E h => ?_) (fun cdv A outer s H vs Q E hr h => ?_)
  · obtain ⟨g, t, l, G, ts, rfl, _⟩ := h
    rfl
  · obtain ⟨g, t, l, G, ts, rfl, hg, ht, hl, htl, hts, k⟩ := h
    refine ⟨_, PSs.nox (pss_cons (ps_set (i := 3) scSt.nd rfl (Or.inr rfl) (pe_call (ok_law_box T) (hr.mono (by decide)) (by rfl) T.g_law_box (T.F_law_box).kp T.b_law_box .nil pass0 (pa_cons (pv 0) (pa_cons (pv 1) pa_nil))))
      (pss_cons (ps_setLc (i := 4) (own := [("mate", 5)]) (g := gName 5) (by rfl) scSt.nd rfl rfl (sw_true rfl rfl rfl (by decide +kernel)) (pi_list (pv 2)) (blkOk_by (own := [("mate", 5)]) (N := ["game", "thing", "things", "box", "barring", "mate"]) (sc := defScope s_law_stands) (by decide +kernel)) (fun _ _ _ _ _ => pg_name (i := 5) scSt.nd rfl (Or.inl rfl)) (fun _ _ _ _ _ => pts_one (pt_val (pe_call (ok_law_is T) (hr.mono (by decide)) (by rfl) T.g_law_is (T.F_law_is).kp T.b_law_is .nil pass0 (pa_cons (pv 0) (pa_cons (pv 5) (pa_cons pe_str pa_nil)))))) (fun _ _ _ _ _ => (pe_call (ok_law_box T) (hr.mono (by decide)) (by rfl) T.g_law_box (T.F_law_box).kp T.b_law_box .nil pass0 (pa_cons (pv 0) (pa_cons (pv 5) pa_nil)))))
      (pss_cons (ps_if (PW.pt (pw_or (pt_not (pt_val (pe_call (ok_law_free T) (hr.mono (by decide)) (by rfl) T.g_law_free (T.F_law_free).kp T.b_law_free .nil pass0 (pa_cons (pv 0) (pa_cons (pv 3) pa_nil))))) (pw_or1 (pt_cmpR op_ge (pe_ix (r := rIxT K) ix_tup (pv 3) pe_int (fun _ _ => rfl)) (pe_op op_mulW pe_int (pe_callB (r := Evl.rLenS K) call_len_seq (by rfl) T.n_len PyProof.Rows.Boot.«len» (pa_cons (pe_ix (r := rIxT K) ix_tup (pe_ix (r := rIxT K) ix_tup (pv 0) pe_int (fun _ _ => rfl)) pe_int (fun _ _ => rfl)) pa_nil))) (nomark _))))) (pss_one (ps_ret pe_bl)) pss_nil)
      (pss_one (ps_ret (pe_or (pe_not (pe_call (ok_law_is T) (hr.mono (by decide)) (by rfl) T.g_law_is (T.F_law_is).kp T.b_law_is .nil pass0 (pa_cons (pv 0) (pa_cons (pv 1) (pa_cons pe_str pa_nil))))) (pe_one (pe_not (pe_callB (cr_any rfl) (by rfl) T.n_any PyProof.Rows.Boot.«any» (pa_cons (pe_lc (own := [("mate", 5)]) (g := gName 5) (tt := tYes) (by rfl) scSt.nd (pi_list (pv 4)) (blkOk_by (own := [("mate", 5)]) (N := ["game", "thing", "things", "box", "barring", "mate"]) (sc := defScope s_law_stands) (by decide +kernel)) (fun _ _ _ _ _ => pg_name (i := 5) scSt.nd rfl (Or.inl rfl)) (fun _ _ _ _ _ => pts_nil) (fun _ _ _ _ _ => (pe_call (ok_law_meet T) (hr.mono (by decide)) (by rfl) T.g_law_meet (T.F_law_meet).kp T.b_law_meet .nil pass0 (pa_cons (pv 3) (pa_cons (pv 5) pa_nil))))) pa_nil)))))))))), ?_⟩
    obtain ⟨h, hth, hidx⟩ := ht
    refine ⟨_, rfl, _, rfl, g, t, G, h, _, rfl, hg, hth, kd_of hidx, fun qa qb p H1 s1 sp => ?_⟩
    have bp := bx_th (H' := H1) (p := p) hth qa qb sp
    have hl1 := s1 _ _ hl
    have hg1 := hg.tf (same_tf s1)
    refine ⟨_, rfl, l, rfl, ⟨_, SqL.of hl1⟩, fun D hD => ?_⟩
    refine lc_it (walk_list (K := K) (a := l) (xs := ts.map V.ref)) (fun i H' => ∃ bs : List Addr, Same H1 H' ∧ H' D = some (.lst (bs.map V.ref)) ∧ bs.length ≤ i ∧ ∀ b ∈ bs, BxE K H' b) ⟨[], new_same hD, upd_same, Nat.le_refl _, fun _ q => (nomatch q)⟩ (fun i H' hi h => ?_) (fun i v H' Hx hi h yy => ?_) (fun H2 h => ?_)
    · obtain ⟨bs, sm, hb, hbl, hbs⟩ := h
      exact SqL.of (sm _ _ hl1)
    · obtain ⟨bs, sm, hb, hbl, hbs⟩ := h
      obtain ⟨rfl, hv⟩ := yy
      rw [List.length_map] at hi
      rw [List.getElem?_map, List.getElem?_eq_getElem hi] at hv
      cases hv
      obtain ⟨h2, hth2, hidx2⟩ := hts _ (List.getElem_mem hi)
      have hth3 := hth2.tf (same_tf (s1.trans sm))
      refine ⟨rfl, _, rfl, _, rfl, g, _, G, h2, _, _, rfl, hg1.tf (same_tf sm), hth3, kd_of hidx2, fun b => ⟨_, rfl, ite2 (fun _ => ?_) (fun _ => ⟨bs, sm, hb, by omega, hbs⟩)⟩⟩
      refine ⟨_, rfl, _, rfl, g, _, G, h2, _, rfl, hg1.tf (same_tf sm), hth3, kd_of hidx2, fun qa qb p2 H3 s3 sp3 => ?_⟩
      have hb3 := s3 _ _ hb
      have tfD := Frm.tf (Frm.of_upd (d := D) (H := H3) (o := .lst (bs.map V.ref ++ [V.ref p2]))) hb3
      refine ⟨_, hb3, Nat.lt_of_le_of_lt (show (bs.map V.ref).length ≤ 100 by rw [List.length_map]; omega) (by decide), bs ++ [p2], frm_same (sm.trans s3) hD Frm.of_upd, ?_, by simp; omega, fun b hb2 => ?_⟩
      · rw [List.map_append]
        exact upd_same
      · rcases List.mem_append.mp hb2 with h | h
        · exact (hbs b h).tf ((same_tf s3).trans tfD)
        · rw [List.mem_singleton.mp h]
          exact BxE.tf tfD ⟨_, _, _, _, bx_th (H' := H3) (p := p2) hth3 qa qb sp3⟩
    obtain ⟨bs, sm, hb, hbl, hbs⟩ := h
    rw [List.length_map] at hbl
    have hg2 := hg1.tf (same_tf sm)
    have s02 := s1.trans sm
    refine ⟨_, rfl, _, rfl, g, p, G, _, _, _, _, rfl, hg2, bp.tf (same_tf sm), fun r H3 s3 => ⟨_, rfl, ite2 (fun _ => iteT (k _ _ (s02.trans s3))) (fun _ => ?_)⟩⟩
    have s03 := s02.trans s3
    have hg3 := hg2.tf (same_tf s3)
    have bp3 := bp.tf (same_tf (sm.trans s3))
    have hg3' := hg3
    obtain ⟨⟨g0, fl, gk, st, ho, pu, ks, h1, h2, h3, h4, h5, h6⟩, hm⟩ := hg3
    have hh := h3.hig
    have wmH : CMulW 8 ((G.rows.map V.str).length : Int) := wide_mul (a := 40) (b := 40) (by decide) (small_ab (by omega) (by rw [pow40, List.length_map]; omega)) (by decide) (by decide) (by decide)
    refine ⟨_, rfl, p, _, _, _, rfl, rfl, bp3.sq, at_of (j := 1) rfl rfl, _, rfl, g, _, _, _, rfl, rfl, h1, at_of (j := 0) rfl rfl, g0, _, _, _, rfl, rfl, h2, at_of (j := 0) rfl rfl, fl, _, rfl, .inr h3.sq, _, _, rfl, rfl, wmH, _, _, rfl, rfl, _, rfl, ite2 (fun _ => k _ _ s03) (fun _ => ?_)⟩
    refine ⟨_, rfl, _, rfl, g, t, G, h, _, _, rfl, hg3', hth.tf (same_tf s03), kd_of hidx, fun b => ⟨_, rfl, _, rfl, ite2 (fun _ => k _ _ s03) (fun _ => ?_)⟩⟩
    have hb3 := s3 _ _ hb
    refine ⟨_, rfl, D, rfl, ⟨_, SqL.of hb3⟩, fun D2 hD2 => ?_⟩
    refine lc_it (walk_list (K := K) (a := D) (xs := bs.map V.ref)) (fun i H' => ∃ rs : List Bool, Same H3 H' ∧ H' D2 = some (.lst (rs.map V.bl)) ∧ rs.length ≤ i) ⟨[], new_same hD2, upd_same, Nat.le_refl _⟩ (fun i H' hi h => ?_) (fun i v H' Hx hi h yy => ?_) (fun H4 h => ?_)
    · obtain ⟨rs, sm, hr, hrl⟩ := h
      exact SqL.of (sm _ _ hb3)
    · obtain ⟨rs, sm, hr, hrl⟩ := h
      obtain ⟨rfl, hv⟩ := yy
      rw [List.length_map] at hi
      rw [List.getElem?_map, List.getElem?_eq_getElem hi] at hv
      cases hv
      obtain ⟨x2, y2, c2, d2, b2⟩ := (hbs _ (List.getElem_mem hi)).tf (same_tf (s3.trans sm))
      refine ⟨rfl, ?_⟩
      dsimp only [tYes]
      rw [if_pos rfl]
      refine ⟨_, rfl, _, rfl, p, _, _, _, _, _, _, _, _, _, rfl, (bp3.tf (same_tf sm)).sq, b2.sq, fun r => ⟨_, hr, Nat.lt_of_le_of_lt (show (rs.map V.bl).length ≤ 100 by rw [List.length_map]; omega) (by decide), rs ++ [r], frm_same sm hD2 Frm.of_upd, ?_, by simp; omega⟩⟩
      rw [List.map_append]
      exact upd_same
    · obtain ⟨rs, sm, hr, hrl⟩ := h
      exact ⟨D2, rs, rfl, SqL.of hr, _, rfl, k _ H4 (s03.trans sm)⟩
end
end K44
set_option maxRecDepth 100000
set_option maxHeartbeats 4000000
/-! Buckets; what is seen. -/
namespace K44
open PySem PySem.Spec PyProof.Rows L2 KF KD
def Gm.C (G : Gm) : Nat := (G.W + 3) / 4
def Gm.R (G : Gm) : Nat := (G.rows.length + 3) / 4
def nVs (bs : List Nat) : List V := bs.map fun (b : Nat) => V.int (b : Int)
theorem nVs_len (bs : List Nat) : (nVs bs).length = bs.length := List.length_map _
theorem nVs_app (bs cs : List Nat) : nVs (bs ++ cs) = nVs bs ++ nVs cs := List.map_append
theorem none_of {H H' : Hp} {a : Addr} (s : Same H H') (h : H' a = none) : H a = none := by
  cases e : H a with
  | none => rfl
  | some o =>
    have := s _ _ e
    rw [h] at this
    cases this
section
variable {P : Program} {w : World} {K : PySem.W.Frag} {mg : Str → Option Value} {base : Heap}
def spBk (K : PySem.W.Frag) : Sp := fun vs H Q _ => ∃ (g p : Addr) (G : Gm) (x y a b : Int), vs = [.ref g, .ref p] ∧ GmR K H g G ∧ BxR K H p x y a b ∧
  ∀ l (bs : List Nat) H', H l = none → Same H H' → H' l = some (.lst (nVs bs)) → bs.length ≤ 4 → (∀ b ∈ bs, 49 ≤ b ∧ b < 49 + G.R * G.C) → Q (.ref l) H'
theorem scBk : FnScope ["game", "box", "wide", "high", "left", "right", "upper", "lower", "found", "row", "begin", "column"] ["game", "box"] (defScope s_law_buckets) := ⟨rfl, rfl, rfl, by decide +kernel, rfl, by decide +kernel, by decide +kernel⟩
theorem ok_law_buckets (T : Txt K w mg) : FnOk P w K mg base CX0 1 (He.fAd K ("_law_buckets", none)) (fdAt K (He.fAd K ("_law_buckets", none))) ["game", "box"] (spBk K) := by
  refine T.F_law_buckets.ok scBk (fun vs H Q E h => ?_) (fun cdv A outer s H vs Q E hr h => ?_)
  · obtain ⟨g, p, G, x, y, a, b, rfl, _⟩ := h
    rfl
  · obtain ⟨g, p, G, x, y, a, b, rfl, hg, hp, k⟩ := h
    refine ⟨_, PSs.nox (pss_cons (ps_par (i := 2) (j := 3) (by rfl) scBk.nd rfl rfl (by decide) rfl rfl (pa_cons (pe_op op_mulW pe_int (pe_callB call_len_str (by rfl) T.n_len PyProof.Rows.Boot.«len» (pa_cons (pe_ix (r := rIxT K) ix_tup (pe_ix (r := rIxT K) ix_tup (pe_ix (r := rIxT K) ix_tup (pv 0) pe_int (fun _ _ => rfl)) pe_int (fun _ _ => rfl)) pe_int (fun _ _ => rfl)) pa_nil))) (pa_cons (pe_op op_mulW pe_int (pe_callB (r := Evl.rLenS K) call_len_seq (by rfl) T.n_len PyProof.Rows.Boot.«len» (pa_cons (pe_ix (r := rIxT K) ix_tup (pe_ix (r := rIxT K) ix_tup (pv 0) pe_int (fun _ _ => rfl)) pe_int (fun _ _ => rfl)) pa_nil))) pa_nil)) (by rfl))
      (pss_cons (ps_par (i := 4) (j := 5) (by rfl) scBk.nd rfl rfl (by decide) rfl rfl (pa_cons (pe_callB (call_max2 rfl) (by rfl) T.n_max PyProof.Rows.Boot.«max» (pa_cons pe_int (pa_cons (pe_ix (r := rIxT K) ix_tup (pv 1) pe_int (fun _ _ => rfl)) pa_nil))) (pa_cons (pe_callB (call_min2 rfl) (by rfl) T.n_min PyProof.Rows.Boot.«min» (pa_cons (pv 2) (pa_cons (pe_op op_add (pe_ix (r := rIxT K) ix_tup (pv 1) pe_int (fun _ _ => rfl)) (pe_ix (r := rIxT K) ix_tup (pv 1) pe_int (fun _ _ => rfl))) pa_nil))) pa_nil)) (by rfl))
      (pss_cons (ps_par (i := 6) (j := 7) (by rfl) scBk.nd rfl rfl (by decide) rfl rfl (pa_cons (pe_callB (call_max2 rfl) (by rfl) T.n_max PyProof.Rows.Boot.«max» (pa_cons pe_int (pa_cons (pe_ix (r := rIxT K) ix_tup (pv 1) pe_int (fun _ _ => rfl)) pa_nil))) (pa_cons (pe_callB (call_min2 rfl) (by rfl) T.n_min PyProof.Rows.Boot.«min» (pa_cons (pv 3) (pa_cons (pe_op op_add (pe_ix (r := rIxT K) ix_tup (pv 1) pe_int (fun _ _ => rfl)) (pe_ix (r := rIxT K) ix_tup (pv 1) pe_int (fun _ _ => rfl))) pa_nil))) pa_nil)) (by rfl))
      (pss_cons (ps_set (i := 8) scBk.nd rfl (Or.inl rfl) (pe_lst pa_nil))
      (pss_cons (ps_if (PW.pt (pw_and (pt_cmpR op_lt (pv 4) (pv 5) (nomark _)) (pw_and1 (pt_cmpR op_lt (pv 6) (pv 7) (nomark _))))) (pss_one (ps_for PassesOwn.never rfl (pi_range2 (by rfl) T.n_range (pa_cons (pe_op op_fdivW (pv 6) pe_int) (pa_cons (pe_op op_fdivW (pe_op op_add (pv 7) pe_int) pe_int) pa_nil))) (pg_name (i := 9) scBk.nd rfl (Or.inl rfl)) (pss_cons (ps_set (i := 10) scBk.nd rfl (Or.inr rfl) (pe_op op_add pe_int (pe_op op_mulW (pv 9) (pe_op op_fdivW (pe_op op_add (pv 2) pe_int) pe_int))))
      (pss_one (ps_set (i := 8) scBk.nd rfl (Or.inl rfl) (pe_op op_cat (pv 8) (pe_lc (own := [("column", 11)]) (g := gName 11) (tt := tYes) (by rfl) scBk.nd (pi_range2 (by rfl) T.n_range (pa_cons (pe_op op_fdivW (pv 4) pe_int) (pa_cons (pe_op op_fdivW (pe_op op_add (pv 5) pe_int) pe_int) pa_nil))) (blkOk_by (own := [("column", 11)]) (N := ["game", "box", "wide", "high", "left", "right", "upper", "lower", "found", "row", "begin", "column"]) (sc := defScope s_law_buckets) (by decide +kernel)) (fun _ _ _ _ _ => pg_name (i := 11) scBk.nd rfl (Or.inl rfl)) (fun _ _ _ _ _ => pts_nil) (fun _ _ _ _ _ => (pe_op op_add (pv 10) (pv 11)))))))))) pss_nil)
      (pss_one (ps_ret (pv 8)))))))), ?_⟩
    have hs := hp.sq
    have hxs := hp.xs
    have ha := hp.a
    have hb := hp.b
    obtain ⟨⟨g0, fl, gk, st, ho, pu, ks, h1, h2, ⟨sq, hrow, ⟨w4, w24⟩, l3, l17⟩, h4, h5, h6⟩, hm⟩ := hg
    have hrl : 0 < G.rows.length := by omega
    have l0 : (G.rows[0]'hrl).length = G.W := hrow _ (List.getElem_mem _)
    have r0 : (G.rows.map V.str)[0]? = some (.str (G.rows[0]'hrl)) := by rw [List.getElem?_map, List.getElem?_eq_getElem hrl]; rfl
    have wmW : CMulW 8 ((G.rows[0]'hrl).length : Int) := wide_mul (a := 40) (b := 40) (by decide) (small_ab (by omega) (by rw [pow40]; omega)) (by decide) (by decide) (by decide)
    have wmH : CMulW 8 ((G.rows.map V.str).length : Int) := wide_mul (a := 40) (b := 40) (by decide) (small_ab (by omega) (by rw [pow40, List.length_map]; omega)) (by decide) (by decide) (by decide)
    have dv : ∀ z : Int, CDivW z 32 := fun z => wide_div (b := 30) (by decide) (by decide) (by decide) (by decide)
    refine seq_cut (fun σ' H' => σ' = [some (.ref g), some (.ref p), some (.int (8 * (G.W : Int))), some (.int (8 * (G.rows.length : Int))), none, none, none, none, none, none, none, none] ∧ H' = H) (fun σ' H' hP => ?_) (fun R hR => ?_)
    rotate_left
    · refine ⟨_, rfl, g, _, _, _, rfl, rfl, h1, at_of (j := 0) rfl rfl, g0, _, _, _, rfl, rfl, h2, at_of (j := 0) rfl rfl, fl, _, _, _, rfl, rfl, sq, atI_nat (j := 0) r0, _, rfl, Nat.le_trans (show (G.rows[0]'hrl).length ≤ 24 by omega) (by decide), _, _, rfl, rfl, wmW, _, rfl, g, _, _, _, rfl, rfl, h1, at_of (j := 0) rfl rfl, g0, _, _, _, rfl, rfl, h2, at_of (j := 0) rfl rfl, fl, _, rfl, .inr sq, _, _, rfl, rfl, wmH, _, _, rfl, hR _ _ ⟨?_, rfl⟩⟩
      rw [l0, List.length_map]
      rfl
    obtain ⟨rfl, rfl⟩ := hP
    refine seq_cut (fun σ' H'' => ∃ lf rt : Int, σ' = [some (.ref g), some (.ref p), some (.int (8 * (G.W : Int))), some (.int (8 * (G.rows.length : Int))), some (.int lf), some (.int rt), none, none, none, none, none, none] ∧ H'' = H' ∧ 0 ≤ lf ∧ rt ≤ 8 * (G.W : Int) ∧ rt - lf ≤ 20) (fun σ' H'' hP => ?_) (fun R hR => ?_)
    rotate_left
    · refine ⟨_, rfl, p, _, _, _, rfl, rfl, hs, at_of (j := 0) rfl rfl, _, _, rfl, _, rfl, _, rfl, p, _, _, _, rfl, rfl, hs, at_of (j := 0) rfl rfl, _, rfl, p, _, _, _, rfl, rfl, hs, at_of (j := 2) rfl rfl, _, _, rfl, rfl, _, _, rfl, _, _, rfl, hR _ _ ⟨_, _, rfl, rfl, ?_, ?_, ?_⟩⟩
      · split <;> omega
      · split <;> omega
      · split <;> split <;> omega
    obtain ⟨lf, rt, rfl, rfl, lf0, rtW, rt20⟩ := hP
    refine seq_cut (fun σ' H2 => ∃ up lo : Int, σ' = [some (.ref g), some (.ref p), some (.int (8 * (G.W : Int))), some (.int (8 * (G.rows.length : Int))), some (.int lf), some (.int rt), some (.int up), some (.int lo), none, none, none, none] ∧ H2 = H'' ∧ 0 ≤ up ∧ lo ≤ 8 * (G.rows.length : Int) ∧ lo - up ≤ 20) (fun σ' H2 hP => ?_) (fun R hR => ?_)
    rotate_left
    · refine ⟨_, rfl, p, _, _, _, rfl, rfl, hs, at_of (j := 1) rfl rfl, _, _, rfl, _, rfl, _, rfl, p, _, _, _, rfl, rfl, hs, at_of (j := 1) rfl rfl, _, rfl, p, _, _, _, rfl, rfl, hs, at_of (j := 3) rfl rfl, _, _, rfl, rfl, _, _, rfl, _, _, rfl, hR _ _ ⟨_, _, rfl, rfl, ?_, ?_, ?_⟩⟩
      · split <;> omega
      · split <;> omega
      · split <;> split <;> omega
    obtain ⟨up, lo, rfl, rfl, up0, loH, lo20⟩ := hP
    refine ⟨(show 0 ≤ sizeLine by decide), fun L nL => ?_⟩
    have sL := new_same (o := .lst []) nL
    refine ⟨_, rfl, _, rfl, _, _, rfl, rfl, _, rfl, ite2 (fun z1 => ?_) (fun z => iteF ⟨_, rfl, k L [] _ nL sL upd_same (Nat.zero_le _) fun _ q => (nomatch q)⟩)⟩
    refine ⟨_, rfl, _, rfl, _, _, rfl, rfl, _, rfl, ite2 (fun z2 => ?_) (fun z => ⟨_, rfl, k L [] _ nL sL upd_same (Nat.zero_le _) fun _ q => (nomatch q)⟩)⟩
    rw [decide_eq_true_eq] at z1 z2
    obtain ⟨u0, hu0⟩ := Int.eq_ofNat_of_zero_le (show 0 ≤ up / 32 by omega)
    obtain ⟨c0, hc0⟩ := Int.eq_ofNat_of_zero_le (show 0 ≤ lf / 32 by omega)
    have hC : (8 * (G.W : Int) + 31) / 32 = (G.C : Int) := by unfold Gm.C; omega
    have hRR : (8 * (G.rows.length : Int) + 31) / 32 = (G.R : Int) := by unfold Gm.R; omega
    have hC6 : G.C ≤ 6 := by unfold Gm.C; omega
    have hR5 : G.R ≤ 5 := by unfold Gm.R; omega
    refine ⟨_, rfl, _, _, rfl, rfl, dv _, _, rfl, _, _, rfl, rfl, _, _, rfl, rfl, dv _, _, _, rfl, ⟨by omega, by omega, by omega, by omega⟩, ?_⟩
    refine for_it (walk_range (lo := up / 32) (n := ((lo + 31) / 32 - up / 32).toNat)) (fun i σ H3 => ∃ (v9 v10 v11 : Option V) (l : Addr) (bs : List Nat), σ = [some (.ref g), some (.ref p), some (.int (8 * (G.W : Int))), some (.int (8 * (G.rows.length : Int))), some (.int lf), some (.int rt), some (.int up), some (.int lo), some (.ref l), v9, v10, v11] ∧ H2 l = none ∧ Same H2 H3 ∧ H3 l = some (.lst (nVs bs)) ∧ bs.length ≤ 2 * i ∧ ∀ b ∈ bs, 49 ≤ b ∧ b < 49 + G.R * G.C) ⟨_, _, _, L, [], rfl, nL, sL, upd_same, Nat.zero_le _, fun _ q => (nomatch q)⟩ (fun _ _ _ _ _ => trivial) (fun i v σ H3 H4 hi h yy => ?_) (fun σ H3 h => ?_)
    · obtain ⟨v9, v10, v11, l, bs, rfl, ln, sm, hl, hlen, hbs⟩ := h
      obtain ⟨rfl, rfl⟩ := yy
      have mw : CMulW (up / 32 + (i : Nat)) ((8 * (G.W : Int) + 31) / 32) := wide_mul (a := 40) (b := 40) (Nat.lt_trans (show (up / 32 + (i : Int)).natAbs < 1000 by omega) (by decide)) (Nat.lt_trans (show ((8 * (G.W : Int) + 31) / 32).natAbs < 1000 by omega) (by decide)) (by decide) (by decide) (by decide)
      refine ⟨_, rfl, _, rfl, _, _, rfl, rfl, _, _, rfl, rfl, dv _, _, _, rfl, rfl, mw, _, _, rfl, rfl, ?_⟩
      refine ⟨_, rfl, _, rfl, _, _, rfl, rfl, dv _, _, rfl, _, _, rfl, rfl, _, _, rfl, rfl, dv _, _, _, rfl, ⟨by omega, by omega, by omega, by omega⟩, fun D hD => ?_⟩
      refine lc_range (lo := lf / 32) (n := ((rt + 31) / 32 - lf / 32).toNat) (fun j Hx => ∃ cs : List Nat, Same H4 Hx ∧ Hx D = some (.lst (nVs cs)) ∧ cs.length = j ∧ ∀ b ∈ cs, 49 ≤ b ∧ b < 49 + G.R * G.C) ⟨[], new_same hD, upd_same, rfl, fun _ q => (nomatch q)⟩ (fun j Hx hj h => ?_) (fun Hx h => ?_)
      · obtain ⟨cs, s4, hc, hcl, hcs⟩ := h
        refine ⟨rfl, ?_⟩
        dsimp only [tYes]
        rw [if_pos rfl]
        have e : 49 + (up / 32 + (i : Int)) * ((8 * (G.W : Int) + 31) / 32) + (lf / 32 + (j : Int)) = ((49 + (u0 + i) * G.C + (c0 + j) : Nat) : Int) := by
          rw [hu0, hc0, hC]
          simp only [Int.natCast_add, Int.natCast_mul]
          rfl
        have hlt : (u0 + i) * G.C + (c0 + j) < G.R * G.C := by
          have q1 : u0 + i < G.R := by omega
          have q2 : c0 + j < G.C := by omega
          have q3 := Nat.mul_le_mul_right G.C (show u0 + i + 1 ≤ G.R by omega)
          rw [Nat.succ_mul] at q3
          omega
        refine ⟨_, rfl, _, rfl, _, _, rfl, rfl, _, hc, Nat.lt_of_le_of_lt (show (nVs cs).length ≤ 100 by rw [nVs_len]; omega) (by decide), cs ++ [49 + (u0 + i) * G.C + (c0 + j)], frm_same s4 hD Frm.of_upd, ?_, by simp [hcl], fun b hb => ?_⟩
        · rw [nVs_app]
          show upd Hx D (.lst (nVs cs ++ [V.int (49 + (up / 32 + (i : Int)) * ((8 * (G.W : Int) + 31) / 32) + (lf / 32 + (j : Int)))])) D = _
          rw [e]
          exact upd_same
        · rcases List.mem_append.mp hb with h | h
          · exact hcs b h
          · rw [List.mem_singleton.mp h]
            omega
      · obtain ⟨cs, s4, hc, hcl, hcs⟩ := h
        refine ⟨l, D, _, _, rfl, rfl, s4 _ _ hl, hc, Nat.le_trans (show (nVs bs).length + (nVs cs).length ≤ 1000 by rw [nVs_len, nVs_len]; omega) (by decide), fun q nq => ?_⟩
        have sq := new_same (o := .lst (nVs bs ++ nVs cs)) nq
        refine ⟨_, _, _, q, bs ++ cs, rfl, none_of (sm.trans s4) nq, (sm.trans s4).trans sq, by rw [nVs_app]; exact upd_same, by rw [List.length_append]; omega, fun b hb => ?_⟩
        rcases List.mem_append.mp hb with h | h
        · exact hbs b h
        · exact hcs b h
    · obtain ⟨v9, v10, v11, l, bs, rfl, ln, sm, hl, hlen, hbs⟩ := h
      exact ⟨_, rfl, k l bs H3 ln sm hl (by omega) hbs⟩
end
end K44
set_option maxRecDepth 100000
set_option maxHeartbeats 4000000
/-! What is seen, met, rested on. -/
namespace K44
open PySem PySem.Spec PyProof.Rows L2 KF KD
section
variable {X : Cx}
def rNeNil (K : PySem.W.Frag) (c : Bool) : R2 := fun x y H Q => ∃ ds, Dp K H x (.list ds) ∧ Dp K H y (.list []) ∧ PyData.canLayAll0 ds = true ∧ Q (.bl (c == ds.isEmpty)) H
theorem eqv_nil (ds : List PyData) : PyData.eqv (.list ds) (.list []) = ds.isEmpty := by
  cases ds <;> simp [PyData.eqv, PyData.eqvAll]
theorem op_neNil (hu : X.A.units + 64 < cLine) : OpR X (compareOp .NotEq) (rNeNil X.K false) := by
  intro pins s σ H x y v u Q I rx ry h
  obtain ⟨ds, hd, he, hc, q⟩ := h
  obtain ⟨as, r1⟩ := Dp.reads I _ x v hd rx
  obtain ⟨bs, r2⟩ := Dp.reads I _ y u he ry
  have e : (PyData.list []).depth = 1 := by simp [PyData.depth, PyData.depthAll]
  refine SeqAt.compareNe_reads r1 r2 (by simpa [PyData.canLay0] using hc) (by simp [PyData.canLay0, PyData.canLayAll0]) (by rw [e]; have := Nat.min_le_right (PyData.list ds).depth 1; omega) ⟨.bl _, H, I, rfl, ?_⟩
  rw [eqv_nil]
  simpa using q
theorem op_eqNil (hu : X.A.units + 64 < cLine) : OpR X (compareOp .Eq) (rNeNil X.K true) := by
  intro pins s σ H x y v u Q I rx ry h
  obtain ⟨ds, hd, he, hc, q⟩ := h
  obtain ⟨as, r1⟩ := Dp.reads I _ x v hd rx
  obtain ⟨bs, r2⟩ := Dp.reads I _ y u he ry
  have e : (PyData.list []).depth = 1 := by simp [PyData.depth, PyData.depthAll]
  refine SeqAt.compareEq_reads r1 r2 (by simpa [PyData.canLay0] using hc) (by simp [PyData.canLay0, PyData.canLayAll0]) (by rw [e]; have := Nat.min_le_right (PyData.list ds).depth 1; omega) ⟨.bl _, H, I, rfl, ?_⟩
  rw [eqv_nil]
  simpa using q
end
theorem frm_tfD {d : Addr} {H H' : Hp} {kvs : List (Key × V)} (e : Frm d H H') (h : H d = some (.dK kvs)) : TF H H' := fun c ys z => by
  have hne : c ≠ d := fun q => by
    subst q
    rcases z with z | ⟨ob, z⟩ <;> rw [h] at z <;> cases z
  rcases z with z | ⟨ob, z⟩
  · exact .inl (e _ _ hne z)
  · exact .inr ⟨ob, e _ _ hne z⟩
structure HdR (H : Hp) (hd g cl dt : Addr) (cs : List V) (m : Nat) : Prop where
  hd : H hd = some (.lst [.ref g, .ref cl, .ref dt])
  cl : H cl = some (.lst cs)
  dt : ∃ kvs, H dt = some (.dK kvs) ∧ kvs.length ≤ m
theorem HdR.same {H H' : Hp} {hd g cl dt : Addr} {cs : List V} {m n : Nat} (s : Same H H') (h : HdR H hd g cl dt cs m) (hn : m ≤ n) : HdR H' hd g cl dt cs n := by
  obtain ⟨h1, h2, kvs, h3, h4⟩ := h
  exact ⟨s _ _ h1, s _ _ h2, kvs, s _ _ h3, by omega⟩
structure CelR (K : PySem.W.Frag) (H : Hp) (G : Gm) (cs : List V) : Prop where
  len : cs.length = 49 + G.R * G.C
  slot : ∀ i, i < 16 → cs[i]? = some .non ∨ ∃ a, cs[i]? = some (.ref a) ∧ ThE K H G a
  met : ∀ i, 16 ≤ i → i < 32 → ∃ a ns, cs[i]? = some (.ref a) ∧ SqT K H a (nVs ns) ∧ ns.length ≤ 300 ∧ ∀ n ∈ ns, n < 16
  num : ∀ i, 32 ≤ i → i < 49 → ∃ z : Int, cs[i]? = some (.int z) ∧ z.natAbs < 1000000000
  bkt : ∀ i, 49 ≤ i → i < cs.length → ∃ a ns, cs[i]? = some (.ref a) ∧ SqT K H a (nVs ns) ∧ ns.length ≤ 64 ∧ ∀ n ∈ ns, n < 16 ∧ ∃ b, cs[n]? = some (.ref b) ∧ ThE K H G b
theorem CelR.tf {K : PySem.W.Frag} {H H' : Hp} {G : Gm} {cs : List V} (s : TF H H') (h : CelR K H G cs) : CelR K H' G cs := by
  refine ⟨h.len, fun i hi => ?_, fun i h1 h2 => ?_, h.num, fun i h1 h2 => ?_⟩
  · rcases h.slot i hi with e | ⟨a, e, r⟩
    · exact .inl e
    · exact .inr ⟨a, e, r.tf s⟩
  · obtain ⟨a, ns, e, q, r⟩ := h.met i h1 h2
    exact ⟨a, ns, e, s.sq q, r⟩
  · obtain ⟨a, ns, e, q, l, r⟩ := h.bkt i h1 h2
    refine ⟨a, ns, e, s.sq q, l, fun n hn => ?_⟩
    obtain ⟨r1, b, r2, r3⟩ := r n hn
    exact ⟨r1, b, r2, r3.tf s⟩
def thD (h : Th) : PyData := .tuple [.int (h.idx : Int), .int h.ho, .int h.x, .int h.y, .int h.dx, .int h.dy, .int h.re, .tuple (h.own.map PyData.int)]
theorem dp_ints {K : PySem.W.Frag} {H : Hp} : ∀ ns : List Int, DpAll K H (ns.map V.int) (ns.map PyData.int)
  | [] => .nil
  | n :: ns => .cons (.int n) (dp_ints ns)
theorem can_ints : ∀ ns : List Int, PyData.canLayAll0 (ns.map PyData.int) = true
  | [] => by simp [PyData.canLayAll0]
  | n :: ns => by
    rw [List.map_cons]
    simp [PyData.canLayAll0, PyData.canLay0, can_ints ns]
theorem dp_th {K : PySem.W.Frag} {H : Hp} {t : Addr} {h : Th} (r : ThR K H t h) : Dp K H (.ref t) (thD h) := by
  obtain ⟨⟨o, h1, h2⟩, _⟩ := r
  exact .tup h1 (.cons (.int _) (.cons (.int _) (.cons (.int _) (.cons (.int _) (.cons (.int _) (.cons (.int _) (.cons (.int _) (.cons (.tup h2 (dp_ints _)) .nil))))))))
theorem can_th (h : Th) : PyData.canLay0 (thD h) = true := by
  simp [thD, PyData.canLay0, PyData.canLayAll0, can_ints]
theorem dp_nVs {K : PySem.W.Frag} {H : Hp} : ∀ ns : List Nat, DpAll K H (nVs ns) (ns.map fun (n : Nat) => PyData.int (n : Int))
  | [] => .nil
  | n :: ns => .cons (.int _) (dp_nVs ns)
theorem can_nVs : ∀ ns : List Nat, PyData.canLayAll0 (ns.map fun (n : Nat) => PyData.int (n : Int)) = true
  | [] => by simp [PyData.canLayAll0]
  | n :: ns => by
    rw [List.map_cons]
    simp [PyData.canLayAll0, PyData.canLay0, can_nVs ns]
theorem nVs_flat (ns : List Nat) : (nVs ns).all flatV = true := by
  unfold nVs
  rw [List.all_map]
  exact List.all_eq_true.mpr fun _ _ => rfl
theorem nVs_get {ns : List Nat} {i : Nat} {v : V} (h : (nVs ns)[i]? = some v) : ∃ n, n ∈ ns ∧ v = .int (n : Int) := by
  unfold nVs at h
  rw [List.getElem?_map] at h
  cases e : ns[i]? with
  | none => rw [e] at h; cases h
  | some n =>
    rw [e] at h
    cases h
    exact ⟨n, List.mem_of_getElem? e, rfl⟩
theorem nVs_int (ns : List Nat) : nVs ns = (ns.map fun (b : Nat) => (b : Int)).map V.int := by
  unfold nVs
  rw [List.map_map]
  rfl
theorem nat_perm {ms : List Int} {ns : List Nat} (h : ms.Perm (ns.map fun (b : Nat) => (b : Int))) : ∃ qs : List Nat, ms.map V.int = nVs qs ∧ qs.length = ns.length ∧ ∀ q ∈ qs, q ∈ ns := by
  refine ⟨ms.map Int.toNat, ?_, ?_, fun q hq => ?_⟩
  · unfold nVs
    rw [List.map_map]
    refine List.map_congr_left fun z hz => ?_
    obtain ⟨n, _, rfl⟩ := List.mem_map.mp (h.mem_iff.mp hz)
    rfl
  · rw [List.length_map, h.length_eq, List.length_map]
  · obtain ⟨z, hz, rfl⟩ := List.mem_map.mp hq
    obtain ⟨n, hn, rfl⟩ := List.mem_map.mp (h.mem_iff.mp hz)
    exact hn
section
variable {P : Program} {w : World} {K : PySem.W.Frag} {mg : Str → Option Value} {base : Heap}
def spSee : Sp := fun vs H Q _ => ∃ (hd g cl dt : Addr) (cs : List V) (m c : Nat) (v : V), vs = [.ref hd, .int (c : Int)] ∧ HdR H hd g cl dt cs m ∧ m < 1000000 ∧ cs[c]? = some v ∧ ∀ H', Frm dt H H' → TF H H' → HdR H' hd g cl dt cs (m + 1) → Q v H'
theorem scSee : FnScope ["held", "cell"] ["held", "cell"] (defScope s_law_see) := ⟨rfl, rfl, rfl, by decide +kernel, rfl, by decide +kernel, by decide +kernel⟩
theorem ok_law_see (T : Txt K w mg) : FnOk P w K mg base CX0 1 (He.fAd K ("_law_see", none)) (fdAt K (He.fAd K ("_law_see", none))) ["held", "cell"] spSee := by
  refine T.F_law_see.ok scSee (fun vs H Q E h => ?_) (fun cdv A outer s H vs Q E hr h => ?_)
  · obtain ⟨hd, g, cl, dt, cs, m, c, v, rfl, _⟩ := h
    rfl
  · obtain ⟨hd, g, cl, dt, cs, m, c, v, rfl, hr0, hm, hc, k⟩ := h
    have hu := Nat.lt_of_le_of_lt (Nat.add_le_add_left (by decide : 1 ≤ 64) _) hr.units
    refine ⟨_, PSs.nox (pss_cons (ps_if (pt_cmp (pc_dnotin hu (pv 1) (pe_ix (r := rIxL K) ix_list (pv 0) pe_int (fun _ _ => rfl)))) (pss_one (ps_dput hu (pe_ix (r := rIxL K) ix_list (pv 0) pe_int (fun _ _ => rfl)) (pv 1) (pe_ix (r := rIxL K) ix_list (pe_ix (r := rIxL K) ix_list (pv 0) pe_int (fun _ _ => rfl)) (pv 1) (fun _ _ => rfl)) rfl)) pss_nil)
      (pss_one (ps_ret (pe_ix (r := rIxL K) ix_list (pe_ix (r := rIxL K) ix_list (pv 0) pe_int (fun _ _ => rfl)) (pv 1) (fun _ _ => rfl))))), ?_⟩
    obtain ⟨h1, h2, kvs, h3, h4⟩ := id hr0
    refine ⟨_, rfl, _, rfl, hd, _, _, _, rfl, rfl, SqL.of h1, at_of (j := 2) rfl rfl, dt, _, rfl, .inl ⟨kvs, .inl (c : Int), .inl h3, rfl, rfl⟩, _, rfl, ite2 (fun z => ?_) (fun z => ?_)⟩
    · refine ⟨_, rfl, hd, _, _, _, rfl, rfl, SqL.of h1, at_of (j := 1) rfl rfl, _, rfl, cl, _, _, _, rfl, rfl, SqL.of h2, atI_nat hc, _, rfl, hd, _, _, _, rfl, rfl, SqL.of h1, at_of (j := 2) rfl rfl, _, rfl, dt, _, rfl, DPut.k (k := .inl (c : Int)) h3 (Nat.lt_of_le_of_lt (show kvs.length ≤ 1000000 by omega) (by decide)), ?_⟩
      have f : Frm dt H (upd H dt (.dK (putK kvs (.inl (c : Int)) v))) := Frm.of_upd
      have n1 : hd ≠ dt := fun e => by rw [e, h3] at h1; cases h1
      have n2 : cl ≠ dt := fun e => by rw [e, h3] at h2; cases h2
      have k1 := f _ _ n1 h1
      have k2 := f _ _ n2 h2
      refine ⟨_, rfl, hd, _, _, _, rfl, rfl, SqL.of k1, at_of (j := 1) rfl rfl, _, rfl, cl, _, _, _, rfl, rfl, SqL.of k2, atI_nat hc, k _ f (frm_tfD f h3) ⟨k1, k2, _, upd_same, ?_⟩⟩
      have := length_putK kvs (.inl (c : Int)) v
      omega
    · exact ⟨_, rfl, hd, _, _, _, rfl, rfl, SqL.of h1, at_of (j := 1) rfl rfl, _, rfl, cl, _, _, _, rfl, rfl, SqL.of h2, atI_nat hc, k H (Frm.refl _ _) (TF.refl _) (hr0.same (Same.refl _) (by omega))⟩
def spMg (K : PySem.W.Frag) : Sp := fun vs H Q _ => ∃ (hd g cl dt p bu : Addr) (G : Gm) (cs : List V) (m : Nat) (x y a b : Int) (bl : List Nat), vs = [.ref hd, .ref p, .ref bu] ∧ HdR H hd g cl dt cs m ∧ m + 1000 < 1000000 ∧ GmR K H g G ∧ CelR K H G cs ∧ BxR K H p x y a b ∧ H bu = some (.lst (nVs bl)) ∧
  ∀ l ms H', Frm dt H H' → TF H H' → HdR H' hd g cl dt cs (m + 1000) → H' l = some (.lst (nVs ms)) → ms.length ≤ 256 → (∀ n ∈ ms, n < 16 ∧ ∃ b, cs[n]? = some (.ref b) ∧ ThE K H' G b) → Q (.ref l) H'
theorem scMg : FnScope ["held", "box", "but", "asked", "cell", "slot"] ["held", "box", "but"] (defScope s_law_meeting) := ⟨rfl, rfl, rfl, by decide +kernel, rfl, by decide +kernel, by decide +kernel⟩
theorem ok_law_meeting (T : Txt K w mg) : FnOk P w K mg base CX0 4 (He.fAd K ("_law_meeting", none)) (fdAt K (He.fAd K ("_law_meeting", none))) ["held", "box", "but"] (spMg K) := by
  refine T.F_law_meeting.ok scMg (fun vs H Q E h => ?_) (fun cdv A outer s H vs Q E hr h => ?_)
  · obtain ⟨hd, g, cl, dt, p, bu, G, cs, m, x, y, a, b, bl, rfl, _⟩ := h
    rfl
  · obtain ⟨hd, g, cl, dt, p, bu, G, cs, m, x, y, a, b, bl, rfl, hh, hm, hg, hc, hp, hbu, k⟩ := h
    refine ⟨_, PSs.nox (pss_cons (ps_set (i := 3) scMg.nd rfl (Or.inr rfl) (pe_lst pa_nil))
      (pss_cons (ps_for PassesOwn.never rfl (pi_list (pe_call (ok_law_buckets T) (hr.mono (by decide)) (by rfl) T.g_law_buckets (T.F_law_buckets).kp T.b_law_buckets .nil pass0 (pa_cons (pe_ix (r := rIxL K) ix_list (pv 0) pe_int (fun _ _ => rfl)) (pa_cons (pv 1) pa_nil)))) (pg_name (i := 4) scMg.nd rfl (Or.inl rfl)) (pss_one (ps_set (i := 3) scMg.nd rfl (Or.inr rfl) (pe_op op_cat (pv 3) (pe_lc (own := [("slot", 5)]) (g := gName 5) (by rfl) scMg.nd (pi_tup (pe_call (ok_law_see T) (hr.mono (by decide)) (by rfl) T.g_law_see (T.F_law_see).kp T.b_law_see .nil pass0 (pa_cons (pv 0) (pa_cons (pv 4) pa_nil)))) (blkOk_by (own := [("slot", 5)]) (N := ["held", "box", "but", "asked", "cell", "slot"]) (sc := defScope s_law_meeting) (by decide +kernel)) (fun _ _ _ _ _ => pg_name (i := 5) scMg.nd rfl (Or.inl rfl)) (fun _ _ _ _ _ => pts_one (PW.pt (pw_and (pt_cmpR (r := rIn K true) op_notIn_seq (pv 5) (pv 2) rfl) (pw_and1 (pt_cmpR (r := rIn K true) op_notIn_seq (pv 5) (pv 3) rfl))))) (fun _ _ _ _ _ => (pv 5)))))))
      (pss_one (ps_ret (pe_lc (own := [("slot", 5)]) (g := gName 5) (by rfl) scMg.nd (pi_list (pe_callB (r := rSortedI K) cr_sortedI (by rfl) T.n_sorted PyProof.Rows.Boot.«sorted» (pa_cons (pv 3) pa_nil))) (blkOk_by (own := [("slot", 5)]) (N := ["held", "box", "but", "asked", "cell", "slot"]) (sc := defScope s_law_meeting) (by decide +kernel)) (fun _ _ _ _ _ => pg_name (i := 5) scMg.nd rfl (Or.inl rfl)) (fun _ _ _ _ _ => pts_one (pt_val (pe_call (ok_law_meet T) (hr.mono (by decide)) (by rfl) T.g_law_meet (T.F_law_meet).kp T.b_law_meet .nil pass0 (pa_cons (pe_call (ok_law_box T) (hr.mono (by decide)) (by rfl) T.g_law_box (T.F_law_box).kp T.b_law_box .nil pass0 (pa_cons (pe_ix (r := rIxL K) ix_list (pv 0) pe_int (fun _ _ => rfl)) (pa_cons (pe_call (ok_law_see T) (hr.mono (by decide)) (by rfl) T.g_law_see (T.F_law_see).kp T.b_law_see .nil pass0 (pa_cons (pv 0) (pa_cons (pv 5) pa_nil))) pa_nil))) (pa_cons (pv 1) pa_nil))))) (fun _ _ _ _ _ => (pv 5))))))), ?_⟩
    obtain ⟨kv0, hdt0, _⟩ := hh.dt
    have nd : ∀ {H' : Hp} {q : Addr} {xs : List V}, TF H H' → HdR H' hd g cl dt cs (m + 1000) → H' q = some (.lst xs) → q ≠ dt := fun _ r hq e => by
      obtain ⟨kv, h3, _⟩ := r.dt
      rw [e, h3] at hq
      cases hq
    have Pn : ∀ {H' : Hp}, TF H H' → ∀ {n : Nat}, (n < 16 ∧ ∃ b, cs[n]? = some (V.ref b) ∧ ThE K H G b) → (n < 16 ∧ ∃ b, cs[n]? = some (V.ref b) ∧ ThE K H' G b) := fun s n h => by
      obtain ⟨h1, b, h2, h3⟩ := h
      exact ⟨h1, b, h2, h3.tf s⟩
    refine ⟨(show 0 ≤ sizeLine by decide), fun L nL => ?_⟩
    have sL := new_same (o := .lst []) nL
    have hh1 := hh.same (n := m) sL (Nat.le_refl _)
    refine ⟨_, rfl, hd, _, _, _, rfl, rfl, SqL.of hh1.hd, at_of (j := 0) rfl rfl, _, rfl, g, p, G, x, y, a, b, rfl, hg.tf (same_tf sL), hp.tf (same_tf sL), fun l bs H1 _ s1 hl hbl hbs => ?_⟩
    have s01 := sL.trans s1
    have hh2 := hh1.same (n := m + 0) s1 (Nat.le_refl _)
    refine ⟨l, rfl, ⟨_, SqL.of hl⟩, ?_⟩
    refine for_it (walk_list (K := K) (a := l) (xs := nVs bs)) (fun i σ H' => ∃ (v4 v5 : Option V) (A : Addr) (as : List Nat), σ = [some (.ref hd), some (.ref p), some (.ref bu), some (.ref A), v4, v5] ∧ Frm dt H H' ∧ TF H H' ∧ HdR H' hd g cl dt cs (m + i) ∧ H' l = some (.lst (nVs bs)) ∧ H' A = some (.lst (nVs as)) ∧ as.length ≤ 64 * i ∧ ∀ n ∈ as, n < 16 ∧ ∃ b, cs[n]? = some (V.ref b) ∧ ThE K H G b)
      ⟨_, _, L, [], rfl, Frm.of_same s01, same_tf s01, hh2, hl, s1 _ _ upd_same, Nat.zero_le _, fun _ q => (nomatch q)⟩ (fun i σ H' _ h => ?_) (fun i v σ H' Hx hi h yy => ?_) (fun σ H' h => ?_)
    · obtain ⟨v4, v5, A, as, rfl, f, tf, hr2, hl2, hA, hal, has⟩ := h
      exact SqL.of hl2
    · obtain ⟨v4, v5, A, as, rfl, f, tf, hr2, hl2, hA, hal, has⟩ := h
      obtain ⟨rfl, hv⟩ := yy
      rw [nVs_len] at hi
      obtain ⟨c, hcm, rfl⟩ := nVs_get hv
      obtain ⟨c1, c2⟩ := hbs c hcm
      obtain ⟨q, ns, e, sq, hnl, hns⟩ := hc.bkt c c1 (by rw [hc.len]; exact c2)
      refine ⟨_, rfl, _, rfl, _, rfl, hd, g, cl, dt, cs, m + i, c, _, rfl, hr2, by omega, e, fun H3 f3 t3 hr3 => ?_⟩
      have hb3 : m + i + 1 ≤ m + 1000 := by omega
      have hr3' : HdR H3 hd g cl dt cs (m + 1000) := hr3.same (Same.refl _) hb3
      have hr2' : HdR Hx hd g cl dt cs (m + 1000) := hr2.same (Same.refl _) (by omega)
      have tf3 := tf.trans t3
      have f03 := f.trans f3
      have hA3 := f3 _ _ (nd tf hr2' hA) hA
      have hl3 := f3 _ _ (nd tf hr2' hl2) hl2
      have hbu3 := f03 _ _ (nd (TF.refl _) (hh.same (Same.refl _) (by omega)) hbu) hbu
      refine ⟨q, rfl, ⟨_, tf3.sq sq⟩, fun D hD => ?_⟩
      refine lc_it (walk_tup (K := K) (a := q) (xs := nVs ns)) (fun j Hy => ∃ as2 : List Nat, Same H3 Hy ∧ Hy D = some (.lst (nVs as2)) ∧ as2.length ≤ j ∧ ∀ n ∈ as2, n < 16 ∧ ∃ b, cs[n]? = some (V.ref b) ∧ ThE K H G b) ⟨[], new_same hD, upd_same, Nat.le_refl _, fun _ q => (nomatch q)⟩ (fun j Hy hj h => ?_) (fun j v Hy Hz hj h yy => ?_) (fun Hy h => ?_)
      · obtain ⟨as2, s4, h2, hl4, has2⟩ := h
        exact (tf3.trans (same_tf s4)).sq sq
      · obtain ⟨as2, s4, h2, hl4, has2⟩ := h
        obtain ⟨rfl, hv2⟩ := yy
        rw [nVs_len] at hj
        obtain ⟨n, hn, rfl⟩ := nVs_get hv2
        refine ⟨rfl, _, rfl, _, rfl, bu, _, rfl, .inl (SqL.of (s4 _ _ hbu3)), rfl, nVs_flat _, _, rfl, ite2 (fun _ => ?_) (fun _ => iteF ⟨as2, s4, h2, by omega, has2⟩)⟩
        refine ⟨_, rfl, _, rfl, A, _, rfl, .inl (SqL.of (s4 _ _ hA3)), rfl, nVs_flat _, _, rfl, ite2 (fun _ => ?_) (fun _ => ⟨as2, s4, h2, by omega, has2⟩)⟩
        refine ⟨_, rfl, _, h2, Nat.lt_of_le_of_lt (show (nVs as2).length ≤ 1000 by rw [nVs_len]; omega) (by decide), as2 ++ [n], frm_same s4 hD Frm.of_upd, by rw [nVs_app]; exact upd_same, by simp; omega, fun k hk => ?_⟩
        rcases List.mem_append.mp hk with h | h
        · exact has2 k h
        · rw [List.mem_singleton.mp h]
          exact hns n hn
      · obtain ⟨as2, s4, h2, hl4, has2⟩ := h
        rw [nVs_len] at hl4
        refine ⟨A, D, _, _, rfl, rfl, s4 _ _ hA3, h2, Nat.le_trans (show (nVs as).length + (nVs as2).length ≤ 1000 by rw [nVs_len, nVs_len]; omega) (by decide), fun r nr => ?_⟩
        have sr := new_same (o := .lst (nVs as ++ nVs as2)) nr
        have s5 := s4.trans sr
        refine ⟨_, _, r, as ++ as2, rfl, f03.trans (Frm.of_same s5), tf3.trans (same_tf s5), hr3.same s5 (by omega), s5 _ _ hl3, by rw [nVs_app]; exact upd_same, by rw [List.length_append]; omega, fun n hn => ?_⟩
        rcases List.mem_append.mp hn with h | h
        · exact has n h
        · exact has2 n h
    · obtain ⟨v4, v5, A, as, rfl, f, tf, hr2, hl2, hA, hal, has⟩ := h
      rw [nVs_len] at hr2 hal
      have hA' : SqL K H' A ((as.map fun (b : Nat) => (b : Int)).map V.int) := by
        rw [← nVs_int]
        exact SqL.of hA
      refine ⟨_, rfl, A, _, rfl, hA', fun ns' q perm _ nq => ?_⟩
      obtain ⟨qs, e1, hql, hqs⟩ := nat_perm perm
      rw [e1]
      have s2 := new_same (o := .lst (nVs qs)) nq
      have hq : (upd H' q (.lst (nVs qs))) q = some (.lst (nVs qs)) := upd_same
      have hr3 := hr2.same (n := m + 4 + 0) s2 (by omega)
      have f3 := f.trans (Frm.of_same s2)
      have tf3 := tf.trans (same_tf s2)
      refine ⟨q, rfl, ⟨_, SqL.of hq⟩, fun D hD => ?_⟩
      generalize upd H' q _ = H3 at hq hr3 f3 tf3 hD ⊢
      have Ddt : D ≠ dt := fun e => by
        obtain ⟨kv, h3, _⟩ := hr3.dt
        rw [e, h3] at hD
        cases hD
      have sD := new_same (o := .lst []) hD
      refine lc_it (walk_list (K := K) (a := q) (xs := nVs qs)) (fun j Hy => ∃ ms : List Nat, Frm dt H Hy ∧ TF H Hy ∧ HdR Hy hd g cl dt cs (m + 4 + j) ∧ Hy q = some (.lst (nVs qs)) ∧ Hy D = some (.lst (nVs ms)) ∧ ms.length ≤ j ∧ ∀ n ∈ ms, n < 16 ∧ ∃ b, cs[n]? = some (V.ref b) ∧ ThE K H G b)
        ⟨[], f3.trans (Frm.of_same sD), tf3.trans (same_tf sD), hr3.same sD (by omega), sD _ _ hq, upd_same, Nat.le_refl _, fun _ q => (nomatch q)⟩ (fun j Hy hj h => ?_) (fun j v Hy Hz hj h yy => ?_) (fun Hy h => ?_)
      · obtain ⟨ms, f4, t4, hr4, hq4, hD4, hml, hms⟩ := h
        exact SqL.of hq4
      · obtain ⟨ms, f4, t4, hr4, hq4, hD4, hml, hms⟩ := h
        obtain ⟨rfl, hv2⟩ := yy
        rw [nVs_len] at hj
        obtain ⟨n, hn, rfl⟩ := nVs_get hv2
        obtain ⟨n16, b2, eb, th, hth, hidx⟩ := has n (hqs n hn)
        refine ⟨rfl, _, rfl, hd, _, _, _, rfl, rfl, SqL.of hr4.hd, at_of (j := 0) rfl rfl, _, rfl, _, rfl, hd, g, cl, dt, cs, m + 4 + j, n, _, rfl, hr4, by omega, eb, fun H5 f5 t5 hr5 => ?_⟩
        have t05 := t4.trans t5
        refine ⟨g, b2, G, th, _, rfl, hg.tf t05, hth.tf t05, kd_of hidx, fun qa qb p2 H6 s6 sp6 => ?_⟩
        have t06 := t05.trans (same_tf s6)
        have hrY : HdR Hz hd g cl dt cs (m + 1000) := hr4.same (Same.refl _) (by omega)
        have hq6 := s6 _ _ (f5 _ _ (nd t4 hrY hq4) hq4)
        have hD6 := s6 _ _ (f5 _ _ Ddt hD4)
        have f06 := (f4.trans f5).trans (Frm.of_same s6)
        have hr6 := hr5.same (n := m + 4 + (j + 1)) s6 (by omega)
        refine ⟨_, rfl, p2, p, _, _, _, _, _, _, _, _, rfl, sp6, t06.sq hp.sq, fun r => ⟨_, rfl, ite2 (fun _ => ?_) (fun _ => ⟨ms, f06, t06, hr6, hq6, hD6, by omega, hms⟩)⟩⟩
        have fD : Frm D H6 (upd H6 D (.lst (nVs ms ++ [V.int (n : Int)]))) := Frm.of_upd
        have tD := fD.tf hD6
        have Dq : q ≠ D := fun e => by
          rw [← e, hq] at hD
          cases hD
        have Dhd : hd ≠ D := fun e => by
          have := hr3.hd
          rw [e, hD] at this
          cases this
        have Dcl : cl ≠ D := fun e => by
          have := hr3.cl
          rw [e, hD] at this
          cases this
        refine ⟨_, rfl, _, hD6, Nat.lt_of_le_of_lt (show (nVs ms).length ≤ 1000 by rw [nVs_len]; omega) (by decide), ms ++ [n], ?_, t06.trans tD, ?_, ?_, by rw [nVs_app]; exact upd_same, by simp; omega, fun k hk => ?_⟩
        · intro c u nc z
          have hne : c ≠ D := fun e => by
            have := f3 _ _ nc z
            rw [e, hD] at this
            cases this
          rw [upd_ne hne]
          exact f06 _ _ nc z
        · obtain ⟨g1, g2, kv, g3, g4⟩ := hr6
          exact ⟨fD _ _ Dhd g1, fD _ _ Dcl g2, kv, fD _ _ (Ne.symm Ddt) g3, g4⟩
        · exact fD _ _ Dq hq6
        · rcases List.mem_append.mp hk with h | h
          · exact hms k h
          · rw [List.mem_singleton.mp h]
            exact has n (hqs n hn)
      · obtain ⟨ms, f4, t4, hr4, hq4, hD4, hml, hms⟩ := h
        rw [nVs_len] at hr4 hml
        exact k D ms Hy f4 t4 (hr4.same (Same.refl _) (by omega)) hD4 (by omega) fun n hn => Pn t4 (hms n hn)
def spRs (K : PySem.W.Frag) : Sp := fun vs H Q _ => ∃ (hd g cl dt : Addr) (G : Gm) (cs : List V) (m sl : Nat) (t : Addr), vs = [.ref hd, .int (sl : Int)] ∧ HdR H hd g cl dt cs m ∧ m + 3000 < 1000000 ∧ GmR K H g G ∧ CelR K H G cs ∧ cs[sl]? = some (.ref t) ∧ ThE K H G t ∧
  ∀ (r : Int) H', Frm dt H H' → TF H H' → HdR H' hd g cl dt cs (m + 3000) → -2 ≤ r → r < 16 → Q (.int r) H'
theorem scRs : FnScope ["held", "slot", "game", "thing", "x", "y", "wide", "high", "under", "barring", "mate"] ["held", "slot"] (defScope s_law_rest) := ⟨rfl, rfl, rfl, by decide +kernel, rfl, by decide +kernel, by decide +kernel⟩
theorem ok_law_rest (T : Txt K w mg) : FnOk P w K mg base CX0 5 (He.fAd K ("_law_rest", none)) (fdAt K (He.fAd K ("_law_rest", none))) ["held", "slot"] (spRs K) := by
  refine T.F_law_rest.ok scRs (fun vs H Q E h => ?_) (fun cdv A outer s H vs Q E hr h => ?_)
  · obtain ⟨hd, g, cl, dt, G, cs, m, sl, t, rfl, _⟩ := h
    rfl
  · obtain ⟨hd, g, cl, dt, G, cs, m, sl, t, rfl, hh, hm, hg, hc, ht, ⟨h, hth, hidx⟩, k⟩ := h
    refine ⟨_, PSs.nox (pss_cons (ps_asg (pe_tup (pa_cons (pe_ix (r := rIxL K) ix_list (pv 0) pe_int (fun _ _ => rfl)) (pa_cons (pe_call (ok_law_see T) (hr.mono (by decide)) (by rfl) T.g_law_see (T.F_law_see).kp T.b_law_see .nil pass0 (pa_cons (pv 0) (pa_cons (pv 1) pa_nil))) pa_nil))) (pg_tup (by rfl) (pgs_cons (pg_name (i := 2) scRs.nd rfl (Or.inr rfl)) (pgs_cons (pg_name (i := 3) scRs.nd rfl (Or.inl rfl)) pgs_nil))))
      (pss_cons (ps_asg (pe_call (ok_law_box T) (hr.mono (by decide)) (by rfl) T.g_law_box (T.F_law_box).kp T.b_law_box .nil pass0 (pa_cons (pv 2) (pa_cons (pv 3) pa_nil))) (pg_tup (by rfl) (pgs_cons (pg_name (i := 4) scRs.nd rfl (Or.inl rfl)) (pgs_cons (pg_name (i := 5) scRs.nd rfl (Or.inl rfl)) (pgs_cons (pg_name (i := 6) scRs.nd rfl (Or.inl rfl)) (pgs_cons (pg_name (i := 7) scRs.nd rfl (Or.inl rfl)) pgs_nil))))))
      (pss_cons (ps_if (pt_not (pt_val (pe_call (ok_law_is T) (hr.mono (by decide)) (by rfl) T.g_law_is (T.F_law_is).kp T.b_law_is .nil pass0 (pa_cons (pv 2) (pa_cons (pv 3) (pa_cons pe_str pa_nil)))))) (pss_one (ps_ret (pe_un un_neg pe_int))) pss_nil)
      (pss_cons (ps_if (pt_val (pe_call (ok_law_lands T) (hr.mono (by decide)) (by rfl) T.g_law_lands (T.F_law_lands).kp T.b_law_lands .nil pass0 (pa_cons (pv 2) (pa_cons (pe_tup (pa_cons (pv 4) (pa_cons (pv 5) (pa_cons (pv 6) (pa_cons (pv 7) pa_nil))))) pa_nil)))) (pss_one (ps_ret (pe_un un_neg pe_int))) pss_nil)
      (pss_cons (ps_if (pt_not (pt_val (pe_call (ok_law_is T) (hr.mono (by decide)) (by rfl) T.g_law_is (T.F_law_is).kp T.b_law_is .nil pass0 (pa_cons (pv 2) (pa_cons (pv 3) (pa_cons pe_str pa_nil)))))) (pss_one (ps_ret (pe_un un_neg pe_int))) pss_nil)
      (pss_cons (ps_set (i := 8) scRs.nd rfl (Or.inl rfl) (pe_call (ok_law_meeting T) (hr.mono (by decide)) (by rfl) T.g_law_meeting (T.F_law_meeting).kp T.b_law_meeting .nil pass0 (pa_cons (pv 0) (pa_cons (pe_tup (pa_cons (pv 4) (pa_cons (pe_op op_add (pv 5) pe_int) (pa_cons (pv 6) (pa_cons (pv 7) pa_nil))))) (pa_cons (pe_lst (pa_cons (pv 1) pa_nil)) pa_nil)))))
      (pss_cons (ps_setLc (i := 9) (own := [("mate", 10)]) (g := gName 10) (by rfl) scRs.nd rfl rfl (sw_true rfl rfl rfl (by decide +kernel)) (pi_list (pv 8)) (blkOk_by (own := [("mate", 10)]) (N := ["held", "slot", "game", "thing", "x", "y", "wide", "high", "under", "barring", "mate"]) (sc := defScope s_law_rest) (by decide +kernel)) (fun _ _ _ _ _ => pg_name (i := 10) scRs.nd rfl (Or.inl rfl)) (fun _ _ _ _ _ => pts_one (pt_val (pe_call (ok_law_is T) (hr.mono (by decide)) (by rfl) T.g_law_is (T.F_law_is).kp T.b_law_is .nil pass0 (pa_cons (pv 2) (pa_cons (pe_call (ok_law_see T) (hr.mono (by decide)) (by rfl) T.g_law_see (T.F_law_see).kp T.b_law_see .nil pass0 (pa_cons (pv 0) (pa_cons (pv 10) pa_nil))) (pa_cons pe_str pa_nil)))))) (fun _ _ _ _ _ => (pv 10)))
      (pss_one (ps_ret (pe_ifExp (pt_cmpR (r := rNeNil K false) (op_neNil hr.units) (pv 9) (pe_lst pa_nil) (nomark _)) (pe_ix (r := rIxL K) ix_list (pv 9) pe_int (fun _ _ => rfl)) (pe_un un_neg pe_int))))))))))), ?_⟩
    have hu := hr.units
    have sm := hth.sm
    refine ⟨_, rfl, hd, _, _, _, rfl, rfl, SqL.of hh.hd, at_of (j := 0) rfl rfl, _, rfl, _, rfl, hd, g, cl, dt, cs, m, sl, _, rfl, hh, by omega, ht, fun H1 f1 t1 hh1 => ⟨(show 2 ≤ sizeLine by decide), fun q nq => ?_⟩⟩
    have sq := new_same (o := .tup [V.ref g, V.ref t]) nq
    refine ⟨q, _, rfl, SqT.of upd_same, rfl, _, _, rfl, _, _, rfl, rfl, ?_⟩
    replace f1 := f1.trans (Frm.of_same sq)
    replace t1 := t1.trans (same_tf sq)
    replace hh1 := hh1.same (n := m + 1) sq (Nat.le_refl _)
    generalize upd H1 q _ = H2 at f1 t1 hh1 ⊢
    dsimp only
    refine ⟨_, rfl, _, rfl, g, t, G, h, _, rfl, hg.tf t1, hth.tf t1, kd_of hidx, fun qa qb p H3 s3 sp => ?_⟩
    refine ⟨p, _, rfl, sp, rfl, _, _, rfl, _, _, rfl, _, _, rfl, _, _, rfl, rfl, ?_⟩
    have f3 := f1.trans (Frm.of_same s3)
    have t3 := t1.trans (same_tf s3)
    have hh3 := hh1.same (n := m + 1) s3 (Nat.le_refl _)
    have hg3 := hg.tf t3
    have hth3 := hth.tf t3
    have fin : ∀ (r : Int) H', Same H3 H' → -2 ≤ r → r < 16 → Q (.int r) H' := fun r H' s r1 r2 => k r H' (f3.trans (Frm.of_same s)) (t3.trans (same_tf s)) (hh3.same s (by omega)) r1 r2
    generalize hqq : G.kd[h.idx] = qq at qa qb sp ⊢
    obtain ⟨wd, hgt⟩ := qq
    have qa : 1 ≤ wd ∧ wd ≤ 16 := qa
    have qb : 1 ≤ hgt ∧ hgt ≤ 16 := qb
    have ekd : G.kd[h.idx]? = some (wd, hgt) := by rw [← hqq]; exact kd_of hidx
    dsimp only
    refine ⟨_, rfl, _, rfl, g, t, G, h, _, _, rfl, hg3, hth3, ekd, fun r => ⟨_, rfl, ite2 (fun _ => ⟨_, rfl, fin _ _ (Same.refl _) (by decide) (by decide)⟩) (fun _ => ?_)⟩⟩
    dsimp only [tNext]
    refine ⟨_, rfl, _, rfl, _, rfl, _, rfl, _, rfl, (show 4 ≤ sizeLine by decide), fun q2 nq2 => ?_⟩
    have s4 := new_same (o := .tup [V.int h.x, .int h.y, .int wd, .int hgt]) nq2
    refine ⟨g, q2, G, _, _, _, _, rfl, hg3.tf (same_tf s4), ⟨SqT.of upd_same, by omega, by omega, by omega⟩, by omega, by omega, fun r H5 s5 => ⟨_, rfl, ite2 (fun _ => ⟨_, rfl, fin _ _ (s4.trans s5) (by decide) (by decide)⟩) (fun _ => ?_)⟩⟩
    dsimp only [tNext]
    have s35 := s4.trans s5
    refine ⟨_, rfl, _, rfl, g, t, G, h, _, _, rfl, hg3.tf (same_tf s35), hth3.tf (same_tf s35), ekd, fun r => ⟨_, rfl, ite2 (fun _ => ⟨_, rfl, fin _ _ s35 (by decide) (by decide)⟩) (fun _ => ?_)⟩⟩
    dsimp only [tNext]
    refine ⟨_, rfl, _, rfl, _, rfl, _, _, rfl, rfl, _, rfl, _, rfl, (show 4 ≤ sizeLine by decide), fun q3 nq3 => ⟨_, rfl, (show 1 ≤ sizeLine by decide), fun q4 nq4 => ?_⟩⟩
    have s6 := new_same (o := .tup [V.int h.x, .int (h.y + 1), .int wd, .int hgt]) nq3
    have s7 := new_same (o := .lst [V.int (sl : Int)]) nq4
    have s37 := s35.trans (s6.trans s7)
    have t7 := t3.trans (same_tf s37)
    have f7 := f3.trans (Frm.of_same s37)
    refine ⟨hd, g, cl, dt, q3, q4, G, cs, m + 1, h.x, h.y + 1, wd, hgt, [sl], rfl, hh3.same s37 (Nat.le_refl _), by omega, hg.tf t7, hc.tf t7, ⟨(same_tf s7).sq (SqT.of upd_same), by omega, by omega, by omega⟩, upd_same, fun l ms H8 f8 t8 hh8 hl8 hml hms => ?_⟩
    have t08 := t7.trans t8
    have f08 := f7.trans f8
    refine ⟨_, rfl, l, rfl, ⟨_, SqL.of hl8⟩, fun D hD => ?_⟩
    have Ddt : D ≠ dt := fun e => by
      obtain ⟨kv, h3, _⟩ := hh8.dt
      rw [e, h3] at hD
      cases hD
    have ldt : l ≠ dt := fun e => by
      obtain ⟨kv, h3, _⟩ := hh8.dt
      rw [e, h3] at hl8
      cases hl8
    have lD : l ≠ D := fun e => by
      rw [e, hD] at hl8
      cases hl8
    have Dhd : hd ≠ D := fun e => by
      have := hh8.hd
      rw [e, hD] at this
      cases this
    have Dcl : cl ≠ D := fun e => by
      have := hh8.cl
      rw [e, hD] at this
      cases this
    have sD := new_same (o := .lst []) hD
    refine lc_it (walk_list (K := K) (a := l) (xs := nVs ms)) (fun j Hy => ∃ rs : List Nat, Frm dt H Hy ∧ TF H Hy ∧ HdR Hy hd g cl dt cs (m + 1001 + j) ∧ Hy l = some (.lst (nVs ms)) ∧ Hy D = some (.lst (nVs rs)) ∧ rs.length ≤ j ∧ ∀ n ∈ rs, n < 16)
      ⟨[], f08.trans (Frm.of_same sD), t08.trans (same_tf sD), hh8.same sD (by omega), sD _ _ hl8, upd_same, Nat.le_refl _, fun _ q => (nomatch q)⟩ (fun j Hy hj h => ?_) (fun j v Hy Hz hj h yy => ?_) (fun Hy h => ?_)
    · obtain ⟨rs, f4, t4, hr4, hq4, hD4, hrl, hrs⟩ := h
      exact SqL.of hq4
    · obtain ⟨rs, f4, t4, hr4, hq4, hD4, hrl, hrs⟩ := h
      obtain ⟨rfl, hv2⟩ := yy
      rw [nVs_len] at hj
      obtain ⟨n, hn, rfl⟩ := nVs_get hv2
      obtain ⟨n16, b2, eb, th, hth2, hidx2⟩ := hms n hn
      have eb2 : ThE K Hz G b2 := by
        rcases hc.slot n n16 with e | ⟨a, e, r⟩
        · rw [e] at eb
          cases eb
        · rw [e] at eb
          cases eb
          exact r.tf t4
      obtain ⟨th3, hth3, hidx3⟩ := eb2
      refine ⟨rfl, _, rfl, _, rfl, _, rfl, hd, g, cl, dt, cs, m + 1001 + j, n, _, rfl, hr4, by omega, eb, fun H5 f5 t5 hr5 => ?_⟩
      have t05 := t4.trans t5
      have hq5 := f5 _ _ ldt hq4
      have hD5 := f5 _ _ Ddt hD4
      have f05 := f4.trans f5
      have hr5 := hr5.same (n := m + 1001 + (j + 1)) (Same.refl _) (by omega)
      refine ⟨g, b2, G, th3, _, _, rfl, hg.tf t05, hth3.tf t5, kd_of hidx3, fun r => ⟨_, rfl, ite2 (fun _ => ?_) (fun _ => ⟨rs, f05, t05, hr5, hq5, hD5, by omega, hrs⟩)⟩⟩
      have fD : Frm D H5 (upd H5 D (.lst (nVs rs ++ [V.int (n : Int)]))) := Frm.of_upd
      have tD := fD.tf hD5
      refine ⟨_, rfl, _, hD5, Nat.lt_of_le_of_lt (show (nVs rs).length ≤ 1000 by rw [nVs_len]; omega) (by decide), rs ++ [n], ?_, t05.trans tD, ?_, ?_, by rw [nVs_app]; exact upd_same, by simp; omega, fun k hk => ?_⟩
      · intro c u nc z
        have hne : c ≠ D := fun e => by
          have := f08 _ _ nc z
          rw [e, hD] at this
          cases this
        rw [upd_ne hne]
        exact f05 _ _ nc z
      · obtain ⟨g1, g2, kv, g3, g4⟩ := hr5
        exact ⟨fD _ _ Dhd g1, fD _ _ Dcl g2, kv, fD _ _ (Ne.symm Ddt) g3, g4⟩
      · exact fD _ _ lD hq5
      · rcases List.mem_append.mp hk with h | h
        · exact hrs k h
        · rw [List.mem_singleton.mp h]
          exact n16
    · obtain ⟨rs, f4, t4, hr4, hq4, hD4, hrl, hrs⟩ := h
      rw [nVs_len] at hr4 hrl
      refine ⟨_, rfl, (show 0 ≤ sizeLine by decide), fun q5 nq5 => ?_⟩
      have s5 := new_same (o := .lst []) nq5
      have hD5 := s5 _ _ hD4
      refine ⟨_, .lst (SqL.of hD5) (dp_nVs _), .lst (SqL.of upd_same) .nil, can_nVs _, _, rfl, ite2 (fun z => ?_) (fun _ => ⟨_, rfl, k _ _ (f4.trans (Frm.of_same s5)) (t4.trans (same_tf s5)) (hr4.same s5 (by omega)) (by decide) (by decide)⟩)⟩
      match rs, hrs, hD5, z with
      | r0 :: rs, hrs, hD5, z =>
        have := hrs r0 List.mem_cons_self
        exact ⟨_, rfl, D, _, _, _, rfl, rfl, SqL.of hD5, at_of (j := 0) rfl rfl, k _ _ (f4.trans (Frm.of_same s5)) (t4.trans (same_tf s5)) (hr4.same s5 (by omega)) (by omega) (by omega)⟩
end
end K44
set_option maxRecDepth 100000
set_option maxHeartbeats 4000000
/-! A game, drawn. -/
namespace K44
open PySem PySem.Spec PyProof.Rows L2 KF KD
theorem Dk.tf {H H' : Hp} {d : Addr} {n : Nat} (h : Dk H d n) (f : Frm d H H') : TF H H' := by
  obtain ⟨xs, e⟩ := h.lst
  exact f.tf e
structure StR (d l : Addr) (H HD H' : Hp) (n : Nat) (ts : List Addr) : Prop where
  f : Frm d H H'
  t : TF HD H'
  dk : Dk H' d n
  l : H' l = some (.lst (ts.map V.ref))
theorem StR.take {d l : Addr} {H HD H' H2 : Hp} {n n2 : Nat} {ts : List Addr} (h : StR d l H HD H' n ts) (ne : l ≠ d) (f : Frm d H' H2) (dk : Dk H2 d n2) : StR d l H HD H2 n2 ts := ⟨h.f.trans f, h.t.trans (h.dk.tf f), dk, f _ _ ne h.l⟩
theorem StR.same {d l : Addr} {H HD H' H2 : Hp} {n : Nat} {ts : List Addr} (h : StR d l H HD H' n ts) (s : Same H' H2) : StR d l H HD H2 n ts := ⟨h.f.trans (Frm.of_same s), h.t.trans (same_tf s), h.dk.same s, s _ _ h.l⟩
def ThB (K : PySem.W.Frag) (H : Hp) (G : Gm) (b : Nat) (a : Addr) : Prop := ∃ h, ThR K H a h ∧ h.idx < G.kd.length ∧ h.x.natAbs ≤ b ∧ h.y.natAbs ≤ b
theorem ThB.tf {K : PySem.W.Frag} {H H' : Hp} {G : Gm} {a : Addr} {b c : Nat} (s : TF H H') (r : ThB K H G b a) (hbc : b ≤ c) : ThB K H' G c a := by
  obtain ⟨h, h1, h2, h3, h4⟩ := r
  exact ⟨h, h1.tf s, h2, by omega, by omega⟩
theorem ThB.e {K : PySem.W.Frag} {H : Hp} {G : Gm} {a : Addr} {b : Nat} (r : ThB K H G b a) : ThE K H G a := by
  obtain ⟨h, h1, h2, h3, h4⟩ := r
  exact ⟨h, h1, h2⟩
theorem dp_ths {K : PySem.W.Frag} {H : Hp} {G : Gm} : ∀ ts : List Addr, (∀ a ∈ ts, ThE K H G a) → ∃ ds, DpAll K H (ts.map V.ref) ds ∧ PyData.canLayAll0 ds = true ∧ ds.isEmpty = ts.isEmpty
  | [], _ => ⟨[], .nil, by simp [PyData.canLayAll0], rfl⟩
  | a :: ts, h => by
    obtain ⟨ds, h1, h2, _⟩ := dp_ths ts fun b hb => h b (List.mem_cons_of_mem _ hb)
    obtain ⟨th, r, _⟩ := h a List.mem_cons_self
    exact ⟨thD th :: ds, .cons (dp_th r) h1, by simp [PyData.canLayAll0, can_th, h2], rfl⟩
theorem ints_of {H : Hp} : ∀ us : List V, (∀ (j : Nat) u, us[j]? = some u → ∃ z : Int, u = .int z ∧ z.natAbs < 1000) → ∃ ns : List Int, us = ns.map V.int ∧ ∀ z ∈ ns, z.natAbs < 1000
  | [], _ => ⟨[], rfl, fun _ q => (nomatch q)⟩
  | u :: us, h => by
    obtain ⟨ns, h1, h2⟩ := ints_of (H := H) us fun j u hj => h (j + 1) u hj
    obtain ⟨z, rfl, hz⟩ := h 0 u rfl
    refine ⟨z :: ns, by rw [h1]; rfl, fun y hy => ?_⟩
    rcases List.mem_cons.mp hy with e | e
    · rw [e]
      exact hz
    · exact h2 y e
theorem kds {K : PySem.W.Frag} {H : Hp} : ∀ us : List V, (∀ (j : Nat) u, us[j]? = some u → ∃ a wd hg, u = V.ref a ∧ KdR K H a wd hg) → ∃ kd : List (Int × Int), us.length = kd.length ∧ ∀ (i : Nat) (q : Int × Int), kd[i]? = some q → ∃ a, us[i]? = some (.ref a) ∧ KdR K H a q.1 q.2
  | [], _ => ⟨[], rfl, fun i q h => by simp at h⟩
  | u :: us, h => by
    obtain ⟨kd, h1, h2⟩ := kds us fun j u hj => h (j + 1) u hj
    obtain ⟨a, wd, hg, rfl, r⟩ := h 0 u rfl
    refine ⟨(wd, hg) :: kd, by rw [List.length_cons, List.length_cons, h1], fun i q hq => ?_⟩
    cases i with
    | zero =>
      cases hq
      exact ⟨a, rfl, r⟩
    | succ i => exact h2 i q hq
section
variable {P : Program} {w : World} {K : PySem.W.Frag} {mg : Str → Option Value} {base : Heap}
def spGa (K : PySem.W.Frag) : Sp := fun vs H Q _ => ∃ (d : Addr) (n : Nat), vs = [.ref d] ∧ Dk H d (n + 4000) ∧
  ∀ r g l G (ts : List Addr) H', Frm d H H' → Dk H' d n → SqT K H' r [.ref g, .ref l] → GmR K H' g G → H' l = some (.lst (ts.map V.ref)) → l ≠ d → ts.length ≤ 16 → (∀ a ∈ ts, ThE K H' G a) → Q (.ref r) H'
theorem scGa : FnScope ["deck", "floor", "many", "kinds", "houses", "pull", "spread", "game", "things", "turn", "index", "house", "wide", "high", "x", "y", "choice", "near", "own", "thing", "starts", "k", "part"] ["deck"] (defScope s_law_game) := ⟨rfl, rfl, rfl, by decide +kernel, rfl, by decide +kernel, by decide +kernel⟩
theorem ok_law_game (T : Txt K w mg) : FnOk P w K mg base CX0 6 (He.fAd K ("_law_game", none)) (fdAt K (He.fAd K ("_law_game", none))) ["deck"] (spGa K) := by
  refine T.F_law_game.ok scGa (fun vs H Q E h => ?_) (fun cdv A outer s H vs Q E hr h => ?_)
  · obtain ⟨d, N, rfl, _⟩ := h
    rfl
  · obtain ⟨d, N, rfl, hd, k⟩ := h
    have hu := hr.units
    refine ⟨_, PSs.nox (pss_cons (ps_asg (pe_tup (pa_cons (pe_call (ok_law_floor T) (hr.mono (by decide)) (by rfl) T.g_law_floor (T.F_law_floor).kp T.b_law_floor .nil pass0 (pa_cons (pv 0) pa_nil)) (pa_cons (pe_op op_add pe_int (pe_call (ok_law_take T) (hr.mono (by decide)) (by rfl) T.g_law_take (T.F_law_take).kp T.b_law_take .nil pass0 (pa_cons (pv 0) (pa_cons (pe_ix (r := rIxL K) ix_list (pe_lst (pa_cons pe_int (pa_cons pe_int pa_nil))) (pe_callTy call_int1 (by rfl) T.n_int PyProof.Rows.Boot.«int» (pa_cons (pe_cmpR op_eq (pe_call (ok_law_take T) (hr.mono (by decide)) (by rfl) T.g_law_take (T.F_law_take).kp T.b_law_take .nil pass0 (pa_cons (pv 0) (pa_cons pe_int pa_nil))) pe_int (nomark _)) pa_nil)) (fun _ _ => rfl)) pa_nil)))) pa_nil))) (pg_tup (by rfl) (pgs_cons (pg_name (i := 1) scGa.nd rfl (Or.inl rfl)) (pgs_cons (pg_name (i := 2) scGa.nd rfl (Or.inr rfl)) pgs_nil))))
      (pss_cons (ps_set (i := 3) scGa.nd rfl (Or.inl rfl) (pe_callTy call_tuple_of (by rfl) T.n_tuple PyProof.Rows.Boot.«tuple» (pa_cons (pe_lc (own := [("k", 21)]) (g := gName 21) (tt := tYes) (by rfl) scGa.nd (pi_range1 (by rfl) T.n_range (pa_cons (pv 2) pa_nil)) (blkOk_by (own := [("k", 21)]) (N := ["deck", "floor", "many", "kinds", "houses", "pull", "spread", "game", "things", "turn", "index", "house", "wide", "high", "x", "y", "choice", "near", "own", "thing", "starts", "k", "part"]) (sc := defScope s_law_game) (by decide +kernel)) (fun _ _ _ _ _ => pg_name (i := 21) scGa.nd rfl (Or.inl rfl)) (fun _ _ _ _ _ => pts_nil) (fun _ _ _ _ _ => (pe_call (ok_law_kind T) (hr.mono (by decide)) (by rfl) T.g_law_kind (T.F_law_kind).kp T.b_law_kind .nil pass0 (pa_cons (pv 0) (pa_cons (pv 21) (pa_cons (pv 2) pa_nil)))))) pa_nil)))
      (pss_cons (ps_par3 (i := 4) (j := 5) (l := 6) (by rfl) scGa.nd rfl rfl rfl (by decide) (by decide) (by decide) rfl rfl rfl (pa_cons (pe_op op_add pe_int (pe_call (ok_law_take T) (hr.mono (by decide)) (by rfl) T.g_law_take (T.F_law_take).kp T.b_law_take .nil pass0 (pa_cons (pv 0) (pa_cons pe_int pa_nil)))) (pa_cons (pe_call (ok_law_take T) (hr.mono (by decide)) (by rfl) T.g_law_take (T.F_law_take).kp T.b_law_take .nil pass0 (pa_cons (pv 0) (pa_cons pe_int pa_nil))) (pa_cons (pe_call (ok_law_take T) (hr.mono (by decide)) (by rfl) T.g_law_take (T.F_law_take).kp T.b_law_take .nil pass0 (pa_cons (pv 0) (pa_cons pe_int pa_nil))) pa_nil))) (by rfl))
      (pss_cons (ps_par (i := 7) (j := 8) (by rfl) scGa.nd rfl rfl (by decide) rfl rfl (pa_cons (pe_tup (pa_cons (pe_tup (pa_cons (pv 1) (pa_cons (pe_tup pa_nil) (pa_cons (pv 4) (pa_cons (pv 5) pa_nil))))) (pa_cons (pv 3) pa_nil))) (pa_cons (pe_lst pa_nil) pa_nil)) (by rfl))
      (pss_cons (ps_for PassesOwn.never rfl (pi_range1 (by rfl) T.n_range (pa_cons (pe_ix (r := rIxL K) ix_list (pe_lst (pa_cons (pe_op op_add pe_int (pe_call (ok_law_take T) (hr.mono (by decide)) (by rfl) T.g_law_take (T.F_law_take).kp T.b_law_take .nil pass0 (pa_cons (pv 0) (pa_cons pe_int pa_nil)))) (pa_cons (pe_op op_add pe_int (pe_call (ok_law_take T) (hr.mono (by decide)) (by rfl) T.g_law_take (T.F_law_take).kp T.b_law_take .nil pass0 (pa_cons (pv 0) (pa_cons pe_int pa_nil)))) pa_nil))) (pe_callTy call_int1 (by rfl) T.n_int PyProof.Rows.Boot.«int» (pa_cons (pe_cmpR op_eq (pe_call (ok_law_take T) (hr.mono (by decide)) (by rfl) T.g_law_take (T.F_law_take).kp T.b_law_take .nil pass0 (pa_cons (pv 0) (pa_cons pe_int pa_nil))) pe_int (nomark _)) pa_nil)) (fun _ _ => rfl)) pa_nil)) (pg_name (i := 9) scGa.nd rfl (Or.inl rfl)) (pss_cons (ps_par (i := 10) (j := 11) (by rfl) scGa.nd rfl rfl (by decide) rfl rfl (pa_cons (pe_call (ok_law_take T) (hr.mono (by decide)) (by rfl) T.g_law_take (T.F_law_take).kp T.b_law_take .nil pass0 (pa_cons (pv 0) (pa_cons (pv 2) pa_nil))) (pa_cons (pe_ifExp (pt_cmpR op_gt (pe_call (ok_law_take T) (hr.mono (by decide)) (by rfl) T.g_law_take (T.F_law_take).kp T.b_law_take .nil pass0 (pa_cons (pv 0) (pa_cons pe_int pa_nil))) pe_int (nomark _)) (pe_call (ok_law_take T) (hr.mono (by decide)) (by rfl) T.g_law_take (T.F_law_take).kp T.b_law_take .nil pass0 (pa_cons (pv 0) (pa_cons (pv 4) pa_nil))) (pe_un un_neg pe_int)) pa_nil)) (by rfl))
      (pss_cons (ps_set (i := 11) scGa.nd rfl (Or.inl rfl) (pe_ifExp (PW.pt (pw_and (pt_cmpR op_gt (pv 6) pe_int (nomark _)) (pw_and1 (pt_cmpR op_lt (pe_callB (r := Evl.rLenS K) call_len_seq (by rfl) T.n_len PyProof.Rows.Boot.«len» (pa_cons (pv 8) pa_nil)) (pv 4) (nomark _))))) (pe_callB (r := Evl.rLenS K) call_len_seq (by rfl) T.n_len PyProof.Rows.Boot.«len» (pa_cons (pv 8) pa_nil)) (pv 11)))
      (pss_cons (ps_asg (pe_slice (show SlR _ (rSlA K) from sl_tupA) (pe_ix (r := rIxT K) ix_tup (pv 3) (pv 10) (fun _ _ => rfl)) (po_some pe_int) (po_some pe_int)) (pg_tup (by rfl) (pgs_cons (pg_name (i := 12) scGa.nd rfl (Or.inl rfl)) (pgs_cons (pg_name (i := 13) scGa.nd rfl (Or.inl rfl)) pgs_nil))))
      (pss_cons (ps_par (i := 14) (j := 15) (by rfl) scGa.nd rfl rfl (by decide) rfl rfl (pa_cons (pe_call (ok_law_take T) (hr.mono (by decide)) (by rfl) T.g_law_take (T.F_law_take).kp T.b_law_take .nil pass0 (pa_cons (pv 0) (pa_cons (pe_op op_mulW pe_int (pe_callB call_len_str (by rfl) T.n_len PyProof.Rows.Boot.«len» (pa_cons (pe_ix (r := rIxT K) ix_tup (pv 1) pe_int (fun _ _ => rfl)) pa_nil))) pa_nil))) (pa_cons (pe_call (ok_law_take T) (hr.mono (by decide)) (by rfl) T.g_law_take (T.F_law_take).kp T.b_law_take .nil pass0 (pa_cons (pv 0) (pa_cons (pe_op op_mulW pe_int (pe_callB (r := Evl.rLenS K) call_len_seq (by rfl) T.n_len PyProof.Rows.Boot.«len» (pa_cons (pv 1) pa_nil))) pa_nil))) pa_nil)) (by rfl))
      (pss_cons (ps_set (i := 16) scGa.nd rfl (Or.inl rfl) (pe_call (ok_law_take T) (hr.mono (by decide)) (by rfl) T.g_law_take (T.F_law_take).kp T.b_law_take .nil pass0 (pa_cons (pv 0) (pa_cons pe_int pa_nil))))
      (pss_cons (ps_if (PW.pt (pw_and (pt_cmpR (r := rNeNil K false) (op_neNil hr.units) (pv 8) (pe_lst pa_nil) (nomark _)) (pw_and1 (pt_cmpR op_gt (pv 16) pe_int (nomark _))))) (pss_cons (ps_set (i := 17) scGa.nd rfl (Or.inl rfl) (pe_call (ok_law_box T) (hr.mono (by decide)) (by rfl) T.g_law_box (T.F_law_box).kp T.b_law_box .nil pass0 (pa_cons (pv 7) (pa_cons (pe_ix (r := rIxL K) ix_list (pv 8) (pe_call (ok_law_take T) (hr.mono (by decide)) (by rfl) T.g_law_take (T.F_law_take).kp T.b_law_take .nil pass0 (pa_cons (pv 0) (pa_cons (pe_callB (r := Evl.rLenS K) call_len_seq (by rfl) T.n_len PyProof.Rows.Boot.«len» (pa_cons (pv 8) pa_nil)) pa_nil))) (fun _ _ => rfl)) pa_nil))))
      (pss_cons (ps_set (i := 14) scGa.nd rfl (Or.inl rfl) (pe_ix (r := rIxL K) ix_list (pe_lst (pa_cons (pe_op op_sub (pe_op op_add (pe_ix (r := rIxT K) ix_tup (pv 17) pe_int (fun _ _ => rfl)) (pe_op op_mod (pe_callTy call_int1 (by rfl) T.n_int PyProof.Rows.Boot.«int» (pa_cons (pv 14) pa_nil)) pe_int)) pe_int) (pa_cons (pe_op op_add (pe_ix (r := rIxT K) ix_tup (pv 17) pe_int (fun _ _ => rfl)) (pe_ix (r := rIxT K) ix_tup (pv 17) pe_int (fun _ _ => rfl))) (pa_cons (pe_op op_sub (pe_ix (r := rIxT K) ix_tup (pv 17) pe_int (fun _ _ => rfl)) (pv 12)) pa_nil)))) (pe_op op_sub (pv 16) pe_int) (fun _ _ => rfl)))
      (pss_one (ps_set (i := 15) scGa.nd rfl (Or.inl rfl) (pe_op op_sub (pe_ix (r := rIxL K) ix_list (pe_lst (pa_cons (pe_ix (r := rIxT K) ix_tup (pv 17) pe_int (fun _ _ => rfl)) (pa_cons (pe_op op_add (pe_ix (r := rIxT K) ix_tup (pv 17) pe_int (fun _ _ => rfl)) (pe_ix (r := rIxT K) ix_tup (pv 17) pe_int (fun _ _ => rfl))) (pa_cons (pe_op op_add (pe_ix (r := rIxT K) ix_tup (pv 17) pe_int (fun _ _ => rfl)) (pe_ix (r := rIxT K) ix_tup (pv 17) pe_int (fun _ _ => rfl))) pa_nil)))) (pe_op op_sub (pv 16) pe_int) (fun _ _ => rfl)) (pv 13)))))) pss_nil)
      (pss_cons (ps_set (i := 18) scGa.nd rfl (Or.inl rfl) (pe_callTy call_tuple_of (by rfl) T.n_tuple PyProof.Rows.Boot.«tuple» (pa_cons (pe_lc (own := [("part", 22)]) (g := gName 22) (tt := tYes) (by rfl) scGa.nd (pi_range1 (by rfl) T.n_range (pa_cons pe_int pa_nil)) (blkOk_by (own := [("part", 22)]) (N := ["deck", "floor", "many", "kinds", "houses", "pull", "spread", "game", "things", "turn", "index", "house", "wide", "high", "x", "y", "choice", "near", "own", "thing", "starts", "k", "part"]) (sc := defScope s_law_game) (by decide +kernel)) (fun _ _ _ _ _ => pg_name (i := 22) scGa.nd rfl (Or.inl rfl)) (fun _ _ _ _ _ => pts_nil) (fun _ _ _ _ _ => (pe_op op_sub (pe_call (ok_law_take T) (hr.mono (by decide)) (by rfl) T.g_law_take (T.F_law_take).kp T.b_law_take .nil pass0 (pa_cons (pv 0) (pa_cons pe_int pa_nil))) pe_int))) pa_nil)))
      (pss_cons (ps_set (i := 19) scGa.nd rfl (Or.inl rfl) (pe_tup (pa_cons (pv 10) (pa_cons (pv 11) (pa_cons (pv 14) (pa_cons (pv 15) (pa_cons (pe_op op_sub (pe_call (ok_law_take T) (hr.mono (by decide)) (by rfl) T.g_law_take (T.F_law_take).kp T.b_law_take .nil pass0 (pa_cons (pv 0) (pa_cons pe_int pa_nil))) pe_int) (pa_cons (pe_op op_sub (pe_call (ok_law_take T) (hr.mono (by decide)) (by rfl) T.g_law_take (T.F_law_take).kp T.b_law_take .nil pass0 (pa_cons (pv 0) (pa_cons pe_int pa_nil))) pe_int) (pa_cons (pe_un un_neg pe_int) (pa_cons (pv 18) pa_nil))))))))))
      (pss_one (ps_if (PW.pt (pw_and (pt_cmpR op_lt (pe_callB (r := Evl.rLenS K) call_len_seq (by rfl) T.n_len PyProof.Rows.Boot.«len» (pa_cons (pv 8) pa_nil)) pe_int (nomark _)) (pw_and1 (pt_val (pe_call (ok_law_stands T) (hr.mono (by decide)) (by rfl) T.g_law_stands (T.F_law_stands).kp T.b_law_stands .nil pass0 (pa_cons (pv 7) (pa_cons (pv 19) (pa_cons (pv 8) pa_nil)))))))) (pss_one (ps_expr (pe_bm PySem.F.plainAttrs_list PySem.F.slot_list_append PySem.F.type_list_append mt_append (pv 8) (pa_cons (pv 19) pa_nil)))) pss_nil)))))))))))
      (pss_cons (ps_set (i := 20) scGa.nd rfl (Or.inl rfl) (pe_callTy call_tuple_of (by rfl) T.n_tuple PyProof.Rows.Boot.«tuple» (pa_cons (pe_lc (own := [("thing", 19)]) (g := gName 19) (tt := tYes) (by rfl) scGa.nd (pi_list (pe_slice sl_list (pv 8) po_none (po_some (pe_call (ok_law_take T) (hr.mono (by decide)) (by rfl) T.g_law_take (T.F_law_take).kp T.b_law_take .nil pass0 (pa_cons (pv 0) (pa_cons pe_int pa_nil)))))) (blkOk_by (own := [("thing", 19)]) (N := ["deck", "floor", "many", "kinds", "houses", "pull", "spread", "game", "things", "turn", "index", "house", "wide", "high", "x", "y", "choice", "near", "own", "thing", "starts", "k", "part"]) (sc := defScope s_law_game) (by decide +kernel)) (fun _ _ _ _ _ => pg_name (i := 19) scGa.nd rfl (Or.inl rfl)) (fun _ _ _ _ _ => pts_nil) (fun _ _ _ _ _ => (pe_slice (show SlR _ (rSlA K) from sl_tupA) (pv 19) po_none (po_some pe_int)))) pa_nil)))
      (pss_one (ps_ret (pe_tup (pa_cons (pe_tup (pa_cons (pe_tup (pa_cons (pv 1) (pa_cons (pv 20) (pa_cons (pv 4) (pa_cons (pv 5) pa_nil))))) (pa_cons (pv 3) pa_nil))) (pa_cons (pv 8) pa_nil))))))))))), ?_⟩
    -- floor, many
    refine seq_cut (fun σ' H' => ∃ (f : Addr) (rows : List Str) (W m : Nat), σ' = [some (.ref d), some (.ref f), some (.int (m : Int)), none, none, none, none, none, none, none, none, none, none, none, none, none, none, none, none, none, none, none, none] ∧ 1 ≤ m ∧ m ≤ 8 ∧ Frm d H H' ∧ Dk H' d (N + 3400) ∧ FlR K H' f rows W) (fun σ' HA hP => ?_) (fun R hR => ?_)
    rotate_left
    · refine ⟨_, rfl, d, N + 3500, rfl, hd.le (by omega), fun f rows W H1 f1 d1 hfl => ?_⟩
      refine ⟨_, rfl, (show 2 ≤ sizeLine by decide), fun p np => ⟨_, rfl, d, 4, N + 3499, rfl, by decide, by decide, (d1.same (new_same np)).le (by omega), fun x1 H2 a0 a1 f2 d2 => ?_⟩⟩
      have sp := new_same (o := .lst [V.int 3, V.int 8]) np
      have hp := f2 p _ (d1.ne np) upd_same
      obtain ⟨mn, e1, m1, m2⟩ : ∃ mn : Int, atI [V.int 3, V.int 8] (if decide (V.int x1 = V.int 2) = true then 1 else 0) = some (.int mn) ∧ 3 ≤ mn ∧ mn ≤ 8 := by
        split
        · exact ⟨8, rfl, by decide, by decide⟩
        · exact ⟨3, rfl, by decide, by decide⟩
      refine ⟨rfl, .inr ⟨_, rfl, p, _, _, _, rfl, rfl, SqL.of hp, e1, d, mn, N + 3498, rfl, by omega, by omega, d2.le (by omega), fun x2 H3 b0 b1 f3 d3 => ?_⟩⟩
      refine ⟨_, _, rfl, rfl, (show 2 ≤ sizeLine by decide), fun p2 np2 => ?_⟩
      have sp2 := new_same (o := .tup [V.ref f, V.int (1 + x2)]) np2
      obtain ⟨M, hM⟩ := Int.eq_ofNat_of_zero_le (show 0 ≤ 1 + x2 by omega)
      have tf := (same_tf sp).trans (((d1.same sp).tf f2).trans ((d2.tf f3).trans (same_tf sp2)))
      refine ⟨p2, _, rfl, SqT.of upd_same, rfl, _, _, rfl, _, _, rfl, rfl, hR _ _ ⟨f, rows, W, M, by rw [← hM]; rfl, by omega, by omega, (((f1.trans (Frm.of_same sp)).trans f2).trans f3).trans (Frm.of_same sp2), (d3.same sp2).le (by omega), hfl.tf tf⟩⟩
    obtain ⟨f, rows, W, m, rfl, m1, m8, fA, dA, hflA⟩ := hP
    -- kinds
    refine seq_cut (fun σ' H' => ∃ (gk : Addr) (us : List V) (kd : List (Int × Int)), σ' = [some (.ref d), some (.ref f), some (.int (m : Int)), some (.ref gk), none, none, none, none, none, none, none, none, none, none, none, none, none, none, none, none, none, none, none] ∧ Frm d H H' ∧ Dk H' d (N + 2600) ∧ FlR K H' f rows W ∧ SqT K H' gk us ∧ us.length = kd.length ∧ kd.length = m ∧ ∀ (i : Nat) (q : Int × Int), kd[i]? = some q → ∃ a, us[i]? = some (.ref a) ∧ KdR K H' a q.1 q.2) (fun σ' HB hP => ?_) (fun R hR => ?_)
    rotate_left
    · refine ⟨_, rfl, _, rfl, by omega, by omega, fun D hD => ?_⟩
      rw [show ((m : Nat) : Int).toNat = m from Int.toNat_natCast m]
      refine lc_dk (n := m) (c := 100) (N := N + 2600) (d := d) (fun _ v H => ∃ a wd hg, v = V.ref a ∧ KdR K H a wd hg) (fun i v H H' s h => by
        obtain ⟨a, wd, hg, e, r⟩ := h
        exact ⟨a, wd, hg, e, r.tf s⟩) hD (dA.le (by omega)) (by omega) (fun i Hx M hi f dk R S q => ?_) (fun H1 us f1 dk hl hlen hA => ?_)
      · refine ⟨rfl, ?_⟩
        dsimp only [tYes]
        rw [if_pos rfl]
        exact ⟨_, rfl, _, rfl, _, rfl, d, M, i, (m : Int), by rw [Int.zero_add]; rfl, by omega, by omega, by omega, dk, fun a wd hg H4 f4 d4 r => q _ _ f4 d4 ⟨a, wd, hg, rfl, r⟩⟩
      · obtain ⟨kd, k1, k2⟩ := kds us hA
        refine ⟨D, _, rfl, .inl ⟨SqL.of hl, fun t nt => ?_⟩⟩
        have st := new_same (o := .tup us) nt
        exact hR _ _ ⟨t, us, kd, rfl, (fA.trans f1).trans (Frm.of_same st), dk.same st, (hflA.tf (dA.tf f1)).tf (same_tf st), SqT.of upd_same, k1, by omega, fun i q hq => by
          obtain ⟨a, e, r⟩ := k2 i q hq
          exact ⟨a, e, r.tf (same_tf st)⟩⟩
    obtain ⟨gk, us, kd, rfl, fB, dB, hflB, hgkB, ukd, kdm, hkdB⟩ := hP
    clear hflA dA fA
    -- houses, pull, spread
    refine seq_cut (fun σ' H' => ∃ (ho pu sp : Int), σ' = [some (.ref d), some (.ref f), some (.int (m : Int)), some (.ref gk), some (.int ho), some (.int pu), some (.int sp), none, none, none, none, none, none, none, none, none, none, none, none, none, none, none, none] ∧ 1 ≤ ho ∧ ho ≤ 4 ∧ Frm d HB H' ∧ Dk H' d (N + 2590)) (fun σ' HC hP => ?_) (fun R hR => ?_)
    rotate_left
    · refine ⟨_, rfl, d, 4, N + 2592, rfl, by decide, by decide, dB.le (by omega), fun x1 H1 a0 a1 f1 d1 => ?_⟩
      refine ⟨_, _, rfl, rfl, _, rfl, d, 4, N + 2591, rfl, by decide, by decide, d1.le (by omega), fun x2 H2 b0 b1 f2 d2 => ?_⟩
      refine ⟨_, rfl, d, 3, N + 2590, rfl, by decide, by decide, d2.le (by omega), fun x3 H3 c0 c1 f3 d3 => ?_⟩
      exact ⟨_, _, _, rfl, hR _ _ ⟨_, _, _, rfl, by omega, by omega, (f1.trans f2).trans f3, d3⟩⟩
    obtain ⟨ho, pu, sp, rfl, ho1, ho4, fC, dC⟩ := hP
    have tC := dB.tf fC
    -- game, things
    refine seq_cut (fun σ' H' => ∃ (g l : Addr), σ' = [some (.ref d), some (.ref f), some (.int (m : Int)), some (.ref gk), some (.int ho), some (.int pu), some (.int sp), some (.ref g), some (.ref l), none, none, none, none, none, none, none, none, none, none, none, none, none, none] ∧ l ≠ d ∧ H l = none ∧ GmR K H' g ⟨rows, W, kd⟩ ∧ FlR K H' f rows W ∧ SqT K H' gk us ∧ (∀ (i : Nat) (q : Int × Int), kd[i]? = some q → ∃ a, us[i]? = some (.ref a) ∧ KdR K H' a q.1 q.2) ∧ StR d l H H' H' (N + 2590) []) (fun σ' HD hP => ?_) (fun R hR => ?_)
    rotate_left
    · refine ⟨_, rfl, (show 0 ≤ sizeLine by decide), fun p0 np0 => ⟨_, rfl, _, rfl, (show 4 ≤ sizeLine by decide), fun p1 np1 => ⟨_, rfl, (show 2 ≤ sizeLine by decide), fun p2 np2 => ⟨(show 0 ≤ sizeLine by decide), fun l nl => ?_⟩⟩⟩⟩
      have s0 := new_same (o := .tup []) np0
      have s1 := new_same (o := .tup [V.ref f, .ref p0, .int ho, .int pu]) np1
      have s2 := new_same (o := .tup [V.ref p1, .ref gk]) np2
      have s3 := new_same (o := .lst []) nl
      have sA := (s0.trans s1).trans (s2.trans s3)
      have tA := tC.trans (same_tf sA)
      have ld := ((dC.same ((s0.trans s1).trans s2)).ne nl)
      refine ⟨_, _, rfl, hR _ _ ⟨p2, l, rfl, ld, ?_, ?_, hflB.tf tA, tA.sq hgkB, fun i q hq => (by
        obtain ⟨a, e, r⟩ := hkdB i q hq
        exact ⟨a, e, r.tf tA⟩), ⟨(fB.trans fC).trans (Frm.of_same sA), TF.refl _, dC.same sA, upd_same⟩⟩⟩
      · cases e : H l with
        | none => rfl
        | some o =>
          have := ((fB.trans fC).trans (Frm.of_same ((s0.trans s1).trans s2))) _ _ ld e
          rw [nl] at this
          cases this
      · exact ⟨⟨p1, f, gk, .ref p0, .int ho, .int pu, us, (same_tf s3).sq (SqT.of upd_same), (same_tf (s2.trans s3)).sq (SqT.of upd_same), hflB.tf tA, tA.sq hgkB, ukd, fun i q hq => by
          obtain ⟨a, e, r⟩ := hkdB i q hq
          exact ⟨a, e, r.tf tA⟩⟩, by show 1 ≤ kd.length ∧ kd.length ≤ 8; omega⟩
    obtain ⟨g, l, rfl, ld, lH, hg, hfl, hgk, hkd, st0⟩ := hP
    have lmul : ∀ z : Int, z.natAbs < 1000 → CMulW 8 z := fun z hz => wide_mul (a := 40) (b := 40) (by decide) (Nat.lt_trans hz (by decide)) (by decide) (by decide) (by decide)
    -- the turns
    refine seq_cut (fun σ' H' => ∃ (v9 v10 v11 v12 v13 v14 v15 v16 v17 v18 v19 : Option V) (ts : List Addr), σ' = [some (.ref d), some (.ref f), some (.int (m : Int)), some (.ref gk), some (.int ho), some (.int pu), some (.int sp), some (.ref g), some (.ref l), v9, v10, v11, v12, v13, v14, v15, v16, v17, v18, v19, none, none, none] ∧ StR d l H HD H' (N + 5) ts ∧ ts.length ≤ 16 ∧ ∀ a ∈ ts, ThE K H' ⟨rows, W, kd⟩ a) (fun σ' HE hP => ?_) (fun R hR => ?_)
    rotate_left
    · refine ⟨_, rfl, d, 9, N + 2589, rfl, by decide, by decide, st0.dk.le (by omega), fun x1 H1 a0 a1 f1 d1 => ?_⟩
      refine ⟨_, _, rfl, rfl, _, rfl, d, 43, N + 2588, rfl, by decide, by decide, d1.le (by omega), fun x2 H2 b0 b1 f2 d2 => ?_⟩
      refine ⟨_, _, rfl, rfl, (show 2 ≤ sizeLine by decide), fun p np => ?_⟩
      have sp := new_same (o := .lst [V.int (3 + x1), V.int (18 + x2)]) np
      refine ⟨_, rfl, d, 8, N + 2587, rfl, by decide, by decide, (d2.same sp).le (by omega), fun x3 H3 c0 c1 f3 d3 => ?_⟩
      have hp := f3 p _ (d2.ne np) upd_same
      obtain ⟨mn, e1, m1', m2'⟩ : ∃ mn : Int, atI [V.int (3 + x1), V.int (18 + x2)] (if decide (V.int x3 = V.int 5) = true then 1 else 0) = some (.int mn) ∧ 3 ≤ mn ∧ mn ≤ 60 := by
        split
        · exact ⟨_, rfl, by omega, by omega⟩
        · exact ⟨_, rfl, by omega, by omega⟩
      refine ⟨rfl, .inr ⟨_, rfl, p, _, _, _, rfl, rfl, SqL.of hp, e1, _, rfl, by omega, by omega, ?_⟩⟩
      have st1 : StR d l H HD H3 (N + 2587) [] := (((st0.take ld f1 d1).take ld f2 d2).same sp).take ld f3 d3
      clear sp f1 f2 f3 d1 d2 d3 hp e1
      obtain ⟨M, rfl⟩ := Int.eq_ofNat_of_zero_le (show 0 ≤ mn by omega)
      rw [show ((M : Nat) : Int).toNat = M from Int.toNat_natCast M]
      refine for_it (walk_range (lo := 0) (n := M)) (fun i σ' H' => ∃ (v9 v10 v11 v12 v13 v14 v15 v16 v17 v18 v19 : Option V) (ts : List Addr), σ' = [some (.ref d), some (.ref f), some (.int (m : Int)), some (.ref gk), some (.int ho), some (.int pu), some (.int sp), some (.ref g), some (.ref l), v9, v10, v11, v12, v13, v14, v15, v16, v17, v18, v19, none, none, none] ∧ StR d l H HD H' (N + 2000 - 30 * i) ts ∧ ts.length ≤ 16 ∧ ∀ a ∈ ts, ThB K H' ⟨rows, W, kd⟩ (200 + 40 * i) a)
        ⟨none, none, none, none, none, none, none, none, none, none, none, [], rfl, ⟨st1.f, st1.t, st1.dk.le (by omega), st1.l⟩, Nat.zero_le _, fun _ q => (nomatch q)⟩ (fun _ _ _ _ _ => trivial) (fun i v σ' H' H2 hi h yy => ?_) (fun σ' H' h => ?_)
      rotate_left
      · obtain ⟨v9, v10, v11, v12, v13, v14, v15, v16, v17, v18, v19, ts, rfl, st, htl, hts⟩ := h
        exact hR _ _ ⟨v9, v10, v11, v12, v13, v14, v15, v16, v17, v18, v19, ts, rfl, ⟨st.f, st.t, st.dk.le (by omega), st.l⟩, htl, fun a ha => (hts a ha).e⟩
      · obtain ⟨v9, v10, v11, v12, v13, v14, v15, v16, v17, v18, v19, ts, rfl, st, htl, hts⟩ := h
        obtain ⟨rfl, rfl⟩ := yy
        obtain ⟨B, hB⟩ : ∃ B, B = N + 2000 - 30 * (i + 1) := ⟨_, rfl⟩
        replace st : StR d l H HD H2 (B + 30) ts := ⟨st.f, st.t, st.dk.le (by omega), st.l⟩
        -- index, house
        refine seq_cut (fun σ' H' => ∃ (ix hs : Int), σ' = [some (.ref d), some (.ref f), some (.int (m : Int)), some (.ref gk), some (.int ho), some (.int pu), some (.int sp), some (.ref g), some (.ref l), some (.int (0 + (i : Nat))), some (.int ix), some (.int hs), v12, v13, v14, v15, v16, v17, v18, v19, none, none, none] ∧ 0 ≤ ix ∧ ix < (m : Int) ∧ -1 ≤ hs ∧ hs ≤ 16 ∧ StR d l H HD H' (B + 27) ts ∧ TF H2 H') (fun σ' H3 hP => ?_) (fun R hR => ?_)
        rotate_left
        · refine ⟨_, rfl, _, rfl, d, (m : Int), B + 29, rfl, by omega, by omega, st.dk.le (by omega), fun x1 H1 a0 a1 f1 d1 => ?_⟩
          have sa := st.take ld f1 d1
          have ta := st.dk.tf f1
          refine ⟨_, rfl, d, 6, B + 28, rfl, by decide, by decide, d1.le (by omega), fun x2 H4 b0 b1 f2 d2 => ?_⟩
          have sb := sa.take ld f2 d2
          have tb := ta.trans (d1.tf f2)
          refine ⟨_, _, rfl, rfl, _, rfl, ite2 (fun _ => ?_) (fun _ => ?_)⟩
          · exact ⟨_, rfl, _, rfl, d, ho, B + 27, rfl, by omega, by omega, d2.le (by omega), fun x3 H5 c0 c1 f3 d3 => ⟨_, _, rfl, hR _ _ ⟨_, _, rfl, a0, a1, by omega, by omega, sb.take ld f3 d3, tb.trans (d2.tf f3)⟩⟩⟩
          · exact ⟨_, rfl, _, _, rfl, hR _ _ ⟨_, _, rfl, a0, a1, by decide, by decide, ⟨sb.f, sb.t, sb.dk.le (by omega), sb.l⟩, tb⟩⟩
        obtain ⟨ix, hs0, rfl, ix0, ix1, hs1, hs2, st3, t3⟩ := hP
        refine seq_cut (fun σ' H' => ∃ (hs : Int), σ' = [some (.ref d), some (.ref f), some (.int (m : Int)), some (.ref gk), some (.int ho), some (.int pu), some (.int sp), some (.ref g), some (.ref l), some (.int (0 + (i : Nat))), some (.int ix), some (.int hs), v12, v13, v14, v15, v16, v17, v18, v19, none, none, none] ∧ -1 ≤ hs ∧ hs ≤ 16 ∧ H' = H3) (fun σ' H' hP => ?_) (fun R hR => ?_)
        rotate_left
        · refine ⟨_, rfl, _, _, rfl, rfl, _, rfl, ite2 (fun _ => ?_) (fun _ => iteF ⟨_, rfl, hR _ _ ⟨_, rfl, hs1, hs2, rfl⟩⟩)⟩
          refine ⟨_, rfl, l, _, rfl, .inl (SqL.of st3.l), _, rfl, _, _, rfl, rfl, _, rfl, ite2 (fun _ => ?_) (fun _ => ⟨_, rfl, hR _ _ ⟨_, rfl, hs1, hs2, rfl⟩⟩)⟩
          exact ⟨_, rfl, l, _, rfl, .inl (SqL.of st3.l), hR _ _ ⟨_, rfl, by omega, by rw [List.length_map]; omega, rfl⟩⟩
        clear hs1 hs2
        obtain ⟨hs, rfl, hs1, hs2, rfl⟩ := hP
        -- wide, high
        obtain ⟨X, rfl⟩ := Int.eq_ofNat_of_zero_le ix0
        have hX : X < kd.length := by omega
        obtain ⟨ka, eka, ⟨nm, tr, trs, ow0, ru, r1, r2, r3⟩, rw1, rh1⟩ := hkd X _ (List.getElem?_eq_getElem hX)
        refine seq_cut (fun σ' H'' => ∃ (wd hgt : Int), σ' = [some (.ref d), some (.ref f), some (.int (m : Int)), some (.ref gk), some (.int ho), some (.int pu), some (.int sp), some (.ref g), some (.ref l), some (.int (0 + (i : Nat))), some (.int (X : Int)), some (.int hs), some (.int wd), some (.int hgt), v14, v15, v16, v17, v18, v19, none, none, none] ∧ 1 ≤ wd ∧ wd ≤ 16 ∧ 1 ≤ hgt ∧ hgt ≤ 16 ∧ StR d l H HD H'' (B + 27) ts ∧ TF H2 H'') (fun σ' H4 hP => ?_) (fun R hR => ?_)
        rotate_left
        · refine ⟨_, rfl, _, rfl, gk, _, _, _, rfl, rfl, st3.t.sq hgk, atI_nat eka, _, rfl, _, rfl, ka, _, rfl, st3.t.sq r1, fun hw => absurd hw.1 (by show ¬ HT.sIx 6 0 (some 1) = 0; decide), fun _ p np => ?_⟩
          have sp := new_same (o := .tup [V.int kd[X].1, V.int kd[X].2]) np
          exact ⟨p, _, rfl, (show SqT K (upd H' p (.tup [V.int kd[X].1, V.int kd[X].2])) p [V.int kd[X].1, V.int kd[X].2] from SqT.of upd_same), rfl, _, _, rfl, _, _, rfl, rfl, hR _ _ ⟨_, _, rfl, rw1.1, rw1.2, rh1.1, rh1.2, st3.same sp, t3.trans (same_tf sp)⟩⟩
        clear r1 r2 r3 rw1 rh1 eka st3 t3
        obtain ⟨wd, hgt, rfl, wd1, wd16, hg1, hg16, st4, t4⟩ := hP
        -- x, y
        refine seq_cut (fun σ' H'' => ∃ (x y : Int), σ' = [some (.ref d), some (.ref f), some (.int (m : Int)), some (.ref gk), some (.int ho), some (.int pu), some (.int sp), some (.ref g), some (.ref l), some (.int (0 + (i : Nat))), some (.int (X : Int)), some (.int hs), some (.int wd), some (.int hgt), some (.int x), some (.int y), v16, v17, v18, v19, none, none, none] ∧ x.natAbs ≤ 200 ∧ y.natAbs ≤ 200 ∧ StR d l H HD H'' (B + 25) ts ∧ TF H2 H'') (fun σ' H5 hP => ?_) (fun R hR => ?_)
        rotate_left
        · have hfl4 := hfl.tf st4.t
          obtain ⟨sq, hrow, ⟨w4, w24⟩, l3, l17⟩ := hfl4
          have hrl : 0 < rows.length := by omega
          have l0 : (rows[0]'hrl).length = W := hrow _ (List.getElem_mem _)
          have r0 : (rows.map V.str)[0]? = some (.str (rows[0]'hrl)) := by rw [List.getElem?_map, List.getElem?_eq_getElem hrl]; rfl
          refine ⟨_, rfl, _, rfl, f, _, _, _, rfl, rfl, sq, atI_nat (j := 0) r0, _, rfl, Nat.le_trans (show (rows[0]'hrl).length ≤ 24 by omega) (by decide), _, _, rfl, rfl, lmul _ (by omega), d, _, B + 26, rfl, (by show (0 : Int) < 8 * ((rows[0]'hrl).length : Int); omega), (by show (8 : Int) * ((rows[0]'hrl).length : Int) < 1267650600228229401496703205376; omega), st4.dk.le (by omega), fun x1 H1 a0 a1 f1 d1 => ?_⟩
          have sa := st4.take ld f1 d1
          have ta := st4.dk.tf f1
          refine ⟨_, rfl, _, rfl, f, _, rfl, .inr (ta.sq sq), _, _, rfl, rfl, lmul _ (by rw [List.length_map]; omega), d, _, B + 25, rfl, (by show (0 : Int) < 8 * ((rows.map V.str).length : Int); rw [List.length_map]; omega), (by show (8 : Int) * ((rows.map V.str).length : Int) < 1267650600228229401496703205376; rw [List.length_map]; omega), d1.le (by omega), fun x2 H6 b0 b1 f2 d2 => ?_⟩
          rw [l0] at a1
          rw [List.length_map] at b1
          exact ⟨_, _, rfl, hR _ _ ⟨_, _, rfl, by omega, by omega, sa.take ld f2 d2, (t4.trans ta).trans (d1.tf f2)⟩⟩
        clear st4 t4
        obtain ⟨x0, y0, rfl, x200, y200, st5, t5⟩ := hP
        -- choice
        refine seq_cut (fun σ' H'' => ∃ (c : Int), σ' = [some (.ref d), some (.ref f), some (.int (m : Int)), some (.ref gk), some (.int ho), some (.int pu), some (.int sp), some (.ref g), some (.ref l), some (.int (0 + (i : Nat))), some (.int (X : Int)), some (.int hs), some (.int wd), some (.int hgt), some (.int x0), some (.int y0), some (.int c), v17, v18, v19, none, none, none] ∧ 0 ≤ c ∧ c < 4 ∧ StR d l H HD H'' (B + 24) ts ∧ TF H2 H'') (fun σ' H6 hP => ?_) (fun R hR => ?_)
        rotate_left
        · exact ⟨_, rfl, d, 4, B + 24, rfl, by decide, by decide, st5.dk.le (by omega), fun c H1 a0 a1 f1 d1 => hR _ _ ⟨c, rfl, a0, a1, st5.take ld f1 d1, t5.trans (st5.dk.tf f1)⟩⟩
        clear st5 t5
        obtain ⟨c, rfl, c0, c4, st6, t6⟩ := hP
        -- near
        refine seq_cut (fun σ' H'' => ∃ (x y : Int) (nr : Option V), σ' = [some (.ref d), some (.ref f), some (.int (m : Int)), some (.ref gk), some (.int ho), some (.int pu), some (.int sp), some (.ref g), some (.ref l), some (.int (0 + (i : Nat))), some (.int (X : Int)), some (.int hs), some (.int wd), some (.int hgt), some (.int x), some (.int y), some (.int c), nr, v18, v19, none, none, none] ∧ x.natAbs ≤ 200 + 40 * (i + 1) ∧ y.natAbs ≤ 200 + 40 * (i + 1) ∧ StR d l H HD H'' (B + 23) ts ∧ TF H2 H'') (fun σ' H7 hP => ?_) (fun R hR => ?_)
        rotate_left
        · have hts6 : ∀ a ∈ ts, ThB K H6 ⟨rows, W, kd⟩ (200 + 40 * i) a := fun a ha => (hts a ha).tf t6 (Nat.le_refl _)
          refine ⟨_, rfl, (show 0 ≤ sizeLine by decide), fun q nq => ?_⟩
          have sq := new_same (o := .lst []) nq
          have st7 := st6.same sq
          have t7 := t6.trans (same_tf sq)
          have hts7 : ∀ a ∈ ts, ThB K (upd H6 q (.lst [])) ⟨rows, W, kd⟩ (200 + 40 * i) a := fun a ha => (hts6 a ha).tf (same_tf sq) (Nat.le_refl _)
          obtain ⟨ds, dp, can, emp⟩ := dp_ths ts fun a ha => (hts7 a ha).e
          refine ⟨ds, .lst (SqL.of st7.l) dp, .lst (SqL.of upd_same) .nil, can, _, rfl, ite2 (fun z => ?_) (fun _ => iteF (hR _ _ ⟨_, _, _, rfl, by omega, by omega, ⟨st7.f, st7.t, st7.dk.le (by omega), st7.l⟩, t7⟩))⟩
          refine ⟨_, rfl, _, _, rfl, rfl, _, rfl, ite2 (fun z2 => ?_) (fun _ => hR _ _ ⟨_, _, _, rfl, by omega, by omega, ⟨st7.f, st7.t, st7.dk.le (by omega), st7.l⟩, t7⟩)⟩
          rw [decide_eq_true_eq] at z2
          have tpos : 0 < ts.length := by
            rw [emp] at z
            cases ts with
            | nil => cases z
            | cons a b => exact Nat.succ_pos _
          generalize upd H6 q _ = H8 at st7 t7 hts7 ⊢
          refine ⟨_, rfl, _, rfl, _, rfl, _, rfl, l, _, rfl, .inl (SqL.of st7.l), d, _, B + 23, rfl, (by show (0 : Int) < ((ts.map V.ref).length : Int); rw [List.length_map]; omega), (by show ((ts.map V.ref).length : Int) < 1267650600228229401496703205376; rw [List.length_map]; omega), st7.dk.le (by omega), fun j H9 j0 j1 f9 d9 => ?_⟩
          have st9 := st7.take ld f9 d9
          have t79 := st7.dk.tf f9
          obtain ⟨J, rfl⟩ := Int.eq_ofNat_of_zero_le j0
          rw [List.length_map] at j1
          have hJ : J < ts.length := by omega
          obtain ⟨h, hth, hidx, hxb, hyb⟩ := hts7 _ (List.getElem_mem hJ)
          obtain ⟨⟨wd2, hg2⟩, hqq⟩ : ∃ q, kd[h.idx]? = some q := ⟨_, List.getElem?_eq_getElem hidx⟩
          refine ⟨l, _, _, _, rfl, rfl, SqL.of st9.l, atI_nat (v := .ref ts[J]) (by rw [List.getElem?_map, List.getElem?_eq_getElem hJ]; rfl), g, ts[J], ⟨rows, W, kd⟩, h, (wd2, hg2), rfl, hg.tf st9.t, hth.tf t79, hqq, fun qa qb p H10 s10 sp10 => ?_⟩
          have st10 := st9.same s10
          have t10 := (t7.trans t79).trans (same_tf s10)
          replace qa : 1 ≤ wd2 ∧ wd2 ≤ 16 := qa
          replace qb : 1 ≤ hg2 ∧ hg2 ≤ 16 := qb
          replace sp10 : SqT K H10 p [.int h.x, .int h.y, .int wd2, .int hg2] := sp10
          have c3 : c = 1 ∨ c = 2 ∨ c = 3 := by omega
          obtain ⟨xv, hx, hxv⟩ : ∃ xv : Int, atI [V.int (h.x + x0 % 5 - 2), V.int (h.x + wd2), V.int (h.x - wd)] (c - 1) = some (.int xv) ∧ xv.natAbs ≤ 200 + 40 * (i + 1) := by
            rcases c3 with e | e | e <;> subst e
            · exact ⟨_, rfl, by omega⟩
            · exact ⟨_, rfl, by omega⟩
            · exact ⟨_, rfl, by omega⟩
          obtain ⟨yv, hy, hyv⟩ : ∃ yv : Int, atI [V.int h.y, V.int (h.y + hg2), V.int (h.y + hg2)] (c - 1) = some (.int yv) ∧ (yv - hgt).natAbs ≤ 200 + 40 * (i + 1) := by
            rcases c3 with e | e | e <;> subst e
            · exact ⟨_, rfl, by omega⟩
            · exact ⟨_, rfl, by omega⟩
            · exact ⟨_, rfl, by omega⟩
          dsimp only
          refine ⟨_, rfl, p, _, _, _, rfl, rfl, sp10, at_of (j := 0) rfl rfl, _, rfl, .inl ⟨_, rfl, _, _, rfl, rfl, (show (0 : Int) < 5 by decide), _, _, rfl, rfl, _, _, rfl, rfl, ?_⟩⟩
          refine ⟨_, rfl, p, _, _, _, rfl, rfl, sp10, at_of (j := 0) rfl rfl, _, rfl, p, _, _, _, rfl, rfl, sp10, at_of (j := 2) rfl rfl, _, _, rfl, rfl, ?_⟩
          refine ⟨_, rfl, p, _, _, _, rfl, rfl, sp10, at_of (j := 0) rfl rfl, _, rfl, _, _, rfl, rfl, (show 3 ≤ sizeLine by decide), fun r nr => ?_⟩
          refine ⟨_, rfl, _, _, rfl, rfl, r, _, _, _, rfl, rfl, SqL.of upd_same, hx, ?_⟩
          have sr := new_same (o := .lst [V.int (h.x + x0 % 5 - 2), V.int (h.x + wd2), V.int (h.x - wd)]) nr
          have sp11 := (same_tf sr).sq sp10
          refine ⟨_, rfl, p, _, _, _, rfl, rfl, sp11, at_of (j := 1) rfl rfl, ?_⟩
          refine ⟨_, rfl, p, _, _, _, rfl, rfl, sp11, at_of (j := 1) rfl rfl, _, rfl, p, _, _, _, rfl, rfl, sp11, at_of (j := 3) rfl rfl, _, _, rfl, rfl, ?_⟩
          refine ⟨_, rfl, p, _, _, _, rfl, rfl, sp11, at_of (j := 1) rfl rfl, _, rfl, p, _, _, _, rfl, rfl, sp11, at_of (j := 3) rfl rfl, _, _, rfl, rfl, (show 3 ≤ sizeLine by decide), fun r2 nr2 => ?_⟩
          have sr2 := new_same (o := .lst [V.int h.y, V.int (h.y + hg2), V.int (h.y + hg2)]) nr2
          exact ⟨_, rfl, _, _, rfl, rfl, r2, _, _, _, rfl, rfl, SqL.of upd_same, hy, _, rfl, _, _, rfl, rfl, hR _ _ ⟨_, _, _, rfl, hxv, hyv, (st10.same sr).same sr2, (t10.trans (same_tf sr)).trans (same_tf sr2)⟩⟩
        clear st6 t6
        obtain ⟨x, y, nr, rfl, xb, yb, st7, t7⟩ := hP
        -- own
        refine seq_cut (fun σ' H'' => ∃ (ow : Addr) (ns : List Int), σ' = [some (.ref d), some (.ref f), some (.int (m : Int)), some (.ref gk), some (.int ho), some (.int pu), some (.int sp), some (.ref g), some (.ref l), some (.int (0 + (i : Nat))), some (.int (X : Int)), some (.int hs), some (.int wd), some (.int hgt), some (.int x), some (.int y), some (.int c), nr, some (.ref ow), v19, none, none, none] ∧ SqT K H'' ow (ns.map V.int) ∧ ns.length = 4 ∧ (∀ z ∈ ns, z.natAbs < 1000) ∧ StR d l H HD H'' (B + 19) ts ∧ TF H2 H'') (fun σ' H8 hP => ?_) (fun R hR => ?_)
        rotate_left
        · refine ⟨_, rfl, by decide, by decide, fun D hD => ?_⟩
          refine lc_dk (n := 4) (c := 1) (N := B + 19) (d := d) (fun _ v _ => ∃ z : Int, v = .int z ∧ z.natAbs < 1000) (fun _ _ _ _ _ h => h) hD (st7.dk.le (by omega)) (by decide) (fun i Hx M hi f dk R S q => ?_) (fun H1 us f1 dk hl hlen hA => ?_)
          · refine ⟨rfl, ?_⟩
            dsimp only [tYes]
            rw [if_pos rfl]
            exact ⟨_, rfl, d, 1999, M, rfl, by decide, by decide, dk, fun y H4 y0 y1 f4 d4 => ⟨_, _, rfl, rfl, q _ _ f4 d4 ⟨_, rfl, by omega⟩⟩⟩
          · obtain ⟨ns, rfl, hns⟩ := ints_of (H := H1) us hA
            rw [List.length_map] at hlen
            refine ⟨D, _, rfl, .inl ⟨SqL.of hl, fun t nt => ?_⟩⟩
            have st := new_same (o := .tup (ns.map V.int)) nt
            exact hR _ _ ⟨t, ns, rfl, SqT.of upd_same, hlen, hns, (st7.take ld f1 dk).same st, (t7.trans (st7.dk.tf f1)).trans (same_tf st)⟩
        clear st7 t7
        obtain ⟨ow, ns, rfl, how, nsl, hns, st8, t8⟩ := hP
        -- the thing
        refine seq_cut (fun σ' H'' => ∃ (t : Addr), σ' = [some (.ref d), some (.ref f), some (.int (m : Int)), some (.ref gk), some (.int ho), some (.int pu), some (.int sp), some (.ref g), some (.ref l), some (.int (0 + (i : Nat))), some (.int (X : Int)), some (.int hs), some (.int wd), some (.int hgt), some (.int x), some (.int y), some (.int c), nr, some (.ref ow), some (.ref t), none, none, none] ∧ ThB K H'' ⟨rows, W, kd⟩ (200 + 40 * (i + 1)) t ∧ StR d l H HD H'' (B + 17) ts ∧ TF H2 H'') (fun σ' H9 hP => ?_) (fun R hR => ?_)
        rotate_left
        · refine ⟨_, rfl, _, rfl, _, rfl, _, rfl, _, rfl, d, 15, B + 18, rfl, by decide, by decide, st8.dk.le (by omega), fun dx H1 a0 a1 f1 d1 => ?_⟩
          have sa := st8.take ld f1 d1
          have ta := st8.dk.tf f1
          refine ⟨_, _, rfl, rfl, _, rfl, d, 15, B + 17, rfl, by decide, by decide, d1.le (by omega), fun dy H6 b0 b1 f2 d2 => ?_⟩
          have sb := sa.take ld f2 d2
          have tb := ta.trans (d1.tf f2)
          refine ⟨_, _, rfl, rfl, _, rfl, _, rfl, (show 8 ≤ sizeLine by decide), fun t nt => ?_⟩
          have st := new_same (o := .tup [V.int (X : Int), .int hs, .int x, .int y, .int (dx - 7), .int (dy - 7), .int (-2), .ref ow]) nt
          refine hR _ _ ⟨t, rfl, ⟨⟨X, hs, x, y, dx - 7, dy - 7, -2, ns⟩, ⟨⟨ow, SqT.of upd_same, (tb.trans (same_tf st)).sq how⟩, nsl, ?_⟩, hX, xb, yb⟩, sb.same st, (t8.trans tb).trans (same_tf st)⟩
          refine ⟨by show hs.natAbs < 100000; omega, by show x.natAbs < 100000; omega, by show y.natAbs < 100000; omega, by show (dx - 7).natAbs < 100000; omega, by show (dy - 7).natAbs < 100000; omega, (by show (-2 : Int).natAbs < 100000; decide), fun z hz => Nat.lt_trans (hns z hz) (by decide)⟩
        clear st8 t8 how
        obtain ⟨t, rfl, hth, st9, t9⟩ := hP
        have hts9 : ∀ a ∈ ts, ThB K H9 ⟨rows, W, kd⟩ (200 + 40 * (i + 1)) a := fun a ha => (hts a ha).tf t9 (by omega)
        have done_ : ∀ H'', Same H9 H'' → ∃ v9 v10 v11 v12 v13 v14 v15 v16 v17 v18 v19 ts', [some (.ref d), some (.ref f), some (.int (m : Int)), some (.ref gk), some (.int ho), some (.int pu), some (.int sp), some (.ref g), some (.ref l), some (.int (0 + (i : Nat))), some (.int (X : Int)), some (.int hs), some (.int wd), some (.int hgt), some (.int x), some (.int y), some (.int c), nr, some (.ref ow), some (.ref t), none, none, none] = [some (.ref d), some (.ref f), some (.int (m : Int)), some (.ref gk), some (.int ho), some (.int pu), some (.int sp), some (.ref g), some (.ref l), v9, v10, v11, v12, v13, v14, v15, v16, v17, v18, v19, none, none, none] ∧ StR d l H HD H'' (N + 2000 - 30 * (i + 1)) ts' ∧ ts'.length ≤ 16 ∧ ∀ a ∈ ts', ThB K H'' ⟨rows, W, kd⟩ (200 + 40 * (i + 1)) a := fun H'' s => by
          have := st9.same s
          exact ⟨_, _, _, _, _, _, _, _, _, _, _, ts, rfl, ⟨this.f, this.t, this.dk.le (by omega), this.l⟩, htl, fun a ha => (hts9 a ha).tf (same_tf s) (Nat.le_refl _)⟩
        refine ⟨_, rfl, l, _, rfl, .inl (SqL.of st9.l), _, _, rfl, rfl, _, rfl, ite2 (fun z => ?_) (fun _ => iteF (done_ _ (Same.refl _)))⟩
        rw [decide_eq_true_eq, List.length_map] at z
        refine ⟨_, rfl, _, rfl, _, rfl, g, t, l, ⟨rows, W, kd⟩, ts, rfl, hg.tf st9.t, hth.e, st9.l, by omega, fun a ha => (hts9 a ha).e, fun r H10 s10 => ⟨_, rfl, ite2 (fun _ => ?_) (fun _ => done_ _ s10)⟩⟩
        have st10 := st9.same s10
        have fl10 : Frm l H10 (upd H10 l (.lst (ts.map V.ref ++ [V.ref t]))) := Frm.of_upd
        have tl10 := fl10.tf st10.l
        refine ⟨_, rfl, .inl ⟨rfl, _, SqL.of st10.l⟩, _, rfl, l, _, _, rfl, rfl, st10.l, Nat.lt_of_le_of_lt (show (ts.map V.ref).length ≤ 100 by rw [List.length_map]; omega) (by decide), ?_⟩
        refine ⟨_, _, _, _, _, _, _, _, _, _, _, ts ++ [t], rfl, ⟨frm_new st10.f lH, st10.t.trans tl10, (st10.dk.le (by omega)).upd ld, by rw [List.map_append]; exact upd_same⟩, by rw [List.length_append, List.length_singleton]; omega, fun a ha => ?_⟩
        rcases List.mem_append.mp ha with h | h
        · exact (hts9 a h).tf ((same_tf s10).trans tl10) (Nat.le_refl _)
        · rw [List.mem_singleton.mp h]
          exact hth.tf ((same_tf s10).trans tl10) (Nat.le_refl _)
    obtain ⟨v9, v10, v11, v12, v13, v14, v15, v16, v17, v18, v19, ts, rfl, st, htl, hts⟩ := hP
    refine ⟨_, rfl, _, rfl, d, 13, N + 4, rfl, by decide, by decide, st.dk.le (by omega), fun j H1 j0 j1 f1 d1 => ⟨_, rfl, ?_⟩⟩
    have st1 := st.take ld f1 d1
    have t1 := st.dk.tf f1
    refine ⟨l, _, rfl, SqL.of st1.l, fun p np => ?_⟩
    have sp1 := new_same (o := .lst (cutV (ts.map V.ref) none (some j))) np
    have hp : (upd H1 p (.lst (cutV (ts.map V.ref) none (some j)))) p = some (.lst (cutV (ts.map V.ref) none (some j))) := upd_same
    refine ⟨p, rfl, ⟨_, SqL.of hp⟩, fun D hD => ?_⟩
    have st2 := st1.same sp1
    have t2 := t1.trans (same_tf sp1)
    have hmem : ∀ u ∈ cutV (ts.map V.ref) none (some j), ∃ a ∈ ts, u = V.ref a := fun u hu => by
      have : u ∈ ts.map V.ref := List.mem_of_mem_drop (List.mem_of_mem_take hu)
      obtain ⟨a, ha, e⟩ := List.mem_map.mp this
      exact ⟨a, ha, e.symm⟩
    have hcl : (cutV (ts.map V.ref) none (some j)).length ≤ 16 := by
      unfold cutV
      rw [List.length_take, List.length_drop, List.length_map]
      omega
    generalize cutV (ts.map V.ref) none (some j) = cs at hp hmem hcl hD st2 t2 ⊢
    generalize upd H1 p _ = H3 at hp hD st2 t2 ⊢
    refine lc_it (walk_list (K := K) (a := p) (xs := cs)) (fun i H' => ∃ us : List V, Same H3 H' ∧ H' D = some (.lst us) ∧ us.length ≤ i) ⟨[], new_same hD, upd_same, Nat.le_refl _⟩ (fun i H' hi h => ?_) (fun i v H' Hx hi h yy => ?_) (fun H' h => ?_)
    · obtain ⟨us, sm, hb, hbl⟩ := h
      exact SqL.of (sm _ _ hp)
    · obtain ⟨us, sm, hb, hbl⟩ := h
      obtain ⟨rfl, hv⟩ := yy
      obtain ⟨a, ha, rfl⟩ := hmem v (List.mem_of_getElem? hv)
      obtain ⟨th, ⟨⟨o, q1, q2⟩, q3, q4⟩, hidx⟩ := (hts a ha).tf (t2.trans (same_tf sm))
      refine ⟨rfl, ?_⟩
      dsimp only [tYes]
      rw [if_pos rfl]
      refine ⟨_, rfl, _, rfl, a, _, rfl, q1, fun hw => absurd hw.2 (by show ¬ HT.sIx 8 8 (some 4) = 8; decide), fun _ r nr => ?_⟩
      have sr := new_same (o := .tup (cutV [V.int (th.idx : Int), V.int th.ho, V.int th.x, V.int th.y, V.int th.dx, V.int th.dy, V.int th.re, V.ref o] none (some 4))) nr
      exact ⟨_, sr _ _ hb, Nat.lt_of_le_of_lt (show us.length ≤ 100 by omega) (by decide), us ++ [.ref r], frm_same (sm.trans sr) hD Frm.of_upd, upd_same, by simp; omega⟩
    obtain ⟨us2, sm, hb, hbl⟩ := h
    refine ⟨D, _, rfl, .inl ⟨SqL.of hb, fun t nt => ?_⟩⟩
    have s3 := sm.trans (new_same (o := .tup us2) nt)
    have st3 := st2.same s3
    refine ⟨_, rfl, _, rfl, _, rfl, _, rfl, (show 4 ≤ sizeLine by decide), fun p1 np1 => ⟨_, rfl, (show 2 ≤ sizeLine by decide), fun p2 np2 => ⟨_, rfl, (show 2 ≤ sizeLine by decide), fun p3 np3 => ?_⟩⟩⟩
    have s4 := new_same (o := .tup [V.ref f, .ref t, .int ho, .int pu]) np1
    have s5 := new_same (o := .tup [V.ref p1, .ref gk]) np2
    have s6 := new_same (o := .tup [V.ref p2, .ref l]) np3
    have st6 := st3.same ((s4.trans s5).trans s6)
    refine k p3 p2 l ⟨rows, W, kd⟩ ts _ st6.f (st6.dk.le (by omega)) (SqT.of upd_same) ⟨⟨p1, f, gk, .ref t, .int ho, .int pu, us, (same_tf s6).sq (SqT.of upd_same), (same_tf (s5.trans s6)).sq (SqT.of upd_same), hfl.tf st6.t, st6.t.sq hgk, ukd, fun i q hq => ?_⟩, by show 1 ≤ kd.length ∧ kd.length ≤ 8; omega⟩ st6.l ld htl fun a ha => (hts a ha).tf ((t2.trans (same_tf s3)).trans (same_tf ((s4.trans s5).trans s6)))
    obtain ⟨a, e, r⟩ := hkd i q hq
    exact ⟨a, e, r.tf st6.t⟩
end
end K44
set_option maxRecDepth 100000
set_option maxHeartbeats 4000000
/-! A world, drawn. -/
namespace K44
open PySem PySem.Spec PyProof.Rows L2 KF KD
structure CelQ (K : PySem.W.Frag) (H : Hp) (G : Gm) (cs : List V) (b : Nat) : Prop where
  len : cs.length = 49 + G.R * G.C
  slot : ∀ i, i < 16 → cs[i]? = some .non ∨ ∃ a, cs[i]? = some (.ref a) ∧ ThE K H G a
  met : ∀ i, 16 ≤ i → i < 32 → ∃ a ns, cs[i]? = some (.ref a) ∧ SqT K H a (nVs ns) ∧ ns.length ≤ 300 ∧ ∀ n ∈ ns, n < 16
  num : ∀ i, 32 ≤ i → i < 49 → ∃ z : Int, cs[i]? = some (.int z) ∧ z.natAbs < 1000000000
  bkt : ∀ i, 49 ≤ i → i < cs.length → ∃ a ns, cs[i]? = some (.ref a) ∧ SqT K H a (nVs ns) ∧ ns.length ≤ b ∧ ∀ n ∈ ns, n < 16 ∧ ∃ b, cs[n]? = some (.ref b) ∧ ThE K H G b
theorem CelQ.r {K : PySem.W.Frag} {H : Hp} {G : Gm} {cs : List V} {b : Nat} (h : CelQ K H G cs b) (hb : b ≤ 64) : CelR K H G cs := ⟨h.len, h.slot, h.met, h.num, fun i h1 h2 => by
  obtain ⟨a, ns, e, q, l, r⟩ := h.bkt i h1 h2
  exact ⟨a, ns, e, q, by omega, r⟩⟩
theorem CelQ.tf {K : PySem.W.Frag} {H H' : Hp} {G : Gm} {cs : List V} {b c : Nat} (s : TF H H') (h : CelQ K H G cs b) (hb : b ≤ c) : CelQ K H' G cs c := by
  refine ⟨h.len, fun i hi => ?_, fun i h1 h2 => ?_, h.num, fun i h1 h2 => ?_⟩
  · rcases h.slot i hi with e | ⟨a, e, r⟩
    · exact .inl e
    · exact .inr ⟨a, e, r.tf s⟩
  · obtain ⟨a, ns, e, q, r⟩ := h.met i h1 h2
    exact ⟨a, ns, e, s.sq q, r⟩
  · obtain ⟨a, ns, e, q, l, r⟩ := h.bkt i h1 h2
    refine ⟨a, ns, e, s.sq q, by omega, fun n hn => ?_⟩
    obtain ⟨r1, b, r2, r3⟩ := r n hn
    exact ⟨r1, b, r2, r3.tf s⟩
theorem rep_flat (n : Nat) (v : V) : (List.replicate n [v]).flatten = List.replicate n v := by
  induction n with
  | zero => rfl
  | succ n ih => rw [List.replicate_succ, List.flatten_cons, ih, List.replicate_succ]; rfl
theorem cel0 {K : PySem.W.Frag} {H : Hp} {G : Gm} {p1 p2 : Addr} {z : Int} {zs : List Int} (h1 : SqT K H p1 []) (h2 : SqT K H p2 []) (hz : z.natAbs < 1000000000) (hl : zs.length = 16) (hzs : ∀ y ∈ zs, y.natAbs < 1000000000) :
    CelQ K H G ((((List.replicate 16 .non ++ List.replicate 16 (.ref p1)) ++ [.int z]) ++ zs.map V.int) ++ List.replicate (G.R * G.C) (.ref p2)) 0 := by
  refine ⟨by simp [hl]; omega, fun i hi => .inl ?_, fun i i1 i2 => ⟨p1, [], ?_, h1, by simp, fun _ q => (nomatch q)⟩, fun i i1 i2 => ?_, fun i i1 i2 => ⟨p2, [], ?_, h2, by simp, fun _ q => (nomatch q)⟩⟩
  · rw [List.getElem?_append_left (by simp [hl]; omega), List.getElem?_append_left (by simp; omega), List.getElem?_append_left (by simp; omega), List.getElem?_append_left (by simp; omega), List.getElem?_replicate, if_pos hi]
  · rw [List.getElem?_append_left (by simp [hl]; omega), List.getElem?_append_left (by simp; omega), List.getElem?_append_left (by simp; omega), List.getElem?_append_right (by simp; omega), List.getElem?_replicate, if_pos (by simp; omega)]
  · by_cases e : i = 32
    · subst e
      refine ⟨z, ?_, hz⟩
      rw [List.getElem?_append_left (by simp [hl]), List.getElem?_append_left (by simp), List.getElem?_append_right (by simp)]
      simp
    · have hi : i - 33 < zs.length := by omega
      refine ⟨zs[i - 33], ?_, hzs _ (List.getElem_mem hi)⟩
      rw [List.getElem?_append_left (by simp [hl]; omega), List.getElem?_append_right (by simp; omega)]
      simp only [List.length_append, List.length_replicate, List.length_cons, List.length_nil]
      have e3 : (zs.map V.int)[i - 33]? = some (.int zs[i - 33]) := by rw [List.getElem?_map, List.getElem?_eq_getElem hi]; rfl
      exact (congrArg (fun q => (zs.map V.int)[q]?) (show i - (16 + 16 + (0 + 1)) = i - 33 by omega)).trans e3
  · simp only [List.length_append, List.length_replicate, List.length_cons, List.length_nil, List.length_map, hl] at i2
    rw [List.getElem?_append_right (by simp [hl]; omega), List.getElem?_replicate, if_pos (by simp [hl]; omega)]
theorem CelQ.setB {K : PySem.W.Frag} {H : Hp} {G : Gm} {cs : List V} {b c : Nat} {t : Addr} {qs : List Nat} (h : CelQ K H G cs b) (c1 : 49 ≤ c) (c2 : c < cs.length) (ht : SqT K H t (nVs qs)) (hq : qs.length ≤ b + 1) (hm : ∀ n ∈ qs, n < 16 ∧ ∃ b, cs[n]? = some (.ref b) ∧ ThE K H G b) : CelQ K H G (cs.set c (.ref t)) (b + 1) := by
  have low : ∀ i, i < 49 → (cs.set c (.ref t))[i]? = cs[i]? := fun i hi => List.getElem?_set_ne (by omega)
  refine ⟨by rw [List.length_set]; exact h.len, fun i hi => by rw [low i (by omega)]; exact h.slot i hi, fun i i1 i2 => by rw [low i (by omega)]; exact h.met i i1 i2, fun i i1 i2 => by rw [low i (by omega)]; exact h.num i i1 i2, fun i i1 i2 => ?_⟩
  rw [List.length_set] at i2
  by_cases e : i = c
  · subst e
    refine ⟨t, qs, List.getElem?_set_self i2, ht, hq, fun n hn => ?_⟩
    obtain ⟨r1, b, r2, r3⟩ := hm n hn
    exact ⟨r1, b, by rw [low n (by omega)]; exact r2, r3⟩
  · obtain ⟨a, ns, e1, q, l, r⟩ := h.bkt i i1 i2
    refine ⟨a, ns, by rw [List.getElem?_set_ne (by omega)]; exact e1, q, by omega, fun n hn => ?_⟩
    obtain ⟨r1, b, r2, r3⟩ := r n hn
    exact ⟨r1, b, by rw [low n (by omega)]; exact r2, r3⟩
theorem set_th {K : PySem.W.Frag} {H : Hp} {G : Gm} {cs : List V} {s n : Nat} {a : Addr} (hs : s < cs.length) (ha : ThE K H G a) (h : ∃ b, cs[n]? = some (V.ref b) ∧ ThE K H G b) : ∃ b, (cs.set s (.ref a))[n]? = some (V.ref b) ∧ ThE K H G b := by
  by_cases e : n = s
  · subst e
    exact ⟨a, List.getElem?_set_self hs, ha⟩
  · obtain ⟨b, r2, r3⟩ := h
    exact ⟨b, by rw [List.getElem?_set_ne (by omega)]; exact r2, r3⟩
theorem CelQ.setS {K : PySem.W.Frag} {H : Hp} {G : Gm} {cs : List V} {b s : Nat} {a : Addr} (h : CelQ K H G cs b) (hs : s < 16) (ha : ThE K H G a) : CelQ K H G (cs.set s (.ref a)) b := by
  have hl := h.len
  have hi2 : ∀ i, 16 ≤ i → (cs.set s (.ref a))[i]? = cs[i]? := fun i hi => List.getElem?_set_ne (by omega)
  refine ⟨by rw [List.length_set]; exact h.len, fun i hi => ?_, fun i i1 i2 => by rw [hi2 i (by omega)]; exact h.met i i1 i2, fun i i1 i2 => by rw [hi2 i (by omega)]; exact h.num i i1 i2, fun i i1 i2 => ?_⟩
  · by_cases e : i = s
    · subst e
      exact .inr ⟨a, List.getElem?_set_self (by omega), ha⟩
    · rw [List.getElem?_set_ne (by omega)]
      exact h.slot i hi
  · rw [List.length_set] at i2
    obtain ⟨a2, ns, e1, q, l, r⟩ := h.bkt i i1 i2
    refine ⟨a2, ns, by rw [hi2 i (by omega)]; exact e1, q, l, fun n hn => ?_⟩
    obtain ⟨r1, r2⟩ := r n hn
    exact ⟨r1, set_th (by omega) ha r2⟩
theorem CelQ.setM {K : PySem.W.Frag} {H : Hp} {G : Gm} {cs : List V} {b c : Nat} {t : Addr} {qs : List Nat} (h : CelQ K H G cs b) (c1 : 16 ≤ c) (c2 : c < 32) (ht : SqT K H t (nVs qs)) (hq : qs.length ≤ 300) (hm : ∀ n ∈ qs, n < 16) : CelQ K H G (cs.set c (.ref t)) b := by
  have hl := h.len
  have oth : ∀ i, i ≠ c → (cs.set c (.ref t))[i]? = cs[i]? := fun i hi => List.getElem?_set_ne (by omega)
  refine ⟨by rw [List.length_set]; exact h.len, fun i hi => by rw [oth i (by omega)]; exact h.slot i hi, fun i i1 i2 => ?_, fun i i1 i2 => by rw [oth i (by omega)]; exact h.num i i1 i2, fun i i1 i2 => ?_⟩
  · by_cases e : i = c
    · subst e
      exact ⟨t, qs, List.getElem?_set_self (by omega), ht, hq, hm⟩
    · rw [oth i e]
      exact h.met i i1 i2
  · rw [List.length_set] at i2
    obtain ⟨a, ns, e1, q, l, r⟩ := h.bkt i i1 i2
    refine ⟨a, ns, by rw [oth i (by omega)]; exact e1, q, l, fun n hn => ?_⟩
    obtain ⟨r1, b, r2, r3⟩ := r n hn
    exact ⟨r1, b, by rw [oth n (by omega)]; exact r2, r3⟩
theorem inV_no {s : Nat} {ss : List Nat} (h : s ∉ ss) : inV (.int (s : Int)) (nVs ss) = false := by
  unfold inV nVs
  rw [List.any_map]
  refine List.any_eq_false.mpr fun y hy => ?_
  have : (y : Int) ≠ (s : Int) := fun e => h (by rw [← Int.natCast_inj.mp e]; exact hy)
  simp [eqV, this]
structure StW (d : Addr) (H H' : Hp) (n : Nat) : Prop where
  f : Frm d H H'
  t : TF H H'
  dk : Dk H' d n
theorem StW.take {d : Addr} {H H' H2 : Hp} {n m : Nat} (h : StW d H H' n) (f : Frm d H' H2) (dk : Dk H2 d m) : StW d H H2 m := ⟨h.f.trans f, h.t.trans (h.dk.tf f), dk⟩
theorem StW.same {d : Addr} {H H' H2 : Hp} {n : Nat} (h : StW d H H' n) (s : Same H' H2) : StW d H H2 n := ⟨h.f.trans (Frm.of_same s), h.t.trans (same_tf s), h.dk.same s⟩
theorem StW.le {d : Addr} {H H' : Hp} {n m : Nat} (h : StW d H H' n) (hm : m ≤ n) : StW d H H' m := ⟨h.f, h.t, h.dk.le hm⟩
theorem StW.putL {d a : Addr} {H H' : Hp} {n : Nat} {xs ys : List V} (h : StW d H H' n) (ha : H a = none) (hl : H' a = some (.lst xs)) (ne : a ≠ d) : StW d H (upd H' a (.lst ys)) n := ⟨frm_new h.f ha, h.t.trans (Frm.tf (Frm.of_upd (d := a)) hl), h.dk.upd ne⟩
theorem stw_none {d a : Addr} {H H' : Hp} {n : Nat} (h : StW d H H' n) (ha : H' a = none) : H a = none := by
  cases e : H a with
  | none => rfl
  | some o =>
    have := h.f _ _ (h.dk.ne ha) e
    rw [ha] at this
    cases this
theorem StW.frmD {d a : Addr} {H H' H2 : Hp} {n : Nat} (h : StW d H H' n) (e : H a = none) (ne : a ≠ d) (f : Frm a H' H2) (t : TF H' H2) : StW d H H2 n := by
  refine ⟨fun b o nb z => f _ _ (ne_of_none z e) (h.f _ _ nb z), h.t.trans t, ?_⟩
  obtain ⟨r, m, c, h0, h1⟩ := h.dk
  exact ⟨r, m, c, f _ _ (Ne.symm ne) h0, h1⟩
theorem HdR.frm {H H' : Hp} {a hd g cl dt : Addr} {cs : List V} {m : Nat} (h : HdR H hd g cl dt cs m) (f : Frm a H H') (n1 : hd ≠ a) (n2 : cl ≠ a) (n3 : dt ≠ a) : HdR H' hd g cl dt cs m := by
  obtain ⟨h1, h2, kv, h3, h4⟩ := h
  exact ⟨f _ _ n1 h1, f _ _ n2 h2, kv, f _ _ n3 h3, h4⟩
theorem HdR.le {H : Hp} {hd g cl dt : Addr} {cs : List V} {m n : Nat} (h : HdR H hd g cl dt cs m) (hn : m ≤ n) : HdR H hd g cl dt cs n := h.same (Same.refl _) hn
theorem pig : ∀ (n : Nat) (l : List Nat), (∀ s, s < n → s ∈ l) → n ≤ l.length
  | 0, _, _ => Nat.zero_le _
  | n + 1, l, h => by
    have hn := h n (Nat.lt_succ_self n)
    have := pig n (l.erase n) fun s hs => (List.mem_erase_of_ne (by omega)).mpr (h s (by omega))
    rw [List.length_erase_of_mem hn] at this
    have := List.length_pos_of_mem hn
    omega
section
variable {P : Program} {w : World} {K : PySem.W.Frag} {mg : Str → Option Value} {base : Heap}
def spWo (K : PySem.W.Frag) : Sp := fun vs H Q _ => ∃ (d g l : Addr) (G : Gm) (ts : List Addr) (n : Nat), vs = [.ref d, .ref g, .ref l] ∧ Dk H d (n + 1000) ∧ GmR K H g G ∧ H l = some (.lst (ts.map V.ref)) ∧ l ≠ d ∧ ts.length ≤ 16 ∧ (∀ a ∈ ts, ThE K H G a) ∧
  ∀ t cs H', Frm d H H' → Dk H' d n → SqT K H' t cs → CelR K H' G cs → Q (.ref t) H'
theorem scWo : FnScope ["deck", "game", "things", "cells", "slots", "thing", "free", "cell", "meets", "held", "slot", "x", "y", "wide", "high", "rest", "turn"] ["deck", "game", "things"] (defScope s_law_world) := ⟨rfl, rfl, rfl, by decide +kernel, rfl, by decide +kernel, by decide +kernel⟩
theorem ok_law_world (T : Txt K w mg) : FnOk P w K mg base CX0 7 (He.fAd K ("_law_world", none)) (fdAt K (He.fAd K ("_law_world", none))) ["deck", "game", "things"] (spWo K) := by
  refine T.F_law_world.ok scWo (fun vs H Q E h => ?_) (fun cdv A outer s H vs Q E hr h => ?_)
  · obtain ⟨d, g, l, G, ts, N, rfl, _⟩ := h
    rfl
  · obtain ⟨d, g, l, G, ts, N, rfl, hd, hg, hl, ld, htl, hts, k⟩ := h
    have hu := hr.units
    refine ⟨_, PSs.nox (pss_cons (ps_set (i := 3) scWo.nd rfl (Or.inl rfl) (pe_op op_cat (pe_op op_cat (pe_op op_rep (pe_lst (pa_cons pe_non pa_nil)) pe_int) (pe_op op_rep (pe_lst (pa_cons (pe_tup pa_nil) pa_nil)) pe_int)) (pe_lst (pa_cons (pe_call (ok_law_take T) (hr.mono (by decide)) (by rfl) T.g_law_take (T.F_law_take).kp T.b_law_take .nil pass0 (pa_cons (pv 0) (pa_cons pe_int pa_nil))) pa_nil))))
      (pss_cons (ps_set (i := 3) scWo.nd rfl (Or.inl rfl) (pe_op op_cat (pv 3) (pe_lc (own := [("turn", 16)]) (g := gName 16) (tt := tYes) (by rfl) scWo.nd (pi_range1 (by rfl) T.n_range (pa_cons pe_int pa_nil)) (blkOk_by (own := [("turn", 16)]) (N := ["deck", "game", "things", "cells", "slots", "thing", "free", "cell", "meets", "held", "slot", "x", "y", "wide", "high", "rest", "turn"]) (sc := defScope s_law_world) (by decide +kernel)) (fun _ _ _ _ _ => pg_name (i := 16) scWo.nd rfl (Or.inl rfl)) (fun _ _ _ _ _ => pts_nil) (fun _ _ _ _ _ => (pe_op op_mulW (pe_op op_sub (pe_call (ok_law_take T) (hr.mono (by decide)) (by rfl) T.g_law_take (T.F_law_take).kp T.b_law_take .nil pass0 (pa_cons (pv 0) (pa_cons pe_int pa_nil))) pe_int) (pe_call (ok_law_take T) (hr.mono (by decide)) (by rfl) T.g_law_take (T.F_law_take).kp T.b_law_take .nil pass0 (pa_cons (pv 0) (pa_cons pe_int pa_nil))))))))
      (pss_cons (ps_set (i := 3) scWo.nd rfl (Or.inl rfl) (pe_op op_cat (pv 3) (pe_op op_rep (pe_lst (pa_cons (pe_tup pa_nil) pa_nil)) (pe_op op_mulW (pe_op op_fdivW (pe_op op_add (pe_callB (r := Evl.rLenS K) call_len_seq (by rfl) T.n_len PyProof.Rows.Boot.«len» (pa_cons (pe_ix (r := rIxT K) ix_tup (pe_ix (r := rIxT K) ix_tup (pv 1) pe_int (fun _ _ => rfl)) pe_int (fun _ _ => rfl)) pa_nil)) pe_int) pe_int) (pe_op op_fdivW (pe_op op_add (pe_callB call_len_str (by rfl) T.n_len PyProof.Rows.Boot.«len» (pa_cons (pe_ix (r := rIxT K) ix_tup (pe_ix (r := rIxT K) ix_tup (pe_ix (r := rIxT K) ix_tup (pv 1) pe_int (fun _ _ => rfl)) pe_int (fun _ _ => rfl)) pe_int (fun _ _ => rfl)) pa_nil)) pe_int) pe_int)))))
      (pss_cons (ps_set (i := 4) scWo.nd rfl (Or.inr rfl) (pe_lst pa_nil))
      (pss_cons (ps_for PassesOwn.never rfl (pi_list (pv 2)) (pg_name (i := 5) scWo.nd rfl (Or.inl rfl)) (pss_cons (ps_setLc (i := 6) (own := [("slot", 10)]) (g := gName 10) (by rfl) scWo.nd rfl rfl (sw_true rfl rfl rfl (by decide +kernel)) (pi_range1 (by rfl) T.n_range (pa_cons pe_int pa_nil)) (blkOk_by (own := [("slot", 10)]) (N := ["deck", "game", "things", "cells", "slots", "thing", "free", "cell", "meets", "held", "slot", "x", "y", "wide", "high", "rest", "turn"]) (sc := defScope s_law_world) (by decide +kernel)) (fun _ _ _ _ _ => pg_name (i := 10) scWo.nd rfl (Or.inl rfl)) (fun _ _ _ _ _ => pts_one (pt_cmpR (r := rIn K true) op_notIn_seq (pv 10) (pv 4) rfl)) (fun _ _ _ _ _ => (pv 10)))
      (pss_cons (ps_expr (pe_bm PySem.F.plainAttrs_list PySem.F.slot_list_append PySem.F.type_list_append mt_append (pv 4) (pa_cons (pe_ix (r := rIxL K) ix_list (pv 6) (pe_call (ok_law_take T) (hr.mono (by decide)) (by rfl) T.g_law_take (T.F_law_take).kp T.b_law_take .nil pass0 (pa_cons (pv 0) (pa_cons (pe_callB (r := Evl.rLenS K) call_len_seq (by rfl) T.n_len PyProof.Rows.Boot.«len» (pa_cons (pv 6) pa_nil)) pa_nil))) (fun _ _ => rfl)) pa_nil)))
      (pss_cons (ps_asg (pv 5) (pg_sub (pv 3) (pe_ix (r := rIxL K) ix_list (pv 4) (pe_un un_neg pe_int) (fun _ _ => rfl)) set_list))
      (pss_one (ps_for PassesOwn.never rfl (pi_list (pe_call (ok_law_buckets T) (hr.mono (by decide)) (by rfl) T.g_law_buckets (T.F_law_buckets).kp T.b_law_buckets .nil pass0 (pa_cons (pv 1) (pa_cons (pe_call (ok_law_box T) (hr.mono (by decide)) (by rfl) T.g_law_box (T.F_law_box).kp T.b_law_box .nil pass0 (pa_cons (pv 1) (pa_cons (pv 5) pa_nil))) pa_nil)))) (pg_name (i := 7) scWo.nd rfl (Or.inl rfl)) (pss_one (ps_asg (pe_callTy call_tuple_of (by rfl) T.n_tuple PyProof.Rows.Boot.«tuple» (pa_cons (pe_callB (r := rSortedI K) cr_sortedI (by rfl) T.n_sorted PyProof.Rows.Boot.«sorted» (pa_cons (pe_op op_cat (pe_callTy call_list_of (by rfl) T.n_list PyProof.Rows.Boot.«list» (pa_cons (pe_ix (r := rIxL K) ix_list (pv 3) (pv 7) (fun _ _ => rfl)) pa_nil)) (pe_lst (pa_cons (pe_ix (r := rIxL K) ix_list (pv 4) (pe_un un_neg pe_int) (fun _ _ => rfl)) pa_nil))) pa_nil)) pa_nil)) (pg_sub (pv 3) (pv 7) set_list)))))))))
      (pss_cons (ps_set (i := 8) scWo.nd rfl (Or.inl rfl) (pe_call (ok_law_take T) (hr.mono (by decide)) (by rfl) T.g_law_take (T.F_law_take).kp T.b_law_take .nil pass0 (pa_cons (pv 0) (pa_cons pe_int pa_nil))))
      (pss_cons (ps_set (i := 9) scWo.nd rfl (Or.inl rfl) (pe_lst (pa_cons (pv 1) (pa_cons (pe_callTy call_list_of (by rfl) T.n_list PyProof.Rows.Boot.«list» (pa_cons (pv 3) pa_nil)) (pa_cons pe_dnewK pa_nil)))))
      (pss_cons (ps_for PassesOwn.never rfl (pi_list (pv 4)) (pg_name (i := 10) scWo.nd rfl (Or.inl rfl)) (pss_cons (ps_asg (pe_call (ok_law_box T) (hr.mono (by decide)) (by rfl) T.g_law_box (T.F_law_box).kp T.b_law_box .nil pass0 (pa_cons (pv 1) (pa_cons (pe_ix (r := rIxL K) ix_list (pv 3) (pv 10) (fun _ _ => rfl)) pa_nil))) (pg_tup (by rfl) (pgs_cons (pg_name (i := 11) scWo.nd rfl (Or.inl rfl)) (pgs_cons (pg_name (i := 12) scWo.nd rfl (Or.inl rfl)) (pgs_cons (pg_name (i := 13) scWo.nd rfl (Or.inl rfl)) (pgs_cons (pg_name (i := 14) scWo.nd rfl (Or.inl rfl)) pgs_nil))))))
      (pss_cons (ps_set (i := 15) scWo.nd rfl (Or.inl rfl) (pe_ifExp (pt_cmpR op_gt (pe_call (ok_law_take T) (hr.mono (by decide)) (by rfl) T.g_law_take (T.F_law_take).kp T.b_law_take .nil pass0 (pa_cons (pv 0) (pa_cons pe_int pa_nil))) pe_int (nomark _)) (pe_call (ok_law_rest T) (hr.mono (by decide)) (by rfl) T.g_law_rest (T.F_law_rest).kp T.b_law_rest .nil pass0 (pa_cons (pv 9) (pa_cons (pv 10) pa_nil))) (pe_op op_sub (pe_call (ok_law_take T) (hr.mono (by decide)) (by rfl) T.g_law_take (T.F_law_take).kp T.b_law_take .nil pass0 (pa_cons (pv 0) (pa_cons pe_int pa_nil))) pe_int)))
      (pss_cons (ps_asg (pe_op (show OpR _ _ (rCatT K) from op_catT) (pe_op (show OpR _ _ (rCatT K) from op_catT) (pe_slice (show SlR _ (rSlA K) from sl_tupA) (pe_ix (r := rIxL K) ix_list (pv 3) (pv 10) (fun _ _ => rfl)) po_none (po_some pe_int)) (pe_tup (pa_cons (pv 15) pa_nil))) (pe_slice (show SlR _ (rSlA K) from sl_tupA) (pe_ix (r := rIxL K) ix_list (pv 3) (pv 10) (fun _ _ => rfl)) (po_some pe_int) po_none)) (pg_sub (pv 3) (pv 10) set_list))
      (pss_one (ps_if (pt_cmpR op_eq (pv 8) pe_int (nomark _)) (pss_one (ps_asg (pe_callTy call_tuple_of (by rfl) T.n_tuple PyProof.Rows.Boot.«tuple» (pa_cons (pe_call (ok_law_meeting T) (hr.mono (by decide)) (by rfl) T.g_law_meeting (T.F_law_meeting).kp T.b_law_meeting .nil pass0 (pa_cons (pv 9) (pa_cons (pe_tup (pa_cons (pe_op op_sub (pv 11) pe_int) (pa_cons (pe_op op_sub (pv 12) pe_int) (pa_cons (pe_op op_add (pv 13) pe_int) (pa_cons (pe_op op_add (pv 14) pe_int) pa_nil))))) (pa_cons (pe_lst (pa_cons (pv 10) pa_nil)) pa_nil)))) pa_nil)) (pg_sub (pv 3) (pe_op op_add pe_int (pv 10)) set_list))) pss_nil))))))
      (pss_one (ps_ret (pe_callTy call_tuple_of (by rfl) T.n_tuple PyProof.Rows.Boot.«tuple» (pa_cons (pv 3) pa_nil)))))))))))), ?_⟩
    have stH : StW d H H (N + 1000) := ⟨Frm.refl _ _, TF.refl _, hd⟩
    have hfl : ∃ g0 fl, ∃ st ho pu gk, SqT K H g [.ref g0, gk] ∧ SqT K H g0 [.ref fl, st, ho, pu] ∧ FlR K H fl G.rows G.W := by
      obtain ⟨⟨g0, fl, gk, st, ho, pu, ks, h1, h2, h3, _⟩, hm⟩ := hg
      exact ⟨g0, fl, st, ho, pu, .ref gk, h1, h2, h3⟩
    obtain ⟨g0, fl, st_, ho_, pu_, gk_, gs1, gs2, hflr⟩ := hfl
    obtain ⟨sq, hrow, ⟨w4, w24⟩, l3, l17⟩ := hflr
    have hrl : 0 < G.rows.length := by omega
    have l0 : (G.rows[0]'hrl).length = G.W := hrow _ (List.getElem_mem _)
    have r0 : (G.rows.map V.str)[0]? = some (.str (G.rows[0]'hrl)) := by rw [List.getElem?_map, List.getElem?_eq_getElem hrl]; rfl
    have hC6 : G.C ≤ 6 := by unfold Gm.C; omega
    have hR5 : G.R ≤ 5 := by unfold Gm.R; omega
    have hRC : G.R * G.C ≤ 30 := Nat.mul_le_mul hR5 hC6
    -- cells
    refine seq_cut (fun σ' H' => ∃ (c0 p1 : Addr) (z : Int), σ' = [some (.ref d), some (.ref g), some (.ref l), some (.ref c0), none, none, none, none, none, none, none, none, none, none, none, none, none] ∧ StW d H H' (N + 999) ∧ SqT K H' p1 [] ∧ H' c0 = some (.lst ((List.replicate 16 .non ++ List.replicate 16 (.ref p1)) ++ [.int z])) ∧ z.natAbs < 1000000000) (fun σ' HA hP => ?_) (fun R hR => ?_)
    rotate_left
    · refine ⟨(show 1 ≤ sizeLine by decide), fun q1 n1 => ?_⟩
      have s1 := new_same (o := .lst [V.non]) n1
      refine ⟨_, _, _, rfl, rfl, upd_same, by decide, by decide, (show 1 * 16 ≤ sizeLine by decide), fun q2 n2 => ?_⟩
      rw [show (16 : Int).toNat = 16 from rfl, rep_flat] 
      have s2 := new_same (o := .lst (List.replicate 16 V.non)) n2
      refine ⟨(show 0 ≤ sizeLine by decide), fun p1 n3 => ⟨(show 1 ≤ sizeLine by decide), fun q3 n4 => ?_⟩⟩
      have s3 := new_same (o := .tup []) n3
      have s4 := new_same (o := .lst [V.ref p1]) n4
      refine ⟨_, _, _, rfl, rfl, upd_same, by decide, by decide, (show 1 * 16 ≤ sizeLine by decide), fun q4 n5 => ?_⟩
      rw [rep_flat]
      have s5 := new_same (o := .lst (List.replicate 16 (V.ref p1))) n5
      refine ⟨q2, q4, _, _, rfl, rfl, (s3.trans s4).trans s5 _ _ upd_same, upd_same, by rw [List.length_replicate, List.length_replicate]; decide, fun q5 n6 => ?_⟩
      have s6 := new_same (o := .lst (List.replicate 16 V.non ++ List.replicate (Int.toNat 16) (V.ref p1))) n6
      have st1 := stH.same (((s1.trans s2).trans (s3.trans s4)).trans (s5.trans s6))
      refine ⟨_, rfl, d, 65537, N + 999, rfl, by decide, by decide, st1.dk.le (by omega), fun z H7 z0 z1 f7 d7 => ⟨(show 1 ≤ sizeLine by decide), fun q6 n7 => ?_⟩⟩
      have st2 := st1.take f7 d7
      have s7 := new_same (o := .lst [V.int z]) n7
      have h5 := s7 _ _ (f7 q5 _ (((hd.same (((s1.trans s2).trans (s3.trans s4)).trans s5))).ne n6) upd_same)
      refine ⟨q5, q6, _, _, rfl, rfl, h5, upd_same, by rw [List.length_append, List.length_replicate, List.length_replicate]; exact (by decide : 16 + 16 + 1 ≤ sizeLine), fun c0 n8 => ?_⟩
      have s8 := new_same (o := .lst ((List.replicate 16 V.non ++ List.replicate (Int.toNat 16) (V.ref p1)) ++ [V.int z])) n8
      refine hR _ _ ⟨c0, p1, z, rfl, (st2.same s7).same s8, ?_, upd_same, by omega⟩
      exact (same_tf s8).sq ((same_tf s7).sq ((st1.dk.tf f7).sq ((same_tf ((s4.trans s5).trans s6)).sq (SqT.of upd_same))))
    obtain ⟨c0, p1, z, rfl, stA, hp1, hc0, hz⟩ := hP
    refine seq_cut (fun σ' H' => ∃ (c0 : Addr) (zs : List Int), σ' = [some (.ref d), some (.ref g), some (.ref l), some (.ref c0), none, none, none, none, none, none, none, none, none, none, none, none, none] ∧ StW d H H' (N + 900) ∧ SqT K H' p1 [] ∧ H' c0 = some (.lst (((List.replicate 16 .non ++ List.replicate 16 (.ref p1)) ++ [.int z]) ++ zs.map V.int)) ∧ zs.length = 16 ∧ ∀ y ∈ zs, y.natAbs < 1000000000) (fun σ' HB hP => ?_) (fun R hR => ?_)
    rotate_left
    · refine ⟨_, rfl, _, rfl, by decide, by decide, fun D hD => ?_⟩
      refine lc_dk (n := 16) (c := 2) (N := N + 900) (d := d) (fun _ v _ => ∃ z : Int, v = .int z ∧ z.natAbs < 1000) (fun _ _ _ _ _ h => h) hD (stA.dk.le (by omega)) (by decide) (fun i Hx M hi f dk R S q => ?_) (fun H1 us f1 dk hl hlen hA => ?_)
      · refine ⟨rfl, ?_⟩
        dsimp only [tYes]
        rw [if_pos rfl]
        refine ⟨_, rfl, d, 1999, M + 1, rfl, by decide, by decide, dk, fun y H4 y0 y1 f4 d4 => ⟨_, _, rfl, rfl, _, rfl, d, 2, M, rfl, by decide, by decide, d4, fun y2 H5 u0 u1 f5 d5 => ?_⟩⟩
        have hy2 : y2 = 0 ∨ y2 = 1 := by omega
        refine ⟨_, _, rfl, rfl, wide_mul (a := 40) (b := 40) (Nat.lt_trans (show (y - 999).natAbs < 100000 by omega) (by decide)) (Nat.lt_trans (show y2.natAbs < 100000 by omega) (by decide)) (by decide) (by decide) (by decide), q _ _ (f4.trans f5) d5 ⟨_, rfl, ?_⟩⟩
        rcases hy2 with e | e <;> subst e <;> omega
      · obtain ⟨zs, rfl, hzs⟩ := ints_of (H := H1) us hA
        rw [List.length_map] at hlen
        have hc1 := f1 _ _ (fun e => by
          obtain ⟨r, m, c, h0, _⟩ := stA.dk
          rw [e, h0] at hc0
          have := congrArg (fun o => match o with | some (HO.lst xs) => xs.length | _ => 0) hc0
          simp at this) hc0
        refine ⟨c0, D, _, _, rfl, rfl, hc1, hl, by simp [hlen]; decide, fun c1 n1 => ?_⟩
        have s1 := new_same (o := .lst (((List.replicate 16 .non ++ List.replicate 16 (.ref p1)) ++ [.int z]) ++ zs.map V.int)) n1
        exact hR _ _ ⟨c1, zs, rfl, (stA.take f1 dk).same s1, (same_tf s1).sq ((stA.dk.tf f1).sq hp1), upd_same, hlen, fun y hy => Nat.lt_trans (hzs y hy) (by decide)⟩
    clear stA hp1 hc0
    obtain ⟨c0, zs, rfl, stB, hp1, hc0, zl, hzs⟩ := hP
    refine seq_cut (fun σ' H' => ∃ (c0 : Addr) (cs : List V), σ' = [some (.ref d), some (.ref g), some (.ref l), some (.ref c0), none, none, none, none, none, none, none, none, none, none, none, none, none] ∧ StW d H H' (N + 900) ∧ H' c0 = some (.lst cs) ∧ CelQ K H' G cs 0 ∧ c0 ≠ d ∧ H c0 = none) (fun σ' HC hP => ?_) (fun R hR => ?_)
    rotate_left
    · refine ⟨_, rfl, (show 0 ≤ sizeLine by decide), fun p2 n2 => ⟨(show 1 ≤ sizeLine by decide), fun q1 n1 => ?_⟩⟩
      have s2 := new_same (o := .tup []) n2
      have s1 := new_same (o := .lst [V.ref p2]) n1
      have t2 := stB.t.trans (same_tf (s2.trans s1))
      have dv : ∀ z : Int, CDivW z 4 := fun z => wide_div (b := 30) (by decide) (by decide) (by decide) (by decide)
      have e1 : (((G.rows.map V.str).length : Int) + 3) / 4 = (G.R : Int) := by rw [List.length_map]; unfold Gm.R; omega
      have e2 : (((G.rows[0]'hrl).length : Int) + 3) / 4 = (G.C : Int) := by rw [l0]; unfold Gm.C; omega
      refine ⟨_, rfl, g, _, _, _, rfl, rfl, t2.sq gs1, at_of (j := 0) rfl rfl, g0, _, _, _, rfl, rfl, t2.sq gs2, at_of (j := 0) rfl rfl, fl, _, rfl, .inr (t2.sq sq), _, _, rfl, rfl, _, _, rfl, rfl, dv _, ?_⟩
      refine ⟨_, rfl, g, _, _, _, rfl, rfl, t2.sq gs1, at_of (j := 0) rfl rfl, g0, _, _, _, rfl, rfl, t2.sq gs2, at_of (j := 0) rfl rfl, fl, _, _, _, rfl, rfl, t2.sq sq, atI_nat (j := 0) r0, _, rfl, Nat.le_trans (show (G.rows[0]'hrl).length ≤ 24 by omega) (by decide), _, _, rfl, rfl, _, _, rfl, rfl, dv _, ?_⟩
      dsimp only
      rw [e1, e2]
      refine ⟨_, _, rfl, rfl, wide_mul (a := 40) (b := 40) (small_ab (by omega) (by rw [pow40]; omega)) (small_ab (by omega) (by rw [pow40]; omega)) (by decide) (by decide) (by decide), ?_⟩
      have e3 : (G.R : Int) * (G.C : Int) = ((G.R * G.C : Nat) : Int) := by rw [Int.natCast_mul]
      dsimp only
      rw [e3]
      refine ⟨_, _, _, rfl, rfl, upd_same, by omega, by omega, by rw [Int.toNat_natCast]; exact Nat.le_trans (show [V.ref p2].length * (G.R * G.C) ≤ 1000 by rw [List.length_singleton]; omega) (by decide), fun q3 n3 => ?_⟩
      rw [Int.toNat_natCast, rep_flat]
      have s3 := new_same (o := .lst (List.replicate (G.R * G.C) (V.ref p2))) n3
      have s13 := (s2.trans s1).trans s3
      refine ⟨c0, q3, _, _, rfl, rfl, s13 _ _ hc0, upd_same, by simp [zl]; exact Nat.le_trans (show _ ≤ 1000 by omega) (by decide), fun c2 n4 => ?_⟩
      have s4 := new_same (o := .lst ((((List.replicate 16 .non ++ List.replicate 16 (.ref p1)) ++ [.int z]) ++ zs.map V.int) ++ List.replicate (G.R * G.C) (V.ref p2))) n4
      have stE := stB.same s13
      refine hR _ _ ⟨c2, _, rfl, stE.same s4, upd_same, cel0 ((same_tf (s13.trans s4)).sq hp1) ((same_tf ((s1.trans s3).trans s4)).sq (SqT.of upd_same)) hz zl hzs, stE.dk.ne n4, stw_none stE n4⟩
    clear stB hp1 hc0
    obtain ⟨c0, cs, rfl, stC, hc0, hcq, c0d, c0H⟩ := hP
    refine ⟨(show 0 ≤ sizeLine by decide), fun sl nsl => ?_⟩
    have ssl := new_same (o := .lst []) nsl
    have sld := stC.dk.ne nsl
    have slH := stw_none stC nsl
    have slc : c0 ≠ sl := fun e => by
      rw [e, nsl] at hc0
      cases hc0
    dsimp only
    -- the things
    refine seq_cut (fun σ' H' => ∃ (v5 v6 v7 : Option V) (cs : List V) (ss : List Nat), σ' = [some (.ref d), some (.ref g), some (.ref l), some (.ref c0), some (.ref sl), v5, v6, v7, none, none, none, none, none, none, none, none, none] ∧ StW d H H' (N + 800) ∧ H' c0 = some (.lst cs) ∧ CelQ K H' G cs 64 ∧ H' sl = some (.lst (nVs ss)) ∧ ss.length ≤ 16 ∧ ∀ s ∈ ss, s < 16 ∧ ∃ b, cs[s]? = some (V.ref b) ∧ ThE K H' G b) (fun σ' HD hP => ?_) (fun R hR => ?_)
    rotate_left
    · refine ⟨_, rfl, l, rfl, ⟨_, SqL.of ((stC.same ssl).f _ _ ld hl)⟩, ?_⟩
      refine for_it (walk_list (K := K) (a := l) (xs := ts.map V.ref)) (fun i σ' H' => ∃ (v5 v6 v7 : Option V) (cs : List V) (ss : List Nat), σ' = [some (.ref d), some (.ref g), some (.ref l), some (.ref c0), some (.ref sl), v5, v6, v7, none, none, none, none, none, none, none, none, none] ∧ StW d H H' (N + 900 - i) ∧ H' c0 = some (.lst cs) ∧ CelQ K H' G cs (4 * i) ∧ H' sl = some (.lst (nVs ss)) ∧ ss.length = i ∧ ∀ s ∈ ss, s < 16 ∧ ∃ b, cs[s]? = some (V.ref b) ∧ ThE K H' G b)
        ⟨_, _, _, cs, [], rfl, (stC.same ssl).le (by omega), ssl _ _ hc0, hcq.tf (same_tf ssl) (by omega), upd_same, rfl, fun _ q => (nomatch q)⟩ (fun i σ H' hi h => ?_) (fun i v σ H' Hx hi h yy => ?_) (fun σ H' h => ?_)
      · obtain ⟨v5, v6, v7, cs, ss, rfl, st, hc, hq, hs, hsl, hss⟩ := h
        exact SqL.of (st.f _ _ ld hl)
      rotate_left
      · obtain ⟨v5, v6, v7, cs, ss, rfl, st, hc, hq, hs, hsl, hss⟩ := h
        rw [List.length_map] at st hq hsl
        exact hR _ _ ⟨v5, v6, v7, cs, ss, rfl, st.le (by omega), hc, hq.tf (TF.refl _) (by omega), hs, by omega, hss⟩
      · obtain ⟨v5, v6, v7, cs, ss, rfl, st, hc, hq, hs, hsl, hss⟩ := h
        obtain ⟨rfl, hv⟩ := yy
        rw [List.length_map] at hi
        rw [List.getElem?_map, List.getElem?_eq_getElem hi] at hv
        cases hv
        have hta := hts _ (List.getElem_mem hi)
        generalize ts[i] = a at hta ⊢
        -- free
        refine seq_cut (fun σ' H' => ∃ (D : Addr) (fr : List Nat), σ' = [some (.ref d), some (.ref g), some (.ref l), some (.ref c0), some (.ref sl), some (.ref a), some (.ref D), v7, none, none, none, none, none, none, none, none, none] ∧ Same Hx H' ∧ D ≠ d ∧ H' D = some (.lst (nVs fr)) ∧ 0 < fr.length ∧ fr.length ≤ 16 ∧ ∀ s ∈ fr, s < 16) (fun σ' H2 hP => ?_) (fun R hR => ?_)
        rotate_left
        · refine ⟨_, rfl, by decide, by decide, fun D hD => ?_⟩
          refine lc_range (lo := 0) (n := 16) (fun j Hy => ∃ fr : List Nat, Same Hx Hy ∧ Hy D = some (.lst (nVs fr)) ∧ fr.length ≤ j ∧ (∀ s, s < j → s ∉ ss → s ∈ fr) ∧ ∀ s ∈ fr, s < 16) ⟨[], new_same hD, upd_same, Nat.le_refl _, fun s hs => absurd hs (by omega), fun _ q => (nomatch q)⟩ (fun j Hy hj h => ?_) (fun Hy h => ?_)
          · obtain ⟨fr, sm, hf, hfl, hf1, hf2⟩ := h
            refine ⟨rfl, _, rfl, _, rfl, sl, _, rfl, .inl (SqL.of (sm _ _ hs)), rfl, nVs_flat _, _, rfl, ite2 (fun _ => ?_) (fun z => ⟨fr, sm, hf, by omega, fun s hs2 hn => ?_, hf2⟩)⟩
            · refine ⟨_, rfl, _, hf, Nat.lt_of_le_of_lt (show (nVs fr).length ≤ 1000 by rw [nVs_len]; omega) (by decide), fr ++ [j], frm_same sm hD Frm.of_upd, by rw [nVs_app, Int.zero_add]; exact upd_same, by simp; omega, fun s hs2 hn => ?_, fun s hs2 => ?_⟩
              · by_cases e : s = j
                · rw [e]
                  exact List.mem_append_right _ (List.mem_singleton.mpr rfl)
                · exact List.mem_append_left _ (hf1 s (by omega) hn)
              · rcases List.mem_append.mp hs2 with h | h
                · exact hf2 s h
                · rw [List.mem_singleton.mp h]
                  exact hj
            · by_cases e : s = j
              · subst e
                rw [Int.zero_add] at z
                exact absurd (show (!inV (V.int (s : Int)) (nVs ss)) = true by rw [inV_no hn]; rfl) z
              · exact hf1 s (by omega) hn
          · obtain ⟨fr, sm, hf, hfl, hf1, hf2⟩ := h
            refine hR _ _ ⟨D, fr, rfl, sm, st.dk.ne hD, hf, ?_, by omega, hf2⟩
            by_cases e : ∃ s, s < 16 ∧ s ∉ ss
            · obtain ⟨s, h1, h2⟩ := e
              exact List.length_pos_of_mem (hf1 s h1 h2)
            · have := pig 16 ss fun s hs2 => by
                by_cases q : s ∈ ss
                · exact q
                · exact absurd ⟨s, hs2, q⟩ e
              omega
        obtain ⟨D, fr, rfl, s2, Dd, hD, fr0, fr16, hfr⟩ := hP
        have st2 := st.same s2
        have hs2 := s2 _ _ hs
        have hc2 := s2 _ _ hc
        refine seq_cut (fun σ' H' => ∃ (s : Nat), σ' = [some (.ref d), some (.ref g), some (.ref l), some (.ref c0), some (.ref sl), some (.ref a), some (.ref D), v7, none, none, none, none, none, none, none, none, none] ∧ s < 16 ∧ StW d H H' (N + 900 - (i + 1)) ∧ H' sl = some (.lst (nVs ss ++ [V.int (s : Int)])) ∧ H' c0 = some (.lst cs) ∧ TF Hx H') (fun σ' H3 hP => ?_) (fun R hR => ?_)
        rotate_left
        · refine ⟨_, rfl, .inl ⟨rfl, _, SqL.of hs2⟩, _, rfl, _, rfl, _, rfl, D, _, rfl, .inl (SqL.of hD), d, _, N + 900 - (i + 1), rfl, (by show (0 : Int) < ((nVs fr).length : Int); rw [nVs_len]; omega), (by show ((nVs fr).length : Int) < 1267650600228229401496703205376; rw [nVs_len]; omega), st2.dk.le (by omega), fun x H4 x0 x1 f4 d4 => ?_⟩
          obtain ⟨X, rfl⟩ := Int.eq_ofNat_of_zero_le x0
          rw [nVs_len] at x1
          have hX : X < fr.length := by omega
          have eX : (nVs fr)[X]? = some (.int (fr[X] : Int)) := by unfold nVs; rw [List.getElem?_map, List.getElem?_eq_getElem hX]; rfl
          have hs4 := f4 _ _ sld hs2
          have st4 := st2.take f4 d4
          have st5 := st4.putL (ys := nVs ss ++ [V.int (fr[X] : Int)]) slH hs4 sld
          refine ⟨D, _, _, _, rfl, rfl, SqL.of (f4 _ _ Dd hD), atI_nat eX, sl, _, _, rfl, rfl, hs4, Nat.lt_of_le_of_lt (show (nVs ss).length ≤ 1000 by rw [nVs_len]; omega) (by decide), hR _ _ ⟨fr[X], rfl, hfr _ (List.getElem_mem hX), st5, upd_same, ?_, ?_⟩⟩
          · rw [upd_ne slc]
            exact f4 _ _ c0d hc2
          · exact ((same_tf s2).trans (st2.dk.tf f4)).trans (Frm.tf (Frm.of_upd (d := sl)) hs4)
        obtain ⟨s, rfl, s16, st3, hs3, hc3, t3⟩ := hP
        have e1 : nVs ss ++ [V.int (s : Int)] = nVs (ss ++ [s]) := by rw [nVs_app]; rfl
        have hq3 := hq.tf t3 (Nat.le_refl _)
        have hta3 := hta.tf st3.t
        have cl3 := hq3.len
        refine ⟨_, rfl, _, rfl, _, rfl, _, rfl, sl, _, _, _, rfl, rfl, SqL.of hs3, atI_last _ _, c0, cs, _, s, rfl, rfl, hc3, Evl.ixN_nat (by omega), ?_⟩
        have st4 := st3.putL (ys := cs.set s (.ref a)) c0H hc3 c0d
        have t34 := Frm.tf (Frm.of_upd (d := c0) (o := .lst (cs.set s (.ref a)))) hc3
        have hs4 : (upd H3 c0 (.lst (cs.set s (.ref a)))) sl = some (.lst (nVs (ss ++ [s]))) := by rw [upd_ne (Ne.symm slc), ← e1]; exact hs3
        have hc4 : (upd H3 c0 (.lst (cs.set s (.ref a)))) c0 = some (.lst (cs.set s (.ref a))) := upd_same
        have hta4 := hta3.tf t34
        have hq4 := (hq3.tf t34 (Nat.le_refl _)).setS s16 hta4
        have hss4 : ∀ q ∈ ss ++ [s], q < 16 ∧ ∃ b, (cs.set s (.ref a))[q]? = some (V.ref b) ∧ ThE K (upd H3 c0 (.lst (cs.set s (.ref a)))) G b := fun q hq5 => by
          rcases List.mem_append.mp hq5 with h | h
          · obtain ⟨h1, b, h2, h3⟩ := hss q h
            exact ⟨h1, set_th (by omega) hta4 ⟨b, h2, h3.tf (t3.trans t34)⟩⟩
          · rw [List.mem_singleton.mp h]
            exact ⟨s16, a, List.getElem?_set_self (by omega), hta4⟩
        generalize cs.set s (.ref a) = cs4 at st4 hs4 hc4 hq4 hss4 hta4 t34 ⊢
        generalize upd H3 c0 _ = H4 at st4 hs4 hc4 hq4 hss4 hta4 t34 ⊢
        clear hq3 cl3 hs3 hc3 st3 st2 hs2 hc2 hss hq hs hc st
        obtain ⟨h, hth, hidx⟩ := id hta4
        have hg4 := hg.tf st4.t
        refine ⟨_, rfl, _, rfl, _, rfl, g, a, G, h, _, rfl, hg4, hth, kd_of hidx, fun qa qb p H5 s5 sp5 => ?_⟩
        have bx := bx_th (H' := H5) (p := p) hth qa qb sp5
        refine ⟨g, p, G, _, _, _, _, rfl, hg4.tf (same_tf s5), bx, fun l2 bs H6 l2n s6 hl2 hbl hbs => ⟨l2, rfl, ⟨_, SqL.of hl2⟩, ?_⟩⟩
        have s5_ := s5
        have s56 := s5.trans s6
        have l2d := (st4.dk.same s5)
        refine for_it (walk_list (K := K) (a := l2) (xs := nVs bs)) (fun j σ' H' => ∃ (v7 : Option V) (cs : List V), σ' = [some (.ref d), some (.ref g), some (.ref l), some (.ref c0), some (.ref sl), some (.ref a), some (.ref D), v7, none, none, none, none, none, none, none, none, none] ∧ StW d H H' (N + 900 - (i + 1)) ∧ H' c0 = some (.lst cs) ∧ CelQ K H' G cs (4 * i + j) ∧ H' sl = some (.lst (nVs (ss ++ [s]))) ∧ H' l2 = some (.lst (nVs bs)) ∧ ∀ q ∈ ss ++ [s], q < 16 ∧ ∃ b, cs[q]? = some (V.ref b) ∧ ThE K H' G b)
          ⟨_, cs4, rfl, st4.same s56, s56 _ _ hc4, hq4.tf (same_tf s56) (by omega), s56 _ _ hs4, hl2, fun q hq5 => ?_⟩ (fun j σ H' hj h => ?_) (fun j v σ H' Hy hj h yy => ?_) (fun σ H' h => ?_)
        · obtain ⟨h1, b, h2, h3⟩ := hss4 q hq5
          exact ⟨h1, b, h2, h3.tf (same_tf s56)⟩
        · obtain ⟨v7, cs, rfl, st, hc, hq, hs, hl, hss⟩ := h
          exact SqL.of hl
        · obtain ⟨v7, cs, rfl, st, hc, hq, hs, hl, hss⟩ := h
          obtain ⟨rfl, hv⟩ := yy
          rw [nVs_len] at hj
          obtain ⟨c, hcm, rfl⟩ := nVs_get hv
          obtain ⟨c1, c2⟩ := hbs c hcm
          have hcl := hq.len
          obtain ⟨q, ns, e, sq, hnl, hns⟩ := hq.bkt c c1 (by omega)
          refine ⟨_, rfl, _, rfl, c0, _, _, _, rfl, rfl, SqL.of hc, atI_nat e, q, _, rfl, .inr sq, fun q1 n1 => ?_⟩
          have s1 := new_same (o := .lst (nVs ns)) n1
          refine ⟨_, rfl, _, rfl, sl, _, _, _, rfl, rfl, SqL.of (s1 _ _ hs), (by rw [nVs_app]; exact atI_last _ _), (show 1 ≤ sizeLine by decide), fun q2 n2 => ?_⟩
          have s2 := new_same (o := .lst [V.int (s : Int)]) n2
          refine ⟨q1, q2, _, _, rfl, rfl, s2 _ _ upd_same, upd_same, Nat.le_trans (show (nVs ns).length + 1 ≤ 1000 by rw [nVs_len]; omega) (by decide), fun q3 n3 => ?_⟩
          have s3 := new_same (o := .lst (nVs ns ++ [V.int (s : Int)])) n3
          have e2 : nVs ns ++ [V.int (s : Int)] = ((ns ++ [s]).map fun (b : Nat) => (b : Int)).map V.int := by
            rw [← nVs_int, nVs_app]
            rfl
          refine ⟨q3, _, rfl, SqL.of (by rw [← e2]; exact upd_same), fun ns' q4 perm _ n4 => ?_⟩
          obtain ⟨qs, e3, hql, hqs⟩ := nat_perm perm
          rw [e3]
          have s4 := new_same (o := .lst (nVs qs)) n4
          refine ⟨q4, _, rfl, .inl ⟨SqL.of upd_same, fun t nt => ?_⟩⟩
          have s5 := new_same (o := .tup (nVs qs)) nt
          have sA := ((s1.trans s2).trans (s3.trans s4)).trans s5
          have stA := st.same sA
          have hcA := sA _ _ hc
          refine ⟨_, rfl, _, rfl, c0, cs, _, c, rfl, rfl, hcA, Evl.ixN_nat (by omega), ?_⟩
          have stB := stA.putL (ys := cs.set c (.ref t)) c0H hcA c0d
          have tB := Frm.tf (Frm.of_upd (d := c0) (o := .lst (cs.set c (.ref t)))) hcA
          have tAB := (same_tf sA).trans tB
          have l2c : l2 ≠ c0 := fun e5 => by
            have := s5_ _ _ hc4
            rw [← e5, l2n] at this
            cases this
          have hssA : ∀ k ∈ ss ++ [s], k < 16 ∧ ∃ b, cs[k]? = some (V.ref b) ∧ ThE K (upd _ c0 (.lst (cs.set c (.ref t)))) G b := fun k hk => by
            obtain ⟨h1, b, h2, h3⟩ := hss k hk
            exact ⟨h1, b, h2, h3.tf tAB⟩
          refine ⟨_, _, rfl, stB, upd_same, (hq.tf tAB (Nat.le_refl _)).setB c1 (by omega) (tB.sq (SqT.of upd_same)) (by rw [hql]; simp; omega) (fun k hk => ?_), ?_, ?_, fun k hk => ?_⟩
          · rcases List.mem_append.mp (hqs k hk) with h | h
            · obtain ⟨h1, b, h2, h3⟩ := hns k h
              exact ⟨h1, b, h2, h3.tf tAB⟩
            · rw [List.mem_singleton.mp h]
              exact hssA s (List.mem_append_right _ (List.mem_singleton.mpr rfl))
          · rw [upd_ne (Ne.symm slc)]
            exact sA _ _ hs
          · rw [upd_ne l2c]
            exact sA _ _ hl
          · obtain ⟨h1, b, h2, h3⟩ := hssA k hk
            exact ⟨h1, b, by rw [List.getElem?_set_ne (by omega)]; exact h2, h3⟩
        · obtain ⟨v7, cs, rfl, st, hc, hq, hs, hl, hss⟩ := h
          rw [nVs_len] at hq
          exact ⟨_, _, _, cs, ss ++ [s], rfl, st, hc, hq.tf (TF.refl _) (by omega), hs, by simp [hsl], hss⟩
    obtain ⟨v5, v6, v7, cs0, ss, rfl, stD, hcD, hqD, hsD, hsl, hssD⟩ := hP
    clear hc0 hcq ssl nsl stC
    -- meets, held
    refine seq_cut (fun σ' H' => ∃ mt : Int, σ' = [some (.ref d), some (.ref g), some (.ref l), some (.ref c0), some (.ref sl), v5, v6, v7, some (.int mt), none, none, none, none, none, none, none, none] ∧ StW d H H' (N + 790) ∧ H' c0 = some (.lst cs0) ∧ H' sl = some (.lst (nVs ss)) ∧ TF HD H') (fun σ' HE hP => ?_) (fun R hR => ?_)
    rotate_left
    · exact ⟨_, rfl, d, 2, N + 790, rfl, by decide, by decide, stD.dk.le (by omega), fun x H1 x0 x1 f1 d1 => hR _ _ ⟨x, rfl, stD.take f1 d1, f1 _ _ c0d hcD, f1 _ _ sld hsD, stD.dk.tf f1⟩⟩
    obtain ⟨mt, rfl, stE, hcE, hsE, tE⟩ := hP
    refine ⟨_, rfl, _, rfl, c0, _, rfl, .inl (SqL.of hcE), fun c2 n2 => fun dt nd => ⟨(show 3 ≤ sizeLine by decide), fun hd nh => ?_⟩⟩
    have s1 := new_same (o := .lst cs0) n2
    have s2 := new_same (o := .dK []) nd
    have s3 := new_same (o := .lst [V.ref g, .ref c2, .ref dt]) nh
    have c2d := stE.dk.ne n2
    have dtd := (stE.same s1).dk.ne nd
    have hdd := ((stE.same s1).same s2).dk.ne nh
    have dtH := stw_none (stE.same s1) nd
    have ne_c0 : ∀ {H' : Hp} {b : Addr}, H' c0 = some (.lst cs0) → H' b = none → b ≠ c0 := fun h1 h2 e => by
      rw [e, h1] at h2
      cases h2
    have c2c := ne_c0 hcE n2
    have dtc := ne_c0 (s1 _ _ hcE) nd
    have hdc := ne_c0 (s2 _ _ (s1 _ _ hcE)) nh
    have ne_sl : ∀ {H' : Hp} {b : Addr}, H' sl = some (.lst (nVs ss)) → H' b = none → b ≠ sl := fun h1 h2 e => by
      rw [e, h1] at h2
      cases h2
    have dts := ne_sl (s1 _ _ hsE) nd
    have s13 := (s1.trans s2).trans s3
    have hh0 : HdR (upd (upd (upd HE c2 (.lst cs0)) dt (.dK [])) hd (.lst [V.ref g, .ref c2, .ref dt])) hd g c2 dt cs0 0 := ⟨upd_same, s3 _ _ (s2 _ _ upd_same), [], s3 _ _ upd_same, Nat.le_refl _⟩
    have stF := stE.same s13
    have hcF := s13 _ _ hcE
    have hsF := s13 _ _ hsE
    have hqF := hqD.tf (tE.trans (same_tf s13)) (Nat.le_refl _)
    have hssF : ∀ s ∈ ss, s < 16 ∧ ∃ b, cs0[s]? = some (V.ref b) ∧ ThE K (upd (upd (upd HE c2 (.lst cs0)) dt (.dK [])) hd (.lst [V.ref g, .ref c2, .ref dt])) G b := fun s hs => by
      obtain ⟨h1, b, h2, h3⟩ := hssD s hs
      exact ⟨h1, b, h2, h3.tf (tE.trans (same_tf s13))⟩
    dsimp only
    generalize upd (upd (upd HE c2 _) dt _) hd _ = HF at hh0 stF hcF hsF hqF hssF ⊢
    clear s1 s2 s3 s13 nh nd n2 stD hcD hqD hsD hssD stE hcE hsE tE
    refine seq_cut (fun σ' H' => ∃ (v10 v11 v12 v13 v14 v15 : Option V) (cs : List V), σ' = [some (.ref d), some (.ref g), some (.ref l), some (.ref c0), some (.ref sl), v5, v6, v7, some (.int mt), some (.ref hd), v10, v11, v12, v13, v14, v15, none] ∧ StW d H H' (N + 300) ∧ H' c0 = some (.lst cs) ∧ CelQ K H' G cs 64) (fun σ' HG hP => ?_) (fun R hR => ?_)
    rotate_left
    · refine ⟨_, rfl, sl, rfl, ⟨_, SqL.of hsF⟩, ?_⟩
      refine for_it (walk_list (K := K) (a := sl) (xs := nVs ss)) (fun i σ' H' => ∃ (v10 v11 v12 v13 v14 v15 : Option V) (cs : List V), σ' = [some (.ref d), some (.ref g), some (.ref l), some (.ref c0), some (.ref sl), v5, v6, v7, some (.int mt), some (.ref hd), v10, v11, v12, v13, v14, v15, none] ∧ StW d H H' (N + 790 - 10 * i) ∧ TF HF H' ∧ H' c0 = some (.lst cs) ∧ CelQ K H' G cs 64 ∧ H' sl = some (.lst (nVs ss)) ∧ HdR H' hd g c2 dt cs0 (4000 * i) ∧ ∀ s ∈ ss, s < 16 ∧ ∃ b, cs[s]? = some (V.ref b) ∧ ThE K H' G b)
        ⟨_, _, _, _, _, _, cs0, rfl, stF.le (by omega), TF.refl _, hcF, hqF, hsF, hh0.le (by omega), hssF⟩ (fun i σ H' hi h => ?_) (fun i v σ H' Hx hi h yy => ?_) (fun σ H' h => ?_)
      · obtain ⟨v10, v11, v12, v13, v14, v15, cs, rfl, st, tf, hc, hq, hs, hh, hss⟩ := h
        exact SqL.of hs
      rotate_left
      · obtain ⟨v10, v11, v12, v13, v14, v15, cs, rfl, st, tf, hc, hq, hs, hh, hss⟩ := h
        rw [nVs_len] at st
        exact hR _ _ ⟨v10, v11, v12, v13, v14, v15, cs, rfl, st.le (by omega), hc, hq⟩
      · obtain ⟨v10, v11, v12, v13, v14, v15, cs, rfl, st, tf, hc, hq, hs, hh, hss⟩ := h
        obtain ⟨rfl, hv⟩ := yy
        rw [nVs_len] at hi
        obtain ⟨s, hsm, rfl⟩ := nVs_get hv
        obtain ⟨s16, a, ea, hta⟩ := hss s hsm
        obtain ⟨_, a0, ea0, hta0⟩ := hssF s hsm
        obtain ⟨h, hth, hidx⟩ := id hta
        have hcl := hq.len
        refine seq_cut (fun σ' H' => ∃ (wd hgt : Int), σ' = [some (.ref d), some (.ref g), some (.ref l), some (.ref c0), some (.ref sl), v5, v6, v7, some (.int mt), some (.ref hd), some (.int (s : Int)), some (.int h.x), some (.int h.y), some (.int wd), some (.int hgt), v15, none] ∧ 1 ≤ wd ∧ wd ≤ 16 ∧ 1 ≤ hgt ∧ hgt ≤ 16 ∧ Same Hx H') (fun σ' H2 hP => ?_) (fun R hR => ?_)
        rotate_left
        · refine ⟨_, rfl, _, rfl, _, rfl, c0, _, _, _, rfl, rfl, SqL.of hc, atI_nat ea, g, a, G, h, _, rfl, hg.tf st.t, hth, kd_of hidx, fun qa qb p H1 s1 sp => ?_⟩
          exact ⟨p, _, rfl, sp, rfl, _, _, rfl, _, _, rfl, _, _, rfl, _, _, rfl, rfl, hR _ _ ⟨_, _, rfl, qa.1, qa.2, qb.1, qb.2, s1⟩⟩
        obtain ⟨wd, hgt, rfl, wd1, wd16, hg1, hg16, s2⟩ := hP
        have st2 := st.same s2
        have tf2 := tf.trans (same_tf s2)
        have hc2 := s2 _ _ hc
        have hs2 := s2 _ _ hs
        have hh2 := hh.same (n := 4000 * i) s2 (Nat.le_refl _)
        -- rest
        refine seq_cut (fun σ' H' => ∃ (r : Int), σ' = [some (.ref d), some (.ref g), some (.ref l), some (.ref c0), some (.ref sl), v5, v6, v7, some (.int mt), some (.ref hd), some (.int (s : Int)), some (.int h.x), some (.int h.y), some (.int wd), some (.int hgt), some (.int r), none] ∧ r.natAbs < 100000 ∧ StW d H H' (N + 780 - 10 * i) ∧ TF Hx H' ∧ H' c0 = some (.lst cs) ∧ H' sl = some (.lst (nVs ss)) ∧ HdR H' hd g c2 dt cs0 (4000 * i + 3000)) (fun σ' H3 hP => ?_) (fun R hR => ?_)
        rotate_left
        · refine ⟨_, rfl, d, 5, N + 781 - 10 * i, rfl, by decide, by decide, st2.dk.le (by omega), fun x H4 x0 x1 f4 d4 => ?_⟩
          have st4 := st2.take f4 d4
          have t24 := st2.dk.tf f4
          have hc4 := f4 _ _ c0d hc2
          have hs4 := f4 _ _ sld hs2
          have hh4 := hh2.frm f4 hdd c2d dtd
          refine ⟨_, _, rfl, rfl, _, rfl, ite2 (fun _ => ?_) (fun _ => ?_)⟩
          · refine ⟨_, rfl, _, rfl, hd, g, c2, dt, G, cs0, 4000 * i, s, a0, rfl, hh4, by omega, hg.tf st4.t, (hqF.r (by omega)).tf (tf2.trans t24), ea0, hta0.tf (tf2.trans t24), fun r H5 f5 t5 hh5 r1 r2 => ?_⟩
            exact hR _ _ ⟨r, rfl, by omega, (st4.frmD dtH dtd f5 t5).le (by omega), ((same_tf s2).trans t24).trans t5, f5 _ _ (Ne.symm dtc) hc4, f5 _ _ (Ne.symm dts) hs4, hh5⟩
          · exact ⟨_, rfl, d, 18, N + 780 - 10 * i, rfl, by decide, by decide, d4.le (by omega), fun y H5 y0 y1 f5 d5 => ⟨_, _, rfl, rfl, hR _ _ ⟨_, rfl, by omega, st4.take f5 d5, ((same_tf s2).trans t24).trans (d4.tf f5), f5 _ _ c0d hc4, f5 _ _ sld hs4, (hh4.frm f5 hdd c2d dtd).le (by omega)⟩⟩⟩
        clear st2 tf2 hc2 hs2 hh2 s2
        obtain ⟨r, rfl, rb, st3, t3, hc3, hs3, hh3⟩ := hP
        -- the cell
        have hth3 := hth.tf t3
        obtain ⟨⟨o, q1, q2⟩, q3, q4⟩ := hth3
        refine seq_cut (fun σ' H' => ∃ (cs : List V), σ' = [some (.ref d), some (.ref g), some (.ref l), some (.ref c0), some (.ref sl), v5, v6, v7, some (.int mt), some (.ref hd), some (.int (s : Int)), some (.int h.x), some (.int h.y), some (.int wd), some (.int hgt), some (.int r), none] ∧ StW d H H' (N + 780 - 10 * i) ∧ TF Hx H' ∧ H' c0 = some (.lst cs) ∧ CelQ K H' G cs 64 ∧ H' sl = some (.lst (nVs ss)) ∧ HdR H' hd g c2 dt cs0 (4000 * i + 3000) ∧ ∀ s ∈ ss, s < 16 ∧ ∃ b, cs[s]? = some (V.ref b) ∧ ThE K H' G b) (fun σ' H4 hP => ?_) (fun R hR => ?_)
        rotate_left
        · refine ⟨_, rfl, _, rfl, c0, _, _, _, rfl, rfl, SqL.of hc3, atI_nat ea, _, rfl, a, _, rfl, q1, fun hw => absurd hw.2 (by show ¬ HT.sIx 8 8 (some 6) = 8; decide), fun _ p np => ?_⟩
          have s1 := new_same (o := .tup (cutV [V.int (h.idx : Int), .int h.ho, .int h.x, .int h.y, .int h.dx, .int h.dy, .int h.re, .ref o] none (some 6))) np
          refine ⟨_, rfl, (show 1 ≤ sizeLine by decide), fun p2 np2 => ?_⟩
          have s2 := new_same (o := .tup [V.int r]) np2
          refine ⟨p, p2, [V.int (h.idx : Int), .int h.ho, .int h.x, .int h.y, .int h.dx, .int h.dy], _, rfl, rfl, (same_tf s2).sq (SqT.of upd_same), SqT.of upd_same, List.cons_ne_nil _ _, (Nat.le_of_ble_eq_true rfl : _ ≤ sizeLine), fun z => absurd z (List.cons_ne_nil _ _), fun _ p3 np3 => ?_⟩
          have s3 := new_same (o := .tup ([V.int (h.idx : Int), .int h.ho, .int h.x, .int h.y, .int h.dx, .int h.dy] ++ [V.int r])) np3
          have s13 := (s1.trans s2).trans s3
          refine ⟨_, rfl, _, rfl, c0, _, _, _, rfl, rfl, SqL.of (s13 _ _ hc3), atI_nat ea, _, rfl, a, _, rfl, (same_tf s13).sq q1, fun hw => absurd hw.1 (by show ¬ HT.sIx 8 0 (some 7) = 0; decide), fun _ p4 np4 => ?_⟩
          have s4 := new_same (o := .tup (cutV [V.int (h.idx : Int), .int h.ho, .int h.x, .int h.y, .int h.dx, .int h.dy, .int h.re, .ref o] (some 7) none)) np4
          refine ⟨p3, p4, [V.int (h.idx : Int), .int h.ho, .int h.x, .int h.y, .int h.dx, .int h.dy, .int r], [V.ref o], rfl, rfl, (same_tf s4).sq (SqT.of upd_same), SqT.of upd_same, List.cons_ne_nil _ _, (Nat.le_of_ble_eq_true rfl : _ ≤ sizeLine), fun z => absurd z (List.cons_ne_nil _ _), fun _ p5 np5 => ?_⟩
          have s5 := new_same (o := .tup ([V.int (h.idx : Int), .int h.ho, .int h.x, .int h.y, .int h.dx, .int h.dy, .int r] ++ [V.ref o])) np5
          have sA := (s13.trans s4).trans s5
          have hcA := sA _ _ hc3
          refine ⟨_, rfl, _, rfl, c0, cs, _, s, rfl, rfl, hcA, Evl.ixN_nat (by omega), hR _ _ ⟨cs.set s (.ref p5), rfl, (st3.same sA).putL c0H hcA c0d, ?_⟩⟩
          have tB := Frm.tf (Frm.of_upd (d := c0) (o := .lst (cs.set s (.ref p5)))) hcA
          have tAB := (t3.trans (same_tf sA)).trans tB
          have hnew : ThE K (upd (upd _ p5 (.tup ([V.int (h.idx : Int), .int h.ho, .int h.x, .int h.y, .int h.dx, .int h.dy, .int r] ++ [V.ref o]))) c0 (.lst (cs.set s (.ref p5)))) G p5 :=
            ⟨⟨h.idx, h.ho, h.x, h.y, h.dx, h.dy, r, h.own⟩, ⟨⟨o, tB.sq (SqT.of upd_same), ((same_tf sA).trans tB).sq q2⟩, q3, q4.1, q4.2.1, q4.2.2.1, q4.2.2.2.1, q4.2.2.2.2.1, rb, q4.2.2.2.2.2.2⟩, hidx⟩
          refine ⟨tAB, upd_same, (hq.tf tAB (Nat.le_refl _)).setS s16 hnew, by rw [upd_ne (Ne.symm slc)]; exact sA _ _ hs3, (hh3.same sA (Nat.le_refl _)).frm Frm.of_upd hdc c2c dtc, fun q hq5 => ?_⟩
          obtain ⟨h1, b, h2, h3⟩ := hss q hq5
          exact ⟨h1, set_th (by omega) hnew ⟨b, h2, h3.tf tAB⟩⟩
        clear st3 t3 hc3 hs3 hh3 q1 q2 q3 q4 hq hcl hc hs hss st hh ea
        obtain ⟨cs, rfl, st4, t4, hc4, hq4, hs4, hh4, hss4⟩ := hP
        have sm := hth.sm
        have tf4 := tf.trans t4
        refine ⟨_, rfl, rfl, _, rfl, ite2 (fun _ => ?_) (fun _ => ⟨_, _, _, _, _, _, cs, rfl, st4.le (by omega), tf4, hc4, hq4, hs4, hh4.le (by omega), hss4⟩)⟩
        refine ⟨_, rfl, _, rfl, _, _, rfl, rfl, _, rfl, _, _, rfl, rfl, _, rfl, _, _, rfl, rfl, _, rfl, _, _, rfl, rfl, (show 4 ≤ sizeLine by decide), fun p np => ⟨_, rfl, (show 1 ≤ sizeLine by decide), fun q nq => ?_⟩⟩
        have s1 := new_same (o := .tup [V.int (h.x - 1), .int (h.y - 1), .int (wd + 2), .int (hgt + 2)]) np
        have s2 := new_same (o := .lst [V.int (s : Int)]) nq
        have s12 := s1.trans s2
        have st5 := st4.same s12
        refine ⟨hd, g, c2, dt, p, q, G, cs0, 4000 * i + 3000, h.x - 1, h.y - 1, wd + 2, hgt + 2, [s], rfl, hh4.same s12 (Nat.le_refl _), by omega, hg.tf st5.t, (hqF.r (by omega)).tf (tf4.trans (same_tf s12)), ⟨(same_tf s2).sq (SqT.of upd_same), by omega, by omega, by omega⟩, upd_same, fun lm ms H5 f5 t5 hh5 hl5 hml hms => ⟨lm, _, rfl, .inl ⟨SqL.of hl5, fun t nt => ?_⟩⟩⟩
        have s3 := new_same (o := .tup (nVs ms)) nt
        have st6 := (st5.frmD dtH dtd f5 t5).same s3
        have hc6 := s3 _ _ (f5 _ _ (Ne.symm dtc) (s12 _ _ hc4))
        have hs6 := s3 _ _ (f5 _ _ (Ne.symm dts) (s12 _ _ hs4))
        have t46 := ((same_tf s12).trans t5).trans (same_tf s3)
        have hcl := hq4.len
        refine ⟨_, rfl, _, rfl, _, _, rfl, rfl, c0, cs, _, 16 + s, rfl, rfl, hc6, (by rw [show (16 : Int) + (s : Int) = ((16 + s : Nat) : Int) by omega]; exact Evl.ixN_nat (by omega)), ?_⟩
        have tB := Frm.tf (Frm.of_upd (d := c0) (o := .lst (cs.set (16 + s) (.ref t)))) hc6
        refine ⟨_, _, _, _, _, _, _, rfl, (st6.putL c0H hc6 c0d).le (by omega), tf4.trans (t46.trans tB), upd_same, (hq4.tf (t46.trans tB) (Nat.le_refl _)).setM (by omega) (by omega) (tB.sq (SqT.of upd_same)) (by omega) (fun n hn => (hms n hn).1), by rw [upd_ne (Ne.symm slc)]; exact hs6, ((hh5.same s3 (Nat.le_refl _)).frm Frm.of_upd hdc c2c dtc).le (by omega), fun k hk => ?_⟩
        obtain ⟨h1, b, h2, h3⟩ := hss4 k hk
        exact ⟨h1, b, by rw [List.getElem?_set_ne (by omega)]; exact h2, h3.tf (t46.trans tB)⟩
    obtain ⟨v10, v11, v12, v13, v14, v15, cs, rfl, stG, hcG, hqG⟩ := hP
    exact ⟨_, rfl, c0, _, rfl, .inl ⟨SqL.of hcG, fun t nt => k t cs _ (stG.same (new_same nt)).f ((stG.same (new_same nt)).dk.le (by omega)) (SqT.of upd_same) ((hqG.r (by omega)).tf (same_tf (new_same nt)))⟩⟩
end
end K44
set_option maxRecDepth 100000
set_option maxHeartbeats 4000000
/-! A world with cells other. -/
namespace K44
open PySem PySem.Spec PyProof.Rows L2 KF KD
theorem CelQ.setN {K : PySem.W.Frag} {H : Hp} {G : Gm} {cs : List V} {b c : Nat} {z : Int} (h : CelQ K H G cs b) (c1 : 32 ≤ c) (c2 : c < 49) (hz : z.natAbs < 1000000000) : CelQ K H G (cs.set c (.int z)) b := by
  have hl := h.len
  have oth : ∀ i, i ≠ c → (cs.set c (.int z))[i]? = cs[i]? := fun i hi => List.getElem?_set_ne (by omega)
  refine ⟨by rw [List.length_set]; exact h.len, fun i hi => by rw [oth i (by omega)]; exact h.slot i hi, fun i i1 i2 => by rw [oth i (by omega)]; exact h.met i i1 i2, fun i i1 i2 => ?_, fun i i1 i2 => ?_⟩
  · by_cases e : i = c
    · subst e
      exact ⟨z, List.getElem?_set_self (by omega), hz⟩
    · rw [oth i e]
      exact h.num i i1 i2
  · rw [List.length_set] at i2
    obtain ⟨a, ns, e1, q, l, r⟩ := h.bkt i i1 i2
    refine ⟨a, ns, by rw [oth i (by omega)]; exact e1, q, l, fun n hn => ?_⟩
    obtain ⟨r1, b, r2, r3⟩ := r n hn
    exact ⟨r1, b, by rw [oth n (by omega)]; exact r2, r3⟩
theorem CelR.q {K : PySem.W.Frag} {H : Hp} {G : Gm} {cs : List V} (h : CelR K H G cs) : CelQ K H G cs 64 := ⟨h.len, h.slot, h.met, h.num, h.bkt⟩
def Kp (K : PySem.W.Frag) (H : Hp) (G : Gm) (cs0 cs : List V) : Prop := ∀ s, s < 16 → (∃ b, cs0[s]? = some (V.ref b)) → ∃ b, cs[s]? = some (V.ref b) ∧ ThE K H G b
theorem Kp.tf {K : PySem.W.Frag} {H H' : Hp} {G : Gm} {cs0 cs : List V} (t : TF H H') (h : Kp K H G cs0 cs) : Kp K H' G cs0 cs := fun s hs hb => by
  obtain ⟨b, e, r⟩ := h s hs hb
  exact ⟨b, e, r.tf t⟩
theorem Kp.setO {K : PySem.W.Frag} {H : Hp} {G : Gm} {cs0 cs : List V} {c : Nat} {v : V} (h : Kp K H G cs0 cs) (hc : 16 ≤ c) : Kp K H G cs0 (cs.set c v) := fun s hs hb => by
  rw [List.getElem?_set_ne (by omega)]
  exact h s hs hb
theorem Kp.setS {K : PySem.W.Frag} {H : Hp} {G : Gm} {cs0 cs : List V} {c : Nat} {a : Addr} (h : Kp K H G cs0 cs) (hc : c < cs.length) (ha : ThE K H G a) : Kp K H G cs0 (cs.set c (.ref a)) := fun s hs hb => set_th hc ha (h s hs hb)
section
variable {P : Program} {w : World} {K : PySem.W.Frag} {mg : Str → Option Value} {base : Heap}
def spCg (K : PySem.W.Frag) : Sp := fun vs H Q _ => ∃ (d t : Addr) (G : Gm) (cs : List V) (n : Nat), vs = [.ref d, .ref t] ∧ Dk H d (n + 20) ∧ SqT K H t cs ∧ CelR K H G cs ∧
  ∀ t' cs' H', Frm d H H' → Dk H' d n → SqT K H' t' cs' → CelR K H' G cs' → Q (.ref t') H'
theorem scCg : FnScope ["deck", "state", "cells", "turn", "cell", "number", "choice", "slots", "slot", "k"] ["deck", "state"] (defScope s_law_changed) := ⟨rfl, rfl, rfl, by decide +kernel, rfl, by decide +kernel, by decide +kernel⟩
theorem ok_law_changed (T : Txt K w mg) : FnOk P w K mg base CX0 2 (He.fAd K ("_law_changed", none)) (fdAt K (He.fAd K ("_law_changed", none))) ["deck", "state"] (spCg K) := by
  refine T.F_law_changed.ok scCg (fun vs H Q E h => ?_) (fun cdv A outer s H vs Q E hr h => ?_)
  · obtain ⟨d, t, G, cs, N, rfl, _⟩ := h
    rfl
  · obtain ⟨d, t, G, cs0, N, rfl, hd, ht, hq, k⟩ := h
    have hu := hr.units
    refine ⟨_, PSs.nox (pss_cons (ps_set (i := 2) scCg.nd rfl (Or.inl rfl) (pe_callTy call_list_of (by rfl) T.n_list PyProof.Rows.Boot.«list» (pa_cons (pv 1) pa_nil)))
      (pss_cons (ps_for PassesOwn.never rfl (pi_range1 (by rfl) T.n_range (pa_cons (pe_call (ok_law_take T) (hr.mono (by decide)) (by rfl) T.g_law_take (T.F_law_take).kp T.b_law_take .nil pass0 (pa_cons (pv 0) (pa_cons pe_int pa_nil))) pa_nil)) (pg_name (i := 3) scCg.nd rfl (Or.inl rfl)) (pss_cons (ps_asg (pe_tup (pa_cons (pe_op op_add pe_int (pe_call (ok_law_take T) (hr.mono (by decide)) (by rfl) T.g_law_take (T.F_law_take).kp T.b_law_take .nil pass0 (pa_cons (pv 0) (pa_cons pe_int pa_nil)))) (pa_cons (pe_op op_sub (pe_call (ok_law_take T) (hr.mono (by decide)) (by rfl) T.g_law_take (T.F_law_take).kp T.b_law_take .nil pass0 (pa_cons (pv 0) (pa_cons pe_int pa_nil))) pe_int) (pa_cons (pe_call (ok_law_take T) (hr.mono (by decide)) (by rfl) T.g_law_take (T.F_law_take).kp T.b_law_take .nil pass0 (pa_cons (pv 0) (pa_cons pe_int pa_nil))) pa_nil)))) (pg_tup (by rfl) (pgs_cons (pg_name (i := 4) scCg.nd rfl (Or.inl rfl)) (pgs_cons (pg_name (i := 5) scCg.nd rfl (Or.inr rfl)) (pgs_cons (pg_name (i := 6) scCg.nd rfl (Or.inl rfl)) pgs_nil)))))
      (pss_cons (ps_setLc (i := 7) (own := [("slot", 8)]) (g := gName 8) (by rfl) scCg.nd rfl rfl (sw_true rfl rfl rfl (by decide +kernel)) (pi_range1 (by rfl) T.n_range (pa_cons pe_int pa_nil)) (blkOk_by (own := [("slot", 8)]) (N := ["deck", "state", "cells", "turn", "cell", "number", "choice", "slots", "slot", "k"]) (sc := defScope s_law_changed) (by decide +kernel)) (fun _ _ _ _ _ => pg_name (i := 8) scCg.nd rfl (Or.inl rfl)) (fun _ _ _ _ _ => pts_one (pt_cmpR op_notN (pe_ix (r := rIxT K) ix_tup (pv 1) (pv 8) (fun _ _ => rfl)) pe_non (nomark _))) (fun _ _ _ _ _ => (pv 8)))
      (pss_one (ps_if (pt_cmpR op_eq (pv 6) pe_int (nomark _)) (pss_one (ps_asg (pe_callB call_abs (by rfl) T.n_abs PyProof.Rows.Boot.«abs» (pa_cons (pv 5) pa_nil)) (pg_sub (pv 2) (pv 4) set_list))) (pss_one (ps_if (PW.pt (pw_and (pt_cmpR op_eq (pv 6) pe_int (nomark _)) (pw_and1 (pt_cmpR (r := rNeNil K false) (op_neNil hr.units) (pv 7) (pe_lst pa_nil) (nomark _))))) (pss_cons (ps_set (i := 8) scCg.nd rfl (Or.inr rfl) (pe_ix (r := rIxL K) ix_list (pv 7) (pe_op op_mod (pe_callTy call_int1 (by rfl) T.n_int PyProof.Rows.Boot.«int» (pa_cons (pv 4) pa_nil)) (pe_callB (r := Evl.rLenS K) call_len_seq (by rfl) T.n_len PyProof.Rows.Boot.«len» (pa_cons (pv 7) pa_nil))) (fun _ _ => rfl)))
      (pss_one (ps_asg (pe_op (show OpR _ _ (rCatT K) from op_catT) (pe_slice (show SlR _ (rSlA K) from sl_tupA) (pe_ix (r := rIxL K) ix_list (pv 2) (pv 8) (fun _ _ => rfl)) po_none (po_some pe_int)) (pe_tup (pa_cons (pe_op (show OpR _ _ (rCatT K) from op_catT) (pe_tup (pa_cons (pv 5) pa_nil)) (pe_slice (show SlR _ (rSlA K) from sl_tupA) (pe_ix (r := rIxT K) ix_tup (pe_ix (r := rIxL K) ix_list (pv 2) (pv 8) (fun _ _ => rfl)) pe_int (fun _ _ => rfl)) (po_some pe_int) po_none)) pa_nil))) (pg_sub (pv 2) (pv 8) set_list)))) (pss_one (ps_if (PW.pt (pw_and (pt_cmpR op_eq (pv 6) pe_int (nomark _)) (pw_and1 (pt_cmpR (r := rNeNil K false) (op_neNil hr.units) (pv 7) (pe_lst pa_nil) (nomark _))))) (pss_cons (ps_set (i := 8) scCg.nd rfl (Or.inr rfl) (pe_ix (r := rIxL K) ix_list (pv 7) (pe_op op_mod (pe_callTy call_int1 (by rfl) T.n_int PyProof.Rows.Boot.«int» (pa_cons (pv 4) pa_nil)) (pe_callB (r := Evl.rLenS K) call_len_seq (by rfl) T.n_len PyProof.Rows.Boot.«len» (pa_cons (pv 7) pa_nil))) (fun _ _ => rfl)))
      (pss_one (ps_asg (pe_callTy call_tuple_of (by rfl) T.n_tuple PyProof.Rows.Boot.«tuple» (pa_cons (pe_lc (own := [("k", 9)]) (g := gName 9) (by rfl) scCg.nd (pi_range1 (by rfl) T.n_range (pa_cons pe_int pa_nil)) (blkOk_by (own := [("k", 9)]) (N := ["deck", "state", "cells", "turn", "cell", "number", "choice", "slots", "slot", "k"]) (sc := defScope s_law_changed) (by decide +kernel)) (fun _ _ _ _ _ => pg_name (i := 9) scCg.nd rfl (Or.inl rfl)) (fun _ _ _ _ _ => pts_one (PW.pt (pw_and (pt_cmpR op_eq (pe_op op_and (pe_op op_shr (pe_callB call_abs (by rfl) T.n_abs PyProof.Rows.Boot.«abs» (pa_cons (pv 5) pa_nil)) (pe_op op_mod (pe_callTy call_int1 (by rfl) T.n_int PyProof.Rows.Boot.«int» (pa_cons (pv 9) pa_nil)) pe_int)) pe_int) pe_int (nomark _)) (pw_and1 (pt_cmpR op_ne (pv 9) (pv 8) (nomark _)))))) (fun _ _ _ _ _ => (pv 9))) pa_nil)) (pg_sub (pv 2) (pe_op op_add pe_int (pv 8)) set_list)))) (pss_one (ps_asg (pe_op op_fdivW (pe_callB call_abs (by rfl) T.n_abs PyProof.Rows.Boot.«abs» (pa_cons (pv 5) pa_nil)) pe_int) (pg_sub (pv 2) (pv 4) set_list))))))))))))
      (pss_one (ps_ret (pe_callTy call_tuple_of (by rfl) T.n_tuple PyProof.Rows.Boot.«tuple» (pa_cons (pv 2) pa_nil)))))), ?_⟩
    have stH : StW d H H (N + 20) := ⟨Frm.refl _ _, TF.refl _, hd⟩
    refine ⟨_, rfl, t, _, rfl, .inr ht, fun c0 n0 => ?_⟩
    have s0 := new_same (o := .lst cs0) n0
    have c0d := hd.ne n0
    refine ⟨_, rfl, d, 4, N + 19, rfl, by decide, by decide, (hd.same s0).le (by omega), fun x H1 x0 x1 f1 d1 => ⟨_, rfl, by omega, by omega, ?_⟩⟩
    have st1 := (stH.same s0).take f1 d1
    have hc1 := f1 _ _ c0d (upd_same (H := H) (a := c0) (o := .lst cs0))
    obtain ⟨M, rfl⟩ := Int.eq_ofNat_of_zero_le x0
    rw [show ((M : Nat) : Int).toNat = M from Int.toNat_natCast M]
    refine for_it (walk_range (lo := 0) (n := M)) (fun i σ' H' => ∃ (v3 v4 v5 v6 v7 v8 : Option V) (cs : List V), σ' = [some (.ref d), some (.ref t), some (.ref c0), v3, v4, v5, v6, v7, v8, none] ∧ StW d H H' (N + 19 - 4 * i) ∧ H' c0 = some (.lst cs) ∧ CelQ K H' G cs 64 ∧ Kp K H' G cs0 cs)
      ⟨_, _, _, _, _, _, cs0, rfl, st1, hc1, hq.q.tf st1.t (Nat.le_refl _), fun s hs hb => ?_⟩ (fun _ _ _ _ _ => trivial) (fun i v σ H' Hx hi h yy => ?_) (fun σ H' h => ?_)
    · obtain ⟨b, e⟩ := hb
      rcases hq.slot s hs with h | ⟨a, h, r⟩
      · rw [h] at e
        cases e
      · exact ⟨a, h, r.tf st1.t⟩
    rotate_left
    · obtain ⟨v3, v4, v5, v6, v7, v8, cs, rfl, st, hc, hq, hk⟩ := h
      exact ⟨_, rfl, c0, _, rfl, .inl ⟨SqL.of hc, fun t' nt => k t' cs _ (st.same (new_same nt)).f ((st.same (new_same nt)).dk.le (by omega)) (SqT.of upd_same) ((hq.r (by omega)).tf (same_tf (new_same nt)))⟩⟩
    · obtain ⟨v3, v4, v5, v6, v7, v8, cs, rfl, st, hc, hqc, hk⟩ := h
      obtain ⟨rfl, rfl⟩ := yy
      have hM : M ≤ 3 := by omega
      obtain ⟨B, hB⟩ : ∃ B, B = N + 19 - 4 * (i + 1) := ⟨_, rfl⟩
      replace st := st.le (m := B + 4) (by omega)
      refine seq_cut (fun σ' H' => ∃ (c : Nat) (z y : Int), σ' = [some (.ref d), some (.ref t), some (.ref c0), some (.int (0 + (i : Nat))), some (.int (c : Int)), some (.int z), some (.int y), v7, v8, none] ∧ 32 ≤ c ∧ c < 49 ∧ z.natAbs < 1000 ∧ StW d H H' B ∧ H' c0 = some (.lst cs) ∧ CelQ K H' G cs 64 ∧ Kp K H' G cs0 cs) (fun σ' H2 hP => ?_) (fun R hR => ?_)
      rotate_left
      · refine ⟨_, rfl, d, 17, B + 2, rfl, by decide, by decide, st.dk.le (by omega), fun x1 H1 a0 a1 f1 d1 => ?_⟩
        refine ⟨_, _, rfl, rfl, _, rfl, d, 1999, B + 1, rfl, by decide, by decide, d1, fun x2 H2 b0 b1 f2 d2 => ?_⟩
        refine ⟨_, _, rfl, rfl, _, rfl, d, 4, B, rfl, by decide, by decide, d2, fun x3 H3 e0 e1 f3 d3 => ?_⟩
        have stA := ((st.take f1 d1).take f2 d2).take f3 d3
        have tA := ((st.dk.tf f1).trans (d1.tf f2)).trans (d2.tf f3)
        have hcA := f3 _ _ c0d (f2 _ _ c0d (f1 _ _ c0d hc))
        obtain ⟨X, rfl⟩ := Int.eq_ofNat_of_zero_le a0
        refine ⟨(show 3 ≤ sizeLine by decide), fun p np => ?_⟩
        have sp := new_same (o := .tup [V.int (32 + (X : Int)), .int (x2 - 999), .int x3]) np
        exact ⟨p, _, rfl, SqT.of upd_same, rfl, _, _, rfl, _, _, rfl, _, _, rfl, rfl, hR _ _ ⟨32 + X, x2 - 999, x3, by rw [show ((32 + X : Nat) : Int) = 32 + (X : Int) by omega]; rfl, by omega, by omega, by omega, stA.same sp, sp _ _ hcA, hqc.tf (tA.trans (same_tf sp)) (Nat.le_refl _), hk.tf (tA.trans (same_tf sp))⟩⟩
      clear hqc hk hc
      obtain ⟨c, z, y, rfl, c32, c49, hz, st2, hc2, hq2, hk2⟩ := hP
      have ht2 := st2.t.sq ht
      -- slots
      refine seq_cut (fun σ' H' => ∃ (D : Addr) (fr : List Nat), σ' = [some (.ref d), some (.ref t), some (.ref c0), some (.int (0 + (i : Nat))), some (.int (c : Int)), some (.int z), some (.int y), some (.ref D), v8, none] ∧ Same H2 H' ∧ H' D = some (.lst (nVs fr)) ∧ fr.length ≤ 16 ∧ ∀ s ∈ fr, s < 16 ∧ ∃ b, cs0[s]? = some (V.ref b)) (fun σ' H3 hP => ?_) (fun R hR => ?_)
      rotate_left
      · refine ⟨_, rfl, by decide, by decide, fun D hD => ?_⟩
        refine lc_range (lo := 0) (n := 16) (fun j Hy => ∃ fr : List Nat, Same H2 Hy ∧ Hy D = some (.lst (nVs fr)) ∧ fr.length ≤ j ∧ ∀ s ∈ fr, s < 16 ∧ ∃ b, cs0[s]? = some (V.ref b)) ⟨[], new_same hD, upd_same, Nat.le_refl _, fun _ q => (nomatch q)⟩ (fun j Hy hj h => ?_) (fun Hy h => ?_)
        · obtain ⟨fr, sm, hf, hfl, hf1⟩ := h
          rcases hq.slot j hj with e | ⟨b, e, _⟩
          · exact ⟨rfl, _, rfl, _, rfl, t, _, _, _, rfl, rfl, (same_tf sm).sq ht2, at_nat0 e, rfl, _, rfl, ite2 (fun z => by simp at z) (fun _ => ⟨fr, sm, hf, by omega, hf1⟩)⟩
          · refine ⟨rfl, _, rfl, _, rfl, t, _, _, _, rfl, rfl, (same_tf sm).sq ht2, at_nat0 e, rfl, _, rfl, ite2 (fun _ => ?_) (fun z => absurd (by simp) z)⟩
            refine ⟨_, rfl, _, hf, Nat.lt_of_le_of_lt (show (nVs fr).length ≤ 1000 by rw [nVs_len]; omega) (by decide), fr ++ [j], frm_same sm hD Frm.of_upd, by rw [nVs_app, Int.zero_add]; exact upd_same, by simp; omega, fun s hs2 => ?_⟩
            rcases List.mem_append.mp hs2 with h | h
            · exact hf1 s h
            · rw [List.mem_singleton.mp h]
              exact ⟨hj, b, e⟩
        · obtain ⟨fr, sm, hf, hfl, hf1⟩ := h
          exact hR _ _ ⟨D, fr, rfl, sm, hf, by omega, hf1⟩
      obtain ⟨D, fr, rfl, s3, hD, frl, hfr⟩ := hP
      have st3 := st2.same s3
      have hc3 := s3 _ _ hc2
      have hq3 := hq2.tf (same_tf s3) (Nat.le_refl _)
      have hk3 := hk2.tf (same_tf s3)
      clear st2 hc2 hq2 hk2 ht2 s3
      have hcl := hq3.len
      -- the last branch
      have fin : ∀ (H' : Hp) (cs' : List V) (v8 : Option V), StW d H H' B → H' c0 = some (.lst cs') → CelQ K H' G cs' 64 → Kp K H' G cs0 cs' → ∃ v3 v4 v5 v6 v7 v8' cs'', [some (.ref d), some (.ref t), some (.ref c0), some (.int (0 + (i : Nat))), some (.int (c : Int)), some (.int z), some (.int y), some (.ref D), v8, none] = [some (.ref d), some (.ref t), some (.ref c0), v3, v4, v5, v6, v7, v8', none] ∧ StW d H H' (N + 19 - 4 * (i + 1)) ∧ H' c0 = some (.lst cs'') ∧ CelQ K H' G cs'' 64 ∧ Kp K H' G cs0 cs'' := fun H' cs' v8 a1 a2 a3 a4 => ⟨_, _, _, _, _, _, cs', rfl, a1.le (by omega), a2, a3, a4⟩
      have putN : ∀ (H' : Hp) (w : Int), Same H3 H' → w.natAbs < 1000000000 → StW d H (upd H' c0 (.lst (cs.set c (.int w)))) B ∧ CelQ K (upd H' c0 (.lst (cs.set c (.int w)))) G (cs.set c (.int w)) 64 ∧ Kp K (upd H' c0 (.lst (cs.set c (.int w)))) G cs0 (cs.set c (.int w)) := fun H' w s hw => by
        have tB := (same_tf s).trans (Frm.tf (Frm.of_upd (d := c0) (o := .lst (cs.set c (.int w)))) (s _ _ hc3))
        exact ⟨(st3.same s).putL n0 (s _ _ hc3) c0d, (hq3.tf tB (Nat.le_refl _)).setN c32 c49 hw, (hk3.tf tB).setO (by omega)⟩
      refine ⟨_, rfl, rfl, _, rfl, ite2 (fun _ => ?_) (fun _ => ?_)⟩
      · refine ⟨_, rfl, _, rfl, _, rfl, _, rfl, c0, cs, _, c, rfl, rfl, hc3, Evl.ixN_nat (by omega), ?_⟩
        have hw : (if z < 0 then -z else z).natAbs < 1000000000 := by split <;> omega
        obtain ⟨a1, a2, a3⟩ := putN H3 _ (Same.refl _) hw
        exact fin _ _ _ a1 upd_same a2 a3
      · refine ⟨_, rfl, rfl, _, rfl, ite2 (fun _ => ⟨_, rfl, (show 0 ≤ sizeLine by decide), fun q nq => ⟨_, .lst (SqL.of (((Same.refl H3).trans (new_same nq)) _ _ hD)) (dp_nVs _), .lst (SqL.of upd_same) .nil, can_nVs _, _, rfl, ite2 (fun ne => ?_) (fun _ => ?_)⟩⟩) (fun _ => iteF ?_)⟩
        · have sQ := (Same.refl H3).trans (new_same (o := .lst []) nq)
          have fr0 : 0 < fr.length := by
            cases fr with
            | nil => simp at ne
            | cons a b => exact Nat.succ_pos _
          obtain ⟨s, hs, es⟩ : ∃ s, s ∈ fr ∧ atI (nVs fr) ((c : Int) % ((nVs fr).length : Int)) = some (.int (s : Int)) := by
            have hl : ((nVs fr).length : Int) = (fr.length : Int) := by rw [nVs_len]
            obtain ⟨v, hv, e⟩ := at_mem (xs := nVs fr) (x := (c : Int) % ((nVs fr).length : Int)) (Int.emod_nonneg _ (by omega)) (Int.emod_lt_of_pos _ (by omega))
            obtain ⟨j, hj, e2⟩ := List.mem_iff_getElem.mp hv
            obtain ⟨n, hn, rfl⟩ := nVs_get (by rw [List.getElem?_eq_getElem hj, e2])
            exact ⟨n, hn, e⟩
          obtain ⟨s16, hb0⟩ := hfr s hs
          obtain ⟨b, eb, hbt⟩ := hk3 s s16 hb0
          have hDq := sQ _ _ hD
          have hcq := sQ _ _ hc3
          refine ⟨_, rfl, _, rfl, .inl ⟨_, rfl, _, rfl, D, _, rfl, .inl (SqL.of hDq), _, _, rfl, rfl, (by show (0 : Int) < ((nVs fr).length : Int); rw [nVs_len]; omega), D, _, _, _, rfl, rfl, SqL.of hDq, es, ?_⟩⟩
          dsimp only
          obtain ⟨h, hth, hidx⟩ := hbt.tf (same_tf sQ)
          obtain ⟨⟨o, q1, q2⟩, q3, q4⟩ := hth
          obtain ⟨ix, ho, x, yy, dx, dy, re, own⟩ := h
          match own, q3, q2, q4 with
          | [w0, w1, w2, w3], _, q2, q4 =>
          refine ⟨_, rfl, _, rfl, c0, _, _, _, rfl, rfl, SqL.of hcq, atI_nat eb, _, rfl, b, _, rfl, q1, fun hw => absurd hw.2 (by show ¬ HT.sIx 8 8 (some 7) = 8; decide), fun _ p np => ?_⟩
          have s1 := new_same (o := .tup (cutV [V.int (ix : Int), .int ho, .int x, .int yy, .int dx, .int dy, .int re, .ref o] none (some 7))) np
          refine ⟨_, rfl, (show 1 ≤ sizeLine by decide), fun p2 np2 => ?_⟩
          have s2 := new_same (o := .tup [V.int z]) np2
          have s12 := s1.trans s2
          refine ⟨_, rfl, _, rfl, c0, _, _, _, rfl, rfl, SqL.of (s12 _ _ hcq), atI_nat eb, b, _, _, _, rfl, rfl, (same_tf s12).sq q1, at_of (j := 7) rfl rfl, _, rfl, o, _, rfl, (same_tf s12).sq q2, fun hw => absurd hw.1 (by show ¬ HT.sIx 4 0 (some 1) = 0; decide), fun _ p3 np3 => ?_⟩
          have s3 := new_same (o := .tup (cutV ([w0, w1, w2, w3].map V.int) (some 1) none)) np3
          refine ⟨p2, p3, [V.int z], [V.int w1, .int w2, .int w3], rfl, rfl, (same_tf s3).sq (SqT.of upd_same), SqT.of upd_same, List.cons_ne_nil _ _, (Nat.le_of_ble_eq_true rfl : _ ≤ sizeLine), fun z => absurd z (List.cons_ne_nil _ _), fun _ p4 np4 => ?_⟩
          have s4 := new_same (o := .tup ([V.int z] ++ [V.int w1, .int w2, .int w3])) np4
          refine ⟨(show 1 ≤ sizeLine by decide), fun p5 np5 => ?_⟩
          have s5 := new_same (o := .tup [V.ref p4]) np5
          refine ⟨p, p5, [V.int (ix : Int), .int ho, .int x, .int yy, .int dx, .int dy, .int re], [V.ref p4], rfl, rfl, (same_tf (((s2.trans s3).trans s4).trans s5)).sq (SqT.of upd_same), SqT.of upd_same, List.cons_ne_nil _ _, (Nat.le_of_ble_eq_true rfl : _ ≤ sizeLine), fun z => absurd z (List.cons_ne_nil _ _), fun _ p6 np6 => ?_⟩
          have s6 := new_same (o := .tup ([V.int (ix : Int), .int ho, .int x, .int yy, .int dx, .int dy, .int re] ++ [V.ref p4])) np6
          have sA := sQ.trans ((s12.trans s3).trans ((s4.trans s5).trans s6))
          have hcA := sA _ _ hc3
          refine ⟨_, rfl, _, rfl, c0, cs, _, s, rfl, rfl, hcA, Evl.ixN_nat (by omega), ?_⟩
          have tB := Frm.tf (Frm.of_upd (d := c0) (o := .lst (cs.set s (.ref p6)))) hcA
          have tAB := (same_tf sA).trans tB
          have hnew : ThE K (upd (upd _ p6 (.tup ([V.int (ix : Int), .int ho, .int x, .int yy, .int dx, .int dy, .int re] ++ [V.ref p4]))) c0 (.lst (cs.set s (.ref p6)))) G p6 :=
            ⟨⟨ix, ho, x, yy, dx, dy, re, [z, w1, w2, w3]⟩, ⟨⟨p4, tB.sq (SqT.of upd_same), tB.sq ((same_tf (s5.trans s6)).sq (SqT.of upd_same))⟩, rfl, q4.1, q4.2.1, q4.2.2.1, q4.2.2.2.1, q4.2.2.2.2.1, q4.2.2.2.2.2.1, fun w hw => by
              rcases List.mem_cons.mp hw with e | e
              · rw [e]
                omega
              · exact q4.2.2.2.2.2.2 w (List.mem_cons_of_mem _ e)⟩, hidx⟩
          exact fin _ _ _ ((st3.same sA).putL n0 hcA c0d) upd_same ((hq3.tf tAB (Nat.le_refl _)).setS s16 hnew) ((hk3.tf tAB).setS (by omega) hnew)
        · have sQ := (Same.refl H3).trans (new_same (o := .lst []) nq)
          refine ⟨_, rfl, rfl, _, rfl, ite2 (fun _ => ⟨_, rfl, (show 0 ≤ sizeLine by decide), fun q nq => ⟨_, .lst (SqL.of (((sQ).trans (new_same nq)) _ _ hD)) (dp_nVs _), .lst (SqL.of upd_same) .nil, can_nVs _, _, rfl, ite2 (fun ne => ?_) (fun _ => ?_)⟩⟩) (fun _ => iteF ?_)⟩
          · have sQ := (sQ).trans (new_same (o := .lst []) nq)
            have fr0 : 0 < fr.length := by
              cases fr with
              | nil => simp at ne
              | cons a b => exact Nat.succ_pos _
            obtain ⟨s, hs, es⟩ : ∃ s, s ∈ fr ∧ atI (nVs fr) ((c : Int) % ((nVs fr).length : Int)) = some (.int (s : Int)) := by
              have hl : ((nVs fr).length : Int) = (fr.length : Int) := by rw [nVs_len]
              obtain ⟨v, hv, e⟩ := at_mem (xs := nVs fr) (x := (c : Int) % ((nVs fr).length : Int)) (Int.emod_nonneg _ (by omega)) (Int.emod_lt_of_pos _ (by omega))
              obtain ⟨j, hj, e2⟩ := List.mem_iff_getElem.mp hv
              obtain ⟨n, hn, rfl⟩ := nVs_get (by rw [List.getElem?_eq_getElem hj, e2])
              exact ⟨n, hn, e⟩
            obtain ⟨s16, hb0⟩ := hfr s hs
            obtain ⟨b, eb, hbt⟩ := hk3 s s16 hb0
            have hDq := sQ _ _ hD
            have hcq := sQ _ _ hc3
            refine ⟨_, rfl, _, rfl, .inl ⟨_, rfl, _, rfl, D, _, rfl, .inl (SqL.of hDq), _, _, rfl, rfl, (by show (0 : Int) < ((nVs fr).length : Int); rw [nVs_len]; omega), D, _, _, _, rfl, rfl, SqL.of hDq, es, ?_⟩⟩
            dsimp only
            refine ⟨_, rfl, by decide, by decide, fun D2 hD2 => ?_⟩
            refine lc_range (lo := 0) (n := 16) (fun j Hy => ∃ ms : List Nat, Same _ Hy ∧ Hy D2 = some (.lst (nVs ms)) ∧ ms.length ≤ j ∧ ∀ s ∈ ms, s < 16) ⟨[], new_same hD2, upd_same, Nat.le_refl _, fun _ q => (nomatch q)⟩ (fun j Hy hj h => ?_) (fun Hy h => ?_)
            · obtain ⟨ms, sm, hf, hfl, hf1⟩ := h
              refine ⟨rfl, _, rfl, _, rfl, _, rfl, .inl ⟨_, rfl, _, _, rfl, rfl, (by decide : (0 : Int) < 10), _, _, rfl, rfl, Int.emod_nonneg _ (by decide), _, _, rfl, rfl, rfl, _, rfl, ite2 (fun _ => ?_) (fun _ => iteF ⟨ms, sm, hf, by omega, hf1⟩)⟩⟩
              refine ⟨_, rfl, _, rfl, rfl, _, rfl, ite2 (fun _ => ?_) (fun _ => ⟨ms, sm, hf, by omega, hf1⟩)⟩
              refine ⟨_, rfl, _, hf, Nat.lt_of_le_of_lt (show (nVs ms).length ≤ 1000 by rw [nVs_len]; omega) (by decide), ms ++ [j], frm_same sm hD2 Frm.of_upd, by rw [nVs_app, Int.zero_add]; exact upd_same, by simp; omega, fun s hs2 => ?_⟩
              rcases List.mem_append.mp hs2 with h | h
              · exact hf1 s h
              · rw [List.mem_singleton.mp h]
                exact hj
            · obtain ⟨ms, sm, hf, hfl, hf1⟩ := h
              refine ⟨D2, _, rfl, .inl ⟨SqL.of hf, fun t2 nt => ?_⟩⟩
              have s2 := new_same (o := .tup (nVs ms)) nt
              have sA := (sQ.trans sm).trans s2
              have hcA := sA _ _ hc3
              refine ⟨_, rfl, _, rfl, _, _, rfl, rfl, c0, cs, _, 16 + s, rfl, rfl, hcA, (by rw [show (16 : Int) + (s : Int) = ((16 + s : Nat) : Int) by omega]; exact Evl.ixN_nat (by omega)), ?_⟩
              have tB := Frm.tf (Frm.of_upd (d := c0) (o := .lst (cs.set (16 + s) (.ref t2)))) hcA
              have tAB := (same_tf sA).trans tB
              exact fin _ _ _ ((st3.same sA).putL n0 hcA c0d) upd_same ((hq3.tf tAB (Nat.le_refl _)).setM (by omega) (by omega) (tB.sq (SqT.of upd_same)) (by omega) hf1) ((hk3.tf tAB).setO (by omega))
          · have sQ := (sQ).trans (new_same (o := .lst []) nq)
            refine ⟨_, rfl, _, rfl, _, _, rfl, rfl, wide_div (b := 30) (by decide) (by decide) (by decide) (by decide), _, rfl, _, rfl, c0, cs, _, c, rfl, rfl, (sQ) _ _ hc3, Evl.ixN_nat (by omega), ?_⟩
            have hw : ((if z < 0 then -z else z) / 5).natAbs < 1000000000 := by split <;> omega
            obtain ⟨a1, a2, a3⟩ := putN _ _ (sQ) hw
            exact fin _ _ _ a1 upd_same a2 a3
          · have sQ := (sQ)
            refine ⟨_, rfl, _, rfl, _, _, rfl, rfl, wide_div (b := 30) (by decide) (by decide) (by decide) (by decide), _, rfl, _, rfl, c0, cs, _, c, rfl, rfl, (sQ) _ _ hc3, Evl.ixN_nat (by omega), ?_⟩
            have hw : ((if z < 0 then -z else z) / 5).natAbs < 1000000000 := by split <;> omega
            obtain ⟨a1, a2, a3⟩ := putN _ _ (sQ) hw
            exact fin _ _ _ a1 upd_same a2 a3
        · have sQ := (Same.refl H3)
          refine ⟨_, rfl, rfl, _, rfl, ite2 (fun _ => ⟨_, rfl, (show 0 ≤ sizeLine by decide), fun q nq => ⟨_, .lst (SqL.of (((sQ).trans (new_same nq)) _ _ hD)) (dp_nVs _), .lst (SqL.of upd_same) .nil, can_nVs _, _, rfl, ite2 (fun ne => ?_) (fun _ => ?_)⟩⟩) (fun _ => iteF ?_)⟩
          · have sQ := (sQ).trans (new_same (o := .lst []) nq)
            have fr0 : 0 < fr.length := by
              cases fr with
              | nil => simp at ne
              | cons a b => exact Nat.succ_pos _
            obtain ⟨s, hs, es⟩ : ∃ s, s ∈ fr ∧ atI (nVs fr) ((c : Int) % ((nVs fr).length : Int)) = some (.int (s : Int)) := by
              have hl : ((nVs fr).length : Int) = (fr.length : Int) := by rw [nVs_len]
              obtain ⟨v, hv, e⟩ := at_mem (xs := nVs fr) (x := (c : Int) % ((nVs fr).length : Int)) (Int.emod_nonneg _ (by omega)) (Int.emod_lt_of_pos _ (by omega))
              obtain ⟨j, hj, e2⟩ := List.mem_iff_getElem.mp hv
              obtain ⟨n, hn, rfl⟩ := nVs_get (by rw [List.getElem?_eq_getElem hj, e2])
              exact ⟨n, hn, e⟩
            obtain ⟨s16, hb0⟩ := hfr s hs
            obtain ⟨b, eb, hbt⟩ := hk3 s s16 hb0
            have hDq := sQ _ _ hD
            have hcq := sQ _ _ hc3
            refine ⟨_, rfl, _, rfl, .inl ⟨_, rfl, _, rfl, D, _, rfl, .inl (SqL.of hDq), _, _, rfl, rfl, (by show (0 : Int) < ((nVs fr).length : Int); rw [nVs_len]; omega), D, _, _, _, rfl, rfl, SqL.of hDq, es, ?_⟩⟩
            dsimp only
            refine ⟨_, rfl, by decide, by decide, fun D2 hD2 => ?_⟩
            refine lc_range (lo := 0) (n := 16) (fun j Hy => ∃ ms : List Nat, Same _ Hy ∧ Hy D2 = some (.lst (nVs ms)) ∧ ms.length ≤ j ∧ ∀ s ∈ ms, s < 16) ⟨[], new_same hD2, upd_same, Nat.le_refl _, fun _ q => (nomatch q)⟩ (fun j Hy hj h => ?_) (fun Hy h => ?_)
            · obtain ⟨ms, sm, hf, hfl, hf1⟩ := h
              refine ⟨rfl, _, rfl, _, rfl, _, rfl, .inl ⟨_, rfl, _, _, rfl, rfl, (by decide : (0 : Int) < 10), _, _, rfl, rfl, Int.emod_nonneg _ (by decide), _, _, rfl, rfl, rfl, _, rfl, ite2 (fun _ => ?_) (fun _ => iteF ⟨ms, sm, hf, by omega, hf1⟩)⟩⟩
              refine ⟨_, rfl, _, rfl, rfl, _, rfl, ite2 (fun _ => ?_) (fun _ => ⟨ms, sm, hf, by omega, hf1⟩)⟩
              refine ⟨_, rfl, _, hf, Nat.lt_of_le_of_lt (show (nVs ms).length ≤ 1000 by rw [nVs_len]; omega) (by decide), ms ++ [j], frm_same sm hD2 Frm.of_upd, by rw [nVs_app, Int.zero_add]; exact upd_same, by simp; omega, fun s hs2 => ?_⟩
              rcases List.mem_append.mp hs2 with h | h
              · exact hf1 s h
              · rw [List.mem_singleton.mp h]
                exact hj
            · obtain ⟨ms, sm, hf, hfl, hf1⟩ := h
              refine ⟨D2, _, rfl, .inl ⟨SqL.of hf, fun t2 nt => ?_⟩⟩
              have s2 := new_same (o := .tup (nVs ms)) nt
              have sA := (sQ.trans sm).trans s2
              have hcA := sA _ _ hc3
              refine ⟨_, rfl, _, rfl, _, _, rfl, rfl, c0, cs, _, 16 + s, rfl, rfl, hcA, (by rw [show (16 : Int) + (s : Int) = ((16 + s : Nat) : Int) by omega]; exact Evl.ixN_nat (by omega)), ?_⟩
              have tB := Frm.tf (Frm.of_upd (d := c0) (o := .lst (cs.set (16 + s) (.ref t2)))) hcA
              have tAB := (same_tf sA).trans tB
              exact fin _ _ _ ((st3.same sA).putL n0 hcA c0d) upd_same ((hq3.tf tAB (Nat.le_refl _)).setM (by omega) (by omega) (tB.sq (SqT.of upd_same)) (by omega) hf1) ((hk3.tf tAB).setO (by omega))
          · have sQ := (sQ).trans (new_same (o := .lst []) nq)
            refine ⟨_, rfl, _, rfl, _, _, rfl, rfl, wide_div (b := 30) (by decide) (by decide) (by decide) (by decide), _, rfl, _, rfl, c0, cs, _, c, rfl, rfl, (sQ) _ _ hc3, Evl.ixN_nat (by omega), ?_⟩
            have hw : ((if z < 0 then -z else z) / 5).natAbs < 1000000000 := by split <;> omega
            obtain ⟨a1, a2, a3⟩ := putN _ _ (sQ) hw
            exact fin _ _ _ a1 upd_same a2 a3
          · have sQ := (sQ)
            refine ⟨_, rfl, _, rfl, _, _, rfl, rfl, wide_div (b := 30) (by decide) (by decide) (by decide) (by decide), _, rfl, _, rfl, c0, cs, _, c, rfl, rfl, (sQ) _ _ hc3, Evl.ixN_nat (by omega), ?_⟩
            have hw : ((if z < 0 then -z else z) / 5).natAbs < 1000000000 := by split <;> omega
            obtain ⟨a1, a2, a3⟩ := putN _ _ (sQ) hw
            exact fin _ _ _ a1 upd_same a2 a3
end
end K44
set_option maxRecDepth 100000
set_option maxHeartbeats 4000000
/-! Two rows of worlds. -/
namespace K44
open PySem PySem.Spec PyProof.Rows L2 KF KD
theorem nls_ints : ∀ ns : List Int, NLs (ns.map PyData.int)
  | [] => trivial
  | _ :: ns => ⟨trivial, nls_ints ns⟩
theorem big_lt {z : Int} {b : Nat} (h : z.natAbs < b) (hb : b ≤ 1000000000) : z.natAbs < 2 ^ 200 := Nat.lt_trans (Nat.lt_of_lt_of_le h hb) (by decide)
theorem sm_int {n : Nat} {z : Int} (h : z.natAbs < 2 ^ 200) : SmOk n (.int z) := by cases n <;> exact h
theorem cel_dp {K : PySem.W.Frag} {H : Hp} {G : Gm} {cs : List V} (hkd : G.kd.length ≤ 8) (h : CelR K H G cs) {i : Nat} {v : V} (hv : cs[i]? = some v) : ∃ d, Dp K H v d ∧ NL d ∧ SmOk 5 d := by
  have hi : i < cs.length := (List.getElem?_eq_some_iff.mp hv).1
  have slots : ∀ (a : Addr) (ns : List Nat) (b : Nat), SqT K H a (nVs ns) → ns.length ≤ 300 → (∀ n ∈ ns, n < 16) → ∃ d, Dp K H (.ref a) d ∧ NL d ∧ SmOk 5 d := fun a ns b hs hl hn => by
    refine ⟨.tuple (ns.map fun (n : Nat) => PyData.int (n : Int)), .tup hs (dp_nVs _), ?_, ?_⟩
    · have := nls_ints (ns.map fun (n : Nat) => (n : Int))
      rw [List.map_map] at this
      exact this
    · refine ⟨by rw [List.length_map]; omega, ?_, fun e he => ?_⟩
      · have := nls_ints (ns.map fun (n : Nat) => (n : Int))
        rw [List.map_map] at this
        exact this
      · obtain ⟨n, h1, rfl⟩ := List.mem_map.mp he
        have := hn n h1
        exact sm_int (big_lt (b := 16) (by omega) (by decide))
  by_cases h1 : i < 16
  · rcases h.slot i h1 with e | ⟨a, e, th, r, hix⟩
    · rw [e] at hv
      cases hv
      exact ⟨.none, .non, trivial, trivial⟩
    · rw [e] at hv
      cases hv
      have sm := r.sm
      refine ⟨thD th, dp_th r, ?_, ?_⟩
      · exact ⟨trivial, trivial, trivial, trivial, trivial, trivial, trivial, nls_ints _, trivial⟩
      · refine ⟨by simp, ⟨trivial, trivial, trivial, trivial, trivial, trivial, trivial, nls_ints _, trivial⟩, fun e he => ?_⟩
        simp only [List.mem_cons, List.not_mem_nil, or_false] at he
        rcases he with q | q | q | q | q | q | q | q <;> subst q
        · exact sm_int (big_lt (b := 100) (by omega) (by decide))
        · exact sm_int (big_lt sm.1 (by decide))
        · exact sm_int (big_lt sm.2.1 (by decide))
        · exact sm_int (big_lt sm.2.2.1 (by decide))
        · exact sm_int (big_lt sm.2.2.2.1 (by decide))
        · exact sm_int (big_lt sm.2.2.2.2.1 (by decide))
        · exact sm_int (big_lt sm.2.2.2.2.2.1 (by decide))
        · refine ⟨by rw [List.length_map, r.len]; decide, nls_ints _, fun e he => ?_⟩
          obtain ⟨z, hz, rfl⟩ := List.mem_map.mp he
          exact sm_int (big_lt (sm.2.2.2.2.2.2 z hz) (by decide))
  · by_cases h2 : i < 32
    · obtain ⟨a, ns, e, q, l, r⟩ := h.met i (by omega) h2
      rw [e] at hv
      cases hv
      exact slots a ns 0 q l r
    · by_cases h3 : i < 49
      · obtain ⟨z, e, hz⟩ := h.num i (by omega) h3
        rw [e] at hv
        cases hv
        exact ⟨.int z, .int z, trivial, sm_int (big_lt hz (Nat.le_refl _))⟩
      · obtain ⟨a, ns, e, q, l, r⟩ := h.bkt i (by omega) hi
        rw [e] at hv
        cases hv
        exact slots a ns 0 q (by omega) fun n hn => (r n hn).1
theorem dpa_of {K : PySem.W.Frag} {H : Hp} : ∀ cs : List V, (∀ v ∈ cs, ∃ d, Dp K H v d ∧ NL d ∧ SmOk 5 d) → ∃ ds, DpAll K H cs ds ∧ NLs ds ∧ ds.length = cs.length ∧ ∀ d ∈ ds, SmOk 5 d
  | [], _ => ⟨[], .nil, trivial, rfl, fun _ q => (nomatch q)⟩
  | v :: cs, h => by
    obtain ⟨ds, h1, h2, h3, h4⟩ := dpa_of cs fun u hu => h u (List.mem_cons_of_mem _ hu)
    obtain ⟨d, g1, g2, g3⟩ := h v List.mem_cons_self
    refine ⟨d :: ds, .cons g1 h1, ⟨g2, h2⟩, by rw [List.length_cons, List.length_cons, h3], fun e he => ?_⟩
    rcases List.mem_cons.mp he with q | q
    · rw [q]
      exact g3
    · exact h4 e q
def WoR (K : PySem.W.Frag) (H : Hp) (G : Gm) (t : Addr) : Prop := ∃ cs, SqT K H t cs ∧ CelR K H G cs
theorem WoR.tf {K : PySem.W.Frag} {H H' : Hp} {G : Gm} {t : Addr} (s : TF H H') (h : WoR K H G t) : WoR K H' G t := by
  obtain ⟨cs, h1, h2⟩ := h
  exact ⟨cs, s.sq h1, h2.tf s⟩
theorem WoR.wd {K : PySem.W.Frag} {H : Hp} {G : Gm} {t : Addr} (h : WoR K H G t) (hb : G.R * G.C ≤ 30 ∧ G.kd.length ≤ 8) : ∃ cs ds, WdH K H t cs ds ∧ ds.length = 49 + G.R * G.C := by
  obtain ⟨cs, h1, h2⟩ := h
  obtain ⟨ds, g1, g2, g3, g4⟩ := dpa_of (H := H) (K := K) cs fun v hv => by
    obtain ⟨i, hi, e⟩ := List.mem_iff_getElem.mp hv
    exact cel_dp hb.2 h2 (i := i) (by rw [List.getElem?_eq_getElem hi, e])
  have hl := h2.len
  exact ⟨cs, ds, ⟨h1, g1, g2, by have := hb.1; omega, g4⟩, by omega⟩
theorem rw_of {K : PySem.W.Frag} {H : Hp} {G : Gm} (hb : G.R * G.C ≤ 30 ∧ G.kd.length ≤ 8) : ∀ ts : List Addr, (∀ a ∈ ts, WoR K H G a) → ∃ dss : List (List PyData), dss.length = ts.length ∧ ∀ i, i < dss.length → (∃ c xs, (ts.map V.ref)[i]? = some (.ref c) ∧ WdH K H c xs (dss.getD i [])) ∧ (dss.getD i []).length = 49 + G.R * G.C
  | [], _ => ⟨[], rfl, fun i h => absurd h (by simp)⟩
  | a :: ts, h => by
    obtain ⟨dss, h1, h2⟩ := rw_of hb ts fun b hb2 => h b (List.mem_cons_of_mem _ hb2)
    obtain ⟨cs, ds, g1, g2⟩ := (h a List.mem_cons_self).wd hb
    refine ⟨ds :: dss, by rw [List.length_cons, List.length_cons, h1], fun i hi => ?_⟩
    cases i with
    | zero => exact ⟨⟨a, cs, rfl, g1⟩, g2⟩
    | succ i => exact h2 i (by simpa using hi)
theorem RwW.of {K : PySem.W.Frag} {H : Hp} {G : Gm} {A : Addr} {ts : List Addr} {dss : List (List PyData)} (hs : SqT K H A (ts.map V.ref)) (h1 : dss.length = ts.length) (hl : ts.length ≤ 100) (h2 : ∀ i, i < dss.length → (∃ c xs, (ts.map V.ref)[i]? = some (.ref c) ∧ WdH K H c xs (dss.getD i [])) ∧ (dss.getD i []).length = 49 + G.R * G.C) : RwW K H A (ts.map V.ref) dss :=
  ⟨hs, by rw [List.length_map, h1], by omega, fun i hi => (h2 i hi).1⟩
theorem gm_sm {K : PySem.W.Frag} {H : Hp} {g : Addr} {G : Gm} (h : GmR K H g G) : G.R * G.C ≤ 30 ∧ G.kd.length ≤ 8 := by
  obtain ⟨⟨g0, fl, gk, st, ho, pu, ks, h1, h2, ⟨sq, hrow, ⟨w4, w24⟩, l3, l17⟩, _⟩, hm⟩ := h
  have hC6 : G.C ≤ 6 := by unfold Gm.C; omega
  have hR5 : G.R ≤ 5 := by unfold Gm.R; omega
  exact ⟨Nat.mul_le_mul hR5 hC6, hm.2⟩
section
variable {P : Program} {w : World} {K : PySem.W.Frag} {mg : Str → Option Value} {base : Heap}
def spRw (K : PySem.W.Frag) : Sp := fun vs H Q _ => ∃ (a : Addr) (ns : List Int), vs = [.ref a] ∧ SqL K H a (ns.map V.int) ∧ ns.length ≤ 63 ∧
  ∀ r A B us vs' dA dB H', Same H H' → SqT K H' r [.ref A, .ref B] → RwW K H' A us dA → RwW K H' B vs' dB → dA.length = dB.length → 0 < dA.length → (∃ m, 0 < m ∧ m ≤ 1000 ∧ ∀ i, i < dA.length → (dA.getD i []).length = m ∧ (dB.getD i []).length = m) → Q (.ref r) H'
theorem scRw : FnScope ["script", "game", "things", "deck", "item", "many", "apart", "often", "k", "mate"] ["script"] (defScope s_law_rows_of_worlds) := ⟨rfl, rfl, rfl, by decide +kernel, rfl, by decide +kernel, by decide +kernel⟩
theorem ok_law_rows_of_worlds (T : Txt K w mg) : FnOk P w K mg base CX0 8 (He.fAd K ("_law_rows_of_worlds", none)) (fdAt K (He.fAd K ("_law_rows_of_worlds", none))) ["script"] (spRw K) := by
  refine T.F_law_rows_of_worlds.ok scRw (fun vs H Q E h => ?_) (fun cdv A outer s H vs Q E hr h => ?_)
  · obtain ⟨a, ns, rfl, _⟩ := h
    rfl
  · obtain ⟨a, ns, rfl, ha, nl, k⟩ := h
    refine ⟨_, PSs.nox (pss_cons (ps_asg (pe_call (ok_law_game T) (hr.mono (by decide)) (by rfl) T.g_law_game (T.F_law_game).kp T.b_law_game .nil pass0 (pa_cons (pe_call (ok_law_deck T) (hr.mono (by decide)) (by rfl) T.g_law_deck (T.F_law_deck).kp T.b_law_deck .nil pass0 (pa_cons (pv 0) (pa_cons pe_int pa_nil))) pa_nil)) (pg_tup (by rfl) (pgs_cons (pg_name (i := 1) scRw.nd rfl (Or.inl rfl)) (pgs_cons (pg_name (i := 2) scRw.nd rfl (Or.inl rfl)) pgs_nil))))
      (pss_cons (ps_set (i := 3) scRw.nd rfl (Or.inl rfl) (pe_call (ok_law_deck T) (hr.mono (by decide)) (by rfl) T.g_law_deck (T.F_law_deck).kp T.b_law_deck .nil pass0 (pa_cons (pv 0) (pa_cons pe_int pa_nil))))
      (pss_cons (ps_set (i := 4) scRw.nd rfl (Or.inl rfl) (pe_lst (pa_cons (pe_call (ok_law_world T) (hr.mono (by decide)) (by rfl) T.g_law_world (T.F_law_world).kp T.b_law_world .nil pass0 (pa_cons (pv 3) (pa_cons (pv 1) (pa_cons (pv 2) pa_nil)))) pa_nil)))
      (pss_cons (ps_set (i := 5) scRw.nd rfl (Or.inl rfl) (pe_callB (call_max2 rfl) (by rfl) T.n_max PyProof.Rows.Boot.«max» (pa_cons (pe_op op_add pe_int (pe_call (ok_law_take T) (hr.mono (by decide)) (by rfl) T.g_law_take (T.F_law_take).kp T.b_law_take .nil pass0 (pa_cons (pv 3) (pa_cons pe_int pa_nil)))) (pa_cons (pe_callB (call_min2 rfl) (by rfl) T.n_min PyProof.Rows.Boot.«min» (pa_cons pe_int (pa_cons (pe_callB (r := Evl.rLenS K) call_len_seq (by rfl) T.n_len PyProof.Rows.Boot.«len» (pa_cons (pv 0) pa_nil)) pa_nil))) pa_nil))))
      (pss_cons (ps_par (i := 6) (j := 7) (by rfl) scRw.nd rfl rfl (by decide) rfl rfl (pa_cons (pe_call (ok_law_take T) (hr.mono (by decide)) (by rfl) T.g_law_take (T.F_law_take).kp T.b_law_take .nil pass0 (pa_cons (pv 3) (pa_cons (pe_op op_add (pv 5) pe_int) pa_nil))) (pa_cons (pe_call (ok_law_take T) (hr.mono (by decide)) (by rfl) T.g_law_take (T.F_law_take).kp T.b_law_take .nil pass0 (pa_cons (pv 3) (pa_cons pe_int pa_nil))) pa_nil)) (by rfl))
      (pss_cons (ps_for PassesOwn.never rfl (pi_range2 (by rfl) T.n_range (pa_cons pe_int (pa_cons (pv 5) pa_nil))) (pg_name (i := 8) scRw.nd rfl (Or.inl rfl)) (pss_one (ps_expr (pe_bm PySem.F.plainAttrs_list PySem.F.slot_list_append PySem.F.type_list_append mt_append (pv 4) (pa_cons (pe_call (ok_law_changed T) (hr.mono (by decide)) (by rfl) T.g_law_changed (T.F_law_changed).kp T.b_law_changed .nil pass0 (pa_cons (pe_call (ok_law_deck T) (hr.mono (by decide)) (by rfl) T.g_law_deck (T.F_law_deck).kp T.b_law_deck .nil pass0 (pa_cons (pv 0) (pa_cons (pv 8) pa_nil))) (pa_cons (pe_ix (r := rIxL K) ix_list (pv 4) (pe_un un_neg pe_int) (fun _ _ => rfl)) pa_nil))) pa_nil)))))
      (pss_cons (ps_set (i := 9) scRw.nd rfl (Or.inl rfl) (pe_callTy call_list_of (by rfl) T.n_list PyProof.Rows.Boot.«list» (pa_cons (pv 4) pa_nil)))
      (pss_cons (ps_for PassesOwn.never rfl (pi_range1 (by rfl) T.n_range (pa_cons (pe_callB (r := Evl.rLenS K) call_len_seq (by rfl) T.n_len PyProof.Rows.Boot.«len» (pa_cons (pv 4) pa_nil)) pa_nil)) (pg_name (i := 8) scRw.nd rfl (Or.inl rfl)) (pss_one (ps_if (PW.pt (pw_or (pt_cmpR op_eq (pv 8) (pv 6) (nomark _)) (pw_or1 (PW.pt (pw_and (pt_cmpR op_gt (pv 8) (pv 6) (nomark _)) (pw_and (pt_cmpR op_gt (pv 7) pe_int (nomark _)) (pw_and1 (pt_cmpR op_lt (pe_call (ok_law_take T) (hr.mono (by decide)) (by rfl) T.g_law_take (T.F_law_take).kp T.b_law_take .nil pass0 (pa_cons (pv 3) (pa_cons pe_int pa_nil))) (pv 7) (nomark _))))))))) (pss_one (ps_asg (pe_call (ok_law_changed T) (hr.mono (by decide)) (by rfl) T.g_law_changed (T.F_law_changed).kp T.b_law_changed .nil pass0 (pa_cons (pv 3) (pa_cons (pe_ix (r := rIxL K) ix_list (pv 4) (pv 8) (fun _ _ => rfl)) pa_nil))) (pg_sub (pv 9) (pv 8) set_list))) pss_nil)))
      (pss_one (ps_ret (pe_tup (pa_cons (pe_callTy call_tuple_of (by rfl) T.n_tuple PyProof.Rows.Boot.«tuple» (pa_cons (pv 4) pa_nil)) (pa_cons (pe_callTy call_tuple_of (by rfl) T.n_tuple PyProof.Rows.Boot.«tuple» (pa_cons (pv 9) pa_nil)) pa_nil))))))))))))), ?_⟩
    refine ⟨_, rfl, a, ns, 0, rfl, ha, by decide, fun d0 H1 s1 n0 dk0 => ⟨d0, 0, rfl, dk0.le (by decide), fun r g l G ts H2 f2 dk2 sr hg2 hl2 ld tl hts2 => ⟨r, _, rfl, sr, rfl, _, _, rfl, _, _, rfl, rfl, ?_⟩⟩⟩
    have s02 := frm_same s1 n0 f2
    have ha2 : SqL K H2 a (ns.map V.int) := Evl.ex_l s02 ha
    have sm := gm_sm hg2
    refine ⟨_, rfl, a, ns, 1, rfl, ha2, by decide, fun d1 H3 s3 n1 dk1 => ?_⟩
    have ld1 : l ≠ d1 := fun e => by
      rw [e, n1] at hl2
      cases hl2
    have d1H : H d1 = none := none_of s02 n1
    refine ⟨_, rfl, _, rfl, _, rfl, d1, g, l, G, ts, 899999990000, rfl, dk1.le (by decide), hg2.tf (same_tf s3), s3 _ _ hl2, ld1, tl, fun a ha => (hts2 a ha).tf (same_tf s3), fun t cs H4 f4 dk4 st4 cel4 => ⟨(show 1 ≤ sizeLine by decide), fun it nit => ?_⟩⟩
    have st4' : StW d1 H H4 899999990000 := ⟨(Frm.of_same (s02.trans s3)).trans f4, (same_tf (s02.trans s3)).trans (dk1.tf f4), dk4⟩
    have sit := new_same (o := .lst [V.ref t]) nit
    have itd : it ≠ d1 := dk4.ne nit
    have itH : H it = none := stw_none st4' nit
    have st5 := st4'.same sit
    have w5 : WoR K (upd H4 it (.lst [V.ref t])) G t := ⟨cs, (same_tf sit).sq st4, cel4.tf (same_tf sit)⟩
    have h5 : (upd H4 it (.lst [V.ref t])) it = some (.lst ([t].map V.ref)) := upd_same
    clear st4 cel4 dk4 f4 hts2 hl2
    generalize upd H4 it _ = H5 at st5 w5 h5 ⊢
    dsimp only
    have scr : ∀ {H' : Hp} {n : Nat}, StW d1 H H' n → SqL K H' a (ns.map V.int) := fun st => Evl.ex_l (frm_same (Same.refl _) d1H st.f) ha
    refine seq_cut (fun σ' H' => ∃ M : Nat, σ' = [some (.ref a), some (.ref g), some (.ref l), some (.ref d1), some (.ref it), some (.int (M : Int)), none, none, none, none] ∧ 3 ≤ M ∧ M ≤ 63 ∧ StW d1 H H' 899999989990 ∧ TF H5 H' ∧ H' it = some (.lst ([t].map V.ref))) (fun σ' H6 hP => ?_) (fun R hR => ?_)
    rotate_left
    · refine ⟨_, rfl, d1, 9, 899999989990, rfl, by decide, by decide, st5.dk.le (by decide), fun x H6 x0 x1 f6 d6 => ?_⟩
      have st6 := st5.take f6 d6
      refine ⟨_, _, rfl, rfl, _, rfl, a, _, rfl, .inl (scr st6), _, _, rfl, _, _, rfl, ?_⟩
      obtain ⟨M, hM⟩ := Int.eq_ofNat_of_zero_le (show 0 ≤ (if (if (((ns.map V.int).length : Int)) < 63 then (((ns.map V.int).length : Int)) else 63) > 3 + x then (if (((ns.map V.int).length : Int)) < 63 then (((ns.map V.int).length : Int)) else 63) else 3 + x) by split <;> split <;> omega)
      refine hR _ _ ⟨M, by rw [← hM]; rfl, ?_, ?_, st6, st5.dk.tf f6, f6 _ _ itd h5⟩
      · have : (3 : Int) ≤ (M : Int) := by rw [← hM]; split <;> omega
        omega
      · have : (M : Int) ≤ 63 := by rw [← hM]; split <;> split <;> omega
        omega
    obtain ⟨M, rfl, M3, M63, st6, t6, h6⟩ := hP
    refine seq_cut (fun σ' H' => ∃ ap of_ : Int, σ' = [some (.ref a), some (.ref g), some (.ref l), some (.ref d1), some (.ref it), some (.int (M : Int)), some (.int ap), some (.int of_), none, none] ∧ StW d1 H H' 899999989980 ∧ TF H5 H' ∧ H' it = some (.lst ([t].map V.ref))) (fun σ' H7 hP => ?_) (fun R hR => ?_)
    rotate_left
    · exact ⟨_, rfl, _, rfl, _, _, rfl, rfl, d1, (M : Int) + 1, 899999989985, rfl, by omega, by omega, st6.dk.le (by decide), fun x H7 x0 x1 f7 d7 => ⟨_, rfl, d1, 3, 899999989980, rfl, by decide, by decide, d7.le (by decide), fun y H8 y0 y1 f8 d8 => ⟨_, _, rfl, hR _ _ ⟨_, _, rfl, (st6.take f7 d7).take f8 d8, (t6.trans (st6.dk.tf f7)).trans (d7.tf f8), f8 _ _ itd (f7 _ _ itd h6)⟩⟩⟩⟩
    clear st6 t6 h6
    obtain ⟨ap, of_, rfl, st7, t7, h7⟩ := hP
    -- the first row
    refine seq_cut (fun σ' H' => ∃ (v8 : Option V) (ts : List Addr), σ' = [some (.ref a), some (.ref g), some (.ref l), some (.ref d1), some (.ref it), some (.int (M : Int)), some (.int ap), some (.int of_), v8, none] ∧ StW d1 H H' 899999989980 ∧ H' it = some (.lst (ts.map V.ref)) ∧ ts.length ≤ 63 ∧ 0 < ts.length ∧ ∀ a ∈ ts, WoR K H' G a) (fun σ' H8 hP => ?_) (fun R hR => ?_)
    rotate_left
    · refine ⟨_, rfl, _, _, rfl, ⟨by decide, by decide, by omega, by omega⟩, ?_⟩
      refine for_it (walk_range (lo := 2) (n := ((M : Int) - 2).toNat)) (fun i σ' H' => ∃ (v8 : Option V) (pre : List Addr) (b : Addr), σ' = [some (.ref a), some (.ref g), some (.ref l), some (.ref d1), some (.ref it), some (.int (M : Int)), some (.int ap), some (.int of_), v8, none] ∧ StW d1 H H' 899999989980 ∧ H' it = some (.lst ((pre ++ [b]).map V.ref)) ∧ pre.length = i ∧ ∀ a ∈ pre ++ [b], WoR K H' G a)
        ⟨_, [], t, rfl, st7, h7, rfl, fun a ha => by rw [List.mem_singleton.mp ha]; exact w5.tf t7⟩ (fun _ _ _ _ _ => trivial) (fun i v σ H' Hx hi h yy => ?_) (fun σ H' h => ?_)
      rotate_left
      · obtain ⟨v8, pre, b, rfl, st, hi, hl, hw⟩ := h
        exact hR _ _ ⟨_, pre ++ [b], rfl, st, hi, by simp; omega, by simp, hw⟩
      · obtain ⟨v8, pre, b, rfl, st, hit, hl, hw⟩ := h
        obtain ⟨rfl, rfl⟩ := yy
        refine ⟨_, rfl, .inl ⟨rfl, _, SqL.of hit⟩, _, rfl, _, rfl, a, ns, 2 + i, by rw [show ((2 + i : Nat) : Int) = 2 + (i : Int) by omega]; rfl, scr st, by omega, fun d2 H8 s8 n8 dk8 => ?_⟩
        have hit8 := s8 _ _ hit
        obtain ⟨cs2, q1, q2⟩ := hw b (List.mem_append_right _ (List.mem_singleton.mpr rfl))
        refine ⟨_, rfl, _, rfl, it, _, _, _, rfl, rfl, SqL.of hit8, (by rw [List.map_append]; exact atI_last _ _), d2, b, G, cs2, 0, rfl, dk8.le (by decide), (same_tf s8).sq q1, q2.tf (same_tf s8), fun t' cs' H9 f9 dk9 sq9 cel9 => ?_⟩
        have s9 := frm_same s8 n8 f9
        have t9 := (same_tf s8).trans (dk8.tf f9)
        have st9 := st.same s9
        have hit9 := s9 _ _ hit
        have tB := Frm.tf (Frm.of_upd (d := it) (o := .lst ((pre ++ [b]).map V.ref ++ [V.ref t']))) hit9
        refine ⟨it, _, _, rfl, rfl, hit9, Nat.lt_of_le_of_lt (show ((pre ++ [b]).map V.ref).length ≤ 100 by simp; omega) (by decide), _, pre ++ [b], t', rfl, st9.putL itH hit9 itd, by rw [List.map_append (l₁ := pre ++ [b])]; exact upd_same, by simp [hl], fun a ha => ?_⟩
        rcases List.mem_append.mp ha with h | h
        · exact (hw a h).tf ((same_tf s9).trans tB)
        · rw [List.mem_singleton.mp h]
          exact WoR.tf tB ⟨cs', sq9, cel9⟩
    clear st7 t7 h7
    obtain ⟨v8, ts, rfl, st8, h8, t63, t0, hw8⟩ := hP
    -- the second row
    refine ⟨_, rfl, it, _, rfl, .inl (SqL.of h8), fun mt nm => ?_⟩
    have sm8 := new_same (o := .lst (ts.map V.ref)) nm
    have mtd := st8.dk.ne nm
    have mtH := stw_none st8 nm
    have itm : it ≠ mt := fun e => by
      rw [e, nm] at h8
      cases h8
    have st9 := st8.same sm8
    dsimp only
    refine seq_cut (fun σ' H' => ∃ (v8 : Option V) (ms : List Addr), σ' = [some (.ref a), some (.ref g), some (.ref l), some (.ref d1), some (.ref it), some (.int (M : Int)), some (.int ap), some (.int of_), v8, some (.ref mt)] ∧ StW d1 H H' 1000 ∧ H' it = some (.lst (ts.map V.ref)) ∧ H' mt = some (.lst (ms.map V.ref)) ∧ ms.length = ts.length ∧ (∀ a ∈ ts, WoR K H' G a) ∧ ∀ a ∈ ms, WoR K H' G a) (fun σ' H10 hP => ?_) (fun R hR => ?_)
    rotate_left
    · refine ⟨_, rfl, it, _, rfl, .inl (SqL.of (sm8 _ _ h8)), _, rfl, by rw [List.length_map]; omega, by rw [List.length_map]; omega, ?_⟩
      rw [show (((ts.map V.ref).length : Nat) : Int).toNat = ts.length by rw [Int.toNat_natCast, List.length_map]]
      refine for_it (walk_range (lo := 0) (n := ts.length)) (fun i σ' H' => ∃ (v8 : Option V) (ms : List Addr), σ' = [some (.ref a), some (.ref g), some (.ref l), some (.ref d1), some (.ref it), some (.int (M : Int)), some (.int ap), some (.int of_), v8, some (.ref mt)] ∧ StW d1 H H' (899999980000 - 100 * i) ∧ H' it = some (.lst (ts.map V.ref)) ∧ H' mt = some (.lst (ms.map V.ref)) ∧ ms.length = ts.length ∧ (∀ a ∈ ts, WoR K H' G a) ∧ ∀ a ∈ ms, WoR K H' G a)
        ⟨_, ts, rfl, st9.le (by omega), sm8 _ _ h8, upd_same, rfl, fun a ha => (hw8 a ha).tf (same_tf sm8), fun a ha => (hw8 a ha).tf (same_tf sm8)⟩ (fun _ _ _ _ _ => trivial) (fun i v σ H' Hx hi h yy => ?_) (fun σ H' h => ?_)
      rotate_left
      · obtain ⟨v8, ms, rfl, st, h1, h2, h3, h4, h5⟩ := h
        exact hR _ _ ⟨v8, ms, rfl, st.le (by omega), h1, h2, h3, h4, h5⟩
      · obtain ⟨v8, ms, rfl, st, hit, hmt, hml, hw, hwm⟩ := h
        obtain ⟨rfl, rfl⟩ := yy
        obtain ⟨NB, hNB⟩ : ∃ NB, NB = 899999980000 - 100 * (i + 1) := ⟨_, rfl⟩
        have eit : (ts.map V.ref)[i]? = some (.ref ts[i]) := by rw [List.getElem?_map, List.getElem?_eq_getElem hi]; rfl
        obtain ⟨csX, sqX, celX⟩ := hw _ (List.getElem_mem hi)
        have same_ : ∀ H', StW d1 H H' (NB + 90) → TF Hx H' → H' it = some (.lst (ts.map V.ref)) → H' mt = some (.lst (ms.map V.ref)) → ∃ (v8' : Option V) (ms' : List Addr), [some (.ref a), some (.ref g), some (.ref l), some (.ref d1), some (.ref it), some (.int (M : Int)), some (.int ap), some (.int of_), some (V.int (0 + (i : Nat))), some (.ref mt)] = [some (.ref a), some (.ref g), some (.ref l), some (.ref d1), some (.ref it), some (.int (M : Int)), some (.int ap), some (.int of_), v8', some (.ref mt)] ∧ StW d1 H H' (899999980000 - 100 * (i + 1)) ∧ H' it = some (.lst (ts.map V.ref)) ∧ H' mt = some (.lst (ms'.map V.ref)) ∧ ms'.length = ts.length ∧ (∀ a ∈ ts, WoR K H' G a) ∧ ∀ a ∈ ms', WoR K H' G a := fun H' a1 a2 a3 a4 => ⟨_, ms, rfl, a1.le (by omega), a3, a4, hml, fun a ha => (hw a ha).tf a2, fun a ha => (hwm a ha).tf a2⟩
        refine ⟨_, rfl, _, rfl, rfl, _, rfl, ite2 (fun _ => iteT ?_) (fun _ => ?_)⟩
        · have stX := st
          have tX := TF.refl Hx
          have hitX := hit
          have hmtX := hmt
          refine ⟨_, rfl, _, rfl, _, rfl, it, _, _, _, rfl, rfl, SqL.of hitX, at_nat0 eit, d1, ts[i], G, csX, NB, rfl, stX.dk.le (by omega), (tX.sq sqX), (celX.tf tX), fun t' cs' H9 f9 dk9 sq9 cel9 => ?_⟩
          have st9 := stX.take f9 dk9
          have t9 := tX.trans (stX.dk.tf f9)
          have hit9 := f9 _ _ itd hitX
          have hmt9 := f9 _ _ mtd hmtX
          have tB := Frm.tf (Frm.of_upd (d := mt) (o := .lst ((ms.map V.ref).set i (.ref t')))) hmt9
          have tAll := t9.trans tB
          refine ⟨_, rfl, _, rfl, mt, _, _, i, rfl, rfl, hmt9, (by rw [Int.zero_add]; exact Evl.ixN_nat (by rw [List.length_map]; omega)), _, ms.set i t', rfl, (st9.putL mtH hmt9 mtd).le (by omega), by rw [upd_ne itm]; exact hit9, by rw [List.map_set]; exact upd_same, by rw [List.length_set]; exact hml, fun a ha => (hw a ha).tf tAll, fun a ha => ?_⟩
          rcases List.mem_or_eq_of_mem_set ha with h | h
          · exact (hwm a h).tf tAll
          · rw [h]
            exact WoR.tf tB ⟨cs', sq9, cel9⟩
        refine ⟨_, rfl, _, rfl, _, _, rfl, rfl, _, rfl, ite2 (fun _ => ?_) (fun _ => iteF (same_ _ (st.le (by omega)) (TF.refl _) hit hmt))⟩
        refine ⟨_, rfl, _, _, rfl, rfl, _, rfl, ite2 (fun _ => ?_) (fun _ => iteF (same_ _ (st.le (by omega)) (TF.refl _) hit hmt))⟩
        refine ⟨_, rfl, d1, 3, NB + 95, rfl, by decide, by decide, st.dk.le (by omega), fun x HX x0 x1 fX dX => ?_⟩
        have stX := st.take fX dX
        have tX := st.dk.tf fX
        have hitX := fX _ _ itd hit
        have hmtX := fX _ _ mtd hmt
        refine ⟨_, rfl, _, _, rfl, rfl, _, rfl, ite2 (fun _ => ?_) (fun _ => same_ _ (stX.le (by omega)) tX hitX hmtX)⟩
        refine ⟨_, rfl, _, rfl, _, rfl, it, _, _, _, rfl, rfl, SqL.of hitX, at_nat0 eit, d1, ts[i], G, csX, NB, rfl, stX.dk.le (by omega), (tX.sq sqX), (celX.tf tX), fun t' cs' H9 f9 dk9 sq9 cel9 => ?_⟩
        have st9 := stX.take f9 dk9
        have t9 := tX.trans (stX.dk.tf f9)
        have hit9 := f9 _ _ itd hitX
        have hmt9 := f9 _ _ mtd hmtX
        have tB := Frm.tf (Frm.of_upd (d := mt) (o := .lst ((ms.map V.ref).set i (.ref t')))) hmt9
        have tAll := t9.trans tB
        refine ⟨_, rfl, _, rfl, mt, _, _, i, rfl, rfl, hmt9, (by rw [Int.zero_add]; exact Evl.ixN_nat (by rw [List.length_map]; omega)), _, ms.set i t', rfl, (st9.putL mtH hmt9 mtd).le (by omega), by rw [upd_ne itm]; exact hit9, by rw [List.map_set]; exact upd_same, by rw [List.length_set]; exact hml, fun a ha => (hw a ha).tf tAll, fun a ha => ?_⟩
        rcases List.mem_or_eq_of_mem_set ha with h | h
        · exact (hwm a h).tf tAll
        · rw [h]
          exact WoR.tf tB ⟨cs', sq9, cel9⟩
    obtain ⟨v8', ms, rfl, st10, hit, hmt, hml, hw, hwm⟩ := hP
    refine ⟨_, rfl, it, _, rfl, .inl ⟨SqL.of hit, fun A nA => ?_⟩⟩
    have sA := new_same (o := .tup (ts.map V.ref)) nA
    refine ⟨_, rfl, mt, _, rfl, .inl ⟨SqL.of (sA _ _ hmt), fun B nB => ?_⟩⟩
    have sB := new_same (o := .tup (ms.map V.ref)) nB
    refine ⟨(show 2 ≤ sizeLine by decide), fun r2 nr => ?_⟩
    have sR := new_same (o := .tup [V.ref A, .ref B]) nr
    have sAll := (sA.trans sB).trans sR
    obtain ⟨dA, a1, a2⟩ := rw_of sm ts fun a ha => (hw a ha).tf (same_tf sAll)
    obtain ⟨dB, b1, b2⟩ := rw_of sm ms fun a ha => (hwm a ha).tf (same_tf sAll)
    exact k r2 A B _ _ dA dB _ (frm_same (Same.refl _) d1H ((st10.same sAll).f)) (SqT.of upd_same) (RwW.of ((same_tf (sB.trans sR)).sq (SqT.of upd_same)) a1 (by omega) a2) (RwW.of ((same_tf sR).sq (SqT.of upd_same)) b1 (by omega) b2) (by omega) (by omega) ⟨49 + G.R * G.C, by omega, by have := sm.1; omega, fun i hi => ⟨(a2 i hi).2, (b2 i (by omega)).2⟩⟩
end
end K44
set_option maxRecDepth 100000
set_option maxHeartbeats 4000000
/-! The cells that parted tells are unlike. -/
namespace K44
open PySem PySem.Spec PyProof.Rows L2 KF KD
theorem tk_inv {P : Nat → Bool} {n : Nat} (hn : P n = true) : ∀ i, P (itr (tkf P) i (0, n, 0)).2.1 = true ∧ ((itr (tkf P) i (0, n, 0)).1 = 0 ∨ P ((itr (tkf P) i (0, n, 0)).1 - 1) = false) ∧ (itr (tkf P) i (0, n, 0)).1 ≤ (itr (tkf P) i (0, n, 0)).2.1
  | 0 => ⟨hn, .inl rfl, Nat.zero_le _⟩
  | i + 1 => by
    have ih := tk_inv hn i
    have e : itr (tkf P) (i + 1) (0, n, 0) = tkf P (itr (tkf P) i (0, n, 0)) := rfl
    rw [e]
    generalize itr (tkf P) i (0, n, 0) = s at ih ⊢
    obtain ⟨b, e, c⟩ := s
    simp only at ih
    unfold tkf
    simp only
    split
    · split
      · rename_i h1 h2
        exact ⟨h2, ih.2.1, by show b ≤ (b + e) / 2; omega⟩
      · rename_i h1 h2
        refine ⟨ih.1, .inr ?_, by show (b + e) / 2 + 1 ≤ e; omega⟩
        show P ((b + e) / 2 + 1 - 1) = false
        rw [Nat.add_sub_cancel]
        simpa using h2
    · exact ih
theorem tk_end {P : Nat → Bool} {n t e c : Nat} (hn : P n = true) (h : itr (tkf P) n (0, n, 0) = (t, e, c)) : P t = true ∧ (t = 0 ∨ P (t - 1) = false) ∧ t ≤ n := by
  have h1 := tk_inv hn n
  have h2 := tkf_fix (P := P) (n := n) (Nat.le_refl n)
  have h3 := tkf_le (P := P) (n := n) n
  rw [h] at h1 h2 h3
  simp only at h1 h3
  have : t = e := by
    by_cases q : t < e
    · exfalso
      have := h3.2.2.2 q
      omega
    · omega
  subst this
  exact ⟨h1.1, h1.2.1, h3.1⟩
theorem bk_two : ∀ {l m : List PyData}, l.length = m.length → (bk l).2 = (bk m).2
  | [], [], _ => rfl
  | _ :: l, _ :: m, h => by
    have := bk_two (l := l) (m := m) (by simpa using h)
    show (bk l).2 * 1000003 % PM = (bk m).2 * 1000003 % PM
    rw [this]
theorem tsAll_app : ∀ (l : List PyData) (t : Int) (r : List PyData), tsAll t (l ++ r) = tsAll (tsAll t l) r
  | [], t, r => by rw [List.nil_append, tsAll]
  | d :: l, t, r => by rw [List.cons_append, tsAll, tsAll, tsAll_app l]
theorem pm_eq {a b : Int} (h : (a - b) % PM = 0) (a0 : 0 ≤ a) (a1 : a < PM) (b0 : 0 ≤ b) (b1 : b < PM) : a = b := by
  have e : PM = 2305843009213693951 := rfl
  rw [e] at h a1 b1
  omega
theorem ts_len {l m : List PyData} (hl : l.length = m.length) (h : ts (.tuple l) = ts (.tuple m)) : tsAll 13 l = tsAll 13 m := by
  rw [ts, ts, hl] at h
  have r1 := tsAll_rng l 13 (by decide) (by decide)
  have r2 := tsAll_rng m 13 (by decide) (by decide)
  refine pm_eq ?_ r1.1 r1.2 r2.1 r2.2
  have e : PM = 2305843009213693951 := rfl
  rw [e] at h ⊢
  omega
theorem tsAll_any {l m : List PyData} (hl : l.length = m.length) (h : tsAll 13 l = tsAll 13 m) (t : Int) (t0 : 0 ≤ t) (t1 : t < PM) : tsAll t l = tsAll t m := by
  have r1 := tsAll_rng l t t0 t1
  have r2 := tsAll_rng m t t0 t1
  have a1 := tsAll_bk l 13
  have a2 := tsAll_bk m 13
  have b1 := tsAll_bk l t
  have b2 := tsAll_bk m t
  rw [bk_two hl] at a1 b1
  rw [h] at a1
  refine pm_eq ?_ r1.1 r1.2 r2.1 r2.2
  have e : PM = 2305843009213693951 := rfl
  rw [e] at a1 a2 b1 b2 ⊢
  omega
theorem ts_app {l m r s : List PyData} (h1 : l.length = m.length) (h2 : r.length = s.length) (h3 : ts (.tuple l) = ts (.tuple m)) (h4 : ts (.tuple r) = ts (.tuple s)) : ts (.tuple (l ++ r)) = ts (.tuple (m ++ s)) := by
  rw [ts, ts, tsAll_app, tsAll_app, ts_len h1 h3, List.length_append, List.length_append, h1, h2]
  have r1 := tsAll_rng m 13 (by decide) (by decide)
  rw [tsAll_any h2 (ts_len h2 h4) _ r1.1 r1.2]
theorem slc_app {ds : List PyData} {i j k : Nat} (h1 : i ≤ j) (h2 : j ≤ k) : slc ds i k = slc ds i j ++ slc ds j k := by
  unfold slc
  have e : k - i = (j - i) + (k - j) := by omega
  rw [e, List.take_add, List.drop_drop, show i + (j - i) = j by omega]
theorem slc_len {ds es : List PyData} {i j : Nat} (h : ds.length = es.length) : (slc ds i j).length = (slc es i j).length := by
  unfold slc
  rw [List.length_take, List.length_take, List.length_drop, List.length_drop, h]
theorem cl_inv {ds es : List PyData} {n : Nat} (hl : ds.length = es.length) (h0 : 0 < n) (hn : dfc ds es 0 n = true) : ∀ i, dfc ds es (itr (clf (dfc ds es)) i (0, n, 0)).1 (itr (clf (dfc ds es)) i (0, n, 0)).2.1 = true ∧ (itr (clf (dfc ds es)) i (0, n, 0)).1 < (itr (clf (dfc ds es)) i (0, n, 0)).2.1
  | 0 => ⟨hn, h0⟩
  | i + 1 => by
    have ih := cl_inv hl h0 hn i
    have e : itr (clf (dfc ds es)) (i + 1) (0, n, 0) = clf (dfc ds es) (itr (clf (dfc ds es)) i (0, n, 0)) := rfl
    rw [e]
    generalize itr (clf (dfc ds es)) i (0, n, 0) = s at ih ⊢
    obtain ⟨b, e, c⟩ := s
    simp only at ih
    unfold clf
    simp only
    split
    · split
      · rename_i h1 h2
        exact ⟨h2, by show b < (b + e) / 2; omega⟩
      · rename_i h1 h2
        refine ⟨?_, by show (b + e) / 2 < e; omega⟩
        show dfc ds es ((b + e) / 2) e = true
        refine decide_eq_true fun q => ?_
        have q1 : ts (.tuple (slc ds b ((b + e) / 2))) = ts (.tuple (slc es b ((b + e) / 2))) := by
          have : ¬ (dfc ds es b ((b + e) / 2) = true) := h2
          unfold dfc at this
          simpa using this
        have q2 := ts_app (slc_len hl) (slc_len hl) q1 q
        rw [← slc_app (by omega) (by omega), ← slc_app (by omega) (by omega)] at q2
        have := ih.1
        unfold dfc at this
        exact of_decide_eq_true this q2
    · exact ih
theorem cl_end {ds es : List PyData} {u e c : Nat} (hl : ds.length = es.length) (h0 : 0 < ds.length) (hn : ts (.tuple ds) ≠ ts (.tuple es)) (h : itr (clf (dfc ds es)) ds.length (0, ds.length, 0) = (u, e, c)) : u < ds.length ∧ ts (ds.getD u .none) ≠ ts (es.getD u .none) := by
  have h1 := cl_inv hl h0 (decide_eq_true (by
    have a : slc ds 0 ds.length = ds := by simp [slc]
    have b : slc es 0 ds.length = es := by simp [slc, hl]
    rw [a, b]
    exact hn)) ds.length
  have h3 := clf_le (P := dfc ds es) (n := ds.length) ds.length
  rw [h] at h1 h3
  simp only at h1 h3
  have he : e = u + 1 := by
    by_cases q : u + 1 < e
    · exfalso
      have := h3.2.2.2 q
      omega
    · omega
  subst he
  have hu : u < ds.length := by omega
  refine ⟨hu, fun q => ?_⟩
  have h4 := of_decide_eq_true (show decide _ = true from h1.1)
  refine h4 ?_
  have a : slc ds u (u + 1) = [ds.getD u .none] := by
    unfold slc
    rw [show u + 1 - u = 1 by omega, List.drop_eq_getElem_cons hu, List.getD_eq_getElem?_getD, List.getElem?_eq_getElem hu]
    rfl
  have b : slc es u (u + 1) = [es.getD u .none] := by
    unfold slc
    rw [show u + 1 - u = 1 by omega, List.drop_eq_getElem_cons (by omega : u < es.length), List.getD_eq_getElem?_getD, List.getElem?_eq_getElem (by omega : u < es.length)]
    rfl
  rw [a, b, ts, ts, tsAll, tsAll, tsAll, tsAll, q]
  rfl
end K44
set_option maxRecDepth 100000
set_option maxHeartbeats 4000000
/-! The law. -/
namespace K44
open PySem PySem.Spec PyProof.Rows L2 KF KD KG
theorem dep_intsL : ∀ r : List Int, PyData.depthAll (r.map .int) ≤ 1
  | [] => by simp [PyData.depthAll]
  | a :: r => by
    rw [List.map_cons, PyData.depthAll]
    have := dep_intsL r
    simp [PyData.depth]
    try omega
theorem shaped_intsL (r : List Int) : SeqAt.shaped (.list (r.map .int)) = true := by
  unfold SeqAt.shaped
  rw [Bool.and_eq_true]
  constructor
  · simp only [PyData.canLay0, can_ints]
  · have := dep_intsL r
    refine decide_eq_true ?_
    rw [PyData.depth]
    omega
theorem eqv_self_ints : ∀ r : List Int, PyData.eqvAll (r.map .int) (r.map .int) = true
  | [] => by simp [PyData.eqvAll]
  | a :: r => by
    rw [List.map_cons, PyData.eqvAll, eqv_self_ints r]
    simp [PyData.eqv]
mutual
theorem eqv_ts : ∀ (n : Nat) (d e : PyData), SmOk n d → SmOk n e → PyData.eqv d e = true → ts d = ts e
  | n, .none, e, _, h2, h => by
    cases e <;> first | rfl | (simp [PyData.eqv] at h)
  | n, .int i, e, _, h2, h => by
    cases e <;> first | (cases n <;> exact h2.elim) | (simp [PyData.eqv] at h; done) | (simp [PyData.eqv] at h; rw [h])
  | n, .bool _, _, h1, _, _ => by cases n <;> exact h1.elim
  | n, .str _, _, h1, _, _ => by cases n <;> exact h1.elim
  | n, .list _, _, h1, _, _ => by cases n <;> exact h1.elim
  | n, .dict _, _, h1, _, _ => by cases n <;> exact h1.elim
  | 0, .tuple ds, e, h1, _, _ => h1.elim
  | n + 1, .tuple ds, e, h1, h2, h => by
    cases e with
    | tuple es =>
      rw [PyData.eqv] at h
      obtain ⟨a, b⟩ := eqvAll_ts n ds es h1.2.2 h2.2.2 h
      rw [ts, ts, b 13, a]
    | _ => first | (simp [PyData.eqv] at h) | exact h2.elim
theorem eqvAll_ts : ∀ (n : Nat) (ds es : List PyData), (∀ d ∈ ds, SmOk n d) → (∀ e ∈ es, SmOk n e) → PyData.eqvAll ds es = true → ds.length = es.length ∧ ∀ t, tsAll t ds = tsAll t es
  | n, [], es, _, _, h => by
    cases es with
    | nil => exact ⟨rfl, fun _ => rfl⟩
    | cons a b => simp [PyData.eqvAll] at h
  | n, d :: ds, es, h1, h2, h => by
    cases es with
    | nil => simp [PyData.eqvAll] at h
    | cons e es =>
      rw [PyData.eqvAll, Bool.and_eq_true] at h
      have q1 := eqv_ts n d e (h1 _ List.mem_cons_self) (h2 _ List.mem_cons_self) h.1
      obtain ⟨a, b⟩ := eqvAll_ts n ds es (fun x hx => h1 x (List.mem_cons_of_mem _ hx)) (fun x hx => h2 x (List.mem_cons_of_mem _ hx)) h.2
      exact ⟨by rw [List.length_cons, List.length_cons, a], fun t => by rw [tsAll, tsAll, q1, b]⟩
end
theorem ptv_sym {H : Hp} {v : V} {dA dB : List (List PyData)} (hl : dA.length = dB.length) (hs : ∀ i, i < dA.length → (dA.getD i []).length = (dB.getD i []).length) (h0 : 0 < dA.length) (h : PtV H v dB dA) : PtV H v dA dB := by
  have e1 : dif (sms dA) (sms dB) = dif (sms dB) (sms dA) := by
    funext m
    unfold dif
    exact decide_eq_decide.mpr ⟨Ne.symm, Ne.symm⟩
  have e2 : ∀ a b : List PyData, dfc a b = dfc b a := fun a b => by
    funext i j
    unfold dfc
    exact decide_eq_decide.mpr ⟨Ne.symm, Ne.symm⟩
  unfold PtV at h ⊢
  rw [← hl] at h
  rcases h with ⟨h1, h2⟩ | ⟨h1, p, t, e, c, u, e3, c2, h2, h3, h4, h5⟩
  · exact .inl ⟨h1.symm, h2⟩
  · refine .inr ⟨h1.symm, p, t, e, c, u, e3, c2, h2, by rw [e1]; exact h3, ?_, h5⟩
    have ht : t ≤ dA.length - 1 := by
      have := tkf_le (P := dif (sms dB) (sms dA)) (n := dA.length - 1) (dA.length - 1)
      rw [h3] at this
      exact this.1
    rw [e2, hs t (by omega)]
    exact h4
mutual
theorem dep_sm : ∀ (n : Nat) (d : PyData), SmOk n d → PyData.depth d ≤ n ∧ PyData.canLay0 d = true
  | n, .none, _ => by simp [PyData.depth, PyData.canLay0]
  | n, .int i, _ => by simp [PyData.depth, PyData.canLay0]
  | 0, .tuple ds, h1 => h1.elim
  | n + 1, .tuple ds, h1 => by
    have := depA_sm n ds h1.2.2
    rw [PyData.depth, PyData.canLay0]
    exact ⟨by omega, this.2⟩
  | n, .bool _, h1 => by cases n <;> exact h1.elim
  | n, .str _, h1 => by cases n <;> exact h1.elim
  | n, .list _, h1 => by cases n <;> exact h1.elim
  | n, .dict _, h1 => by cases n <;> exact h1.elim
theorem depA_sm : ∀ (n : Nat) (ds : List PyData), (∀ d ∈ ds, SmOk n d) → PyData.depthAll ds ≤ n ∧ PyData.canLayAll0 ds = true
  | n, [], _ => by simp [PyData.depthAll, PyData.canLayAll0]
  | n, d :: ds, h => by
    have a := dep_sm n d (h _ List.mem_cons_self)
    have b := depA_sm n ds fun x hx => h x (List.mem_cons_of_mem _ hx)
    rw [PyData.depthAll, PyData.canLayAll0, a.2, b.2]
    exact ⟨by omega, rfl⟩
end
theorem shaped_sm {d : PyData} (h : SmOk 5 d) : SeqAt.shaped d = true := by
  have := dep_sm 5 d h
  unfold SeqAt.shaped
  rw [this.2, Bool.true_and]
  exact decide_eq_true (by omega)
theorem sms_get {dss : List (List PyData)} {i : Nat} (h : i < dss.length) : (sms dss).getD i 0 = la ((tps dss).take (i + 1)) := by
  unfold sms chs
  rw [List.getD_eq_getElem?_getD, List.getElem?_map, List.getElem?_range h]
  rfl
theorem tps_get {dss : List (List PyData)} {i : Nat} (h : i < dss.length) : (tps dss)[i]? = some (.tuple (dss.getD i [])) := by
  unfold tps
  rw [List.getElem?_map, List.getElem?_eq_getElem h, List.getD_eq_getElem?_getD, List.getElem?_eq_getElem h]
  rfl
theorem parted_un {dA dB : List (List PyData)} {t e c u e2 c2 : Nat} (hl : dA.length = dB.length) (h0 : 0 < dA.length) (hs : ∀ i, i < dA.length → (dA.getD i []).length = (dB.getD i []).length) (hp : ∀ i, i < dA.length → 0 < (dA.getD i []).length)
    (h1 : (sms dA).getD (dA.length - 1) 0 ≠ (sms dB).getD (dA.length - 1) 0) (h3 : itr (tkf (dif (sms dA) (sms dB))) (dA.length - 1) (0, dA.length - 1, 0) = (t, e, c)) (h4 : itr (clf (dfc (dA.getD t []) (dB.getD t []))) (dA.getD t []).length (0, (dA.getD t []).length, 0) = (u, e2, c2)) :
    t < dA.length ∧ u < (dA.getD t []).length ∧ ts ((dA.getD t []).getD u .none) ≠ ts ((dB.getD t []).getD u .none) := by
  obtain ⟨q1, q2, q3⟩ := tk_end (P := dif (sms dA) (sms dB)) (decide_eq_true h1) h3
  have ht : t < dA.length := by omega
  have q1' : (sms dA).getD t 0 ≠ (sms dB).getD t 0 := of_decide_eq_true q1
  rw [sms_get ht, sms_get (by omega), la_take (tps_get ht), la_take (tps_get (by omega))] at q1'
  have q4 : la ((tps dA).take t) = la ((tps dB).take t) := by
    rcases q2 with e | e
    · subst e
      rfl
    · have e' := of_decide_eq_false e
      by_cases z : t = 0
      · subst z
        rfl
      · have := Decidable.not_not.mp e'
        rw [sms_get (by omega), sms_get (by omega), show t - 1 + 1 = t by omega] at this
        exact this
  have q5 : ts (.tuple (dA.getD t [])) ≠ ts (.tuple (dB.getD t [])) := fun q => q1' (by unfold nx; rw [q4, q])
  obtain ⟨g1, g2⟩ := cl_end (hs t ht) (hp t ht) q5 h4
  exact ⟨ht, g1, g2⟩
theorem PtV.same {H H' : Hp} {v : V} {dA dB : List (List PyData)} (s : Same H H') (h : PtV H v dA dB) : PtV H' v dA dB := by
  rcases h with h | ⟨h1, p, t, e, c, u, e3, c2, h2, h3, h4, h5⟩
  · exact .inl h
  · exact .inr ⟨h1, p, t, e, c, u, e3, c2, h2, h3, h4, s _ _ h5⟩
theorem ptv_dp {K : PySem.W.Frag} {H : Hp} {v v2 : V} {dA dB : List (List PyData)} (h : PtV H v dA dB) (g : PtV H v2 dA dB) : ∃ d, Dp K H v d ∧ Dp K H v2 d ∧ AlOk 3 d := by
  rcases h with ⟨h1, rfl⟩ | ⟨h1, p, t, e, c, u, e3, c2, rfl, h3, h4, h5⟩
  · rcases g with ⟨_, rfl⟩ | ⟨g1, _⟩
    · exact ⟨.none, .non, .non, trivial⟩
    · exact absurd h1 g1
  · rcases g with ⟨g1, _⟩ | ⟨g1, p', t', e', c', u', e3', c2', rfl, g3, g4, g5⟩
    · exact absurd g1 h1
    · rw [h3] at g3
      cases g3
      rw [h4] at g4
      cases g4
      refine ⟨.tuple [.int (t : Int), .int (u : Int), .int ((c + c2 : Nat) : Int)], .tup (SqT.of h5) (.cons (.int _) (.cons (.int _) (.cons (.int _) .nil))), .tup (SqT.of g5) (.cons (.int _) (.cons (.int _) (.cons (.int _) .nil))), by simp, ⟨trivial, trivial, trivial, trivial⟩, fun e he => ?_⟩
      simp only [List.mem_cons, List.not_mem_nil, or_false] at he
      rcases he with q | q | q <;> subst q <;> trivial
section
variable {P : Program} {w : World} {K : PySem.W.Frag} {mg : Str → Option Value} {base : Heap}
def spLaw (K : PySem.W.Frag) : Sp := fun vs H Q _ => ∃ (a : Addr) (ns : List Int), vs = [.ref a] ∧ SqL K H a (ns.map V.int) ∧ ns.length ≤ 63 ∧ ∀ H', Q (.bl true) H'
theorem scLaw : FnScope ["script", "item", "mate", "due", "deck", "k", "worth", "state", "begun", "ended"] ["script"] (defScope s_law) := ⟨rfl, rfl, rfl, by decide +kernel, rfl, by decide +kernel, by decide +kernel⟩
theorem ok_law (T : Txt K w mg) : FnOk P w K mg base CX0 10 (He.fAd K ("law", none)) (fdAt K (He.fAd K ("law", none))) ["script"] (spLaw K) := by
  have kbC : KBinds K (fdAt K (He.fAd K ("chained", none))) ["worlds"] ["worlds"] kR kR := kb_rev T.F_chained (by decide) fun _ _ _ _ _ _ ws hl => match ws, hl with | [_], _ => rfl
  have kbP : KBinds K (fdAt K (He.fAd K ("parted", none))) ["one", "other"] ["other", "one"] kR kR := kb_rev T.F_parted (by decide) fun _ _ _ _ _ _ ws hl => match ws, hl with | [_, _], _ => rfl
  have kbT : KBinds K (fdAt K (He.fAd K ("thing_sum", none))) ["value"] ["value"] kR kR := kb_rev T.F_thing_sum (by decide) fun _ _ _ _ _ _ ws hl => match ws, hl with | [_], _ => rfl
  have kbS : KBinds K (fdAt K (He.fAd K ("stretch_sum", none))) ["world", "first", "last"] ["last", "first", "world"] kR kR := kb_rev T.F_stretch_sum (by decide) fun _ _ _ _ _ _ ws hl => match ws, hl with | [_, _, _], _ => rfl
  refine T.F_law.ok scLaw (fun vs H Q E h => ?_) (fun cdv A outer s H vs Q E hr h => ?_)
  · obtain ⟨a, ns, rfl, _⟩ := h
    rfl
  · obtain ⟨a, ns, rfl, ha, nl, k⟩ := h
    have hu := hr.units
    refine ⟨_, PSs.nox (pss_cons (ps_asg (pe_call (ok_law_rows_of_worlds T) (hr.mono (by decide)) (by rfl) T.g_law_rows_of_worlds (T.F_law_rows_of_worlds).kp T.b_law_rows_of_worlds .nil pass0 (pa_cons (pv 0) pa_nil)) (pg_tup (by rfl) (pgs_cons (pg_name (i := 1) scLaw.nd rfl (Or.inl rfl)) (pgs_cons (pg_name (i := 2) scLaw.nd rfl (Or.inl rfl)) pgs_nil))))
      (pss_cons (ps_if (PW.pt (pw_or (pt_cmpR (op_neD hr.units) (pe_call (ok_chained T) (hr.mono (by decide)) (by rfl) T.g_chained (T.F_chained).kp T.b_chained .nil pass0 (pa_cons (pv 1) pa_nil)) (pe_call (ok_law_chained T) (hr.mono (by decide)) (by rfl) T.g_law_chained (T.F_law_chained).kp T.b_law_chained .nil pass0 (pa_cons (pv 1) pa_nil)) (nomark _)) (pw_or (pt_not (pt_val (pe_callB (r := rIsi K) call_isi (by rfl) T.n_isinstance PyProof.Rows.Boot.«isinstance» (pa_cons (pe_call (ok_chained T) (hr.mono (by decide)) (by rfl) T.g_chained (T.F_chained).kp T.b_chained .nil pass0 (pa_cons (pv 1) pa_nil)) (pa_cons (pe_bltn (v := .ty "list") (by rfl) T.n_list PyProof.Rows.Boot.«list» rfl) pa_nil))))) (pw_or1 (pt_cmpR (r := rNeNil K false) (op_neNil hr.units) (pe_callKw (ok_chained T) (hr.mono (by decide)) (by rfl) T.g_chained T.F_chained.kp kbC pass0 (pk_cons (pe_tup pa_nil) pk_nil)) (pe_lst pa_nil) (nomark _)))))) (pss_one (ps_ret pe_bl)) pss_nil)
      (pss_cons (ps_set (i := 3) scLaw.nd rfl (Or.inl rfl) (pe_call (ok_law_parted T) (hr.mono (by decide)) (by rfl) T.g_law_parted (T.F_law_parted).kp T.b_law_parted .nil pass0 (pa_cons (pv 1) (pa_cons (pv 2) pa_nil))))
      (pss_cons (ps_if (PW.pt (pw_or (pt_not (pt_val (pe_call (ok_law_same T 4) (hr.mono (by omega)) (by rfl) T.g_law_same (T.F_law_same).kp T.b_law_same .nil pass0 (pa_cons (pe_call (ok_parted T) (hr.mono (by decide)) (by rfl) T.g_parted (T.F_parted).kp T.b_parted .nil pass0 (pa_cons (pv 1) (pa_cons (pv 2) pa_nil))) (pa_cons (pv 3) pa_nil))))) (pw_or1 (pt_not (pt_val (pe_call (ok_law_same T 4) (hr.mono (by omega)) (by rfl) T.g_law_same (T.F_law_same).kp T.b_law_same .nil pass0 (pa_cons (pe_callKw (ok_parted T) (hr.mono (by decide)) (by rfl) T.g_parted T.F_parted.kp kbP pass0 (pk_cons (pv 1) (pk_cons (pv 2) pk_nil))) (pa_cons (pv 3) pa_nil)))))))) (pss_one (ps_ret pe_bl)) pss_nil)
      (pss_cons (ps_if (PW.pt (pw_and (pt_cmpR op_notN (pv 3) pe_non (nomark _)) (pw_and1 (pt_cmpR (op_eqD hr.units) (pe_ix (r := rIxT K) ix_tup (pe_ix (r := rIxT K) ix_tup (pv 1) (pe_ix (r := rIxT K) ix_tup (pv 3) pe_int (fun _ _ => rfl)) (fun _ _ => rfl)) (pe_ix (r := rIxT K) ix_tup (pv 3) pe_int (fun _ _ => rfl)) (fun _ _ => rfl)) (pe_ix (r := rIxT K) ix_tup (pe_ix (r := rIxT K) ix_tup (pv 2) (pe_ix (r := rIxT K) ix_tup (pv 3) pe_int (fun _ _ => rfl)) (fun _ _ => rfl)) (pe_ix (r := rIxT K) ix_tup (pv 3) pe_int (fun _ _ => rfl)) (fun _ _ => rfl)) (nomark _))))) (pss_one (ps_ret pe_bl)) pss_nil)
      (pss_cons (ps_set (i := 4) scLaw.nd rfl (Or.inl rfl) (pe_call (ok_law_deck T) (hr.mono (by decide)) (by rfl) T.g_law_deck (T.F_law_deck).kp T.b_law_deck .nil pass0 (pa_cons (pv 0) (pa_cons (pe_callB (call_max2 rfl) (by rfl) T.n_max PyProof.Rows.Boot.«max» (pa_cons pe_int (pa_cons (pe_callB (call_min2 rfl) (by rfl) T.n_min PyProof.Rows.Boot.«min» (pa_cons pe_int (pa_cons (pe_op op_sub (pe_callB (r := Evl.rLenS K) call_len_seq (by rfl) T.n_len PyProof.Rows.Boot.«len» (pa_cons (pv 0) pa_nil)) pe_int) pa_nil))) pa_nil))) pa_nil))))
      (pss_cons (ps_for PassesOwn.never rfl (pi_range1 (by rfl) T.n_range (pa_cons pe_int pa_nil)) (pg_name (i := 5) scLaw.nd rfl (Or.inl rfl)) (pss_cons (ps_par (i := 6) (j := 7) (by rfl) scLaw.nd rfl rfl (by decide) rfl rfl (pa_cons (pe_call (ok_law_value T 5) (hr.mono (by omega)) (by rfl) T.g_law_value (T.F_law_value).kp T.b_law_value .nil pass0 (pa_cons (pv 4) (pa_cons pe_int pa_nil))) (pa_cons (pe_ix (r := rIxT K) ix_tup (pv 1) (pe_call (ok_law_take T) (hr.mono (by decide)) (by rfl) T.g_law_take (T.F_law_take).kp T.b_law_take .nil pass0 (pa_cons (pv 4) (pa_cons (pe_callB (r := Evl.rLenS K) call_len_seq (by rfl) T.n_len PyProof.Rows.Boot.«len» (pa_cons (pv 1) pa_nil)) pa_nil))) (fun _ _ => rfl)) pa_nil)) (by rfl))
      (pss_cons (ps_set (i := 8) scLaw.nd rfl (Or.inl rfl) (pe_call (ok_law_take T) (hr.mono (by decide)) (by rfl) T.g_law_take (T.F_law_take).kp T.b_law_take .nil pass0 (pa_cons (pv 4) (pa_cons (pe_callB (r := Evl.rLenS K) call_len_seq (by rfl) T.n_len PyProof.Rows.Boot.«len» (pa_cons (pv 7) pa_nil)) pa_nil))))
      (pss_cons (ps_set (i := 9) scLaw.nd rfl (Or.inl rfl) (pe_op op_add (pe_op op_add (pv 8) pe_int) (pe_call (ok_law_take T) (hr.mono (by decide)) (by rfl) T.g_law_take (T.F_law_take).kp T.b_law_take .nil pass0 (pa_cons (pv 4) (pa_cons (pe_op op_sub (pe_callB (r := Evl.rLenS K) call_len_seq (by rfl) T.n_len PyProof.Rows.Boot.«len» (pa_cons (pv 7) pa_nil)) (pv 8)) pa_nil)))))
      (pss_cons (ps_if (PW.pt (pw_or (pt_not (pt_val (pe_call (ok_law_same T 4) (hr.mono (by omega)) (by rfl) T.g_law_same (T.F_law_same).kp T.b_law_same .nil pass0 (pa_cons (pe_call (ok_thing_sum T 7) (hr.mono (by omega)) (by rfl) T.g_thing_sum (T.F_thing_sum).kp T.b_thing_sum .nil pass0 (pa_cons (pv 6) pa_nil)) (pa_cons (pe_call (ok_law_sum T 7) (hr.mono (by omega)) (by rfl) T.g_law_sum (T.F_law_sum).kp T.b_law_sum .nil pass0 (pa_cons (pv 6) pa_nil)) pa_nil))))) (pw_or1 (pt_cmpR op_ne (pe_callKw (ok_thing_sum T 7) (hr.mono (by decide)) (by rfl) T.g_thing_sum T.F_thing_sum.kp kbT pass0 (pk_cons (pv 7) pk_nil)) (pe_call (ok_law_sum T 7) (hr.mono (by omega)) (by rfl) T.g_law_sum (T.F_law_sum).kp T.b_law_sum .nil pass0 (pa_cons (pv 7) pa_nil)) (nomark _))))) (pss_one (ps_ret pe_bl)) pss_nil)
      (pss_cons (ps_if (pt_not (pt_val (pe_call (ok_law_same T 4) (hr.mono (by omega)) (by rfl) T.g_law_same (T.F_law_same).kp T.b_law_same .nil pass0 (pa_cons (pe_call (ok_stretch_sum T) (hr.mono (by decide)) (by rfl) T.g_stretch_sum (T.F_stretch_sum).kp T.b_stretch_sum .nil pass0 (pa_cons (pv 7) (pa_cons (pv 8) (pa_cons (pv 9) pa_nil)))) (pa_cons (pe_call (ok_law_sum T 7) (hr.mono (by omega)) (by rfl) T.g_law_sum (T.F_law_sum).kp T.b_law_sum .nil pass0 (pa_cons (pe_slice (show SlR _ (rSlA K) from sl_tupA) (pv 7) (po_some (pv 8)) (po_some (pv 9))) pa_nil)) pa_nil))))) (pss_one (ps_ret pe_bl)) pss_nil)
      (pss_one (ps_if (pt_cmpR op_ne (pe_callKw (ok_stretch_sum T) (hr.mono (by decide)) (by rfl) T.g_stretch_sum T.F_stretch_sum.kp kbS pass0 (pk_cons (pv 9) (pk_cons (pv 8) (pk_cons (pv 7) pk_nil)))) (pe_call (ok_law_sum T 7) (hr.mono (by omega)) (by rfl) T.g_law_sum (T.F_law_sum).kp T.b_law_sum .nil pass0 (pa_cons (pe_slice (show SlR _ (rSlA K) from sl_tupA) (pv 7) (po_some (pv 8)) (po_some (pv 9))) pa_nil)) (nomark _)) (pss_one (ps_ret pe_bl)) pss_nil))))))))
      (pss_one (ps_ret pe_bl))))))))), ?_⟩
    refine ⟨_, rfl, a, ns, rfl, ha, nl, fun r A B us vs' dA dB H1 s1 sr rA rB hAB h0 hm => ⟨r, _, rfl, sr, rfl, _, _, rfl, _, _, rfl, rfl, ?_⟩⟩
    obtain ⟨m, m0, m1, hmm⟩ := hm
    have hpr : ∀ i, i < dA.length → (dA.getD i []).length = (dB.getD i []).length := fun i hi => by rw [(hmm i hi).1, (hmm i hi).2]
    have hsz : ∀ i, i < dA.length → (dA.getD i []).length = (dA.getD 0 []).length := fun i hi => by rw [(hmm i hi).1, (hmm 0 h0).1]
    have hA := rwh_of rA
    dsimp only
    refine seq_cut (fun σ' H' => σ' = [some (.ref a), some (.ref A), some (.ref B), none, none, none, none, none, none, none] ∧ Same H1 H') (fun σ' H2 hP => ?_) (fun R hR => ?_)
    rotate_left
    · refine ⟨_, rfl, A, tps dA, rfl, hA, fun l1 H2 s2 n2 e2 => ⟨_, rfl, A, tps dA, rfl, rwh_of (rA.tf (same_tf s2)), fun l2 H3 s3 n3 e3 => ⟨_, _, .lst (SqL.of (s3 _ _ e2)) (dp_ints _), .lst (SqL.of e3) (dp_ints _), shaped_intsL _, shaped_intsL _, ?_⟩⟩⟩
      rw [PyData.eqv, eqv_self_ints]
      refine ⟨_, rfl, iteF ?_⟩
      refine ⟨_, rfl, A, tps dA, rfl, rwh_of (rA.tf (same_tf (s2.trans s3))), fun l3 H4 s4 n4 e4 => ⟨_, _, _, _, _, rfl, .ty "list", .base (.lst e4), kit_ty (r := true) (by decide +kernel), _, rfl, iteF ?_⟩⟩
      refine ⟨(show 0 ≤ sizeLine by decide), fun p np => ⟨p, [], rfl, ⟨[], SqT.of upd_same, .nil, trivial, by simp, fun _ q => (nomatch q)⟩, fun l4 H5 s5 n5 e5 => ⟨(show 0 ≤ sizeLine by decide), fun q nq => ?_⟩⟩⟩
      have sp := new_same (o := .tup []) np
      have sq := new_same (o := .lst []) nq
      refine ⟨[], .lst (SqL.of (sq _ _ e5)) .nil, .lst (SqL.of upd_same) .nil, by simp [PyData.canLayAll0], _, rfl, iteF (hR _ _ ⟨rfl, ((s2.trans s3).trans s4).trans ((sp.trans s5).trans sq)⟩)⟩
    obtain ⟨rfl, s12⟩ := hP
    have rA2 := rA.tf (same_tf s12)
    have rB2 := rB.tf (same_tf s12)
    refine ⟨_, rfl, _, rfl, A, B, us, vs', dA, dB, rfl, rA2, rB2, hAB, h0, hpr, hsz, fun v H3 s3 hv => ?_⟩
    have s13 := s12.trans s3
    have rA3 := rA2.tf (same_tf s3)
    have rB3 := rB2.tf (same_tf s3)
    dsimp only
    refine seq_cut (fun σ' H' => σ' = [some (.ref a), some (.ref A), some (.ref B), some v, none, none, none, none, none, none] ∧ Same H3 H') (fun σ' H4 hP => ?_) (fun R hR => ?_)
    rotate_left
    · refine ⟨_, rfl, _, rfl, A, B, us, vs', dA, dB, rfl, rA3, rB3, hAB, h0, hpr, fun v2 H4 s4 hv2 => ?_⟩
      obtain ⟨d, dp1, dp2, al⟩ := ptv_dp (K := K) (hv.same s4) hv2
      refine ⟨_, rfl, v2, v, d, rfl, dp2, dp1, al, fun H5 s5 => ⟨_, rfl, iteF ?_⟩⟩
      have s35 := s4.trans s5
      refine ⟨_, rfl, _, rfl, B, A, vs', us, dB, dA, rfl, rB3.tf (same_tf s35), rA3.tf (same_tf s35), hAB.symm, by omega, fun i hi => (hpr i (by omega)).symm, fun v3 H6 s6 hv3 => ?_⟩
      obtain ⟨d', dp1', dp2', al'⟩ := ptv_dp (K := K) (hv.same (s35.trans s6)) (ptv_sym hAB hpr h0 hv3)
      exact ⟨_, rfl, v3, v, d', rfl, dp2', dp1', al', fun H7 s7 => ⟨_, rfl, iteF (hR _ _ ⟨rfl, (s35.trans s6).trans s7⟩)⟩⟩
    obtain ⟨rfl, s34⟩ := hP
    have rA4 := rA3.tf (same_tf s34)
    have rB4 := rB3.tf (same_tf s34)
    refine seq_cut (fun σ' H' => σ' = [some (.ref a), some (.ref A), some (.ref B), some v, none, none, none, none, none, none] ∧ H' = H4) (fun σ' H5 hP => ?_) (fun R hR => ?_)
    rotate_left
    · rcases hv.same s34 with ⟨_, rfl⟩ | ⟨g1, p, t, e, c, u, e3, c2, rfl, g3, g4, g5⟩
      · exact ⟨_, rfl, rfl, _, rfl, ite2 (fun z => absurd z (by simp)) (fun _ => iteF (hR _ _ ⟨rfl, rfl⟩))⟩
      · obtain ⟨ht, hu2, un⟩ := parted_un hAB h0 hpr (fun i hi => by rw [(hmm i hi).1]; exact m0) g1 g3 g4
        obtain ⟨cA, xA, eA, wA⟩ := rA4.at_ t ht
        obtain ⟨cB, xB, eB, wB⟩ := rB4.at_ t (by omega)
        have hu3 : u < (dB.getD t []).length := by rw [← hpr t ht]; exact hu2
        obtain ⟨yA, fA, pA⟩ := dpa_get wA.dp (List.getElem?_eq_getElem hu2)
        obtain ⟨yB, fB, pB⟩ := dpa_get wB.dp (List.getElem?_eq_getElem hu3)
        have okA := wA.sm _ (List.getElem_mem hu2)
        have okB := wB.sm _ (List.getElem_mem hu3)
        have gA : (dA.getD t []).getD u .none = (dA.getD t [])[u] := by rw [List.getD_eq_getElem?_getD, List.getElem?_eq_getElem hu2]; rfl
        have gB : (dB.getD t []).getD u .none = (dB.getD t [])[u] := by rw [List.getD_eq_getElem?_getD, List.getElem?_eq_getElem hu3]; rfl
        rw [gA, gB] at un
        refine ⟨_, rfl, rfl, _, rfl, ite2 (fun _ => ?_) (fun z => absurd (by simp) z)⟩
        refine ⟨_, rfl, _, rfl, p, _, _, _, rfl, rfl, SqT.of g5, at_of (j := 0) rfl rfl, A, _, _, _, rfl, rfl, rA4.sq, atI_nat eA, _, rfl, p, _, _, _, rfl, rfl, SqT.of g5, at_of (j := 1) rfl rfl, cA, _, _, _, rfl, rfl, wA.sq, atI_nat fA, ?_⟩
        refine ⟨_, rfl, _, rfl, p, _, _, _, rfl, rfl, SqT.of g5, at_of (j := 0) rfl rfl, B, _, _, _, rfl, rfl, rB4.sq, atI_nat eB, _, rfl, p, _, _, _, rfl, rfl, SqT.of g5, at_of (j := 1) rfl rfl, cB, _, _, _, rfl, rfl, wB.sq, atI_nat fB, ?_⟩
        refine ⟨_, _, pA, pB, shaped_sm okA, shaped_sm okB, _, rfl, ite2 (fun z => absurd (eqv_ts 5 _ _ okA okB z) un) (fun _ => hR _ _ ⟨rfl, rfl⟩)⟩
    obtain ⟨rfl, rfl⟩ := hP
    have s14 := s13.trans s34
    have ha5 : SqL K H5 a (ns.map V.int) := Evl.ex_l (s1.trans s14) ha
    refine seq_cut (fun σ' H' => ∃ l, σ' = [some (.ref a), some (.ref A), some (.ref B), some v, some (.ref l), none, none, none, none, none] ∧ Same H5 H' ∧ H5 l = none ∧ Dk H' l 900000000000) (fun σ' H6 hP => ?_) (fun R hR => ?_)
    rotate_left
    · refine ⟨_, rfl, _, rfl, a, _, rfl, .inl ha5, _, _, rfl, rfl, _, _, rfl, _, _, rfl, ?_⟩
      obtain ⟨kk, hk⟩ : ∃ kk : Nat, (if (if ((ns.map V.int).length : Int) - 1 < 62 then ((ns.map V.int).length : Int) - 1 else 62) > 2 then (if ((ns.map V.int).length : Int) - 1 < 62 then ((ns.map V.int).length : Int) - 1 else 62) else 2) = (kk : Int) ∧ kk ≤ 100 := by
        refine ⟨(if (if ((ns.map V.int).length : Int) - 1 < 62 then ((ns.map V.int).length : Int) - 1 else 62) > 2 then (if ((ns.map V.int).length : Int) - 1 < 62 then ((ns.map V.int).length : Int) - 1 else 62) else 2).toNat, ?_, ?_⟩ <;> (split <;> split <;> omega)
      exact ⟨a, ns, kk, by rw [← hk.1]; rfl, ha5, hk.2, fun l H' s n dk => hR _ _ ⟨l, rfl, s, n, dk⟩⟩
    obtain ⟨l, rfl, s56, ln, dk6⟩ := hP
    have lH : H1 l = none := none_of s14 ln
    have st6 : StW l H1 H6 900000000000 := ⟨Frm.of_same (s14.trans s56), same_tf (s14.trans s56), dk6⟩
    have c4 : cnt 4 = 7810 := rfl
    refine seq_cut (fun σ' H' => ∃ v5 v6 v7 v8 v9 : Option V, σ' = [some (.ref a), some (.ref A), some (.ref B), some v, some (.ref l), v5, v6, v7, v8, v9]) (fun σ' H7 hP => ?_) (fun R hR => ?_)
    · obtain ⟨v5, v6, v7, v8, v9, rfl⟩ := hP
      exact k H7
    refine ⟨_, rfl, by decide, by decide, ?_⟩
    refine for_it (walk_range (lo := 0) (n := 6)) (fun i σ' H' => ∃ v5 v6 v7 v8 v9 : Option V, σ' = [some (.ref a), some (.ref A), some (.ref B), some v, some (.ref l), v5, v6, v7, v8, v9] ∧ StW l H1 H' (900000000000 - 10000 * i)) ⟨_, _, _, _, _, rfl, st6⟩ (fun _ _ _ _ _ => trivial) (fun i w σ H' Hx hi h yy => ?_) (fun σ H' h => ?_)
    rotate_left
    · obtain ⟨v5, v6, v7, v8, v9, rfl, _⟩ := h
      exact hR _ _ ⟨v5, v6, v7, v8, v9, rfl⟩
    · obtain ⟨v5, v6, v7, v8, v9, rfl, st⟩ := h
      obtain ⟨rfl, rfl⟩ := yy
      obtain ⟨N, hN⟩ : ∃ N, N = 900000000000 - 10000 * (i + 1) := ⟨_, rfl⟩
      replace st := st.le (m := N + 10 + cnt 4) (by omega)
      refine seq_cut (fun σ' H' => ∃ (wv : V) (dd : PyData) (cS : Addr) (xs : List V) (ds : List PyData), σ' = [some (.ref a), some (.ref A), some (.ref B), some v, some (.ref l), some (.int (0 + (i : Nat))), some wv, some (.ref cS), v8, v9] ∧ StW l H1 H' (N + 9) ∧ Dp K H' wv dd ∧ NL dd ∧ SmOk 4 dd ∧ WdH K H' cS xs ds ∧ ds.length = m) (fun σ' H7 hP => ?_) (fun R hR => ?_)
      rotate_left
      · refine ⟨_, rfl, l, N + 10, rfl, st.dk, fun wv dd H7 f7 d7 dp nl sm => ?_⟩
        have st7 := st.take f7 d7
        have rA7 := rA.tf st7.t
        have hl7 : us.length = dA.length := rA.len
        refine ⟨_, rfl, _, rfl, _, rfl, A, _, rfl, .inr rA7.sq, l, _, N + 9, rfl, (by show (0 : Int) < (us.length : Int); omega), (by show (us.length : Int) < 1267650600228229401496703205376; have := rA.le; omega), d7.le (by omega), fun j H8 j0 j1 f8 d8 => ?_⟩
        obtain ⟨J, rfl⟩ := Int.eq_ofNat_of_zero_le j0
        have st8 := st7.take f8 d8
        have t78 := d7.tf f8
        have rA8 := rA.tf st8.t
        obtain ⟨cS, xs, eS, wS⟩ := rA8.at_ J (by omega)
        exact ⟨A, _, _, _, rfl, rfl, rA8.sq, atI_nat eS, _, _, rfl, hR _ _ ⟨wv, dd, cS, xs, _, rfl, st8, dp_nl t78 _ _ nl dp, nl, sm, wS, (hmm J (by omega)).1⟩⟩
      obtain ⟨wv, dd, cS, xs, ds, rfl, st7, dp, nl, sm, wS, hds⟩ := hP
      have xl : xs.length = ds.length := dpa_len wS.dp
      refine seq_cut (fun σ' H' => ∃ (b : Nat), σ' = [some (.ref a), some (.ref A), some (.ref B), some v, some (.ref l), some (.int (0 + (i : Nat))), some wv, some (.ref cS), some (.int (b : Int)), v9] ∧ b < ds.length ∧ StW l H1 H' (N + 8) ∧ TF H7 H') (fun σ' H8 hP => ?_) (fun R hR => ?_)
      rotate_left
      · refine ⟨_, rfl, _, rfl, cS, _, rfl, .inr wS.sq, l, _, N + 8, rfl, (by show (0 : Int) < (xs.length : Int); omega), (by show (xs.length : Int) < 1267650600228229401496703205376; omega), st7.dk.le (by omega), fun j H8 j0 j1 f8 d8 => ?_⟩
        obtain ⟨J, rfl⟩ := Int.eq_ofNat_of_zero_le j0
        exact hR _ _ ⟨J, rfl, by omega, st7.take f8 d8, st7.dk.tf f8⟩
      obtain ⟨b, rfl, hb, st8, t8⟩ := hP
      refine seq_cut (fun σ' H' => ∃ (e : Nat), σ' = [some (.ref a), some (.ref A), some (.ref B), some v, some (.ref l), some (.int (0 + (i : Nat))), some wv, some (.ref cS), some (.int (b : Int)), some (.int (e : Int))] ∧ b < e ∧ e ≤ ds.length ∧ StW l H1 H' N ∧ TF H7 H') (fun σ' H9 hP => ?_) (fun R hR => ?_)
      rotate_left
      · refine ⟨_, rfl, _, _, rfl, rfl, _, rfl, _, rfl, cS, _, rfl, .inr (t8.sq wS.sq), _, rfl, _, _, rfl, rfl, l, _, N, rfl, (by show (0 : Int) < (xs.length : Int) - (b : Int); omega), (by show (xs.length : Int) - (b : Int) < 1267650600228229401496703205376; omega), st8.dk.le (by omega), fun j H9 j0 j1 f9 d9 => ?_⟩
        obtain ⟨J, rfl⟩ := Int.eq_ofNat_of_zero_le j0
        exact ⟨_, _, rfl, rfl, hR _ _ ⟨b + 1 + J, by rw [show ((b + 1 + J : Nat) : Int) = (b : Int) + 1 + (J : Int) by omega]; rfl, by omega, by omega, st8.take f9 d9, t8.trans (st8.dk.tf f9)⟩⟩
      obtain ⟨e, rfl, hbe, hel, st9, t9⟩ := hP
      have w9 := wS.tf t9
      have dp9 := dp_nl t9 _ _ nl dp
      have sm6 : SmOk 6 dd := smok_mono (smok_mono sm)
      have smW : SmOk 6 (.tuple ds) := ⟨wS.len, wS.nl, wS.sm⟩
      have smS : SmOk 6 (.tuple (slc ds b e)) := smok_slc wS.len wS.nl wS.sm
      clear st8 t8 dp st7
      -- sums
      refine seq_cut (fun σ' H' => σ' = [some (.ref a), some (.ref A), some (.ref B), some v, some (.ref l), some (.int (0 + (i : Nat))), some wv, some (.ref cS), some (.int (b : Int)), some (.int (e : Int))] ∧ Same H9 H') (fun σ' Ha hP => ?_) (fun R hR => ?_)
      rotate_left
      · refine ⟨_, rfl, wv, dd, rfl, dp9, sm6, fun Hb sb => ⟨_, rfl, wv, dd, rfl, dp_nl (same_tf sb) _ _ nl dp9, sm6, fun Hc sc => ⟨_, _, .int (ts dd), rfl, .int _, .int _, trivial, fun Hd sd => ⟨_, rfl, iteF ?_⟩⟩⟩⟩
        have wd := w9.tf (same_tf ((sb.trans sc).trans sd))
        refine ⟨_, rfl, .ref cS, .tuple ds, rfl, .tup wd.sq wd.dp, smW, fun He se => ⟨_, rfl, .ref cS, .tuple ds, rfl, .tup (wd.tf (same_tf se)).sq (wd.tf (same_tf se)).dp, smW, fun Hf sf => ⟨rfl, _, rfl, ite2 (fun z => absurd z (by simp)) (fun _ => hR _ _ ⟨rfl, ((sb.trans sc).trans sd).trans (se.trans sf)⟩)⟩⟩⟩
      obtain ⟨rfl, sa⟩ := hP
      have wa := w9.tf (same_tf sa)
      have sta := st9.same sa
      refine seq_cut (fun σ' H' => σ' = [some (.ref a), some (.ref A), some (.ref B), some v, some (.ref l), some (.int (0 + (i : Nat))), some wv, some (.ref cS), some (.int (b : Int)), some (.int (e : Int))] ∧ Same Ha H') (fun σ' Hb hP => ?_) (fun R hR => ?_)
      rotate_left
      · refine ⟨_, rfl, _, rfl, _, rfl, cS, xs, ds, b, e, rfl, wa, hbe, hel, fun Hb sb => ?_⟩
        refine ⟨_, rfl, _, rfl, _, rfl, _, rfl, _, rfl, slice_ok (wa.tf (same_tf sb)) (by omega) hel fun sv Hc sc dps => ⟨sv, _, rfl, dps, smS, fun Hd sd => ⟨_, _, .int (ts (.tuple (slc ds b e))), rfl, .int _, .int _, trivial, fun He se => ⟨_, rfl, iteF (hR _ _ ⟨rfl, (sb.trans sc).trans (sd.trans se)⟩)⟩⟩⟩⟩
      obtain ⟨rfl, sb⟩ := hP
      have wb := wa.tf (same_tf sb)
      have stb := sta.same sb
      refine ⟨_, rfl, _, rfl, _, rfl, cS, xs, ds, b, e, rfl, wb, hbe, hel, fun Hc sc => ?_⟩
      refine ⟨_, rfl, _, rfl, _, rfl, _, rfl, _, rfl, slice_ok (wb.tf (same_tf sc)) (by omega) hel fun sv Hd sd dps => ⟨sv, _, rfl, dps, smS, fun He se => ⟨rfl, _, rfl, ite2 (fun z => absurd z (by simp)) (fun _ => ?_)⟩⟩⟩
      exact ⟨_, _, _, _, _, rfl, (stb.same ((sc.trans sd).trans se)).le (by omega)⟩
end
end K44
set_option maxRecDepth 100000
set_option maxHeartbeats 0
open PySem PySem.W PySem.Calls PyProof.Rows
set_option maxHeartbeats 0 in
theorem PySem.Challenge.cw_latepresses_k44_whole_sums_and_where_run_holds : PySem.Challenge.rw_latepresses_k44_whole_sums_and_where_run.Holds := by
  w_on; o_law
  refine HandSHeadRun.head_any (r := K44.R) (q := view K44.R.prog [43]) (H := K44.hk) (ob := K44.ob) (M := 20000) (loose := K44.loose) (d := HandSHeadRun.topDef K44.R.prog 43) (kwd := []) K44.ob_eq
    (by kernel_rfl) (fun s => by kernel_rfl) K44.run (by kernel_rfl) (by kernel_rfl) (by kernel_rfl) (by rfl) (by first | assumption | decide +kernel) (by decide +kernel) ⟨rfl, rfl, rfl, rfl, rfl, by decide +kernel⟩ ?hw ?hc
  case hw => w_witness2
  case hc =>
    refine L2.walk_ofE (l := PySem.Challenge.rw_latepresses_k44_whole_sums_and_where_run) (n := 63) (k := 10) (x := "script") (CX := L2.CX0) rfl (by decide) (by kernel_rfl) ⟨rfl, by decide, by decide⟩ ?F (fun _ _ _ _ z => z)
    intro w mg fa h Y G hmg0
    obtain ⟨K, KX, c⟩ := Y
    have hmg : mg ("law" : PySem.Str) = some (.ref fa) := by
      have e : (HandSHeadRun.topDef K44.R.prog 43).name = ("law" : PySem.Str) := by kernel_rfl
      rw [← e]
      exact hmg0
    have T := K44.txt_of KX G c
    have e := hmg.symm.trans T.g_law
    cases e
    exact ⟨K, K44.fdAt K (He.fAd K ("law", none)), K44.spLaw K, KX, fun s v => L2.FunD.bindsA (ps := ["script"]) T.F_law (fun _ _ _ _ _ _ us hl => match us, hl with | [_], _ => rfl) s [v] rfl, fun H a ns hl _ hS => ⟨a, ns, rfl, hS, hl, fun _ => rfl⟩, fun base _ _ => K44.ok_law T⟩
#print axioms PySem.Challenge.cw_latepresses_k44_whole_sums_and_where_run_holds
