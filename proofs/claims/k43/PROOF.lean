import PyProof.Rows.All
import Wide.All
import OpenK.AllK
import Wide.FinOn
import HandS.ForExc
import HandS.IsInst
import HandS.Wide
import KE.GoesEnumKw
import KE.KDictPairs
import HandS.ForMost
import HandS.Walk
import HandS.SortInts
import HandS.Dict
import HandS.More
import HandS.Evl
import KE.DataMinMax
import KE.SortData
import KE.KStateDown
import Wide.Once
import HandS.Comp
import HandS.Defaults
import HandS.Head0
import HandS.Head1
import HandS.Head2
import HandS.HeadEnd
import HandS.HeadHook1
import HandS.HeadHook2
import HandS.HeadHook3
import HandS.HeadHook4
import HandS.WideBits
import HandS.Zip
import HandS.Text
import PySem.Challenge.RW_latepresses_k43_whole_kept_worlds_and_be
set_option Elab.async false
set_option linter.all false
set_option maxRecDepth 100000
set_option maxHeartbeats 4000000
/-! Frames, draws, data without lists. -/
namespace KF
open PySem PySem.Spec PyProof.Rows L2
/-! ### data stand while tuples stand -/
def TF (H H' : Hp) : Prop := ∀ b xs, Rd H b (.tup xs) → Rd H' b (.tup xs)
theorem TF.sq {K : PySem.W.Frag} {H H' : Hp} (e : TF H H') {a : Addr} {xs : List V} (h : SqT K H a xs) : SqT K H' a xs := by
  rcases h with h | h
  · exact .inl (e _ _ h)
  · exact .inr h
theorem TF.refl (H : Hp) : TF H H := fun _ _ h => h
theorem TF.trans {H H1 H2 : Hp} (a : TF H H1) (b : TF H1 H2) : TF H H2 := fun c xs h => b c xs (a c xs h)
theorem TF.of_new {H : Hp} {p : Addr} {o : HO} (h : H p = none) : TF H (upd H p o) := fun c xs z => by
  rcases z with z | ⟨u, z⟩
  · exact .inl (by rw [upd_ne (ne_of_none z h)]; exact z)
  · exact .inr ⟨u, by rw [upd_ne (ne_of_none z h)]; exact z⟩
/-- but for one list all stands -/
def Frm (d : Addr) (H H' : Hp) : Prop := ∀ b o, b ≠ d → H b = some o → H' b = some o
theorem Frm.refl (d : Addr) (H : Hp) : Frm d H H := fun _ _ _ h => h
theorem Frm.trans {d : Addr} {H H1 H2 : Hp} (a : Frm d H H1) (b : Frm d H1 H2) : Frm d H H2 := fun c o n h => b c o n (a c o n h)
theorem Frm.of_same {d : Addr} {H H' : Hp} (e : Same H H') : Frm d H H' := fun b o _ h => e b o h
theorem Frm.of_new {d : Addr} {H : Hp} {p : Addr} {o : HO} (h : H p = none) : Frm d H (upd H p o) := fun b u _ z => by
  rw [upd_ne (ne_of_none z h)]
  exact z
theorem Frm.of_upd {d : Addr} {H : Hp} {o : HO} : Frm d H (upd H d o) := fun b u n z => by
  rw [upd_ne n]
  exact z
theorem Frm.tf {d : Addr} {H H' : Hp} {xs : List V} (e : Frm d H H') (h : H d = some (.lst xs)) : TF H H' := fun c ys z => by
  rcases z with z | ⟨u, z⟩
  · exact .inl (e c _ (fun q => by rw [q, h] at z; cases z) z)
  · exact .inr ⟨u, e c _ (fun q => by rw [q, h] at z; cases z) z⟩
theorem new_same {H : Hp} {p : Addr} {o : HO} (h : H p = none) : Same H (upd H p o) := fun b u z => by
  rw [upd_ne (ne_of_none z h)]
  exact z
theorem same_tf {H H' : Hp} (s : Same H H') : TF H H' := fun c zs z => by
  rcases z with z | ⟨u, z⟩
  · exact .inl (s _ _ z)
  · exact .inr ⟨u, s _ _ z⟩
theorem frm_same {H0 H1 H2 : Hp} {d : Addr} (s : Same H0 H1) (n : H0 d = none) (f : Frm d H1 H2) : Same H0 H2 := fun b o z => f b o (ne_of_none z n) (s b o z)
/-- a row of draws at d, good for n more -/
def Deck (H : Hp) (d : Addr) (n : Nat) : Prop := ∃ r m i c : Int, H d = some (.lst [.int r, .int m, .int i, .int c]) ∧ 0 ≤ m ∧ m < 2305843009213693951 ∧ 0 ≤ i ∧ i ≤ 1000 ∧ 0 ≤ c ∧ c + n ≤ 1000000000000
theorem Deck.le {H : Hp} {d : Addr} {n k : Nat} (h : Deck H d n) (hk : k ≤ n) : Deck H d k := by
  obtain ⟨r, m, i, c, h0, h1, h2, h3, h4, h5, h6⟩ := h
  exact ⟨r, m, i, c, h0, h1, h2, h3, h4, h5, by omega⟩
theorem Deck.lst {H : Hp} {d : Addr} {n : Nat} (h : Deck H d n) : ∃ xs, H d = some (.lst xs) := by
  obtain ⟨r, m, i, c, h0, _⟩ := h
  exact ⟨_, h0⟩
theorem Deck.keep {H H' : Hp} {d : Addr} {n : Nat} (h : Deck H d n) (e : H' d = H d) : Deck H' d n := by
  obtain ⟨r, m, i, c, h0, h1⟩ := h
  exact ⟨r, m, i, c, by rw [e]; exact h0, h1⟩
theorem Deck.same {H H' : Hp} {d : Addr} {n : Nat} (h : Deck H d n) (e : Same H H') : Deck H' d n := by
  obtain ⟨r, m, i, c, h0, h1⟩ := h
  exact ⟨r, m, i, c, e _ _ h0, h1⟩
theorem small_ab {i : Int} {n : Nat} (h0 : 0 ≤ i) (h1 : i < 2 ^ n) : i.natAbs < 2 ^ n := by
  have e : ((i.natAbs : Nat) : Int) = i := Int.natAbs_of_nonneg h0
  have h2 : ((i.natAbs : Nat) : Int) < ((2 ^ n : Nat) : Int) := by
    rw [e, Int.natCast_pow]
    exact h1
  exact Int.ofNat_lt.mp h2
theorem pow63 : (2 : Int) ^ 63 = 9223372036854775808 := by decide
theorem pow20 : (2 : Int) ^ 20 = 1048576 := by decide
theorem pow40 : (2 : Int) ^ 40 = 1099511627776 := by decide
theorem pow122 : (2 : Nat) ^ 122 = 5316911983139663491615228241121378304 := by decide
theorem pow120 : (2 : Nat) ^ (40 + 40 + 40) = 1329227995784915872903807060280344576 := by decide
theorem ne_int {i j : Int} (h : ¬ (V.int i = V.int j)) : i ≠ j := fun e => h (by rw [e])
theorem ty_tup {K : PySem.W.Frag} {H : Hp} {a : Addr} {xs : List V} (h : SqT K H a xs) : TyX K H (.ref a) (.type "tuple") := by
  rcases h with (h | ⟨o, h⟩) | ⟨o, _, _, h, hc, _⟩
  · exact .base (.tup h)
  · exact .fTuple h
  · exact .kTuple h hc
section
variable {K : PySem.W.Frag} {H : Hp}
theorem dpa_len : ∀ {vs : List V} {ds : List PyData}, DpAll K H vs ds → vs.length = ds.length
  | [], _, h => by cases h; rfl
  | v :: vs, _, h => by
    cases h with
    | cons _ b => rw [List.length_cons, List.length_cons, dpa_len b]
theorem dpa_get : ∀ {vs : List V} {ds : List PyData} {i : Nat} {e : PyData}, DpAll K H vs ds → ds[i]? = some e → ∃ v, vs[i]? = some v ∧ Dp K H v e
  | [], _, i, e, h, he => by cases h; cases he
  | v :: vs, _, 0, e, h, he => by
    cases h with
    | cons a _ => cases he; exact ⟨v, rfl, a⟩
  | v :: vs, _, i + 1, e, h, he => by
    cases h with
    | cons _ b => exact dpa_get (vs := vs) (i := i) b he
end
/-! ### x is True, x is not True, x any value -/
def rIsT (c : Bool) : R2 := fun x y H Q => y = .bl c ∧ Q (.bl (decide (x = .bl c))) H
theorem plain_bl (c : Bool) {x : V} {u : Value} (r : RelV x u) : plainIs u (.bool c) = true := by
  cases x <;> first | (cases r; rfl) | (obtain ⟨t, rfl⟩ := r; rfl)
section
variable {X : Cx}
theorem op_isT (c : Bool) : OpR X (compareOp .Is) (rIsT c) := by
  intro pins s σ H x y v u Q I rx ry h
  obtain ⟨rfl, q⟩ := h
  cases (show u = Value.bool c from ry)
  by_cases e : x = .bl c
  · subst e
    cases (show v = Value.bool c from rx)
    exact wpAny_is_self (plain_bl c rx) ⟨.bl true, H, I, rfl, by simpa using q⟩
  · refine wpAny_is_other (plain_bl c rx) (fun z => e ?_) ⟨.bl false, H, I, rfl, by simpa [e] using q⟩
    subst z
    exact RelV.inj rx rfl
theorem op_notT (c : Bool) : OpR X (compareOp .IsNot) (fun x y H Q => y = .bl c ∧ Q (.bl (!decide (x = .bl c))) H) := by
  intro pins s σ H x y v u Q I rx ry h
  obtain ⟨rfl, q⟩ := h
  cases (show u = Value.bool c from ry)
  by_cases e : x = .bl c
  · subst e
    cases (show v = Value.bool c from rx)
    exact wpAny_isNot_self (plain_bl c rx) ⟨.bl false, H, I, rfl, by simpa using q⟩
  · refine wpAny_isNot_other (plain_bl c rx) (fun z => e ?_) ⟨.bl true, H, I, rfl, by simpa [e] using q⟩
    subst z
    exact RelV.inj rx rfl
end

/-! ### data without lists and dicts -/
mutual
def NL : PyData → Prop
  | .none => True
  | .bool _ => True
  | .int _ => True
  | .str _ => True
  | .list _ => False
  | .tuple ds => NLs ds
  | .dict _ => False
def NLs : List PyData → Prop
  | [] => True
  | d :: ds => NL d ∧ NLs ds
end
section
variable {K : PySem.W.Frag} {H H' : Hp}
mutual
theorem dp_nl (e : TF H H') : ∀ (d : PyData) (v : V), NL d → Dp K H v d → Dp K H' v d
  | .none, _, _, h => by cases h; exact .non
  | .bool _, _, _, h => by cases h; exact .bl _
  | .int _, _, _, h => by cases h; exact .int _
  | .str _, _, _, h => by cases h; exact .str _
  | .list _, _, r, _ => r.elim
  | .dict _, _, r, _ => r.elim
  | .tuple ds, _, r, h => by
    cases h with
    | tup a b => exact .tup (e.sq a) (dpa_nl e ds _ r b)
theorem dpa_nl (e : TF H H') : ∀ (ds : List PyData) (vs : List V), NLs ds → DpAll K H vs ds → DpAll K H' vs ds
  | [], _, _, h => by cases h; exact .nil
  | d :: ds, _, r, h => by
    cases h with
    | cons a b => exact .cons (dp_nl e d _ r.1 a) (dpa_nl e ds _ r.2 b)
end
end
end KF
set_option maxRecDepth 100000
set_option maxHeartbeats 4000000
/-! enumerate of a tuple, from any number on; sorted of a dict of any size; dict of a tuple of pairs. -/
namespace PySem
open Sem (wp)
set_option maxHeartbeats 1000000 in
theorem kd_meets_enum1 {v : Value} {o : Obj} {Hv : Heap → Prop} (B : Begins v o Hv) :
    Meets (Builtin.«enumerate.__new__» ⟨[.type "enumerate", v], []⟩) (fun _ R s => Hv s.heap ∧
      R (.ok (.ret (.ref (s.heap.push o).objs.size))) { s with heap := (s.heap.push o).push { cls := .type "enumerate", data := .fields #[.none, .bool false, .ref s.heap.objs.size, rawInt 0, .none, .none] } }) :=
  .of_wp fun prog w A R s hh => by
    obtain ⟨hp, g, d, tk, os⟩ := s
    obtain ⟨v1, hh⟩ := hh
    have hsub := sub_enumerate
    have start : ∀ {A' : Around} {E : Value → Shared → Prop} {Q : Value → Shared → Prop}, Q (.ref hp.objs.size) ⟨hp.push o, g, d, tk, os⟩ → wpAny (model prog w) A' (pyIter v) Q E ⟨hp, g, d, tk, os⟩ :=
      fun q => B.iter prog w _ _ ⟨hp, g, d, tk, os⟩ _ v1 q
    wp_walk using start
    refine wpAny_stack_any fun st => wpAny_pure ?_
    split
    · rename_i c _ _ _ _ _
      cases (c == Value.type "enumerate")
      · wp_walk using start
        exact ⟨_, rfl, hh⟩
      · wp_walk using start
        exact ⟨_, rfl, hh⟩
    · wp_walk using start
      exact ⟨_, rfl, hh⟩
section
variable {prog : Program} {w : World} {A : Around} {E : Value → Shared → Prop} {s : Shared}
theorem kd_enum1 {v : Value} {o : Obj} {Hv : Heap → Prop} {Q : Value → Shared → Prop} (B : Begins v o Hv) (v1 : Hv s.heap)
    (hq : ∀ h', IsEnum h' (s.heap.objs.size + 1) s.heap.objs.size 0 .none → h'.get? s.heap.objs.size = some o → h'.objs.size = s.heap.objs.size + 2 →
      (∀ b o, s.heap.get? b = some o → h'.get? b = some o) → Q (.ref (s.heap.objs.size + 1)) { s with heap := h' }) :
    wpAny (model prog w) A (call (.type "enumerate") [v]) Q E s := by
  refine callType_new F.called_enumerate (by decide) (F.typeCall_enumerate_1 _) (F.newCall_enumerate_1 _) (fun ob => F.args_object_init_2 ob _) F.entry_enumerate_new
    (kd_meets_enum1 B) ⟨v1, ?_⟩
  have hz : (s.heap.push o).objs.size = s.heap.objs.size + 1 := Heap.size_push ..
  show _ ∧ _
  rw [hz]
  have he : IsEnum ((s.heap.push o).push { cls := .type "enumerate", data := .fields #[.none, .bool false, .ref s.heap.objs.size, rawInt 0, .none, .none] }) (s.heap.objs.size + 1) s.heap.objs.size 0 .none := by
    have := Heap.get?_push_size (s.heap.push o) (o := { cls := .type "enumerate", data := .fields #[.none, .bool false, .ref s.heap.objs.size, rawInt 0, .none, .none] }) rfl
    rw [hz] at this
    exact this
  exact ⟨⟨_, he, rfl⟩, hq _ he (Heap.get?_push_of_some _ (Heap.get?_push_size _ B.free)) (by rw [Heap.size_push, hz]) fun b o x => Heap.get?_push_of_some _ (Heap.get?_push_of_some _ x)⟩
end
end PySem
namespace KD
open PySem PySem.Spec PyProof.Rows L2
/-- the tuple at a, each item behind its number, from c on, in a new pair -/
def Ity (K : PySem.W.Frag) (a : Addr) (c : Int) : It :=
  ⟨fun i G => ∃ (xs : List V) (x : V), SqT K G a xs ∧ xs[i]? = some x, fun i G v G' => ∃ t x, v = .ref t ∧ G t = none ∧ G' = upd G t (.tup [.int (c + (i : Nat)), x]) ∧ ∀ xs, SqT K G a xs → xs[i]? = some x, fun i G => ∃ xs : List V, SqT K G a xs ∧ xs.length ≤ i⟩
theorem turn_ity {P : Program} {w : World} {K : PySem.W.Frag} {elts : List Expr} {kk : Nat} {tpos : Pos} (a e it : Addr) (c : Int) :
    Turn P w K (.Tuple elts kk tpos) (Ity K a c) [e, it] e (fun i h => (∃ old, IsEnum h e it (c + ((i : Nat) : Int)) old) ∧ h.IsTupleIter it a i ∧ e ≠ it) where
  mem := by simp
  obj := fun i h st b hb => by
    obtain ⟨⟨old, he⟩, ⟨o, ho, _, hd⟩, _⟩ := st
    have z : b = e ∨ b = it := by simpa using hb
    rcases z with z | z
    · rw [z]
      exact ⟨_, he, fun v q => nomatch q⟩
    · rw [z]
      exact ⟨o, ho, fun v q => by rw [hd] at q; cases q⟩
  keep := fun i h h' st k => let ⟨⟨old, he⟩, hi, hne⟩ := st; ⟨⟨old, k e (by simp) _ he⟩, hi.at fun o q => k it (by simp) o q, hne⟩
  item := by
    intro X hP hw hK hc i pins s σ G E I hf st hg
    subst hP hw hK
    obtain ⟨⟨old, he⟩, hit, hne⟩ := st
    obtain ⟨xs, x, hq, hx⟩ := hg
    obtain ⟨its, rv, p, hz⟩ := I.tuple hq
    obtain ⟨u, hu, ru⟩ := rv.get hx
    have p2 : s.heap.IsTuple a its.toArray := p
    obtain ⟨oa, g1, g2, n1, g3⟩ := id p2
    obtain ⟨oi, i1, i2, i3⟩ := id hit
    have nai : a ≠ it := fun z => by
      rw [z, i1] at g1
      cases g1
      rw [i3] at g3
      cases g3
    have nea : e ≠ a := fun z => by
      have he2 := he
      unfold IsEnum at he2
      rw [z, g1] at he2
      cases he2
      cases g3
    have hel : e < s.heap.objs.size := Heap.lt_size he
    have hil : it < s.heap.objs.size := Heap.lt_size i1
    have D := Draws.tuple (prog := X.prog) (w := X.w) (A := X.A.in1) (I.ok.hd hc) it a nai its.toArray
    have hin : i < its.toArray.size := by
      have z : i < its.length := (List.getElem?_eq_some_iff.mp hu).1
      simpa using z
    refine wpAny_pyNext_enum_itemC D he ⟨hit, p2⟩ hin hne (by simp [hne, nea]) fun y h' tk hy ho hst' hT hsz hk => ?_
    have hy2 : y = u := by
      have z : its[i]? = some y := by simpa using hy
      rw [hu] at z
      exact (Option.some.inj z).symm
    subst hy2
    refine ⟨_, rfl, wpAny_letOwnedTupleGo_enum (s := { s with heap := h', toks := tk + 1 }) ho fun h2 he2 sb => ?_⟩
    have hT2 : h2.get? s.heap.objs.size = some { cls := .type "tuple", data := .seq #[.int (c + ((i : Nat) : Int)) tk, y] } := (sb.2 _ (Nat.ne_of_gt hel)).trans hT
    have new : ObjOk X.prog X.w (upd G s.heap.objs.size (.tup [.int (c + ((i : Nat) : Int)), x])) h2 s.heap.objs.size (.tup [.int (c + ((i : Nat) : Int)), x]) :=
      ⟨by show 2 ≤ sizeLine; decide, [.int (c + ((i : Nat) : Int)) tk, y], .cons ⟨_, rfl⟩ (.cons ru .nil), ⟨_, hT2, rfl, _, rfl⟩⟩
    have I1 : Inv X pins σ (upd G s.heap.objs.size (.tup [.int (c + ((i : Nat) : Int)), x])) { s with heap := h2, toks := tk + 1 } :=
      I.turnedNew (ch := [e, it]) (fun b ob hb q => (sb.2 b (fun z => hb (by simp [z]))).trans (hk b ob (fun z => hb (by simp [z])) (fun z => hb (by simp [z])) q)) hf (Nat.le_refl _) new
    refine ⟨.ref s.heap.objs.size, _, I1, rfl, ⟨_, x, rfl, I.hok.fresh (Nat.le_refl _), rfl, fun ys hys => by rw [I.tuple_inj hys hq]; exact hx⟩, ⟨⟨y, ?_⟩, hst'.1.at fun o q => (sb.2 it (Ne.symm hne)).trans q, hne⟩, fun b hb => ?_⟩
    · have e1 : c + ((i + 1 : Nat) : Int) = c + (i : Int) + 1 := by omega
      rw [e1]
      exact he2
    · have hb2 : b < s.heap.objs.size := by
        have z : b = e ∨ b = it := by simpa using hb
        rcases z with z | z
        · rw [z]; exact hel
        · rw [z]; exact hil
      rw [upd_ne (Nat.ne_of_lt hb2)]
      exact (hf b hb).1
  done := by
    intro X hP hw hK hc i pins s σ G E I hf st hg
    subst hP hw hK
    obtain ⟨⟨old, he⟩, hit, hne⟩ := st
    obtain ⟨xs, hq, hx⟩ := hg
    obtain ⟨its, rv, p, hz⟩ := I.tuple hq
    have p2 : s.heap.IsTuple a its.toArray := p
    obtain ⟨oa, g1, g2, n1, g3⟩ := id p2
    obtain ⟨oi, i1, i2, i3⟩ := id hit
    obtain ⟨f0, f1, f2, f3, f4, f5⟩ := hf it (by simp)
    have hl := rv.length
    have hit2 := hit
    have ends : ∀ h', Heap.ExtBut it s.heap h' → (none : Option Value) = none ∧ Inv X pins σ G { s with heap := h' } := fun h' eb => ⟨rfl, I.turned (t' := s.toks) (fun b o hb q => eb b o hb q) f0 f1 f3 f4 f5⟩
    have hT : s.TypeIs (.ref e) "enumerate" := ⟨_, he, rfl⟩
    unfold pyNext
    refine wpAny_bind (wpAny_attempt (wpAny_callSpecial?_slot (name := Str.ofString "__next__") hT F.slot_enumerate_next (wpAny_call_entry F.slot_enumerate_next hT F.entry_enumerate_next ?_ (F.args_enumerate_next_1 _))))
    show wpAny _ _ (field (.ref e) 2 >>= _) _ _ _
    refine wpAny_bind (wpAny_field he rfl (x := .ref it) rfl ?_)
    refine wpAny_bind (wpAny_nextOf_tuple_end (I.ok.hd hc) hit p2 (by simp; omega) fun h' x he' hx' => ?_)
    obtain ⟨o, ho, hc2⟩ := hx'
    refine wpAny_bind (wpAny_isInstance (T := "StopIteration") (b := true) ⟨o, ho, hc2⟩ isSubtype_stop ?_)
    exact wpAny_pure (ends _ he')
  self := fun A i s Q E st h => let ⟨⟨_, he⟩, _⟩ := st; wpAny_pyIter_enum he h
def iEnT (K : PySem.W.Frag) (ta : TA) : TI := fun σ G R => ta σ G fun vs G1 => ∃ a xs, vs = [.ref a] ∧ SqT K G1 a xs ∧ R (Ity K a 0) G1
def iEnTS (K : PySem.W.Frag) (ta tk : TA) : TI := fun σ G R => ta σ G fun vs G1 => tk σ G1 fun zs G2 => ∃ a xs c, vs = [.ref a] ∧ zs = [.int c] ∧ -(2 ^ 63) ≤ c ∧ c < 2 ^ 63 ∧ SqT K G2 a xs ∧ R (Ity K a c) G2
section
variable {X : Cx} {e : Expr} {ta tk : TA} {p pos tpos : Pos} {elts : List Expr} {kk : Nat} {kws : List Keyword}
theorem begun {pins : List (Addr × Obj)} {σ : L2.St} {G : Hp} {s1 : Shared} {R : It → Hp → Prop} {a : Addr} {c : Int} {h' : Heap} (I1 : Inv X pins σ G s1) (he : IsEnum h' (s1.heap.objs.size + 1) s1.heap.objs.size c .none)
    (hit : h'.get? s1.heap.objs.size = some { cls := .type "tuple_iterator", data := .fields #[.ref a, .int 0 0] }) (hk : ∀ b o, s1.heap.get? b = some o → h'.get? b = some o) (q : R (Ity X.K a c) G) :
    PIE X pins σ (.Tuple elts kk tpos) R (.ref (s1.heap.objs.size + 1)) { s1 with heap := h' } := by
  have I2 : Inv X pins σ G { s1 with heap := h' } := I1.kept (t' := s1.toks) hk
  have he0 : IsEnum h' (s1.heap.objs.size + 1) s1.heap.objs.size (c + ((0 : Nat) : Int)) .none := by
    rw [show c + ((0 : Nat) : Int) = c from by omega]
    exact he
  refine ⟨s1.heap.objs.size + 1, [s1.heap.objs.size + 1, s1.heap.objs.size], _, _, G, rfl, I2, turn_ity a (s1.heap.objs.size + 1) s1.heap.objs.size c, ⟨⟨.none, he0⟩, ⟨_, hit, rfl, rfl⟩, Nat.succ_ne_self _⟩, fun b hb => ?_, q⟩
  have z : b = s1.heap.objs.size + 1 ∨ b = s1.heap.objs.size := by simpa using hb
  have hle : s1.heap.objs.size ≤ b := by
    rcases z with z | z
    · rw [z]; exact Nat.le_add_right _ _
    · rw [z]; exact Nat.le_refl _
  exact I1.fpOk hle (I1.hok.fresh hle)
theorem pi_enT (hg : Gl X "enumerate") (hm : X.mg "enumerate" = none) (ha : PA X [e] ta) (hs : starEach [e] X.env = [(false, eval e X.env)] := by rfl) :
    PI X (.Tuple elts kk tpos) (.Call (.Name "enumerate" p) [e] [] pos) (iEnT X.K ta) := by
  refine ⟨fun pins s σ G R I h => ?_⟩
  refine Call_ (ld_blt I hg hm boot_enumerate (PyProof.Rows.callWith_type1 (thn (ha.run pos pins s σ G _ I h) fun us s1 ⟨vs, G1, I1, r1, q1⟩ => ?_) hs rfl))
  obtain ⟨a, xs, ex, hq, q⟩ := q1
  subst ex
  cases r1 with
  | cons r rr =>
    cases rr
    cases r
    obtain ⟨its, rv, p', hz⟩ := I1.tuple hq
    refine kd_enum1 (begins_tuple a its.toArray) (show s1.heap.IsTuple a its.toArray from p') fun h' he hit hsz hk => wpAny_pyIter_enum he (begun I1 he hit hk q)
theorem callWith_typeK {M : Model} {A : Around} {E : Value → Shared → Prop} {s : Shared} {env : Env} {T : String} {e : Expr} {rest : List Expr} {kws : List Keyword} {Q : Value → Shared → Prop}
    (h : wpAny M A (spliced (backTo pos (starEach (e :: rest) env))) (fun vs s1 => wpAny M A (evalAll ((backToKw pos (keywordEach kws env)).map (·.2)))
      (fun kvs s2 => wpAny M A (call (.type T) vs (((backToKw pos (keywordEach kws env)).filterMap (·.1)).zip kvs)) Q E s2) E s1) E s)
    (he : backTo pos (starEach (e :: rest) env) = (false, eval e env) :: backTo pos (starEach rest env) := by rfl)
    (hplain : (backTo pos (starEach (e :: rest) env)).any (·.1) = false := by rfl)
    (hall : (backToKw pos (keywordEach kws env)).all (·.1.isSome) = true := by rfl)
    (hkw : (backToKw pos (keywordEach kws env)).any (·.1.isNone) = false := by rfl) :
    wpAny M A (callWith pos (.type T) [] (backTo pos (starEach (e :: rest) env)) (backToKw pos (keywordEach kws env))) Q E s := by
  unfold callWith
  have hE : wpAny M A (evalArgs (.type T) true (backTo pos (starEach (e :: rest) env)) (backToKw pos (keywordEach kws env))) (fun a s1 => wpAny M A (call (.type T) ([] ++ a.pos) a.kw) Q E s1) E s := by
    rw [he] at h ⊢
    exact PyProof.Rows.evalArgs_kwB hall h
  refine wpAny_bind (wpAny_holding (wpAny_mono hE (fun a s1 g1 => wpAny_bind (wpAny_standAt ?_)) fun _ _ x => x))
  simp only [hplain, hkw, Bool.or_false]
  refine wpAny_bind (wpAny_pure ?_)
  exact wpAny_bind (wpAny_mono g1 (fun r s2 hr => wpAny_bind (wpAny_holding (wpAny_point (wpAny_pure hr)))) fun _ _ x => x)
theorem pi_enTS (hg : Gl X "enumerate") (hm : X.mg "enumerate" = none) (ha : PA X [e] ta) (hk : PK X kws tk)
    (hks : (backToKw pos (keywordEach kws X.env)).filterMap (·.1) = [("start" : Str)] := by rfl)
    (he : backTo pos (starEach [e] X.env) = (false, eval e X.env) :: backTo pos (starEach [] X.env) := by rfl)
    (hplain : (backTo pos (starEach [e] X.env)).any (·.1) = false := by rfl)
    (hall : (backToKw pos (keywordEach kws X.env)).all (·.1.isSome) = true := by rfl)
    (hkw : (backToKw pos (keywordEach kws X.env)).any (·.1.isNone) = false := by rfl) :
    PI X (.Tuple elts kk tpos) (.Call (.Name "enumerate" p) [e] kws pos) (iEnTS X.K ta tk) := by
  refine ⟨fun pins s σ G R I h => ?_⟩
  refine wpAny_Call_Name_kw (ld_blt I hg hm boot_enumerate ?_)
  refine callWith_typeK (thn (ha.run pos pins s σ G _ I h) fun us s1 ⟨vs, G1, I1, r1, q1⟩ => thn (hk.run pos pins s1 σ G1 _ I1 q1) fun ws s2 ⟨zs, G2, I2, r2, q2⟩ => ?_) he hplain hall hkw
  rw [hks]
  obtain ⟨a, xs, c, ex, ez, c0, c1, hq, q⟩ := q2
  subst ex ez
  cases r1 with
  | cons r rr =>
    cases rr
    cases r
    cases r2 with
    | cons t tt =>
      cases tt
      obtain ⟨t0, rfl⟩ := t
      obtain ⟨its, rv, p', hz⟩ := I2.tuple hq
      exact enum_begins_start (begins_tuple a its.toArray) (show s2.heap.IsTuple a its.toArray from p') c0 c1 fun h' he hit hsz hk => wpAny_pyIter_enum he (begun I2 he hit hk q)
end
theorem walk_ity {K : PySem.W.Frag} {a : Addr} {xs : List V} {c : Int} : Walk (Ity K a c) xs.length (fun G => SqT K G a xs) (YPair (fun i => some (.int (c + (i : Nat)))) (fun i => xs[i]?)) := by
  refine ⟨fun i _ hi q => ⟨xs, xs[i], q, by simp [hi]⟩, fun _ q => ⟨xs, q, Nat.le_refl _⟩, fun i G v G' _ q y => ?_⟩
  obtain ⟨t, x, h1, h2, h3, h4⟩ := y
  exact ⟨t, .int (c + (i : Nat)), x, h1, h2, h3, rfl, h4 xs q⟩
section
variable {X : Cx}
/-- sorted(d), its keys ints, any number of them -/
theorem call_sortedDA (hcalm : X.calm = true) : CallR X (.builtin "sorted") (fun xs G Q => ∃ (a : Addr) (kvs : List (Key × V)) (ks : List Int), xs = [.ref a] ∧ Rd G a (.dK kvs) ∧ kvs.map (·.1) = ks.map Sum.inl ∧
    ∀ (ys : List Int) (p : Addr), ys.Perm ks → ys.Pairwise (· ≤ ·) → G p = none → Q (.ref p) (upd G p (.lst (ys.map V.int)))) := by
  intro pins s σ G xs us Q I r q
  obtain ⟨a, kvs, ks, ex, hd, hks, q⟩ := q
  subst ex
  obtain ⟨u, eu, rx⟩ := vals1 r
  subst eu
  cases rx
  obtain ⟨z, lo, vs, rel, dd⟩ := dk_rd I.hok hd
  obtain ⟨ep, hat⟩ := dd.dictAt
  have hkeys : vs.map (·.1) = ks.map Sum.inl := rel.keys.symm.trans hks
  have hl : vs.length = ks.length := by
    have e := congrArg List.length hkeys
    rw [List.length_map, List.length_map] at e
    exact e
  have zv : vs.length ≤ sizeLine := by rw [← rel.length]; exact z
  refine Calls.call_function_entry PyProof.Rows.kind_sorted PyProof.Rows.plain_sorted PyProof.Rows.entry_sorted (PyProof.Rows.args_sorted1 _) ?_
  unfold Builtin.«sorted»
  refine wpAny_bind (m := checkCount "sorted" 1 1 _) (wpAny_pure ?_)
  refine wpAny_bind (PySem.W.kdu_collect (A := X.A.in1) (PySem.W.kdl_dict (knd := mixKind X.prog X.w) (kvs := vs) (ep := ep) lo) (I.ok.hd hcalm) hat zv fun h' tk acc hk hacc => ?_)
  have hal : acc.toList.length = ks.length := by rw [Array.length_toList, hacc.1, hl]
  have hS : IntsAre acc.toList ks := ints_each hal fun j v e => by
    obtain ⟨k, x, e1, e2⟩ := hacc.2 j v (by rw [← Array.getElem?_toList]; exact e)
    have e3 : (vs.map (·.1))[j]? = some k := by rw [List.getElem?_map, e1]; rfl
    rw [hkeys, List.getElem?_map] at e3
    cases e4 : ks[j]? with
    | none => rw [e4] at e3; cases e3
    | some y =>
      rw [e4] at e3
      have e5 : Sum.inl y = k := Option.some.inj e3
      subst e5
      rcases keyIs_shape (show keyIs (Sum.inl y) v = true from e2) with ⟨i, t, ek, ev⟩ | ⟨zz, t, ek, ev⟩
      · cases ek
        exact ⟨y, t, rfl, ev⟩
      · cases ek
  have I1 : Inv X pins σ G { s with heap := h', toks := tk } := I.kept hk
  have hsz : acc.toList.length ≤ sizeLine := by rw [hal, ← hl]; exact zv
  refine wpAny_bind (wpAny_newList ?_ hsz)
  have hoL : (h'.push (seqObj "list" acc.toList.toArray 0)).get? h'.objs.size = some (seqObj "list" acc.toList.toArray 0) := Heap.get?_push_size _ rfl
  show wpAny _ _ _ _ _ { s with heap := h'.push (seqObj "list" acc.toList.toArray 0), toks := tk }
  refine wpAny_bind (wpAny_holding (wpAny_call_entry PyProof.Rows.slot_list_sort ⟨_, hoL, rfl⟩ PyProof.Rows.entry_list_sort
    (SrtO.list_sort_ord (s := { s with heap := h'.push (seqObj "list" acc.toList.toArray 0), toks := tk }) SrtO.swo_int hoL hsz (fun h2 => SrtO.ints_sortable hS h2) fun out g1 g2 => ⟨_, rfl, ?_⟩) (PyProof.Rows.args_list_sort _)))
  obtain ⟨k1, k2, k3⟩ := SrtO.ints_out hS g1 g2
  obtain ⟨e', he'⟩ := PyProof.Rows.sortedHeap_at (vs := acc.toList) (out := out.toArray) hoL
  have hlen : ((out.map SrtO.iv).map V.int).length ≤ sizeLine := by
    rw [List.length_map, k2.length_eq, ← hal]
    exact hsz
  refine wpAny_pure ⟨_, rfl, .ref h'.objs.size, upd G h'.objs.size (.lst ((out.map SrtO.iv).map V.int)), I1.laid (t' := tk) (fun b u e => ?_) (Nat.le_refl _)
    (show ObjOk X.prog X.w _ _ _ (.lst ((out.map SrtO.iv).map V.int)) from ⟨hlen, out, e', vals_of_ints k1, he'⟩), rfl, q _ _ k2 k3 (I1.hok.fresh (Nat.le_refl _))⟩
  have hb : b < h'.objs.size := Heap.lt_size e
  rw [PyProof.Rows.sortedHeap_old (Nat.ne_of_lt hb) (by rw [size_push']; exact Nat.lt_succ_of_lt hb)]
  exact Heap.get?_push_of_some _ e
/-! ### plain tuples, whose objects are known; dict of one -/
def FzT (G : Hp) (a : Addr) (ys : List V) : Prop := ∃ ob : Obj, ob.dict = none ∧ G a = some (.frz ob (.tup ys))
theorem FzT.sq {K : PySem.W.Frag} {G : Hp} {a : Addr} {ys : List V} (h : FzT G a ys) : SqT K G a ys := by
  obtain ⟨ob, _, e⟩ := h
  exact .inl (.inr ⟨ob, e⟩)
/-- tuple(xs), xs a list -/
theorem call_tupleFz : CallR X (.type "tuple") (fun xs G Q => ∃ p ys, xs = [.ref p] ∧ SqL X.K G p ys ∧ ∀ l ob, G l = none → ob.dict = none → Q (.ref l) (upd G l (.frz ob (.tup ys)))) := by
  intro pins s σ G xs us Q I r h
  obtain ⟨p, ys, rfl, hq, q⟩ := h
  obtain ⟨u, rfl, rx⟩ := vals1 r
  cases rx
  obtain ⟨its, r', pl, hz⟩ := I.list hq
  have hlen := r'.length
  refine call_tuple_list pl.isList (fun h' kp => ?_) (by simp only [List.size_toArray] <;> omega)
  have I1 : Inv X pins σ G { s with heap := h' } := I.kept (t' := s.toks) kp
  have I2 : Inv X pins σ (upd G h'.objs.size (.frz { cls := .type "tuple", data := .seq its.toArray } (.tup ys))) { s with heap := h'.push { cls := .type "tuple", data := .seq its.toArray } } :=
    I1.laid (t' := s.toks) (fun b o e => Heap.get?_push_of_some _ e) (Nat.le_refl _) (show ObjOk X.prog X.w _ _ _ (.frz { cls := .type "tuple", data := .seq its.toArray } (.tup ys)) from ⟨Heap.get?_push_size _ rfl, hz, its, r', IsTup.new _ _⟩)
  exact ⟨.ref h'.objs.size, _, I2, rfl, q _ _ (I1.hok.fresh (Nat.le_refl _)) rfl⟩
theorem pairs_both {pins : List (Addr × Obj)} {σ : L2.St} {G : Hp} {s : Shared} (I : Inv X pins σ G s) : ∀ {ps : List Addr} {kvs : List (Key × V)}, Paired (fun p kv => SqT X.K G p [kV kv.1, kv.2]) ps kvs →
    ∃ (prs : List (Key × Value)) (ks : List (Value × Value)), KV kvs prs ∧ prs.length = ps.length ∧ ks.length = ps.length ∧
      ∀ (j : Nat) (k v : Value), ks[j]? = some (k, v) → ∃ (b : Addr) (y : Key), ps[j]? = some b ∧ IsTup s.heap b #[k, v] ∧ prs[j]? = some (y, v) ∧ keyIs y k = true
  | _, _, .nil => ⟨[], [], .nil, rfl, rfl, fun j _ _ e => by simp at e⟩
  | _, _, .cons (a := p) (b := kv) h t => by
    obtain ⟨prs, ks, rr, l1, l2, hp⟩ := pairs_both I t
    obtain ⟨its, rv, ht, _⟩ := I.tuple h
    obtain ⟨u, y, ei, ru, ry⟩ := vals2 rv
    subst ei
    refine ⟨(kv.1, y) :: prs, (u, y) :: ks, .cons ⟨rfl, ry⟩ rr, by rw [List.length_cons, List.length_cons, l1], by rw [List.length_cons, List.length_cons, l2], fun j k v e => ?_⟩
    cases j with
    | zero =>
      have e' : (u, y) = (k, v) := Option.some.inj e
      cases e'
      exact ⟨p, kv.1, rfl, ht, rfl, kV_is (P := X.prog) (w := X.w) ru⟩
    | succ j =>
      obtain ⟨b, z, e1, e2, e3, e4⟩ := hp j k v (by simpa using e)
      exact ⟨b, z, by simpa using e1, e2, by simpa using e3, e4⟩
/-- dict(t), t a plain tuple of pairs -/
theorem call_dictFz (hcalm : X.calm = true) : CallR X (.type "dict") (fun xs G Q => ∃ (a : Addr) (ps : List Addr) (kvs : List (Key × V)), xs = [.ref a] ∧ FzT G a (ps.map V.ref) ∧ Paired (fun p kv => SqT X.K G p [kV kv.1, kv.2]) ps kvs ∧
    ∀ p, G p = none → Q (.ref p) (upd G p (.dK (mergeK [] kvs)))) := by
  intro pins s σ G xs us Q I r q
  obtain ⟨a, ps, kvs, rfl, ⟨ob, od, ha⟩, hp, q⟩ := q
  obtain ⟨u, rfl, rx⟩ := vals1 r
  cases rx
  obtain ⟨hget, hz, its, rv, o2, g1, g2, n, g3⟩ := (show ObjOk X.prog X.w G s.heap a (.frz ob (.tup (ps.map V.ref))) from I.hok a _ ha)
  rw [hget] at g1
  cases g1
  have ei := refs_at rv
  subst ei
  rw [List.length_map] at hz
  obtain ⟨prs, ks, rel, l1, l2, hpr⟩ := pairs_both I hp
  have ok : PlainSeq "tuple" s.heap a (ps.map Value.ref).toArray ∧ PairItems s.heap (ps.map Value.ref).toArray (fun j => ps.getD j 0) ks := by
    refine ⟨⟨ob, n, hget, g2, od, g3⟩, by simp [l2], fun j k v e => ?_⟩
    obtain ⟨b, y, e1, e2, e3, e4⟩ := hpr j k v e
    have eb : ps.getD j 0 = b := by
      rw [List.getD_eq_getElem?_getD, e1]
      rfl
    show _ = some (Value.ref (ps.getD j 0)) ∧ PairAt s.heap (ps.getD j 0) k v
    rw [eb]
    exact ⟨by simp [e1], .inl e2⟩
  refine PySem.call_dict_pairs (knd := mixKind X.prog X.w) (kvs := prs) (PairArg.tuple a _ (fun j => ps.getD j 0) ks) (I.ok.hd hcalm) ok ⟨by rw [l1, l2], fun j k v e => ?_⟩ (by rw [l2]; exact hz) fun h' tk hd' kk => ?_
  · obtain ⟨b, y, e1, e2, e3, e4⟩ := hpr j k v e
    exact ⟨y, e3, e4⟩
  · have hm : (s.heap.objs.size == sysModules) = false := beq_eq_false_iff_ne.mpr (Nat.ne_of_gt I.big)
    have hlen : (mergeK [] kvs).length ≤ sizeLine := by
      refine Nat.le_trans (length_mergeK kvs []) ?_
      rw [List.length_nil, Nat.zero_add, rel.length, l1]
      exact hz
    exact ⟨.ref s.heap.objs.size, upd G s.heap.objs.size (.dK (mergeK [] kvs)), I.laid (t' := tk) (fun b o e => kk b o (fun z => nomatch z) e) (Nat.le_refl _) (show ObjOk X.prog X.w _ _ _ (.dK (mergeK [] kvs)) from ⟨hlen, hm, merged [] prs, KV.merge rel .nil, hd'⟩), rfl, q _ (I.hok.fresh (Nat.le_refl _))⟩
end
end KD
/-! Plans of kept worlds: the least totals, the least greatest cost. -/
namespace K43
/-! ### the order of pairs -/
def ltL : List Nat → List Nat → Bool
  | _, [] => false
  | [], _ :: _ => true
  | x :: xs, y :: ys => if x = y then ltL xs ys else decide (x < y)
def ltPr (a b : Int × List Nat) : Bool := if a.1 = b.1 then ltL a.2 b.2 else decide (a.1 < b.1)
def LeP (a b : Int × List Nat) : Prop := ltPr b a = false
theorem ltL_irr : ∀ a, ltL a a = false
  | [] => rfl
  | x :: xs => by rw [ltL, if_pos rfl]; exact ltL_irr xs
theorem ltL_anti : ∀ {a b}, ltL a b = false → ltL b a = false → a = b
  | [], [], _, _ => rfl
  | [], _ :: _, h, _ => by simp [ltL] at h
  | _ :: _, [], _, h => by simp [ltL] at h
  | x :: xs, y :: ys, h, g => by
    by_cases e : x = y
    · subst e
      rw [ltL, if_pos rfl] at h g
      rw [ltL_anti h g]
    · rw [ltL, if_neg e] at h
      rw [ltL, if_neg (Ne.symm e)] at g
      have h := of_decide_eq_false h
      have g := of_decide_eq_false g
      omega
theorem ltL_trans : ∀ {a b c}, ltL b a = false → ltL c b = false → ltL c a = false
  | [], _, [], _, _ => rfl
  | [], [], _ :: _, _, h => by simp [ltL]
  | [], _ :: _, _ :: _, _, h => by simp [ltL]
  | _ :: _, [], [], h, _ => by simp [ltL] at h
  | _ :: _, _ :: _, [], _, h => by simp [ltL] at h
  | _ :: _, [], _ :: _, h, _ => by simp [ltL] at h
  | x :: xs, y :: ys, z :: zs, h, g => by
    by_cases e : y = x
    · subst e
      rw [ltL, if_pos rfl] at h
      by_cases e2 : z = y
      · subst e2
        rw [ltL, if_pos rfl] at g ⊢
        exact ltL_trans h g
      · rw [ltL, if_neg e2] at g ⊢
        exact g
    · rw [ltL, if_neg e] at h
      have h := of_decide_eq_false h
      by_cases e2 : z = y
      · subst e2
        rw [ltL, if_neg e]
        exact decide_eq_false h
      · rw [ltL, if_neg e2] at g
        have g := of_decide_eq_false g
        have e3 : z ≠ x := by omega
        rw [ltL, if_neg e3]
        exact decide_eq_false (by omega)
theorem LeP.refl (a : Int × List Nat) : LeP a a := by
  unfold LeP ltPr
  rw [if_pos rfl]
  exact ltL_irr _
theorem lep_iff {a b : Int × List Nat} : LeP a b ↔ a.1 < b.1 ∨ (a.1 = b.1 ∧ ltL b.2 a.2 = false) := by
  unfold LeP ltPr
  by_cases e : b.1 = a.1
  · rw [if_pos e]
    constructor
    · exact fun h => .inr ⟨e.symm, h⟩
    · rintro (h | h)
      · omega
      · exact h.2
  · rw [if_neg e]
    constructor
    · exact fun h => .inl (by have := of_decide_eq_false h; omega)
    · rintro (h | h)
      · exact decide_eq_false (by omega)
      · exact absurd h.1.symm e
theorem LeP.trans {a b c : Int × List Nat} (h : LeP a b) (g : LeP b c) : LeP a c := by
  rw [lep_iff] at *
  rcases h with h | ⟨h1, h2⟩ <;> rcases g with g | ⟨g1, g2⟩
  · exact .inl (by omega)
  · exact .inl (by omega)
  · exact .inl (by omega)
  · exact .inr ⟨by omega, ltL_trans h2 g2⟩
theorem LeP.anti {a b : Int × List Nat} (h : LeP a b) (g : LeP b a) : a = b := by
  rw [lep_iff] at *
  have e : a.1 = b.1 := by
    rcases h with h | h <;> rcases g with g | g <;> omega
  have h2 : ltL b.2 a.2 = false := by
    rcases h with h | h
    · omega
    · exact h.2
  have g2 : ltL a.2 b.2 = false := by
    rcases g with g | g
    · omega
    · exact g.2
  exact Prod.ext e (ltL_anti g2 h2)
theorem lep_cons {v w : Int} {b : Nat} {p q : List Nat} (x : Int) (h : LeP (v, p) (w, q)) : LeP (x + v, b :: p) (x + w, b :: q) := by
  rw [lep_iff] at *
  rcases h with h | ⟨h1, h2⟩
  · exact .inl (by simp only at h ⊢; omega)
  · refine .inr ⟨by simp only at h1 ⊢; omega, ?_⟩
    show ltL (b :: q) (b :: p) = false
    rw [ltL, if_pos rfl]
    exact h2
/-! ### plans -/
def Asc (N : Nat) : Nat → List Nat → Prop
  | b, [] => b < N
  | b, k :: q => b < k ∧ Asc N k q
theorem Asc.lt {N : Nat} : ∀ {b : Nat} {q : List Nat}, Asc N b q → b + q.length < N
  | b, [], h => h
  | b, k :: q, h => by
    have := Asc.lt (q := q) h.2
    have := h.1
    simp only [List.length_cons]
    omega
def wk (ws : List Int) (j : Nat) : Int := ws.getD j 0
/-- what the n ticks from b cost, b being kept -/
def al (ws : List Int) (b : Nat) : Nat → Int
  | 0 => 0
  | n + 1 => al ws b n + wk ws (b + n) * (n : Int)
def tot (ws : List Int) (N : Nat) : Nat → List Nat → Int
  | b, [] => al ws b (N - b)
  | b, k :: q => al ws b (k - b) + tot ws N k q
structure IsOpt (ws : List Int) (N m b : Nat) (p : Int × List Nat) : Prop where
  ex : ∃ q, p = (tot ws N b q, b :: q) ∧ Asc N b q ∧ q.length < m
  le : ∀ q, Asc N b q → q.length < m → LeP p (tot ws N b q, b :: q)
section
variable {ws : List Int} {N m b : Nat} {p p' : Int × List Nat}
theorem IsOpt.uniq (h : IsOpt ws N m b p) (g : IsOpt ws N m b p') : p = p' := by
  obtain ⟨q, e, a, l⟩ := h.ex
  obtain ⟨q', e', a', l'⟩ := g.ex
  exact LeP.anti (e' ▸ h.le q' a' l') (e ▸ g.le q a l)
theorem opt_one (hb : b < N) : IsOpt ws N 1 b (al ws b (N - b), [b]) := by
  refine ⟨⟨[], rfl, hb, by simp⟩, fun q a l => ?_⟩
  have : q = [] := List.eq_nil_of_length_eq_zero (by omega)
  subst this
  exact LeP.refl _
/-- one world more: the least of these -/
theorem opt_step {f : Nat → Int × List Nat} (hm : 0 < m) (hb : b < N) (hf : ∀ k, b ≤ k → k < N → IsOpt ws N m k (f k))
    (hp : p = f b ∨ ∃ k, b < k ∧ k < N ∧ p = (al ws b (k - b) + (f k).1, b :: (f k).2)) (h0 : LeP p (f b)) (hk : ∀ k, b < k → k < N → LeP p (al ws b (k - b) + (f k).1, b :: (f k).2)) : IsOpt ws N (m + 1) b p := by
  constructor
  · rcases hp with rfl | ⟨k, k1, k2, rfl⟩
    · obtain ⟨q, e, a, l⟩ := (hf b (Nat.le_refl _) hb).ex
      exact ⟨q, e, a, by omega⟩
    · obtain ⟨q, e, a, l⟩ := (hf k (by omega) k2).ex
      refine ⟨k :: q, ?_, ⟨k1, a⟩, by simp only [List.length_cons]; omega⟩
      rw [e]
      rfl
  · intro q a l
    cases q with
    | nil => exact h0.trans ((hf b (Nat.le_refl _) hb).le [] a (by simpa using hm))
    | cons k q =>
      simp only [List.length_cons] at l
      have kN : k < N := by have := Asc.lt a.2; omega
      have h1 := (hf k (by have := a.1; omega) kN).le q a.2 (by omega)
      refine (hk k a.1 kN).trans ?_
      exact lep_cons (v := (f k).1) (p := (f k).2) _ h1
theorem opt_more {n : Nat} (h : IsOpt ws N m b p) (hN : N ≤ b + m) (hmn : m ≤ n) : IsOpt ws N n b p := by
  obtain ⟨q, e, a, l⟩ := h.ex
  exact ⟨⟨q, e, a, by omega⟩, fun q' a' _ => h.le q' a' (by have := Asc.lt a'; omega)⟩
/-! ### by least totals of what is left -/
structure IsVal (ws : List Int) (N t b : Nat) (v : Int) : Prop where
  ex : ∃ q, Asc N b q ∧ q.length ≤ t ∧ tot ws N b q = v
  le : ∀ q, Asc N b q → q.length ≤ t → v ≤ tot ws N b q
theorem val_zero (hb : b < N) : IsVal ws N 0 b (al ws b (N - b)) := by
  refine ⟨⟨[], hb, Nat.le_refl _, rfl⟩, fun q a l => ?_⟩
  have : q = [] := List.eq_nil_of_length_eq_zero (by omega)
  subst this
  exact Int.le_refl _
theorem val_step {f : Nat → Int} {t : Nat} {v : Int} (hb : b < N) (hf : ∀ k, b < k → k < N → IsVal ws N t k (f k))
    (hp : v = al ws b (N - b) ∨ ∃ k, b < k ∧ k < N ∧ v = al ws b (k - b) + f k) (h0 : v ≤ al ws b (N - b)) (hk : ∀ k, b < k → k < N → v ≤ al ws b (k - b) + f k) : IsVal ws N (t + 1) b v := by
  constructor
  · rcases hp with rfl | ⟨k, k1, k2, rfl⟩
    · exact ⟨[], hb, by simp, rfl⟩
    · obtain ⟨q, a, l, e⟩ := (hf k k1 k2).ex
      exact ⟨k :: q, ⟨k1, a⟩, by simpa using l, by rw [← e]; rfl⟩
  · intro q a l
    cases q with
    | nil => exact h0
    | cons k q =>
      simp only [List.length_cons] at l
      have kN : k < N := by have := Asc.lt a.2; omega
      have h1 := (hf k a.1 kN).le q a.2 (by omega)
      have h2 := hk k a.1 kN
      show v ≤ al ws b (k - b) + tot ws N k q
      omega
/-- no tick more: the plan that ends here -/
theorem opt_stop {t : Nat} (hb : b < N) (hv : IsVal ws N t b (al ws b (N - b))) : IsOpt ws N (t + 1) b (al ws b (N - b), [b]) := by
  refine ⟨⟨[], rfl, hb, by simp⟩, fun q a l => ?_⟩
  have h1 := hv.le q a (by omega)
  rw [lep_iff]
  by_cases e : al ws b (N - b) = tot ws N b q
  · refine .inr ⟨e, ?_⟩
    show ltL (b :: q) [b] = false
    rw [ltL, if_pos rfl]
    cases q <;> rfl
  · exact .inl (by simp only; omega)
/-- the first tick that leads to the least total -/
theorem opt_go {f : Nat → Int} {t k : Nat} {v : Int} {r : Int × List Nat} (hv : IsVal ws N (t + 1) b v) (hne : al ws b (N - b) ≠ v) (hf : ∀ k, b < k → k < N → IsVal ws N t k (f k))
    (k1 : b < k) (k2 : k < N) (he : al ws b (k - b) + f k = v) (hfirst : ∀ j, b < j → j < k → al ws b (j - b) + f j ≠ v) (hr : IsOpt ws N (t + 1) k r) : r.1 = f k ∧ IsOpt ws N (t + 2) b (al ws b (k - b) + r.1, b :: r.2) := by
  obtain ⟨q, e, a, l⟩ := hr.ex
  have hval := hf k k1 k2
  have hr1 : r.1 = f k := by
    obtain ⟨q', a', l', e'⟩ := hval.ex
    have h1 := hval.le q a (by omega)
    have h2 := hr.le q' a' (by omega)
    rw [lep_iff] at h2
    rw [e] at h2 ⊢
    simp only at h2 ⊢
    rcases h2 with h2 | h2 <;> omega
  refine ⟨hr1, ⟨k :: q, by rw [e]; rfl, ⟨k1, a⟩, by simp only [List.length_cons]; omega⟩, fun q' a' l' => ?_⟩
  rw [hr1, he]
  have hle := hv.le q' a' (by omega)
  rw [lep_iff]
  by_cases ev : v = tot ws N b q'
  · refine .inr ⟨ev, ?_⟩
    cases q' with
    | nil => exact absurd ev.symm hne
    | cons j q' =>
      have jN : j < N := by have := Asc.lt a'.2; omega
      have ev2 : v = al ws b (j - b) + tot ws N j q' := ev
      simp only [List.length_cons] at l'
      have hj := hf j a'.1 jN
      have h1 := hj.le q' a'.2 (by omega)
      have h2 : v ≤ al ws b (j - b) + f j := by
        obtain ⟨q2, a2, l2, e2⟩ := hj.ex
        have := hv.le (j :: q2) ⟨a'.1, a2⟩ (by simpa using l2)
        have e3 : tot ws N b (j :: q2) = al ws b (j - b) + tot ws N j q2 := rfl
        omega
      have h3 : al ws b (j - b) + f j = v := by omega
      have kj : k ≤ j := by
        rcases Nat.lt_or_ge j k with h | h
        · exact absurd h3 (hfirst j a'.1 h)
        · exact h
      show ltL (b :: j :: q') (b :: r.2) = false
      rw [ltL, if_pos rfl, e]
      show ltL (j :: q') (k :: q) = false
      by_cases ejk : j = k
      · subst ejk
        have h4 := hr.le q' a'.2 (by omega)
        rw [lep_iff, e] at h4
        simp only at h4
        rcases h4 with h4 | h4
        · rw [e] at hr1
          simp only at hr1
          omega
        · exact h4.2
      · rw [ltL, if_neg ejk]
        exact decide_eq_false (by omega)
  · exact .inl (by simp only; omega)
end
/-! ### the newest one -/
def nw (t : Nat) : Nat → List Nat → Nat
  | b, [] => b
  | b, k :: q => if k ≤ t then nw t k q else b
theorem nw_le {t : Nat} : ∀ {b : Nat} {q : List Nat}, b ≤ t → nw t b q ≤ t ∧ nw t b q ∈ b :: q
  | b, [], h => ⟨h, List.mem_cons_self⟩
  | b, k :: q, h => by
    unfold nw
    split
    · rename_i hk
      obtain ⟨h1, h2⟩ := nw_le (q := q) hk
      exact ⟨h1, List.mem_cons_of_mem _ h2⟩
    · exact ⟨h, List.mem_cons_self⟩
def UpL : Nat → List Nat → Prop
  | _, [] => True
  | b, k :: q => b < k ∧ UpL k q
theorem Asc.up {N : Nat} : ∀ {b : Nat} {q : List Nat}, Asc N b q → UpL b q
  | _, [], _ => trivial
  | _, _ :: _, h => ⟨h.1, Asc.up h.2⟩
theorem UpL.ge : ∀ {b : Nat} {q : List Nat}, UpL b q → ∀ k ∈ q, b < k
  | _, [], _, _, h => by cases h
  | b, k :: q, h, j, hj => by
    rcases List.mem_cons.mp hj with rfl | hj
    · exact h.1
    · exact Nat.lt_trans h.1 (UpL.ge h.2 j hj)
theorem nw_max {t : Nat} : ∀ {b : Nat} {q : List Nat}, UpL b q → ∀ k ∈ b :: q, k ≤ t → k ≤ nw t b q
  | b, [], _, k, hk, _ => by simp at hk; subst hk; exact Nat.le_refl _
  | b, j :: q, h, k, hk, kt => by
    unfold nw
    split
    · rename_i hj
      rcases List.mem_cons.mp hk with rfl | hk
      · exact Nat.le_trans (Nat.le_of_lt h.1) (nw_max h.2 j List.mem_cons_self hj)
      · exact nw_max h.2 k hk kt
    · rename_i hj
      rcases List.mem_cons.mp hk with rfl | hk
      · exact Nat.le_refl _
      · rcases List.mem_cons.mp hk with rfl | hk
        · exact absurd kt hj
        · have := UpL.ge h.2 k hk
          omega
/-- by its place -/
theorem nw_count {t : Nat} : ∀ {b : Nat} {q : List Nat}, UpL b q → b ≤ t → (((b :: q).filter fun k => decide (k ≤ t)).length ≠ 0) ∧ (b :: q)[((b :: q).filter fun k => decide (k ≤ t)).length - 1]? = some (nw t b q)
  | b, [], _, h => by simp [h, nw]
  | b, k :: q, u, h => by
    rw [List.filter_cons, if_pos (by simpa using h)]
    refine ⟨by simp, ?_⟩
    simp only [List.length_cons, Nat.add_sub_cancel]
    unfold nw
    split
    · rename_i hk
      obtain ⟨h1, h2⟩ := nw_count u.2 hk
      obtain ⟨n, hn⟩ := Nat.exists_eq_succ_of_ne_zero h1
      rw [hn] at h2 ⊢
      simpa using h2
    · rename_i hk
      have : (k :: q).filter (fun k => decide (k ≤ t)) = [] := by
        rw [List.filter_eq_nil_iff]
        intro j hj
        rcases List.mem_cons.mp hj with rfl | hj
        · simpa using hk
        · have := UpL.ge u.2 j hj
          simp only [decide_eq_true_eq]
          omega
      rw [this]
      rfl
/-! ### the total, tick by tick -/
def tsum (ws : List Int) (b : Nat) (q : List Nat) : Nat → Nat → Int
  | _, 0 => 0
  | s, n + 1 => tsum ws b q s n + wk ws (s + n) * ((s + n : Nat) - (nw (s + n) b q : Nat) : Int)
theorem tsum_split (ws : List Int) (b : Nat) (q : List Nat) (s n : Nat) : ∀ m, tsum ws b q s (n + m) = tsum ws b q s n + tsum ws b q (s + n) m
  | 0 => by simp [tsum]
  | m + 1 => by
    rw [← Nat.add_assoc, tsum, tsum_split ws b q s n m, tsum, Nat.add_assoc s n m, Int.add_assoc]
theorem tsum_al (ws : List Int) {b : Nat} {q : List Nat} : ∀ n, (∀ k ∈ q.head?, b + n ≤ k) → tsum ws b q b n = al ws b n
  | 0, _ => rfl
  | n + 1, h => by
    rw [tsum, al, tsum_al ws n fun k hk => by have := h k hk; omega]
    have e : nw (b + n) b q = b := by
      cases q with
      | nil => rfl
      | cons k q =>
        have := h k rfl
        unfold nw
        rw [if_neg (by omega)]
    rw [e]
    congr 2
    omega
theorem tsum_tail (ws : List Int) {b k : Nat} {q : List Nat} : ∀ n, tsum ws b (k :: q) k n = tsum ws k q k n
  | 0 => rfl
  | n + 1 => by
    rw [tsum, tsum, tsum_tail ws n]
    have e : nw (k + n) b (k :: q) = nw (k + n) k q := by
      rw [nw, if_pos (by omega)]
    rw [e]
theorem tsum_tot (ws : List Int) {N : Nat} : ∀ {b : Nat} {q : List Nat}, Asc N b q → tsum ws b q b (N - b) = tot ws N b q
  | b, [], h => tsum_al ws _ (by simp)
  | b, k :: q, h => by
    have hk := Asc.lt h.2
    have h1 := h.1
    have e : N - b = (k - b) + (N - k) := by omega
    rw [e, tsum_split, tsum_al ws _ (by simp; omega), show b + (k - b) = k by omega, tsum_tail, tsum_tot ws h.2]
    rfl
/-! ### the greatest cost -/
def mx (N : Nat) : Nat → List Nat → Nat
  | b, [] => N - b - 1
  | b, k :: q => max (k - b - 1) (mx N k q)
theorem mx_ge {N : Nat} : ∀ {b : Nat} {q : List Nat}, Asc N b q → ∀ t, b ≤ t → t < N → t - nw t b q ≤ mx N b q
  | b, [], h, t, h1, h2 => by
    show t - b ≤ N - b - 1
    omega
  | b, k :: q, h, t, h1, h2 => by
    unfold nw mx
    split
    · rename_i hk
      have := mx_ge h.2 t hk h2
      omega
    · omega
theorem mx_ex {N : Nat} : ∀ {b : Nat} {q : List Nat}, Asc N b q → ∃ t, b ≤ t ∧ t < N ∧ t - nw t b q = mx N b q
  | b, [], h => ⟨N - 1, by have : b < N := h; omega, by have : b < N := h; omega, by show N - 1 - b = N - b - 1; omega⟩
  | b, k :: q, h => by
    obtain ⟨t, h1, h2, h3⟩ := mx_ex h.2
    have hk := Asc.lt h.2
    have hb := h.1
    unfold mx
    by_cases e : k - b - 1 ≤ mx N k q
    · refine ⟨t, by omega, h2, ?_⟩
      rw [nw, if_pos h1]
      omega
    · refine ⟨k - 1, by omega, by omega, ?_⟩
      rw [nw, if_neg (by omega)]
      omega
theorem mx_room {N : Nat} : ∀ {b : Nat} {q : List Nat}, Asc N b q → N - b ≤ (mx N b q + 1) * (q.length + 1)
  | b, [], h => by
    show N - b ≤ (N - b - 1 + 1) * (0 + 1)
    omega
  | b, k :: q, h => by
    have h1 := mx_room h.2
    have hb := h.1
    have e : mx N b (k :: q) = max (k - b - 1) (mx N k q) := rfl
    rw [e, List.length_cons, Nat.mul_succ]
    have h2 : (mx N k q + 1) * (q.length + 1) ≤ (max (k - b - 1) (mx N k q) + 1) * (q.length + 1) := Nat.mul_le_mul_right _ (by omega)
    omega
/-- what is kept behind b, by stretches of s = g + 1 ticks -/
def gr (N s : Nat) : Nat → Nat → List Nat
  | 0, _ => []
  | t + 1, b => if N - b > s then max (b + 1) (N - (t + 1) * s) :: gr N s t (max (b + 1) (N - (t + 1) * s)) else []
theorem gr_ok {N s : Nat} (hs : 0 < s) : ∀ {t b : Nat}, b < N → N - b ≤ s * (t + 1) → Asc N b (gr N s t b) ∧ (gr N s t b).length ≤ t ∧ mx N b (gr N s t b) + 1 ≤ s
  | 0, b, hb, h => ⟨hb, Nat.le_refl _, by show N - b - 1 + 1 ≤ s; omega⟩
  | t + 1, b, hb, h => by
    rw [gr]
    split
    · rename_i hg
      have e : (t + 1) * s = s * (t + 1) := Nat.mul_comm _ _
      have e2 : s * (t + 1 + 1) = s * (t + 1) + s := Nat.mul_succ _ _
      have e3 : s * (t + 1) = s * t + s := Nat.mul_succ _ _
      have hk : max (b + 1) (N - (t + 1) * s) < N := by omega
      obtain ⟨h1, h2, h3⟩ := gr_ok hs (t := t) hk (by omega)
      refine ⟨⟨by omega, h1⟩, by simpa using h2, ?_⟩
      show max (max (b + 1) (N - (t + 1) * s) - b - 1) (mx N _ _) + 1 ≤ s
      omega
    · exact ⟨hb, Nat.zero_le _, by show N - b - 1 + 1 ≤ s; omega⟩
theorem gr_le {N s : Nat} (hs : 0 < s) : ∀ {t b : Nat} {q : List Nat}, Asc N b q → q.length ≤ t → mx N b q + 1 ≤ s → ltL (b :: q) (b :: gr N s t b) = false
  | 0, b, q, a, l, h => by
    have : q = [] := List.eq_nil_of_length_eq_zero (by omega)
    subst this
    exact ltL_irr _
  | t + 1, b, q, a, l, h => by
    rw [ltL, if_pos rfl, gr]
    split
    · rename_i hg
      cases q with
      | nil =>
        have : mx N b [] = N - b - 1 := rfl
        omega
      | cons k q =>
        have hr := mx_room a.2
        have em : mx N b (k :: q) = max (k - b - 1) (mx N k q) := rfl
        simp only [List.length_cons] at l
        have h2 : (mx N k q + 1) * (q.length + 1) ≤ s * (t + 1) := Nat.mul_le_mul (by omega) (by omega)
        have e : (t + 1) * s = s * (t + 1) := Nat.mul_comm _ _
        have hb := a.1
        by_cases ek : k = max (b + 1) (N - (t + 1) * s)
        · rw [← ek]
          exact gr_le hs a.2 (by omega) (by omega)
        · rw [ltL, if_neg ek]
          exact decide_eq_false (by omega)
    · cases q <;> rfl
end K43
set_option maxRecDepth 100000
set_option maxHeartbeats 4000000
/-! min of a list of pairs of a number and a tuple of numbers. -/
namespace KG
open PySem PySem.Spec PySem.SeqAt PyProof.Rows L2 K43
open PySem.W (alike alikeAll dataLt dataLt_cons dataLt_int dataLt_pair dataLt_tuple rowLt keyToks keyToksAll AlikeAll iter_listW cmpIn_lt moved_old argBest_fold)
def nI (p : List Nat) : List PyData := p.map fun (n : Nat) => .int (n : Int)
def nV (p : List Nat) : List V := p.map fun (n : Nat) => .int (n : Int)
def pd (p : Int × List Nat) : PyData := .tuple [.int p.1, .tuple (nI p.2)]
theorem alike_nI : ∀ p q : List Nat, alikeAll (nI p) (nI q) = true
  | [], _ => by simp [nI, alikeAll]
  | _ :: _, [] => by simp [nI, alikeAll]
  | x :: p, y :: q => by
    have := alike_nI p q
    simp only [nI, List.map_cons] at this ⊢
    rw [alikeAll, this]
    simp [alike]
theorem eqv_nI : ∀ p q : List Nat, PyData.eqvAll (nI p) (nI q) = decide (p = q)
  | [], [] => by simp [nI, PyData.eqvAll]
  | [], _ :: _ => by simp [nI, PyData.eqvAll]
  | _ :: _, [] => by simp [nI, PyData.eqvAll]
  | x :: p, y :: q => by
    have := eqv_nI p q
    simp only [nI, List.map_cons] at this ⊢
    rw [PyData.eqvAll, this]
    by_cases h1 : x = y <;> by_cases h2 : p = q <;> simp [PyData.eqv, h1, h2]
    intro h
    exact absurd (by exact_mod_cast h) h1
theorem row_nI : ∀ p q : List Nat, rowLt (nI p) (nI q) = ltL p q
  | [], [] => lex_irrefl _
  | [], y :: q => by
    simp only [nI, List.map_nil, List.map_cons, ltL]
    unfold rowLt
    simp only [keyToksAll]
    rfl
  | x :: p, [] => by
    simp only [nI, List.map_nil, List.map_cons, ltL]
    unfold rowLt
    simp only [keyToksAll]
    rfl
  | x :: p, y :: q => by
    have ih := row_nI p q
    unfold rowLt at ih ⊢
    simp only [nI, List.map_cons] at ih ⊢
    rw [dataLt_cons (by simp [alike]), ih, dataLt_int, ltL]
    by_cases h : x = y
    · simp [PyData.eqv, h]
    · have h2 : ¬ (x : Int) = (y : Int) := fun e => h (by exact_mod_cast e)
      simp [PyData.eqv, h, h2]
theorem lt_pd (a b : Int × List Nat) : dataLt (pd a) (pd b) = ltPr a b := by
  unfold pd
  rw [dataLt_pair (by simp [alike]) (by rw [alike]; exact alike_nI _ _), dataLt_tuple, dataLt_int]
  have e : PyProof.Rows.lexLt itemOrd (keyToksAll (nI a.2)) (keyToksAll (nI b.2)) = ltL a.2 b.2 := row_nI _ _
  rw [e]
  unfold ltPr
  by_cases h : a.1 = b.1
  · have h2 : PyData.eqv (.int a.1) (.int b.1) = true := by simp [PyData.eqv, h]
    rw [if_pos h2, if_pos h, PyData.eqv, eqv_nI]
    by_cases h3 : a.2 = b.2
    · rw [if_pos (by simpa using h3), h3, ltL_irr]
    · rw [if_neg (by simpa using h3)]
  · have h2 : ¬ PyData.eqv (.int a.1) (.int b.1) = true := by simp [PyData.eqv, h]
    rw [if_neg h2, if_neg h]
/-- the fold's result is least, and among them -/
theorem fold_least : ∀ (l : List (Int × List Nat)) (x : Int × List Nat), let r := l.foldl (fun a y => if ltPr y a then y else a) x
    r ∈ x :: l ∧ ∀ q ∈ x :: l, LeP r q
  | [], x => ⟨List.mem_cons_self, fun q h => by simp at h; subst h; exact LeP.refl _⟩
  | y :: l, x => by
    obtain ⟨h1, h2⟩ := fold_least l (if ltPr y x then y else x)
    simp only [List.foldl_cons]
    constructor
    · rcases List.mem_cons.mp h1 with h | h
      · rw [h]
        split
        · exact List.mem_cons_of_mem _ List.mem_cons_self
        · exact List.mem_cons_self
      · exact List.mem_cons_of_mem _ (List.mem_cons_of_mem _ h)
    · intro q hq
      have hb := h2 _ List.mem_cons_self
      have hxy : LeP (if ltPr y x then y else x) x ∧ LeP (if ltPr y x then y else x) y := by
        cases e : ltPr y x with
        | true =>
          rw [if_pos rfl]
          refine ⟨?_, LeP.refl _⟩
          rw [lep_iff]
          unfold ltPr at e
          by_cases h : y.1 = x.1
          · rw [if_pos h] at e
            refine .inr ⟨h, ?_⟩
            cases g : ltL x.2 y.2 with
            | false => rfl
            | true =>
              have : LeP x y ∨ LeP y x := by
                rw [lep_iff, lep_iff]
                exact (by
                  rcases lt_total x.2 y.2 with t | t
                  · exact absurd t (by rw [g]; simp)
                  · exact absurd t (by rw [e]; simp))
              exact absurd g (by
                rcases lt_total x.2 y.2 with t | t
                · rw [t]; simp
                · rw [e] at t; cases t)
          · rw [if_neg h] at e
            exact .inl (of_decide_eq_true e)
        | false =>
          rw [if_neg Bool.false_ne_true]
          exact ⟨LeP.refl _, e⟩
      rcases List.mem_cons.mp hq with rfl | hq
      · exact hb.trans hxy.1
      · rcases List.mem_cons.mp hq with rfl | hq
        · exact hb.trans hxy.2
        · exact h2 _ (List.mem_cons_of_mem _ hq)
where
  lt_total : ∀ a b : List Nat, ltL a b = false ∨ ltL b a = false
    | [], [] => .inl rfl
    | [], _ :: _ => .inr rfl
    | _ :: _, [] => .inl rfl
    | x :: a, y :: b => by
      by_cases h : x = y
      · subst h
        rw [ltL, if_pos rfl, ltL, if_pos rfl]
        exact lt_total a b
      · rw [ltL, if_neg h, ltL, if_neg (Ne.symm h)]
        rcases Nat.lt_or_ge x y with g | g
        · exact .inr (decide_eq_false (by omega))
        · exact .inl (decide_eq_false (by omega))
section
variable {X : Cx}
def rMinP (K : PySem.W.Frag) : List V → Hp → VK → Prop := fun vs H Q => ∃ (a : Addr) (us : List V) (ps : List (Int × List Nat)), vs = [V.ref a] ∧ SqL K H a us ∧ DpAll K H us (ps.map pd) ∧ ps ≠ [] ∧
  ∀ (i : Nat) v p, us[i]? = some v → ps[i]? = some p → p ∈ ps → (∀ q ∈ ps, LeP p q) → Q v H
theorem depth_nI : ∀ p : List Nat, PyData.depthAll (nI p) ≤ 1
  | [] => by simp [nI, PyData.depthAll]
  | x :: p => by
    have := depth_nI p
    simp only [nI, List.map_cons] at this ⊢
    rw [PyData.depthAll]
    have e : (PyData.int (x : Int)).depth ≤ 1 := by simp [PyData.depth]
    omega
theorem depth_pd (p : Int × List Nat) : (pd p).depth ≤ 8 := by
  have := depth_nI p.2
  unfold pd
  simp only [PyData.depth, PyData.depthAll]
  omega
theorem depth_pds : ∀ ps : List (Int × List Nat), PyData.depthAll (ps.map pd) ≤ 8
  | [] => by simp [PyData.depthAll]
  | p :: ps => by
    have := depth_pds ps
    have := depth_pd p
    rw [List.map_cons, PyData.depthAll]
    omega
theorem call_minP (hc : X.calm = true) (hu : X.A.units + 64 < cLine) : CallR X (.builtin "min") (rMinP X.K) := by
  intro pins s σ H vs us Q I r h
  obtain ⟨a, xs, ps, rfl, hs, hd, hne, q⟩ := h
  obtain ⟨its, rv, hl, _⟩ := I.list hs
  rw [Vals.ref1 r]
  cases ps with
  | nil => exact absurd rfl hne
  | cons p ps =>
    obtain ⟨as, hr⟩ := Dp.readsAll I _ _ _ hd rv
    have hal : AlikeAll ((p :: ps).map pd) := by
      constructor
      · intro x hx y hy
        obtain ⟨x, _, rfl⟩ := List.mem_map.mp hx
        obtain ⟨y, _, rfl⟩ := List.mem_map.mp hy
        unfold pd
        simp only [alike, alikeAll, Bool.and_true, Bool.true_and]
        exact alike_nI _ _
      · intro x hx
        obtain ⟨x, _, rfl⟩ := List.mem_map.mp hx
        unfold pd
        intro e
        cases e
    have hdep := depth_pds (p :: ps)
    have hh := I.ok.hd hc
    have hn : its.toArray.size = ps.length + 1 := by
      have := PySem.W.readsAll_len (vs := its.toArray) (show ReadsAll s.heap its.toArray.toList _ _ from hr)
      simpa using this
    refine call_min_walkH (iter_listW (A := X.A.in1) hh hl.isList fun s₂ e W st hfp hw hk => ?_)
    refine ⟨_, _, _, _, _, _, _, s.heap, _, rfl, W, st, hfp, by omega, hw, hk, cmpIn_lt (A := X.A.in1) (vs := its.toArray) hr hal (by show X.A.units + 1 + _ < _; omega), fun v s' hP m => ?_⟩
    obtain ⟨h', tk, rfl, hk'⟩ := moved_old e rfl m
    have e1 : its.toArray.size - 1 = ps.length := by omega
    rw [e1] at hP
    have e2 := argBest_fold dataLt PyData.none (pd p) (ps.map pd) ps.length (by simp)
    obtain ⟨e3, e4⟩ := e2
    have hb : List.map pd (p :: ps) = pd p :: ps.map pd := rfl
    rw [hb] at hP
    revert hP e3 e4
    generalize argBest (fun i j => dataLt ((pd p :: List.map pd ps).getD i PyData.none) ((pd p :: List.map pd ps).getD j PyData.none)) ps.length = i
    intro hP e3 e4
    have hi : its[i]? = some v := by simpa using hP
    obtain ⟨x, hx, hxv⟩ : ∃ x, xs[i]? = some x ∧ RelV x v := rel_at rv hi
    have hip : i < (p :: ps).length := by simp only [List.length_cons]; omega
    have hpi : (p :: ps)[i]? = some (p :: ps)[i] := List.getElem?_eq_getElem hip
    have e5 : (pd p :: ps.map pd).getD i PyData.none = pd (p :: ps)[i] := by
      rw [← hb, List.getD_eq_getElem?_getD, List.getElem?_map, hpi]
      rfl
    have e6 : ∀ (l : List (Int × List Nat)) (x : Int × List Nat), (l.map pd).foldl (fun a y => if dataLt y a then y else a) (pd x) = pd (l.foldl (fun a y => if ltPr y a then y else a) x) := by
      intro l
      induction l with
      | nil => intro x; rfl
      | cons y l ih =>
        intro x
        rw [List.map_cons, List.foldl_cons, List.foldl_cons, lt_pd, ← ih]
        congr 1
        split <;> rfl
    have hlen : (ps.map pd).take ps.length = ps.map pd := List.take_of_length_le (by simp)
    rw [e5, hlen, e6] at e4
    have e7 : (p :: ps)[i] = ps.foldl (fun a y => if ltPr y a then y else a) p := pd_inj e4
    obtain ⟨f1, f2⟩ := fold_least ps p
    rw [← e7] at f2
    exact ⟨x, H, I.kept hk', hxv, q i x _ hx hpi (List.getElem_mem hip) f2⟩
where
  rel_at : ∀ {xs : List V} {us : List Value} {i : Nat} {v : Value}, Vals xs us → us[i]? = some v → ∃ x, xs[i]? = some x ∧ RelV x v
    | _, _, _, _, .nil, h => by cases h
    | _, _, 0, _, .cons a _, h => by cases h; exact ⟨_, rfl, a⟩
    | _ :: _, _ :: _, i + 1, _, .cons _ t, h => by
      obtain ⟨y, e, r⟩ := rel_at (i := i) t (by simpa using h)
      exact ⟨y, by simpa using e, r⟩
  nI_inj : ∀ {p q : List Nat}, nI p = nI q → p = q
    | [], [], _ => rfl
    | [], _ :: _, h => by simp [nI] at h
    | _ :: _, [], h => by simp [nI] at h
    | x :: p, y :: q, h => by
      simp only [nI, List.map_cons, List.cons.injEq, PyData.int.injEq] at h
      obtain ⟨h1, h2⟩ := h
      have h3 : x = y := by exact_mod_cast h1
      rw [h3, nI_inj h2]
  pd_inj : ∀ {a b : Int × List Nat}, pd a = pd b → a = b := by
    intro a b h
    unfold pd at h
    simp only [PyData.tuple.injEq, List.cons.injEq, PyData.int.injEq, and_true] at h
    exact Prod.ext h.1 (nI_inj h.2)
end
end KG
set_option maxRecDepth 100000
set_option maxHeartbeats 0
namespace K43
open PySem PySem.Spec PyProof.Rows L2
def top (i : Nat) : Stmt := PySem.Challenge.pw_latepresses_k43_whole_kept_worlds_and_be.main.body.getD i (.Pass ⟨0, 0, 0, 0⟩)
abbrev s_ascends : Stmt := top 5
abbrev s_cost : Stmt := top 7
abbrev s_total : Stmt := top 8
abbrev s_best_plan : Stmt := top 9
abbrev s_costs_from : Stmt := top 10
abbrev s_better : Stmt := top 11
abbrev s_best_worst : Stmt := top 12
abbrev s_newest : Stmt := top 13
abbrev s_need_plan : Stmt := top 14
abbrev s_need_room : Stmt := top 15
abbrev s_need_weights : Stmt := top 16
abbrev s_law_deck : Stmt := top 18
abbrev s_law_take : Stmt := top 19
abbrev s_law_same : Stmt := top 20
abbrev s_law_weights : Stmt := top 21
abbrev s_law_cost : Stmt := top 22
abbrev s_law_total : Stmt := top 23
abbrev s_law_plans : Stmt := top 24
abbrev s_law_left : Stmt := top 25
abbrev s_law_best : Stmt := top 26
abbrev s_law_worst : Stmt := top 27
abbrev s_law_plan : Stmt := top 28
abbrev s_law : Stmt := top 29
abbrev FnQ (K : PySem.W.Frag) (x q : Str) (st : Stmt) (f : Addr) (fd : FuncData) : Prop := FunD K x q (defArgs st) (defBody st) (defScope st) [] [] f fd
def fdAt (K : PySem.W.Frag) (a : Addr) : FuncData := match K.lookup a with
  | some ⟨_, _, .func fd, _⟩ => fd
  | _ => PySem.W.fnOf "" "" (defArgs (top 0)) [] (defScope (top 0)) .none .none .none .none none .none .none
theorem fdAt_eq {K : PySem.W.Frag} {a : Addr} {x q : Str} {st : Stmt} {fd : FuncData} (F : FnQ K x q st a fd) : FnQ K x q st a (fdAt K a) := by
  obtain ⟨oc, od, dV, kV, doc, pm, an, cdv, ct, osl, e, lk, r⟩ := F.ex
  have h : fdAt K a = fd := by
    unfold fdAt
    rw [lk]
  rw [h]
  exact F
def d_ascends : He.DefD := ⟨("ascends", none), "ascends", "ascends", defArgs s_ascends, defBody s_ascends, defScope s_ascends, [], []⟩
def d_cost : He.DefD := ⟨("cost", none), "cost", "cost", defArgs s_cost, defBody s_cost, defScope s_cost, [], []⟩
def d_total : He.DefD := ⟨("total", none), "total", "total", defArgs s_total, defBody s_total, defScope s_total, [], []⟩
def d_best_plan : He.DefD := ⟨("best_plan", none), "best_plan", "best_plan", defArgs s_best_plan, defBody s_best_plan, defScope s_best_plan, [], []⟩
def d_costs_from : He.DefD := ⟨("_costs_from", none), "_costs_from", "_costs_from", defArgs s_costs_from, defBody s_costs_from, defScope s_costs_from, [], []⟩
def d_better : He.DefD := ⟨("_better", none), "_better", "_better", defArgs s_better, defBody s_better, defScope s_better, [], []⟩
def d_best_worst : He.DefD := ⟨("best_worst", none), "best_worst", "best_worst", defArgs s_best_worst, defBody s_best_worst, defScope s_best_worst, [], []⟩
def d_newest : He.DefD := ⟨("_newest", none), "_newest", "_newest", defArgs s_newest, defBody s_newest, defScope s_newest, [], []⟩
def d_need_plan : He.DefD := ⟨("_need_plan", none), "_need_plan", "_need_plan", defArgs s_need_plan, defBody s_need_plan, defScope s_need_plan, [], []⟩
def d_need_room : He.DefD := ⟨("_need_room", none), "_need_room", "_need_room", defArgs s_need_room, defBody s_need_room, defScope s_need_room, [], []⟩
def d_need_weights : He.DefD := ⟨("_need_weights", none), "_need_weights", "_need_weights", defArgs s_need_weights, defBody s_need_weights, defScope s_need_weights, [], []⟩
def d_law_deck : He.DefD := ⟨("_law_deck", none), "_law_deck", "_law_deck", defArgs s_law_deck, defBody s_law_deck, defScope s_law_deck, [], []⟩
def d_law_take : He.DefD := ⟨("_law_take", none), "_law_take", "_law_take", defArgs s_law_take, defBody s_law_take, defScope s_law_take, [], []⟩
def d_law_same : He.DefD := ⟨("_law_same", none), "_law_same", "_law_same", defArgs s_law_same, defBody s_law_same, defScope s_law_same, [], []⟩
def d_law_weights : He.DefD := ⟨("_law_weights", none), "_law_weights", "_law_weights", defArgs s_law_weights, defBody s_law_weights, defScope s_law_weights, [], []⟩
def d_law_cost : He.DefD := ⟨("_law_cost", none), "_law_cost", "_law_cost", defArgs s_law_cost, defBody s_law_cost, defScope s_law_cost, [], []⟩
def d_law_total : He.DefD := ⟨("_law_total", none), "_law_total", "_law_total", defArgs s_law_total, defBody s_law_total, defScope s_law_total, [], []⟩
def d_law_plans : He.DefD := ⟨("_law_plans", none), "_law_plans", "_law_plans", defArgs s_law_plans, defBody s_law_plans, defScope s_law_plans, [], []⟩
def d_law_left : He.DefD := ⟨("_law_left", none), "_law_left", "_law_left", defArgs s_law_left, defBody s_law_left, defScope s_law_left, [], []⟩
def d_law_best : He.DefD := ⟨("_law_best", none), "_law_best", "_law_best", defArgs s_law_best, defBody s_law_best, defScope s_law_best, [], []⟩
def d_law_worst : He.DefD := ⟨("_law_worst", none), "_law_worst", "_law_worst", defArgs s_law_worst, defBody s_law_worst, defScope s_law_worst, [], []⟩
def d_law_plan : He.DefD := ⟨("_law_plan", none), "_law_plan", "_law_plan", defArgs s_law_plan, defBody s_law_plan, defScope s_law_plan, [], []⟩
def d_law : He.DefD := ⟨("law", none), "law", "law", defArgs s_law, defBody s_law, defScope s_law, [], []⟩
def loose0 : List Str := ["ascends", "cost", "total", "best_plan", "_costs_from", "_better", "best_worst", "_newest", "_need_plan", "_need_room", "_need_weights", "_law_deck", "_law_take", "_law_same", "_law_weights", "_law_cost", "_law_total", "_law_plans", "_law_left", "_law_best", "_law_worst", "_law_plan", "GameError", "InvalidNumber", "InvalidPlan"]
def loose : List Str := loose0
def fn : List He.DefD := [d_ascends, d_cost, d_total, d_best_plan, d_costs_from, d_better, d_best_worst, d_newest, d_need_plan, d_need_room, d_need_weights, d_law_deck, d_law_take, d_law_same, d_law_weights, d_law_cost, d_law_total, d_law_plans, d_law_left, d_law_best, d_law_worst, d_law_plan, d_law]
def fa : List He.Fa := [.glo "ascends", .glo "cost", .glo "total", .glo "best_plan", .glo "_costs_from", .glo "_better", .glo "best_worst", .glo "_newest", .glo "_need_plan", .glo "_need_room", .glo "_need_weights", .glo "_law_deck", .glo "_law_take", .glo "_law_same", .glo "_law_weights", .glo "_law_cost", .glo "_law_total", .glo "_law_plans", .glo "_law_left", .glo "_law_best", .glo "_law_worst", .glo "_law_plan", .glo "law", .free "len", .free "int", .free "isinstance", .free "range", .free "all", .free "min", .free "max", .free "bool", .free "tuple", .free "zip", .free "enumerate", .free "sum", .free "ValueError", .free "repr", .glo "GameError", .glo "InvalidNumber", .glo "InvalidPlan"]
def tupA (K : PySem.W.Frag) (a : Addr) (vs : List He.Dv) : Bool := match K.lookup a with
  | some ⟨.type c, _, .seq its _, _⟩ => decide (c = "tuple") && (decide (its.size ≤ sizeLine) && He.relAll (vs.map (He.Dv.v K)) its.toList)
  | _ => false
theorem tupA_ok {K : PySem.W.Frag} {a : Addr} {vs : List He.Dv} (h : tupA K a vs = true) (H : Hp) : SqT K H a (vs.map (He.Dv.v K)) := by
  unfold tupA at h
  split at h
  · rename_i c dd its n sl q
    obtain ⟨h1, h2⟩ := He.ba h
    obtain ⟨h3, h4⟩ := He.ba h2
    exact .inr ⟨_, its, n, q, congrArg Value.type (of_decide_eq_true h1), rfl, of_decide_eq_true h3, He.relAll_ok h4⟩
  · cases h
/-- where a written dict's value lies -/
def dtA (K : PySem.W.Frag) (x k : Str) : Addr := match PySem.W.nsIn K (He.ga K x) k with
  | some (some (.ref a)) => a
  | _ => 0
def dtB (K : PySem.W.Frag) (x : Str) (q : Str × List He.Dv) : Bool := decide (PySem.W.nsIn K (He.ga K x) q.1 = some (some (.ref (dtA K x q.1)))) && tupA K (dtA K x q.1) q.2
def tabs : List He.Tab := []
def exs (K : PySem.W.Frag) : Bool := true
abbrev R : PySem.W.OpenRow := PySem.W.OpenLaw.row PySem.Challenge.rw_latepresses_k43_whole_kept_worlds_and_be
abbrev hk : PySem.W.Hook := He.hookX 6 fa fn tabs [] exs
def ob (s : PySem.W.SharedT) : He.AlX := He.obsX 6 fa fn tabs [] exs (HandSHeadRun.getT s)
theorem ob_eq (s : PySem.W.SharedT) : ob s = hk.obs s.abs := He.obsX_eq (HandSHeadRun.getT_eq s)
theorem run0 (w : World) : HandSHeadRun.RunEq R (PySem.W.view R.prog [29]) hk ob 20000 loose (w.withFollow "special-get-raises" false) := by
  intro os
  kernel_rfl
theorem run1 (w : World) : HandSHeadRun.RunEq R (PySem.W.view R.prog [29]) hk ob 20000 loose (w.withFollow "special-get-raises" true) := by
  intro os
  kernel_rfl
theorem run (w : World) : HandSHeadRun.RunEq R (PySem.W.view R.prog [29]) hk ob 20000 loose w :=
  PySem.W.byRow2 "special-get-raises" (P := fun w => HandSHeadRun.RunEq R (PySem.W.view R.prog [29]) hk ob 20000 loose w) run0 run1 w
structure Txt (K : PySem.W.Frag) (w : World) (mg : Str → Option Value) : Prop where
  F_ascends : FnQ K "ascends" "ascends" s_ascends (He.fAd K ("ascends", none)) (fdAt K (He.fAd K ("ascends", none)))
  b_ascends : Binds K (fdAt K (He.fAd K ("ascends", none))) ["row"] []
  F_cost : FnQ K "cost" "cost" s_cost (He.fAd K ("cost", none)) (fdAt K (He.fAd K ("cost", none)))
  b_cost : Binds K (fdAt K (He.fAd K ("cost", none))) ["plan", "tick"] []
  F_total : FnQ K "total" "total" s_total (He.fAd K ("total", none)) (fdAt K (He.fAd K ("total", none)))
  b_total : Binds K (fdAt K (He.fAd K ("total", none))) ["plan", "weights"] []
  F_best_plan : FnQ K "best_plan" "best_plan" s_best_plan (He.fAd K ("best_plan", none)) (fdAt K (He.fAd K ("best_plan", none)))
  b_best_plan : Binds K (fdAt K (He.fAd K ("best_plan", none))) ["weights", "room"] []
  F_costs_from : FnQ K "_costs_from" "_costs_from" s_costs_from (He.fAd K ("_costs_from", none)) (fdAt K (He.fAd K ("_costs_from", none)))
  b_costs_from : Binds K (fdAt K (He.fAd K ("_costs_from", none))) ["weights", "begin"] []
  F_better : FnQ K "_better" "_better" s_better (He.fAd K ("_better", none)) (fdAt K (He.fAd K ("_better", none)))
  b_better : Binds K (fdAt K (He.fAd K ("_better", none))) ["costs", "best", "begin"] []
  F_best_worst : FnQ K "best_worst" "best_worst" s_best_worst (He.fAd K ("best_worst", none)) (fdAt K (He.fAd K ("best_worst", none)))
  b_best_worst : Binds K (fdAt K (He.fAd K ("best_worst", none))) ["many", "room"] []
  F_newest : FnQ K "_newest" "_newest" s_newest (He.fAd K ("_newest", none)) (fdAt K (He.fAd K ("_newest", none)))
  b_newest : Binds K (fdAt K (He.fAd K ("_newest", none))) ["plan", "tick"] []
  F_need_plan : FnQ K "_need_plan" "_need_plan" s_need_plan (He.fAd K ("_need_plan", none)) (fdAt K (He.fAd K ("_need_plan", none)))
  b_need_plan : Binds K (fdAt K (He.fAd K ("_need_plan", none))) ["plan"] []
  F_need_room : FnQ K "_need_room" "_need_room" s_need_room (He.fAd K ("_need_room", none)) (fdAt K (He.fAd K ("_need_room", none)))
  b_need_room : Binds K (fdAt K (He.fAd K ("_need_room", none))) ["room"] []
  F_need_weights : FnQ K "_need_weights" "_need_weights" s_need_weights (He.fAd K ("_need_weights", none)) (fdAt K (He.fAd K ("_need_weights", none)))
  b_need_weights : Binds K (fdAt K (He.fAd K ("_need_weights", none))) ["weights"] []
  F_law_deck : FnQ K "_law_deck" "_law_deck" s_law_deck (He.fAd K ("_law_deck", none)) (fdAt K (He.fAd K ("_law_deck", none)))
  b_law_deck : Binds K (fdAt K (He.fAd K ("_law_deck", none))) ["script", "k"] []
  F_law_take : FnQ K "_law_take" "_law_take" s_law_take (He.fAd K ("_law_take", none)) (fdAt K (He.fAd K ("_law_take", none)))
  b_law_take : Binds K (fdAt K (He.fAd K ("_law_take", none))) ["deck", "amount"] []
  F_law_same : FnQ K "_law_same" "_law_same" s_law_same (He.fAd K ("_law_same", none)) (fdAt K (He.fAd K ("_law_same", none)))
  b_law_same : Binds K (fdAt K (He.fAd K ("_law_same", none))) ["found", "due"] []
  F_law_weights : FnQ K "_law_weights" "_law_weights" s_law_weights (He.fAd K ("_law_weights", none)) (fdAt K (He.fAd K ("_law_weights", none)))
  b_law_weights : Binds K (fdAt K (He.fAd K ("_law_weights", none))) ["deck"] []
  F_law_cost : FnQ K "_law_cost" "_law_cost" s_law_cost (He.fAd K ("_law_cost", none)) (fdAt K (He.fAd K ("_law_cost", none)))
  b_law_cost : Binds K (fdAt K (He.fAd K ("_law_cost", none))) ["scheme", "moment"] []
  F_law_total : FnQ K "_law_total" "_law_total" s_law_total (He.fAd K ("_law_total", none)) (fdAt K (He.fAd K ("_law_total", none)))
  b_law_total : Binds K (fdAt K (He.fAd K ("_law_total", none))) ["scheme", "loads"] []
  F_law_plans : FnQ K "_law_plans" "_law_plans" s_law_plans (He.fAd K ("_law_plans", none)) (fdAt K (He.fAd K ("_law_plans", none)))
  b_law_plans : Binds K (fdAt K (He.fAd K ("_law_plans", none))) ["amount", "space"] []
  F_law_left : FnQ K "_law_left" "_law_left" s_law_left (He.fAd K ("_law_left", none)) (fdAt K (He.fAd K ("_law_left", none)))
  b_law_left : Binds K (fdAt K (He.fAd K ("_law_left", none))) ["loads", "space"] []
  F_law_best : FnQ K "_law_best" "_law_best" s_law_best (He.fAd K ("_law_best", none)) (fdAt K (He.fAd K ("_law_best", none)))
  b_law_best : Binds K (fdAt K (He.fAd K ("_law_best", none))) ["loads", "space"] []
  F_law_worst : FnQ K "_law_worst" "_law_worst" s_law_worst (He.fAd K ("_law_worst", none)) (fdAt K (He.fAd K ("_law_worst", none)))
  b_law_worst : Binds K (fdAt K (He.fAd K ("_law_worst", none))) ["amount", "space"] []
  F_law_plan : FnQ K "_law_plan" "_law_plan" s_law_plan (He.fAd K ("_law_plan", none)) (fdAt K (He.fAd K ("_law_plan", none)))
  b_law_plan : Binds K (fdAt K (He.fAd K ("_law_plan", none))) ["deck", "most"] []
  F_law : FnQ K "law" "law" s_law (He.fAd K ("law", none)) (fdAt K (He.fAd K ("law", none)))
  b_law : Binds K (fdAt K (He.fAd K ("law", none))) ["script"] []
  g_ascends : mg "ascends" = some (.ref (He.ga K "ascends"))
  g_cost : mg "cost" = some (.ref (He.ga K "cost"))
  g_total : mg "total" = some (.ref (He.ga K "total"))
  g_best_plan : mg "best_plan" = some (.ref (He.ga K "best_plan"))
  g_costs_from : mg "_costs_from" = some (.ref (He.ga K "_costs_from"))
  g_better : mg "_better" = some (.ref (He.ga K "_better"))
  g_best_worst : mg "best_worst" = some (.ref (He.ga K "best_worst"))
  g_newest : mg "_newest" = some (.ref (He.ga K "_newest"))
  g_need_plan : mg "_need_plan" = some (.ref (He.ga K "_need_plan"))
  g_need_room : mg "_need_room" = some (.ref (He.ga K "_need_room"))
  g_need_weights : mg "_need_weights" = some (.ref (He.ga K "_need_weights"))
  g_law_deck : mg "_law_deck" = some (.ref (He.ga K "_law_deck"))
  g_law_take : mg "_law_take" = some (.ref (He.ga K "_law_take"))
  g_law_same : mg "_law_same" = some (.ref (He.ga K "_law_same"))
  g_law_weights : mg "_law_weights" = some (.ref (He.ga K "_law_weights"))
  g_law_cost : mg "_law_cost" = some (.ref (He.ga K "_law_cost"))
  g_law_total : mg "_law_total" = some (.ref (He.ga K "_law_total"))
  g_law_plans : mg "_law_plans" = some (.ref (He.ga K "_law_plans"))
  g_law_left : mg "_law_left" = some (.ref (He.ga K "_law_left"))
  g_law_best : mg "_law_best" = some (.ref (He.ga K "_law_best"))
  g_law_worst : mg "_law_worst" = some (.ref (He.ga K "_law_worst"))
  g_law_plan : mg "_law_plan" = some (.ref (He.ga K "_law_plan"))
  g_law : mg "law" = some (.ref (He.ga K "law"))
  n_len : mg "len" = none
  n_int : mg "int" = none
  n_isinstance : mg "isinstance" = none
  n_range : mg "range" = none
  n_all : mg "all" = none
  n_min : mg "min" = none
  n_max : mg "max" = none
  n_bool : mg "bool" = none
  n_tuple : mg "tuple" = none
  n_zip : mg "zip" = none
  n_enumerate : mg "enumerate" = none
  n_sum : mg "sum" = none
  n_ValueError : mg "ValueError" = none
  n_repr : mg "repr" = none
  g_GameError : mg "GameError" = some (.ref (He.ga K "GameError"))
  g_InvalidNumber : mg "InvalidNumber" = some (.ref (He.ga K "InvalidNumber"))
  g_InvalidPlan : mg "InvalidPlan" = some (.ref (He.ga K "InvalidPlan"))
theorem txt_of {K : PySem.W.Frag} {w : World} {h h0 : Heap} {mg : Str → Option Value} (X : K.In h) (G : h.Ns mainGlobals mg) (c : He.SaysX fa fn tabs [] exs w h0 K) : Txt K w mg := by
  have cd := c.t.d
  obtain ⟨fd_ascends, f_ascends⟩ := cd.def_ 0 (d := d_ascends) rfl
  obtain ⟨fd_cost, f_cost⟩ := cd.def_ 1 (d := d_cost) rfl
  obtain ⟨fd_total, f_total⟩ := cd.def_ 2 (d := d_total) rfl
  obtain ⟨fd_best_plan, f_best_plan⟩ := cd.def_ 3 (d := d_best_plan) rfl
  obtain ⟨fd_costs_from, f_costs_from⟩ := cd.def_ 4 (d := d_costs_from) rfl
  obtain ⟨fd_better, f_better⟩ := cd.def_ 5 (d := d_better) rfl
  obtain ⟨fd_best_worst, f_best_worst⟩ := cd.def_ 6 (d := d_best_worst) rfl
  obtain ⟨fd_newest, f_newest⟩ := cd.def_ 7 (d := d_newest) rfl
  obtain ⟨fd_need_plan, f_need_plan⟩ := cd.def_ 8 (d := d_need_plan) rfl
  obtain ⟨fd_need_room, f_need_room⟩ := cd.def_ 9 (d := d_need_room) rfl
  obtain ⟨fd_need_weights, f_need_weights⟩ := cd.def_ 10 (d := d_need_weights) rfl
  obtain ⟨fd_law_deck, f_law_deck⟩ := cd.def_ 11 (d := d_law_deck) rfl
  obtain ⟨fd_law_take, f_law_take⟩ := cd.def_ 12 (d := d_law_take) rfl
  obtain ⟨fd_law_same, f_law_same⟩ := cd.def_ 13 (d := d_law_same) rfl
  obtain ⟨fd_law_weights, f_law_weights⟩ := cd.def_ 14 (d := d_law_weights) rfl
  obtain ⟨fd_law_cost, f_law_cost⟩ := cd.def_ 15 (d := d_law_cost) rfl
  obtain ⟨fd_law_total, f_law_total⟩ := cd.def_ 16 (d := d_law_total) rfl
  obtain ⟨fd_law_plans, f_law_plans⟩ := cd.def_ 17 (d := d_law_plans) rfl
  obtain ⟨fd_law_left, f_law_left⟩ := cd.def_ 18 (d := d_law_left) rfl
  obtain ⟨fd_law_best, f_law_best⟩ := cd.def_ 19 (d := d_law_best) rfl
  obtain ⟨fd_law_worst, f_law_worst⟩ := cd.def_ 20 (d := d_law_worst) rfl
  obtain ⟨fd_law_plan, f_law_plan⟩ := cd.def_ 21 (d := d_law_plan) rfl
  obtain ⟨fd_law, f_law⟩ := cd.def_ 22 (d := d_law) rfl
  exact {
    F_ascends := fdAt_eq f_ascends
    b_ascends := (fdAt_eq (st := s_ascends) f_ascends).bindsN fun _ _ _ _ _ _ us hl => match us, hl with | [_], _ => rfl
    F_cost := fdAt_eq f_cost
    b_cost := (fdAt_eq (st := s_cost) f_cost).bindsN fun _ _ _ _ _ _ us hl => match us, hl with | [_, _], _ => rfl
    F_total := fdAt_eq f_total
    b_total := (fdAt_eq (st := s_total) f_total).bindsN fun _ _ _ _ _ _ us hl => match us, hl with | [_, _], _ => rfl
    F_best_plan := fdAt_eq f_best_plan
    b_best_plan := (fdAt_eq (st := s_best_plan) f_best_plan).bindsN fun _ _ _ _ _ _ us hl => match us, hl with | [_, _], _ => rfl
    F_costs_from := fdAt_eq f_costs_from
    b_costs_from := (fdAt_eq (st := s_costs_from) f_costs_from).bindsN fun _ _ _ _ _ _ us hl => match us, hl with | [_, _], _ => rfl
    F_better := fdAt_eq f_better
    b_better := (fdAt_eq (st := s_better) f_better).bindsN fun _ _ _ _ _ _ us hl => match us, hl with | [_, _, _], _ => rfl
    F_best_worst := fdAt_eq f_best_worst
    b_best_worst := (fdAt_eq (st := s_best_worst) f_best_worst).bindsN fun _ _ _ _ _ _ us hl => match us, hl with | [_, _], _ => rfl
    F_newest := fdAt_eq f_newest
    b_newest := (fdAt_eq (st := s_newest) f_newest).bindsN fun _ _ _ _ _ _ us hl => match us, hl with | [_, _], _ => rfl
    F_need_plan := fdAt_eq f_need_plan
    b_need_plan := (fdAt_eq (st := s_need_plan) f_need_plan).bindsN fun _ _ _ _ _ _ us hl => match us, hl with | [_], _ => rfl
    F_need_room := fdAt_eq f_need_room
    b_need_room := (fdAt_eq (st := s_need_room) f_need_room).bindsN fun _ _ _ _ _ _ us hl => match us, hl with | [_], _ => rfl
    F_need_weights := fdAt_eq f_need_weights
    b_need_weights := (fdAt_eq (st := s_need_weights) f_need_weights).bindsN fun _ _ _ _ _ _ us hl => match us, hl with | [_], _ => rfl
    F_law_deck := fdAt_eq f_law_deck
    b_law_deck := (fdAt_eq (st := s_law_deck) f_law_deck).bindsN fun _ _ _ _ _ _ us hl => match us, hl with | [_, _], _ => rfl
    F_law_take := fdAt_eq f_law_take
    b_law_take := (fdAt_eq (st := s_law_take) f_law_take).bindsN fun _ _ _ _ _ _ us hl => match us, hl with | [_, _], _ => rfl
    F_law_same := fdAt_eq f_law_same
    b_law_same := (fdAt_eq (st := s_law_same) f_law_same).bindsN fun _ _ _ _ _ _ us hl => match us, hl with | [_, _], _ => rfl
    F_law_weights := fdAt_eq f_law_weights
    b_law_weights := (fdAt_eq (st := s_law_weights) f_law_weights).bindsN fun _ _ _ _ _ _ us hl => match us, hl with | [_], _ => rfl
    F_law_cost := fdAt_eq f_law_cost
    b_law_cost := (fdAt_eq (st := s_law_cost) f_law_cost).bindsN fun _ _ _ _ _ _ us hl => match us, hl with | [_, _], _ => rfl
    F_law_total := fdAt_eq f_law_total
    b_law_total := (fdAt_eq (st := s_law_total) f_law_total).bindsN fun _ _ _ _ _ _ us hl => match us, hl with | [_, _], _ => rfl
    F_law_plans := fdAt_eq f_law_plans
    b_law_plans := (fdAt_eq (st := s_law_plans) f_law_plans).bindsN fun _ _ _ _ _ _ us hl => match us, hl with | [_, _], _ => rfl
    F_law_left := fdAt_eq f_law_left
    b_law_left := (fdAt_eq (st := s_law_left) f_law_left).bindsN fun _ _ _ _ _ _ us hl => match us, hl with | [_, _], _ => rfl
    F_law_best := fdAt_eq f_law_best
    b_law_best := (fdAt_eq (st := s_law_best) f_law_best).bindsN fun _ _ _ _ _ _ us hl => match us, hl with | [_, _], _ => rfl
    F_law_worst := fdAt_eq f_law_worst
    b_law_worst := (fdAt_eq (st := s_law_worst) f_law_worst).bindsN fun _ _ _ _ _ _ us hl => match us, hl with | [_, _], _ => rfl
    F_law_plan := fdAt_eq f_law_plan
    b_law_plan := (fdAt_eq (st := s_law_plan) f_law_plan).bindsN fun _ _ _ _ _ _ us hl => match us, hl with | [_, _], _ => rfl
    F_law := fdAt_eq f_law
    b_law := (fdAt_eq (st := s_law) f_law).bindsN fun _ _ _ _ _ _ us hl => match us, hl with | [_], _ => rfl
    g_ascends := He.glo_ok X G (cd.fact 0 (f := .glo "ascends") rfl)
    g_cost := He.glo_ok X G (cd.fact 1 (f := .glo "cost") rfl)
    g_total := He.glo_ok X G (cd.fact 2 (f := .glo "total") rfl)
    g_best_plan := He.glo_ok X G (cd.fact 3 (f := .glo "best_plan") rfl)
    g_costs_from := He.glo_ok X G (cd.fact 4 (f := .glo "_costs_from") rfl)
    g_better := He.glo_ok X G (cd.fact 5 (f := .glo "_better") rfl)
    g_best_worst := He.glo_ok X G (cd.fact 6 (f := .glo "best_worst") rfl)
    g_newest := He.glo_ok X G (cd.fact 7 (f := .glo "_newest") rfl)
    g_need_plan := He.glo_ok X G (cd.fact 8 (f := .glo "_need_plan") rfl)
    g_need_room := He.glo_ok X G (cd.fact 9 (f := .glo "_need_room") rfl)
    g_need_weights := He.glo_ok X G (cd.fact 10 (f := .glo "_need_weights") rfl)
    g_law_deck := He.glo_ok X G (cd.fact 11 (f := .glo "_law_deck") rfl)
    g_law_take := He.glo_ok X G (cd.fact 12 (f := .glo "_law_take") rfl)
    g_law_same := He.glo_ok X G (cd.fact 13 (f := .glo "_law_same") rfl)
    g_law_weights := He.glo_ok X G (cd.fact 14 (f := .glo "_law_weights") rfl)
    g_law_cost := He.glo_ok X G (cd.fact 15 (f := .glo "_law_cost") rfl)
    g_law_total := He.glo_ok X G (cd.fact 16 (f := .glo "_law_total") rfl)
    g_law_plans := He.glo_ok X G (cd.fact 17 (f := .glo "_law_plans") rfl)
    g_law_left := He.glo_ok X G (cd.fact 18 (f := .glo "_law_left") rfl)
    g_law_best := He.glo_ok X G (cd.fact 19 (f := .glo "_law_best") rfl)
    g_law_worst := He.glo_ok X G (cd.fact 20 (f := .glo "_law_worst") rfl)
    g_law_plan := He.glo_ok X G (cd.fact 21 (f := .glo "_law_plan") rfl)
    g_law := He.glo_ok X G (cd.fact 22 (f := .glo "law") rfl)
    n_len := He.free_ok X G (cd.fact 23 (f := .free "len") rfl)
    n_int := He.free_ok X G (cd.fact 24 (f := .free "int") rfl)
    n_isinstance := He.free_ok X G (cd.fact 25 (f := .free "isinstance") rfl)
    n_range := He.free_ok X G (cd.fact 26 (f := .free "range") rfl)
    n_all := He.free_ok X G (cd.fact 27 (f := .free "all") rfl)
    n_min := He.free_ok X G (cd.fact 28 (f := .free "min") rfl)
    n_max := He.free_ok X G (cd.fact 29 (f := .free "max") rfl)
    n_bool := He.free_ok X G (cd.fact 30 (f := .free "bool") rfl)
    n_tuple := He.free_ok X G (cd.fact 31 (f := .free "tuple") rfl)
    n_zip := He.free_ok X G (cd.fact 32 (f := .free "zip") rfl)
    n_enumerate := He.free_ok X G (cd.fact 33 (f := .free "enumerate") rfl)
    n_sum := He.free_ok X G (cd.fact 34 (f := .free "sum") rfl)
    n_ValueError := He.free_ok X G (cd.fact 35 (f := .free "ValueError") rfl)
    n_repr := He.free_ok X G (cd.fact 36 (f := .free "repr") rfl)
    g_GameError := He.glo_ok X G (cd.fact 37 (f := .glo "GameError") rfl)
    g_InvalidNumber := He.glo_ok X G (cd.fact 38 (f := .glo "InvalidNumber") rfl)
    g_InvalidPlan := He.glo_ok X G (cd.fact 39 (f := .glo "InvalidPlan") rfl)
  }
end K43
set_option maxRecDepth 100000
set_option maxHeartbeats 4000000
/-! The law's draws. -/
namespace K43
open PySem PySem.Spec PyProof.Rows L2 KF KD
def CPowW (i j : Int) : Prop := 0 ≤ j ∧ j ≤ 1000 ∧ i.natAbs < 2 ^ 1000
theorem op_powW {X : Cx} : OpR X (binaryOp .Pow) (rI CPowW fun i j => .int (i ^ j.toNat)) := opI fun i j _ _ _ _ _ hc q => by
  refine PyProof.Rows.pow_int hc.1 ?_ q
  have hb : Builtin.Int.intBits i ≤ 1000 := by
    have h := PySem.Flt.log2_lt_of (by decide) hc.2.2
    unfold Builtin.Int.intBits
    split <;> omega
  have h1 : (Builtin.Int.intBits i : Int) ≤ 1000 := by omega
  have h2 := Int.mul_le_mul h1 hc.2.1 hc.1 (by decide)
  exact Int.le_trans h2 (by decide)
/-- a row of draws at d, good for n more -/
def Dk (H : Hp) (d : Addr) (n : Nat) : Prop := ∃ r m c : Int, H d = some (.lst [.int r, .int m, .int c]) ∧ 0 ≤ m ∧ m < 100000000000000000000000000000000000000000 ∧ 0 ≤ c ∧ c + n ≤ 1000000000000
theorem Dk.le {H : Hp} {d : Addr} {n k : Nat} (h : Dk H d n) (hk : k ≤ n) : Dk H d k := by
  obtain ⟨r, m, c, h0, h1, h2, h3, h4⟩ := h
  exact ⟨r, m, c, h0, h1, h2, h3, by omega⟩
theorem Dk.lst {H : Hp} {d : Addr} {n : Nat} (h : Dk H d n) : ∃ xs, H d = some (.lst xs) := by
  obtain ⟨r, m, c, h0, _⟩ := h
  exact ⟨_, h0⟩
theorem Dk.same {H H' : Hp} {d : Addr} {n : Nat} (h : Dk H d n) (e : Same H H') : Dk H' d n := by
  obtain ⟨r, m, c, h0, h1⟩ := h
  exact ⟨r, m, c, e _ _ h0, h1⟩
section
variable {P : Program} {w : World} {K : PySem.W.Frag} {mg : Str → Option Value} {base : Heap}
def spDeck (K : PySem.W.Frag) : Sp := fun vs H Q _ => ∃ (a : Addr) (ns : List Int) (k : Nat), vs = [.ref a, .int (k : Int)] ∧ SqL K H a (ns.map V.int) ∧ k ≤ 100 ∧ ∀ l H', Same H H' → H l = none → Dk H' l 900000000000 → Q (.ref l) H'
theorem scD : FnScope ["script", "k", "cell", "mixed"] ["script", "k"] (defScope s_law_deck) := ⟨rfl, rfl, rfl, by decide +kernel, rfl, by decide +kernel, by decide +kernel⟩
theorem ok_law_deck (T : Txt K w mg) : FnOk P w K mg base CX0 1 (He.fAd K ("_law_deck", none)) (fdAt K (He.fAd K ("_law_deck", none))) ["script", "k"] (spDeck K) := by
  refine T.F_law_deck.ok scD (fun vs H Q E h => ?_) (fun cdv A outer s H vs Q E hr h => ?_)
  · obtain ⟨a, ns, k, rfl, _⟩ := h
    rfl
  · obtain ⟨a, ns, k, rfl, hS, hk, kk⟩ := h
    refine ⟨_, PSs.nox (pss_cons (ps_set (i := 2) scD.nd rfl (Or.inl rfl) (pe_ifExp (pt_cmpR op_lt (pv 1) (pe_callB (r := Evl.rLenS K) call_len_seq (by rfl) T.n_len PyProof.Rows.Boot.«len» (pa_cons (pv 0) pa_nil)) (nomark _)) (pe_ix (r := rIxL K) ix_list (pv 0) (pv 1) (fun _ _ => rfl)) (pe_op op_add (pe_op op_mulW pe_int (pv 1)) pe_int)))
      (pss_cons (ps_set (i := 3) scD.nd rfl (Or.inl rfl) (pe_op op_add (pe_op op_add (pe_op op_mod (pe_callTy call_int1 (by rfl) T.n_int PyProof.Rows.Boot.«int» (pa_cons (pv 2) pa_nil)) (pe_op op_pow pe_int pe_int)) (pe_op op_mulW pe_int (pv 1))) pe_int))
      (pss_one (ps_ret (pe_lst (pa_cons (pe_ifExp (pt_cmpR op_ge (pv 2) (pe_op op_pow pe_int pe_int) (nomark _)) (pe_op op_sub (pv 2) (pe_op op_pow pe_int pe_int)) pe_int) (pa_cons (pv 3) (pa_cons pe_int pa_nil)))))))), ?_⟩
    have fin : ∀ (r z : Int) (l : Addr), H l = none → Q (.ref l) (upd H l (.lst [.int r, .int (z % 10 ^ (40 : Int).toNat + 65537 * (k : Int) + 11), .int 0])) := fun r z l n => by
      have e0 : (10 : Int) ^ (40 : Int).toNat = 10000000000000000000000000000000000000000 := by decide
      have e1 := Int.emod_nonneg z (show (10000000000000000000000000000000000000000 : Int) ≠ 0 by decide)
      have e2 := Int.emod_lt_of_pos z (show (0 : Int) < 10000000000000000000000000000000000000000 by decide)
      rw [e0]
      exact kk l _ (fun b o e => by rw [upd_ne (ne_of_none e n)]; exact e) n ⟨r, _, _, upd_same, by omega, by omega, by omega, by omega⟩
    have wm : ∀ c : Int, 0 ≤ c → c < 1048576 → CMulW c (k : Int) := fun c h0 h1 => wide_mul (a := 40) (b := 20) (small_ab h0 (by rw [pow40]; omega)) (small_ab (by omega) (by rw [pow20]; omega)) (by decide) (by decide) (by decide)
    refine ⟨_, rfl, _, rfl, a, _, rfl, .inl hS, _, _, rfl, rfl, _, rfl, ite2 (fun z => ?_) (fun z => ?_)⟩
    · have hk2 := of_decide_eq_true z
      have hk3 : k < ns.length := by
        rw [List.length_map] at hk2
        omega
      refine ⟨_, rfl, _, rfl, a, _, _, _, rfl, rfl, hS, atI_nat (v := .int ns[k]) (by rw [List.getElem?_map, List.getElem?_eq_getElem hk3]; rfl), ?_⟩
      refine ⟨_, rfl, .inl ⟨_, rfl, _, _, rfl, rfl, ⟨by decide, by decide, by decide⟩, _, _, rfl, rfl, (show (0 : Int) < 10 ^ (40 : Int).toNat by decide), _, rfl, _, _, rfl, rfl, wm _ (by decide) (by decide), _, _, rfl, rfl, _, _, rfl, rfl, ?_⟩⟩
      refine ⟨_, rfl, _, _, rfl, rfl, ⟨by decide, by decide, by decide⟩, _, _, rfl, rfl, _, rfl, ite2 (fun z => ?_) (fun z => ?_)⟩
      · exact ⟨_, rfl, _, _, rfl, rfl, ⟨by decide, by decide, by decide⟩, _, _, rfl, rfl, _, rfl, (show 3 ≤ sizeLine by decide), fun l n => fin _ _ l n⟩
      · exact ⟨_, rfl, (show 3 ≤ sizeLine by decide), fun l n => fin _ _ l n⟩
    · refine ⟨_, rfl, _, _, rfl, rfl, wm _ (by decide) (by decide), _, _, rfl, rfl, ?_⟩
      refine ⟨_, rfl, .inl ⟨_, rfl, _, _, rfl, rfl, ⟨by decide, by decide, by decide⟩, _, _, rfl, rfl, (show (0 : Int) < 10 ^ (40 : Int).toNat by decide), _, rfl, _, _, rfl, rfl, wm _ (by decide) (by decide), _, _, rfl, rfl, _, _, rfl, rfl, ?_⟩⟩
      refine ⟨_, rfl, _, _, rfl, rfl, ⟨by decide, by decide, by decide⟩, _, _, rfl, rfl, _, rfl, ite2 (fun z => ?_) (fun z => ?_)⟩
      · exact ⟨_, rfl, _, _, rfl, rfl, ⟨by decide, by decide, by decide⟩, _, _, rfl, rfl, _, rfl, (show 3 ≤ sizeLine by decide), fun l n => fin _ _ l n⟩
      · exact ⟨_, rfl, (show 3 ≤ sizeLine by decide), fun l n => fin _ _ l n⟩
def spTake : Sp := fun vs H Q _ => ∃ (d : Addr) (m : Int) (n : Nat), vs = [.ref d, .int m] ∧ 0 < m ∧ m < 1000000000000 ∧ Dk H d (n + 1) ∧ ∀ (x : Int) H', 0 ≤ x → x < m → Frm d H H' → Dk H' d n → Q (.int x) H'
theorem scT : FnScope ["deck", "amount", "found", "number"] ["deck", "amount"] (defScope s_law_take) := ⟨rfl, rfl, rfl, by decide +kernel, rfl, by decide +kernel, by decide +kernel⟩
theorem ok_law_take (T : Txt K w mg) : FnOk P w K mg base CX0 1 (He.fAd K ("_law_take", none)) (fdAt K (He.fAd K ("_law_take", none))) ["deck", "amount"] spTake := by
  refine T.F_law_take.ok scT (fun vs H Q E h => ?_) (fun cdv A outer s H vs Q E hr h => ?_)
  · obtain ⟨d, m, n, rfl, _⟩ := h
    rfl
  · obtain ⟨d, m, n, rfl, hm0, hm1, ⟨r, mm, c, hd, a1, a2, a3, a4⟩, k⟩ := h
    refine ⟨_, PSs.nox (pss_cons (ps_if (pt_cmpR op_gt (pe_ix (r := rIxL K) ix_list (pv 0) pe_int (fun _ _ => rfl)) pe_int (nomark _)) (pss_cons (ps_set (i := 2) scT.nd rfl (Or.inl rfl) (pe_op op_mod (pe_callTy call_int1 (by rfl) T.n_int PyProof.Rows.Boot.«int» (pa_cons (pe_ix (r := rIxL K) ix_list (pv 0) pe_int (fun _ _ => rfl)) pa_nil)) (pv 1)))
      (pss_cons (ps_asg (pe_op op_fdivW (pe_ix (r := rIxL K) ix_list (pv 0) pe_int (fun _ _ => rfl)) (pv 1)) (pg_sub (pv 0) pe_int set_list))
      (pss_one (ps_ret (pv 2))))) pss_nil)
      (pss_cons (ps_asg (pe_op op_add (pe_ix (r := rIxL K) ix_list (pv 0) pe_int (fun _ _ => rfl)) pe_int) (pg_sub (pv 0) pe_int set_list))
      (pss_cons (ps_set (i := 3) scT.nd rfl (Or.inl rfl) (pe_op op_mod (pe_callTy call_int1 (by rfl) T.n_int PyProof.Rows.Boot.«int» (pa_cons (pe_op op_powW (pe_op op_add (pe_ix (r := rIxL K) ix_list (pv 0) pe_int (fun _ _ => rfl)) (pe_op op_mulW pe_int (pe_ix (r := rIxL K) ix_list (pv 0) pe_int (fun _ _ => rfl)))) pe_int) pa_nil)) pe_int))
      (pss_cons (ps_set (i := 3) scT.nd rfl (Or.inl rfl) (pe_op op_mod (pe_callTy call_int1 (by rfl) T.n_int PyProof.Rows.Boot.«int» (pa_cons (pe_op op_powW (pe_op op_add (pv 3) (pe_op op_mulW pe_int (pe_ix (r := rIxL K) ix_list (pv 0) pe_int (fun _ _ => rfl)))) pe_int) pa_nil)) pe_int))
      (pss_one (ps_ret (pe_op op_mod (pe_callTy call_int1 (by rfl) T.n_int PyProof.Rows.Boot.«int» (pa_cons (pe_op op_fdivW (pv 3) pe_int) pa_nil)) (pv 1)))))))), ?_⟩
    have hW : CDivW 0 m := wide_div hm0 (small_ab (n := 40) (by omega) (by rw [pow40]; omega)) (by decide) (by decide)
    refine ⟨_, rfl, _, _, _, _, rfl, rfl, SqL.of hd, at_of (j := 0) rfl rfl, _, _, rfl, rfl, _, rfl, ite2 (fun z => ?_) (fun z => ?_)⟩
    · refine ⟨_, rfl, _, _, _, _, rfl, rfl, SqL.of hd, at_of (j := 0) rfl rfl, .inl ⟨_, rfl, _, rfl, _, _, rfl, rfl, hm0, ?_⟩⟩
      refine ⟨_, rfl, _, _, _, _, rfl, rfl, SqL.of hd, at_of (j := 0) rfl rfl, _, rfl, _, _, rfl, rfl, hW, _, rfl, _, _, _, 0, rfl, rfl, hd, rfl, _, rfl, ?_⟩
      exact k _ _ (Int.emod_nonneg _ (by omega)) (Int.emod_lt_of_pos _ hm0) Frm.of_upd ⟨_, mm, c, upd_same, a1, a2, a3, by omega⟩
    · have hd1 : (upd H d (.lst [.int r, .int mm, .int (c + 1)])) d = some (.lst [.int r, .int mm, .int (c + 1)]) := upd_same
      refine ⟨_, rfl, _, _, _, _, rfl, rfl, SqL.of hd, at_of (j := 2) rfl rfl, _, _, rfl, rfl, _, rfl, _, _, _, 2, rfl, rfl, hd, rfl, ?_⟩
      have b1 : CMulW 7919 (c + 1) := wide_mul (a := 40) (b := 40) (by decide) (small_ab (by omega) (by rw [pow40]; omega)) (by decide) (by decide) (by decide)
      have b2 : CMulW 31 (c + 1) := wide_mul (a := 40) (b := 40) (by decide) (small_ab (by omega) (by rw [pow40]; omega)) (by decide) (by decide) (by decide)
      have x0a : (mm + 7919 * (c + 1)).natAbs < 2 ^ 1000 := Nat.lt_of_lt_of_le (small_ab (n := 140) (i := mm + 7919 * (c + 1)) (by omega) (by rw [show (2 : Int) ^ 140 = 1393796574908163946345982392040522594123776 by decide]; omega)) (Nat.pow_le_pow_right (by decide) (by decide))
      refine ⟨_, rfl, _, _, _, _, rfl, rfl, SqL.of hd1, at_of (j := 1) rfl rfl, _, rfl, _, _, _, _, rfl, rfl, SqL.of hd1, at_of (j := 2) rfl rfl, _, _, rfl, rfl, b1, _, _, rfl, rfl, ?_⟩
      refine ⟨_, _, rfl, rfl, ⟨by decide, by decide, x0a⟩, .inl ⟨_, rfl, _, _, rfl, rfl, (show (0 : Int) < 2305843009213693951 by decide), ?_⟩⟩
      obtain ⟨x1, hx1⟩ : ∃ x1, x1 = (mm + 7919 * (c + 1)) ^ (3 : Int).toNat % 2305843009213693951 := ⟨_, rfl⟩
      have y1 := Int.emod_nonneg ((mm + 7919 * (c + 1)) ^ (3 : Int).toNat) (show (2305843009213693951 : Int) ≠ 0 by decide)
      have y2 := Int.emod_lt_of_pos ((mm + 7919 * (c + 1)) ^ (3 : Int).toNat) (show (0 : Int) < 2305843009213693951 by decide)
      show L2.tSeq _ _ _ (List.set _ 3 (some (V.int ((mm + 7919 * (c + 1)) ^ (3 : Int).toNat % 2305843009213693951)))) _
      rw [← hx1] at y1 y2 ⊢
      have x1a : (x1 + 31 * (c + 1)).natAbs < 2 ^ 1000 := Nat.lt_of_lt_of_le (small_ab (n := 120) (i := x1 + 31 * (c + 1)) (by omega) (by rw [show (2 : Int) ^ 120 = 1329227995784915872903807060280344576 by decide]; omega)) (Nat.pow_le_pow_right (by decide) (by decide))
      refine ⟨_, rfl, _, rfl, _, _, _, _, rfl, rfl, SqL.of hd1, at_of (j := 2) rfl rfl, _, _, rfl, rfl, b2, _, _, rfl, rfl, ?_⟩
      refine ⟨_, _, rfl, rfl, ⟨by decide, by decide, x1a⟩, .inl ⟨_, rfl, _, _, rfl, rfl, (show (0 : Int) < 1000000000000000003 by decide), ?_⟩⟩
      refine ⟨_, rfl, _, _, rfl, rfl, wide_div (b := 30) (by decide) (by decide) (by decide) (by decide), .inl ⟨_, rfl, _, rfl, _, _, rfl, rfl, hm0, ?_⟩⟩
      exact k _ _ (Int.emod_nonneg _ (by omega)) (Int.emod_lt_of_pos _ hm0) Frm.of_upd ⟨r, mm, c + 1, upd_same, a1, a2, by omega, by omega⟩
end
end K43
set_option maxRecDepth 100000
set_option maxHeartbeats 4000000
/-! Equal, and of one kind. -/
namespace K43
open PySem PySem.Spec PyProof.Rows L2 KF KD
def AlOk : Nat → PyData → Prop
  | 0, d => match d with
    | .int _ => True
    | _ => False
  | n + 1, d => match d with
    | .int _ => True
    | .tuple ds => ds.length ≤ 1100 ∧ NLs ds ∧ ∀ e ∈ ds, AlOk n e
    | _ => False
theorem nl_get' : ∀ {ds : List PyData} {i : Nat}, NLs ds → (h : i < ds.length) → NL ds[i]
  | d :: ds, 0, h, _ => h.1
  | d :: ds, i + 1, h, hi => nl_get' (ds := ds) h.2 (Nat.lt_of_succ_lt_succ hi)
def spSame (K : PySem.W.Frag) (n : Nat) : Sp := fun vs H Q _ => ∃ (v1 v2 : V) (d : PyData), vs = [v1, v2] ∧ Dp K H v1 d ∧ Dp K H v2 d ∧ AlOk n d ∧ ∀ H', Same H H' → Q (.bl true) H'
def spSm (K : PySem.W.Frag) : Nat → Sp
  | 0 => fun _ _ _ _ => False
  | n + 1 => spSame K n
section
variable {P : Program} {w : World} {K : PySem.W.Frag} {mg : Str → Option Value} {base : Heap}
theorem scSm : FnScope ["found", "due", "k"] ["found", "due"] (defScope s_law_same) := ⟨rfl, rfl, rfl, by decide +kernel, rfl, by decide +kernel, by decide +kernel⟩
theorem ok_law_same (T : Txt K w mg) : ∀ n : Nat, FnOk P w K mg base CX0 n (He.fAd K ("_law_same", none)) (fdAt K (He.fAd K ("_law_same", none))) ["found", "due"] (spSm K n)
  | 0 => ⟨fun _ _ _ _ z => z.elim, fun _ _ _ _ _ _ _ _ _ _ _ _ _ z => z.elim⟩
  | n + 1 => by
    have G := ok_law_same T n
    refine T.F_law_same.ok scSm (fun vs H Q E h => ?_) (fun cdv A outer s H vs Q E hr h => ?_)
    · obtain ⟨v1, v2, d, rfl, _⟩ := h
      rfl
    · obtain ⟨v1, v2, d, rfl, h1, h2, hp, k⟩ := h
      refine ⟨_, PSs.nox (pss_cons (ps_if (pt_val (pe_callB (r := rIsi K) call_isi (by rfl) T.n_isinstance PyProof.Rows.Boot.«isinstance» (pa_cons (pv 1) (pa_cons (pe_bltn (v := .ty "tuple") (by rfl) T.n_tuple PyProof.Rows.Boot.«tuple» rfl) pa_nil)))) (pss_cons (ps_if (PW.pt (pw_or (pt_not (pt_val (pe_callB (r := rIsi K) call_isi (by rfl) T.n_isinstance PyProof.Rows.Boot.«isinstance» (pa_cons (pv 0) (pa_cons (pe_bltn (v := .ty "tuple") (by rfl) T.n_tuple PyProof.Rows.Boot.«tuple» rfl) pa_nil))))) (pw_or1 (pt_cmpR op_ne (pe_callB (r := Evl.rLenS K) call_len_seq (by rfl) T.n_len PyProof.Rows.Boot.«len» (pa_cons (pv 0) pa_nil)) (pe_callB (r := Evl.rLenS K) call_len_seq (by rfl) T.n_len PyProof.Rows.Boot.«len» (pa_cons (pv 1) pa_nil)) (nomark _))))) (pss_one (ps_ret pe_bl)) pss_nil)
      (pss_one (ps_ret (pe_callB (cr_all rfl) (by rfl) T.n_all PyProof.Rows.Boot.«all» (pa_cons (pe_lc (own := [("k", 2)]) (g := gName 2) (tt := tYes) (by rfl) scSm.nd (pi_range1 (by rfl) T.n_range (pa_cons (pe_callB (r := Evl.rLenS K) call_len_seq (by rfl) T.n_len PyProof.Rows.Boot.«len» (pa_cons (pv 1) pa_nil)) pa_nil)) (blkOk_by (own := [("k", 2)]) (N := ["found", "due", "k"]) (sc := defScope s_law_same) (by decide +kernel)) (fun _ _ _ _ _ => pg_name (i := 2) scSm.nd rfl (Or.inl rfl)) (fun _ _ _ _ _ => pts_nil) (fun _ _ _ _ _ => (pe_call G (hr.mono (by omega)) (by rfl) T.g_law_same (T.F_law_same).kp T.b_law_same .nil pass0 (pa_cons (pe_ix (r := rIxT K) ix_tup (pv 0) (pv 2) (fun _ _ => rfl)) (pa_cons (pe_ix (r := rIxT K) ix_tup (pv 1) (pv 2) (fun _ _ => rfl)) pa_nil))))) pa_nil))))) pss_nil)
      (pss_one (ps_ret (pe_and (pe_cmpR op_eq (pv 0) (pv 1) (nomark _)) (pe_one (pe_cmpR op_eq (pe_callB (r := rIsi K) call_isi (by rfl) T.n_isinstance PyProof.Rows.Boot.«isinstance» (pa_cons (pv 0) (pa_cons (pe_bltn (v := .ty "bool") (by rfl) T.n_bool PyProof.Rows.Boot.«bool» rfl) pa_nil))) (pe_callB (r := rIsi K) call_isi (by rfl) T.n_isinstance PyProof.Rows.Boot.«isinstance» (pa_cons (pv 1) (pa_cons (pe_bltn (v := .ty "bool") (by rfl) T.n_bool PyProof.Rows.Boot.«bool» rfl) pa_nil))) (nomark _))))))), ?_⟩
      cases d with
      | none => cases n <;> exact hp.elim
      | bool c => cases n <;> exact hp.elim
      | str x => cases n <;> exact hp.elim
      | int i =>
        cases h1
        cases h2
        refine ⟨_, rfl, _, _, _, _, _, rfl, .ty "tuple", .base (.int i), kit_ty (r := false) (by decide +kernel), _, rfl, iteF ?_⟩
        refine ⟨_, rfl, _, rfl, rfl, ?_⟩
        rw [decide_eq_true (rfl : V.int i = V.int i)]
        refine ⟨_, rfl, iteT ?_⟩
        refine ⟨_, rfl, _, _, _, _, _, rfl, .ty "bool", .base (.int i), kit_ty (r := false) (by decide +kernel), _, rfl, _, _, _, _, _, rfl, .ty "bool", .base (.int i), kit_ty (r := false) (by decide +kernel), rfl, ?_⟩
        exact k _ (Same.refl _)
      | list ds => cases n <;> exact hp.elim
      | dict ds => cases n <;> exact hp.elim
      | tuple ds =>
        cases n with
        | zero => exact hp.elim
        | succ m =>
          cases h1 with
          | @tup p xs _ q1 a1 =>
            cases h2 with
            | @tup q ys _ q2 a2 =>
              have l1 := dpa_len a1
              have l2 := dpa_len a2
              have hlen : ds.length ≤ 1100 := hp.1
              refine ⟨_, rfl, _, _, _, _, _, rfl, .ty "tuple", ty_tup q2, kit_ty (r := true) (by decide +kernel), _, rfl, iteT ?_⟩
              refine ⟨_, rfl, _, _, _, _, _, rfl, .ty "tuple", ty_tup q1, kit_ty (r := true) (by decide +kernel), ?_⟩
              refine ⟨_, rfl, ?_⟩
              refine iteF (A := _) ?_
              refine ⟨_, rfl, _, _, rfl, .inr q1, _, rfl, _, _, rfl, .inr q2, rfl, _, rfl, ?_⟩
              rw [l1, l2, decide_eq_true (rfl : V.int (ds.length : Int) = V.int (ds.length : Int))]
              refine iteF ?_
              refine ⟨_, rfl, q, ys, rfl, .inr q2, (ys.length : Int), rfl, by omega, by omega, fun D hD => ?_⟩
              have hN : ((ys.length : Int)).toNat = ds.length := by omega
              rw [hN]
              refine lc_range (lo := 0) (n := ds.length) (fun i H' => Same H H' ∧ H' D = some (.lst ((List.replicate i true).map V.bl))) ⟨new_same hD, upd_same⟩ (fun i H' hi hPv => ?_) (fun H' hPv => ?_)
              · obtain ⟨s1, hl⟩ := hPv
                have he : ds[i]? = some ds[i] := List.getElem?_eq_getElem hi
                obtain ⟨v1, e1, d1⟩ := dpa_get a1 he
                obtain ⟨v2, e2, d2⟩ := dpa_get a2 he
                have tf := same_tf s1
                have hr2 : AlOk m ds[i] := hp.2.2 _ (List.getElem_mem hi)
                have nl2 : NL ds[i] := nl_get' hp.2.1 hi
                refine ⟨rfl, ?_⟩
                dsimp only [tYes]
                rw [if_pos rfl]
                refine ⟨_, rfl, _, rfl, p, xs, _, v1, rfl, rfl, tf.sq q1, at_of (j := i) (by omega) e1, _, rfl, _, rfl, q, ys, _, v2, rfl, rfl, tf.sq q2, at_of (j := i) (by omega) e2, ?_⟩
                refine ⟨v1, v2, ds[i], rfl, dp_nl tf _ _ nl2 d1, dp_nl tf _ _ nl2 d2, hr2, fun H2 s2 => ?_⟩
                refine ⟨_, s2 _ _ hl, by rw [List.length_map, List.length_replicate]; exact Nat.lt_of_lt_of_le (show i < 1101 by omega) (by decide), fun b o z => ?_, ?_⟩
                · have hbD : b ≠ D := ne_of_none z hD
                  rw [upd_ne hbD]
                  exact s2 _ _ (s1 _ _ z)
                · rw [upd_same, List.replicate_succ', List.map_append]
                  rfl
              · refine ⟨D, _, rfl, SqL.of hPv.2, ?_⟩
                rw [show ∀ n, (List.replicate n true).all id = true by intro n; simp]
                exact k _ hPv.1
end
end K43
set_option maxRecDepth 100000
set_option maxHeartbeats 4000000
/-! The program's costs. -/
namespace K43
open PySem PySem.Spec PyProof.Rows L2 KF KD KG
/-! ### what a comprehension gathers -/
def Acc (H0 : Hp) (D : Addr) (l : List V) (H : Hp) : Prop := Same H0 H ∧ H D = some (.lst l)
def fl {α : Type} (p : List α) (q : α → Bool) (f : α → V) (i : Nat) : List V := ((p.take i).filter q).map f
theorem fl_len {α : Type} (p : List α) (q : α → Bool) (f : α → V) (i : Nat) : (fl p q f i).length ≤ p.length := by
  unfold fl
  rw [List.length_map]
  exact Nat.le_trans (List.length_filter_le _ _) (by rw [List.length_take]; omega)
theorem fl_yes {α : Type} {p : List α} {q : α → Bool} {f : α → V} {i : Nat} {x : α} (hx : p[i]? = some x) (hq : q x = true) : fl p q f (i + 1) = fl p q f i ++ [f x] := by
  unfold fl
  rw [List.take_add_one, hx, List.filter_append, List.map_append]
  simp [hq]
theorem fl_no {α : Type} {p : List α} {q : α → Bool} {f : α → V} {i : Nat} {x : α} (hx : p[i]? = some x) (hq : q x = false) : fl p q f (i + 1) = fl p q f i := by
  unfold fl
  rw [List.take_add_one, hx, List.filter_append, List.map_append]
  simp [hq]
theorem fl_all {α : Type} (p : List α) (q : α → Bool) (f : α → V) : fl p q f p.length = (p.filter q).map f := by
  unfold fl
  rw [List.take_length]
theorem fl_every {α : Type} (p : List α) (f : α → V) : fl p (fun _ => true) f p.length = p.map f := by
  rw [fl_all, List.filter_eq_self.mpr (fun _ _ => rfl)]
theorem fl_rng (n : Nat) (f : Nat → V) : fl (List.range n) (fun _ => true) f n = (List.range n).map f := by
  have h := fl_every (List.range n) f
  rwa [List.length_range] at h
theorem fl_rngq (n : Nat) (q : Nat → Bool) (f : Nat → V) : fl (List.range n) q f n = ((List.range n).filter q).map f := by
  have h := fl_all (List.range n) q f
  rwa [List.length_range] at h
theorem acc_yes {α : Type} {p : List α} {q : α → Bool} {f : α → V} {i : Nat} {x : α} {H0 H H4 : Hp} {D : Addr} (hD : H0 D = none) (h : Acc H0 D (fl p q f i) H) (s : Same H H4) (hx : p[i]? = some x) (hq : q x = true) (hp : p.length ≤ 1000) :
    ∃ acc, H4 D = some (.lst acc) ∧ acc.length < sizeLine ∧ Acc H0 D (fl p q f (i + 1)) (upd H4 D (.lst (acc ++ [f x]))) := by
  refine ⟨_, s _ _ h.2, Nat.lt_of_le_of_lt (fl_len _ _ _ _) (Nat.lt_of_le_of_lt hp (by decide)), fun b o z => ?_, ?_⟩
  · rw [upd_ne (ne_of_none z hD)]
    exact s _ _ (h.1 _ _ z)
  · rw [upd_same, fl_yes hx hq]
theorem acc_no {α : Type} {p : List α} {q : α → Bool} {f : α → V} {i : Nat} {x : α} {H0 H H4 : Hp} {D : Addr} (h : Acc H0 D (fl p q f i) H) (s : Same H H4) (hx : p[i]? = some x) (hq : q x = false) : Acc H0 D (fl p q f (i + 1)) H4 := by
  rw [Acc, fl_no hx hq]
  exact ⟨h.1.trans s, s _ _ h.2⟩
theorem acc_0 {α : Type} {p : List α} {q : α → Bool} {f : α → V} {H0 : Hp} {D : Addr} (hD : H0 D = none) : Acc H0 D (fl p q f 0) (upd H0 D (.lst [])) := ⟨new_same hD, upd_same⟩
theorem rng_at {n i : Nat} (h : i < n) : (List.range n)[i]? = some i := by simp [h]
theorem nV_len (p : List Nat) : (nV p).length = p.length := List.length_map _
theorem nV_at {p : List Nat} {i n : Nat} (h : p[i]? = some n) : (nV p)[i]? = some (.int (n : Int)) := by
  unfold nV
  rw [List.getElem?_map, h]
  rfl
theorem mulc {i j : Int} (h0 : 0 ≤ i) (h1 : i < 1099511627776) (h2 : 0 ≤ j) (h3 : j < 1099511627776) : CMulW i j :=
  wide_mul (a := 40) (b := 40) (small_ab h0 (by rw [pow40]; exact h1)) (small_ab h2 (by rw [pow40]; exact h3)) (by decide) (by decide) (by decide)
theorem cut1V {xs : List V} : cutV xs (some 1) none = xs.drop 1 := by
  unfold cutV
  rw [show (1 : Int) = ((1 : Nat) : Int) from rfl, HT.sIx_nat, HT.sIx_none]
  cases xs with
  | nil => rfl
  | cons n ns =>
    rw [show min 1 (n :: ns).length = 1 by simp]
    exact List.take_of_length_le (by simp)
theorem walk_zipT {K : PySem.W.Frag} {a b : Addr} {xs ys : List V} {n : Nat} (hn : n = min xs.length ys.length) : Walk (RZ.ItzT K a b) n (fun H => SqT K H a xs ∧ SqT K H b ys) (YPair (fun i => xs[i]?) (fun i => ys[i]?)) := by
  subst hn
  refine ⟨fun i _ hi q => ?_, fun _ q => ⟨xs, ys, q.1, q.2, by omega⟩, fun i H v H' _ q y => ?_⟩
  · have h1 : i < xs.length := by omega
    have h2 : i < ys.length := by omega
    exact ⟨xs, ys, xs[i], ys[i], q.1, q.2, by simp [h1], by simp [h2]⟩
  · obtain ⟨T, x, z, h1, h2, h3, h4, h5⟩ := y
    exact ⟨T, x, z, h1, h2, h3, h4 xs q.1, h5 ys q.2⟩
theorem UpL.at : ∀ {b : Nat} {q : List Nat} {i x y : Nat}, UpL b q → (b :: q)[i]? = some x → (b :: q)[i + 1]? = some y → x < y
  | b, [], i, x, y, _, _, h2 => by simp at h2
  | b, k :: q, 0, x, y, h, h1, h2 => by
    simp at h1 h2
    have := h.1
    omega
  | b, k :: q, i + 1, x, y, h, h1, h2 => UpL.at (i := i) h.2 (by simpa using h1) (by simpa using h2)
section
variable {P : Program} {w : World} {K : PySem.W.Frag} {mg : Str → Option Value} {base : Heap}
def spAsc (K : PySem.W.Frag) : Sp := fun vs H Q _ => ∃ (a : Addr) (q : List Nat), vs = [.ref a] ∧ SqT K H a (nV (0 :: q)) ∧ UpL 0 q ∧ q.length ≤ 900 ∧ ∀ H', Same H H' → Q (.bl true) H'
theorem scAs : FnScope ["row", "one", "other"] ["row"] (defScope s_ascends) := ⟨rfl, rfl, rfl, by decide +kernel, rfl, by decide +kernel, by decide +kernel⟩
theorem ok_ascends (T : Txt K w mg) : FnOk P w K mg base CX0 1 (He.fAd K ("ascends", none)) (fdAt K (He.fAd K ("ascends", none))) ["row"] (spAsc K) := by
  refine T.F_ascends.ok scAs (fun vs H Q E h => ?_) (fun cdv A outer s H vs Q E hr h => ?_)
  · obtain ⟨a, ns, rfl, _⟩ := h
    rfl
  · obtain ⟨a, q, rfl, hs, hp, hl, k⟩ := h
    refine ⟨_, PSs.nox (pss_one (ps_ret (pe_callB (cr_all rfl) (by rfl) T.n_all PyProof.Rows.Boot.«all» (pa_cons (pe_lc (own := [("one", 1), ("other", 2)]) (g := gTup K 2 (gCons (gName 1) (gCons (gName 2) gNil))) (tt := tYes) (by rfl) scAs.nd (RZ.pi_zipA (by rfl) T.n_zip (pa_cons (pv 0) (pa_cons (pe_slice sl_tup (pv 0) (po_some pe_int) po_none) pa_nil))) (blkOk_by (own := [("one", 1), ("other", 2)]) (N := ["row", "one", "other"]) (sc := defScope s_ascends) (by decide +kernel)) (fun _ _ _ _ _ => (pg_tup (by rfl) (pgs_cons (pg_name (i := 1) scAs.nd rfl (Or.inl rfl)) (pgs_cons (pg_name (i := 2) scAs.nd rfl (Or.inl rfl)) pgs_nil)))) (fun _ _ _ _ _ => pts_nil) (fun _ _ _ _ _ => (pe_cmpR op_lt (pv 1) (pv 2) (nomark _)))) pa_nil)))), ?_⟩
    have hz : ¬ (HT.sIx (nV (0 :: q)).length 0 (some 1) = 0 ∧ HT.sIx (nV (0 :: q)).length (nV (0 :: q)).length none = (nV (0 :: q)).length) := by
      rw [show (1 : Int) = ((1 : Nat) : Int) from rfl, HT.sIx_nat, nV_len]
      simp
    refine ⟨_, rfl, _, rfl, _, rfl, a, _, rfl, hs, hz, fun p np => ?_⟩
    rw [cut1V]
    have s1 := new_same (o := .tup ((nV (0 :: q)).drop 1)) np
    have hq1 : SqT K (upd H p (.tup ((nV (0 :: q)).drop 1))) p ((nV (0 :: q)).drop 1) := SqT.of upd_same
    refine ⟨a, p, _, _, rfl, .inr ⟨(same_tf s1).sq hs, hq1, fun D hD => ?_⟩⟩
    refine lc_it (walk_zipT (K := K) (a := a) (b := p) (xs := nV (0 :: q)) (ys := (nV (0 :: q)).drop 1) rfl) (fun i H' => Acc (upd H p (.tup ((nV (0 :: q)).drop 1))) D (fl (List.range q.length) (fun _ => true) (fun _ => .bl true) i) H') (acc_0 hD) (fun i H' _ h => ⟨(same_tf h.1).sq ((same_tf s1).sq hs), (same_tf h.1).sq hq1⟩) (fun i v H' H2 hi h y => ?_) (fun H' h => ?_)
    · obtain ⟨t, x, y, rfl, nt, rfl, hx, hy⟩ := y
      rw [List.length_drop, nV_len, List.length_cons] at hi
      have i1 : i < (0 :: q).length := by simp only [List.length_cons]; omega
      have i2 : i + 1 < (0 :: q).length := by simp only [List.length_cons]; omega
      replace hx : (nV (0 :: q))[i]? = some x := hx
      replace hy : ((nV (0 :: q)).drop 1)[i]? = some y := hy
      have hx0 : (0 :: q)[i]? = some (0 :: q)[i] := List.getElem?_eq_getElem i1
      have hy0 : (0 :: q)[i + 1]? = some (0 :: q)[i + 1] := List.getElem?_eq_getElem i2
      rw [nV_at hx0] at hx
      rw [List.getElem?_drop, Nat.add_comm 1 i, nV_at hy0] at hy
      cases hx
      cases hy
      have lt := UpL.at hp hx0 hy0
      have lt' : ((0 :: q)[i] : Int) < ((0 :: q)[i + 1] : Int) := by exact_mod_cast lt
      refine ⟨t, _, rfl, SqT.of upd_same, rfl, _, _, rfl, _, _, rfl, rfl, ?_⟩
      refine ⟨rfl, ?_⟩
      dsimp only [tYes]
      rw [if_pos rfl]
      refine ⟨_, rfl, _, rfl, _, _, rfl, rfl, ?_⟩
      dsimp only
      rw [decide_eq_true lt']
      exact acc_yes (x := i) hD h (new_same nt) (rng_at (by omega)) rfl (by rw [List.length_range]; omega)
    · refine ⟨D, List.replicate q.length true, rfl, SqL.of ?_, ?_⟩
      · have e : min (nV (0 :: q)).length ((nV (0 :: q)).drop 1).length = (List.range q.length).length := by
          rw [List.length_drop, nV_len, List.length_cons, List.length_range]
          omega
        have h2 := h.2
        rw [e, fl_every] at h2
        rw [h2]
        congr 2
        rw [List.map_const', List.length_range, List.map_replicate]
      rw [show ∀ n, (List.replicate n true).all id = true by intro n; simp]
      exact k H' (s1.trans h.1)
def PlH (K : PySem.W.Frag) (H : Hp) (a : Addr) (q : List Nat) : Prop := SqT K H a (nV (0 :: q)) ∧ UpL 0 q ∧ q.length ≤ 900
theorem PlH.tf {H H' : Hp} {a : Addr} {q : List Nat} (s : TF H H') (h : PlH K H a q) : PlH K H' a q := ⟨s.sq h.1, h.2⟩
def spNp (K : PySem.W.Frag) : Sp := fun vs H Q _ => ∃ (a : Addr) (q : List Nat), vs = [.ref a] ∧ PlH K H a q ∧ ∀ H', Same H H' → Q .non H'
theorem scNp : FnScope ["plan"] ["plan"] (defScope s_need_plan) := ⟨rfl, rfl, rfl, by decide +kernel, rfl, by decide +kernel, by decide +kernel⟩
theorem dpa_nV {H : Hp} : ∀ p : List Nat, DpAll K H (nV p) (nI p)
  | [] => .nil
  | x :: p => .cons (.int _) (dpa_nV p)
theorem nl_nI : ∀ p : List Nat, NLs (nI p)
  | [] => trivial
  | x :: p => ⟨trivial, nl_nI p⟩
theorem can_nI : ∀ p : List Nat, PyData.canLayAll0 (nI p) = true
  | [] => by simp [nI, PyData.canLayAll0]
  | x :: p => by
    have := can_nI p
    simp only [nI, List.map_cons] at this ⊢
    rw [PyData.canLayAll0, this]
    simp [PyData.canLay0]
end
end K43
set_option maxRecDepth 100000
set_option maxHeartbeats 4000000
/-! The program's costs. -/
namespace K43
open PySem PySem.Spec PyProof.Rows L2 KF KD KG
theorem shaped_nI (p : List Nat) : SeqAt.shaped (.tuple (nI p)) = true := by
  unfold SeqAt.shaped
  have h1 := can_nI p
  have h2 := depth_nI p
  rw [Bool.and_eq_true]
  constructor
  · rw [PyData.canLay0]
    exact h1
  · rw [PyData.depth]
    exact decide_eq_true (by omega)
def WtH (K : PySem.W.Frag) (H : Hp) (a : Addr) (ws : List Int) : Prop := SqT K H a (ws.map V.int) ∧ 0 < ws.length ∧ ws.length ≤ 60 ∧ ∀ w ∈ ws, 0 ≤ w ∧ w ≤ 1000000000
theorem WtH.tf {H H' : Hp} {K : PySem.W.Frag} {a : Addr} {ws : List Int} (s : TF H H') (h : WtH K H a ws) : WtH K H' a ws := ⟨s.sq h.1, h.2⟩
theorem wt_at {ws : List Int} {i : Nat} (h : i < ws.length) : (ws.map V.int)[i]? = some (.int (wk ws i)) ∧ wk ws i ∈ ws := by
  have e : ws[i]? = some ws[i] := List.getElem?_eq_getElem h
  have e2 : wk ws i = ws[i] := by
    unfold wk
    rw [List.getD_eq_getElem?_getD, e]
    rfl
  rw [List.getElem?_map, e, e2]
  exact ⟨rfl, List.getElem_mem h⟩
section
variable {P : Program} {w : World} {K : PySem.W.Frag} {mg : Str → Option Value} {base : Heap}
theorem ok_need_plan (T : Txt K w mg) : FnOk P w K mg base CX0 2 (He.fAd K ("_need_plan", none)) (fdAt K (He.fAd K ("_need_plan", none))) ["plan"] (spNp K) := by
  refine T.F_need_plan.ok scNp (fun vs H Q E h => ?_) (fun cdv A outer s H vs Q E hr h => ?_)
  · obtain ⟨a, ns, rfl, _⟩ := h
    rfl
  · obtain ⟨a, q, rfl, hs, k⟩ := h
    refine ⟨_, PSs.nox (pss_one (ps_if (PW.pt (pw_or (pt_cmpR (op_eqD hr.units) (pv 0) (pe_tup pa_nil) (nomark _)) (pw_or (pt_cmpR op_ne (pe_ix (r := rIxT K) ix_tup (pv 0) pe_int (fun _ _ => rfl)) pe_int (nomark _)) (pw_or1 (pt_not (pt_val (pe_call (ok_ascends T) (hr.mono (by decide)) (by rfl) T.g_ascends (T.F_ascends).kp T.b_ascends .nil pass0 (pa_cons (pv 0) pa_nil)))))))) (pss_one ps_never) pss_nil)), ?_⟩
    refine ⟨_, rfl, (show 0 ≤ sizeLine by decide), fun p np => ?_⟩
    have s1 := new_same (o := .tup []) np
    have hs1 := hs.tf (same_tf s1)
    refine ⟨_, _, .tup hs1.1 (dpa_nV _), .tup (SqT.of upd_same) .nil, shaped_nI _, by decide, ?_⟩
    have e : PyData.eqv (.tuple (nI (0 :: q))) (.tuple []) = false := by
      rw [PyData.eqv]
      exact eqv_nI (0 :: q) []
    rw [e]
    refine ⟨_, rfl, iteF ?_⟩
    refine ⟨_, rfl, a, _, _, _, rfl, rfl, hs1.1, atI_nat (j := 0) rfl, rfl, _, rfl, iteNS rfl ?_⟩
    exact ⟨_, rfl, a, q, rfl, hs1.1, hs1.2.1, hs1.2.2, fun H' s2 => ⟨_, rfl, k _ (s1.trans s2)⟩⟩
def spNr : Sp := fun vs H Q _ => ∃ n : Int, vs = [.int n] ∧ 1 ≤ n ∧ Q .non H
theorem scNr : FnScope ["room"] ["room"] (defScope s_need_room) := ⟨rfl, rfl, rfl, by decide +kernel, rfl, by decide +kernel, by decide +kernel⟩
theorem ok_need_room (T : Txt K w mg) : FnOk P w K mg base CX0 1 (He.fAd K ("_need_room", none)) (fdAt K (He.fAd K ("_need_room", none))) ["room"] spNr := by
  refine T.F_need_room.ok scNr (fun vs H Q E h => ?_) (fun cdv A outer s H vs Q E hr h => ?_)
  · obtain ⟨n, rfl, _⟩ := h
    rfl
  · obtain ⟨n, rfl, h, q⟩ := h
    refine ⟨_, PSs.nox (pss_one (ps_if (pt_cmpR op_lt (pv 0) pe_int (nomark _)) (pss_one ps_never) pss_nil)), ?_⟩
    exact ⟨_, rfl, _, _, rfl, rfl, _, rfl, ite2 (fun z => absurd (of_decide_eq_true z) (by omega)) (fun _ => q)⟩
def spNw (K : PySem.W.Frag) : Sp := fun vs H Q _ => ∃ (a : Addr) (ws : List Int), vs = [.ref a] ∧ WtH K H a ws ∧ ∀ H', Same H H' → Q .non H'
theorem scNw : FnScope ["weights", "weight"] ["weights"] (defScope s_need_weights) := ⟨rfl, rfl, rfl, by decide +kernel, rfl, by decide +kernel, by decide +kernel⟩
theorem ok_need_weights (T : Txt K w mg) : FnOk P w K mg base CX0 1 (He.fAd K ("_need_weights", none)) (fdAt K (He.fAd K ("_need_weights", none))) ["weights"] (spNw K) := by
  refine T.F_need_weights.ok scNw (fun vs H Q E h => ?_) (fun cdv A outer s H vs Q E hr h => ?_)
  · obtain ⟨a, ws, rfl, _⟩ := h
    rfl
  · obtain ⟨a, ws, rfl, hw, q⟩ := h
    refine ⟨_, PSs.nox (pss_one (ps_for PassesOwn.never rfl (pi_tup (pv 0)) (pg_name (i := 1) scNw.nd rfl (Or.inl rfl)) (pss_one (ps_if (pt_cmpR op_lt (pv 1) pe_int (nomark _)) (pss_one ps_never) pss_nil)))), ?_⟩
    refine ⟨_, rfl, a, rfl, ⟨_, hw.1⟩, ?_⟩
    refine for_it (walk_tup (K := K) (a := a) (xs := ws.map V.int)) (fun i σ H' => (∃ v1, σ = [some (.ref a), v1]) ∧ Same H H') ⟨⟨_, rfl⟩, Same.refl _⟩ (fun i σ H' _ h => (same_tf h.2).sq hw.1) (fun i x σ H' H2 hi h y => ?_) (fun σ H' h => q H' h.2)
    obtain ⟨⟨v1, rfl⟩, sm⟩ := h
    obtain ⟨rfl, hx⟩ := y
    rw [List.length_map] at hi
    obtain ⟨e1, e2⟩ := wt_at hi
    rw [e1] at hx
    cases hx
    have h0 := (hw.2.2.2 _ e2).1
    exact ⟨_, rfl, _, _, rfl, rfl, _, rfl, ite2 (fun z => absurd (of_decide_eq_true z) (by omega)) (fun _ => ⟨⟨_, rfl⟩, sm⟩)⟩
def spNewest (K : PySem.W.Frag) : Sp := fun vs H Q _ => ∃ (a : Addr) (q : List Nat) (t : Nat), vs = [.ref a, .int (t : Int)] ∧ PlH K H a q ∧
  ∀ (j : Nat) H', Same H H' → (0 :: q)[j]? = some (nw t 0 q) → Q (.int (j : Int)) H'
theorem scNe : FnScope ["plan", "tick", "number"] ["plan", "tick"] (defScope s_newest) := ⟨rfl, rfl, rfl, by decide +kernel, rfl, by decide +kernel, by decide +kernel⟩
theorem ok_newest (T : Txt K w mg) : FnOk P w K mg base CX0 1 (He.fAd K ("_newest", none)) (fdAt K (He.fAd K ("_newest", none))) ["plan", "tick"] (spNewest K) := by
  refine T.F_newest.ok scNe (fun vs H Q E h => ?_) (fun cdv A outer s H vs Q E hr h => ?_)
  · obtain ⟨a, q, t, rfl, _⟩ := h
    rfl
  · obtain ⟨a, q, t, rfl, hs, k⟩ := h
    refine ⟨_, PSs.nox (pss_one (ps_ret (pe_op op_sub (pe_callB (r := Evl.rLenS K) call_len_seq (by rfl) T.n_len PyProof.Rows.Boot.«len» (pa_cons (pe_lc (own := [("number", 2)]) (g := gName 2) (by rfl) scNe.nd (pi_tup (pv 0)) (blkOk_by (own := [("number", 2)]) (N := ["plan", "tick", "number"]) (sc := defScope s_newest) (by decide +kernel)) (fun _ _ _ _ _ => pg_name (i := 2) scNe.nd rfl (Or.inl rfl)) (fun _ _ _ _ _ => pts_one (pt_cmpR op_le (pv 2) (pv 1) (nomark _))) (fun _ _ _ _ _ => (pv 2))) pa_nil)) pe_int))), ?_⟩
    refine ⟨_, rfl, a, rfl, ⟨_, hs.1⟩, fun D hD => ?_⟩
    have hlen : (0 :: q).length ≤ 1000 := by
      have := hs.2.2
      simp only [List.length_cons]
      omega
    refine lc_tup (xs := nV (0 :: q)) (fun i H' => Acc H D (fl (0 :: q) (fun n => decide (n ≤ t)) (fun n => .int (n : Int)) i) H') (acc_0 hD) (fun i H' _ h => (same_tf h.1).sq hs.1) (fun i x H' hx h => ?_) (fun H' h => ?_)
    · have hi : i < (0 :: q).length := by
        have := (List.getElem?_eq_some_iff.mp hx).1
        rwa [nV_len] at this
      have hx0 : (0 :: q)[i]? = some (0 :: q)[i] := List.getElem?_eq_getElem hi
      rw [nV_at hx0] at hx
      cases hx
      refine ⟨rfl, ?_⟩
      refine ⟨_, rfl, _, rfl, _, _, rfl, rfl, _, rfl, ite2 (fun z => ?_) (fun z => ?_)⟩
      · have z := of_decide_eq_true z
        exact ⟨_, rfl, acc_yes hD h (Same.refl _) hx0 (decide_eq_true (by exact_mod_cast z)) hlen⟩
      · exact acc_no h (Same.refl _) hx0 (decide_eq_false fun y => z (decide_eq_true (by exact_mod_cast y)))
    · have h2 := h.2
      rw [nV_len, fl_all] at h2
      refine ⟨_, _, rfl, .inl (SqL.of h2), _, _, rfl, rfl, ?_⟩
      obtain ⟨c1, c2⟩ := nw_count (t := t) (q := q) hs.2.1 (Nat.zero_le t)
      rw [List.length_map]
      have e : (((List.filter (fun n => decide (n ≤ t)) (0 :: q)).length : Nat) : Int) - 1 = (((List.filter (fun n => decide (n ≤ t)) (0 :: q)).length - 1 : Nat) : Int) := by omega
      show Q (V.int ((((List.filter (fun n => decide (n ≤ t)) (0 :: q)).length : Nat) : Int) - 1)) H'
      rw [e]
      exact k _ H' h.1 c2
def spCost (K : PySem.W.Frag) : Sp := fun vs H Q _ => ∃ (a : Addr) (q : List Nat) (t : Nat), vs = [.ref a, .int (t : Int)] ∧ PlH K H a q ∧ ∀ H', Same H H' → Q (.int ((t : Int) - (nw t 0 q : Nat))) H'
theorem scCo : FnScope ["plan", "tick"] ["plan", "tick"] (defScope s_cost) := ⟨rfl, rfl, rfl, by decide +kernel, rfl, by decide +kernel, by decide +kernel⟩
theorem ok_cost (T : Txt K w mg) : FnOk P w K mg base CX0 4 (He.fAd K ("cost", none)) (fdAt K (He.fAd K ("cost", none))) ["plan", "tick"] (spCost K) := by
  refine T.F_cost.ok scCo (fun vs H Q E h => ?_) (fun cdv A outer s H vs Q E hr h => ?_)
  · obtain ⟨a, q, t, rfl, _⟩ := h
    rfl
  · obtain ⟨a, q, t, rfl, hs, k⟩ := h
    refine ⟨_, PSs.nox (pss_cons (ps_expr (pe_call (ok_need_plan T) (hr.mono (by decide)) (by rfl) T.g_need_plan (T.F_need_plan).kp T.b_need_plan .nil pass0 (pa_cons (pv 0) pa_nil)))
      (pss_cons (ps_if (pt_cmpR op_lt (pv 1) pe_int (nomark _)) (pss_one ps_never) pss_nil)
      (pss_one (ps_ret (pe_op op_sub (pv 1) (pe_ix (r := rIxT K) ix_tup (pv 0) (pe_call (ok_newest T) (hr.mono (by decide)) (by rfl) T.g_newest (T.F_newest).kp T.b_newest .nil pass0 (pa_cons (pv 0) (pa_cons (pv 1) pa_nil))) (fun _ _ => rfl))))))), ?_⟩
    refine ⟨_, rfl, a, q, rfl, hs, fun H1 s1 => ?_⟩
    refine ⟨_, rfl, _, _, rfl, rfl, _, rfl, ite2 (fun z => absurd (of_decide_eq_true z) (by omega)) (fun _ => ?_)⟩
    have h1 := hs.tf (same_tf s1)
    refine ⟨_, rfl, _, rfl, _, rfl, _, rfl, a, q, t, rfl, h1, fun j H2 s2 hj => ?_⟩
    exact ⟨a, _, _, _, rfl, rfl, (h1.tf (same_tf s2)).1, atI_nat (nV_at hj), _, _, rfl, rfl, k H2 (s1.trans s2)⟩
def tsm (ws : List Int) (q : List Nat) : Int := tsum ws 0 q 0 ws.length
theorem sum_tsum (ws : List Int) (q : List Nat) : ∀ n, ((List.range n).map fun t => wk ws t * ((t : Int) - (nw t 0 q : Nat))).sum = tsum ws 0 q 0 n
  | 0 => rfl
  | n + 1 => by
    rw [List.range_succ, List.map_append, List.sum_append, sum_tsum ws q n, tsum, Nat.zero_add]
    simp
def spTotal (K : PySem.W.Frag) : Sp := fun vs H Q _ => ∃ (a b : Addr) (q : List Nat) (ws : List Int), vs = [.ref a, .ref b] ∧ PlH K H a q ∧ WtH K H b ws ∧ ∀ H', Same H H' → Q (.int (tsm ws q)) H'
theorem scTo : FnScope ["plan", "weights", "tick", "weight"] ["plan", "weights"] (defScope s_total) := ⟨rfl, rfl, rfl, by decide +kernel, rfl, by decide +kernel, by decide +kernel⟩
theorem ok_total (T : Txt K w mg) : FnOk P w K mg base CX0 4 (He.fAd K ("total", none)) (fdAt K (He.fAd K ("total", none))) ["plan", "weights"] (spTotal K) := by
  refine T.F_total.ok scTo (fun vs H Q E h => ?_) (fun cdv A outer s H vs Q E hr h => ?_)
  · obtain ⟨a, b, q, ws, rfl, _⟩ := h
    rfl
  · obtain ⟨a, b, q, ws, rfl, hs, hw, k⟩ := h
    refine ⟨_, PSs.nox (pss_cons (ps_expr (pe_call (ok_need_plan T) (hr.mono (by decide)) (by rfl) T.g_need_plan (T.F_need_plan).kp T.b_need_plan .nil pass0 (pa_cons (pv 0) pa_nil)))
      (pss_cons (ps_expr (pe_call (ok_need_weights T) (hr.mono (by decide)) (by rfl) T.g_need_weights (T.F_need_weights).kp T.b_need_weights .nil pass0 (pa_cons (pv 1) pa_nil)))
      (pss_one (ps_ret (pe_callB (cr_sum rfl) (by rfl) T.n_sum PyProof.Rows.Boot.«sum» (pa_cons (pe_lc (own := [("tick", 2), ("weight", 3)]) (g := gTup K 2 (gCons (gName 2) (gCons (gName 3) gNil))) (tt := tYes) (by rfl) scTo.nd (pi_enT (by rfl) T.n_enumerate (pa_cons (pv 1) pa_nil)) (blkOk_by (own := [("tick", 2), ("weight", 3)]) (N := ["plan", "weights", "tick", "weight"]) (sc := defScope s_total) (by decide +kernel)) (fun _ _ _ _ _ => (pg_tup (by rfl) (pgs_cons (pg_name (i := 2) scTo.nd rfl (Or.inl rfl)) (pgs_cons (pg_name (i := 3) scTo.nd rfl (Or.inl rfl)) pgs_nil)))) (fun _ _ _ _ _ => pts_nil) (fun _ _ _ _ _ => (pe_op op_mulW (pv 3) (pe_op op_sub (pv 2) (pe_ix (r := rIxT K) ix_tup (pv 0) (pe_call (ok_newest T) (hr.mono (by decide)) (by rfl) T.g_newest (T.F_newest).kp T.b_newest .nil pass0 (pa_cons (pv 0) (pa_cons (pv 2) pa_nil))) (fun _ _ => rfl)))))) pa_nil)))))), ?_⟩
    refine ⟨_, rfl, a, q, rfl, hs, fun H1 s1 => ?_⟩
    refine ⟨_, rfl, b, ws, rfl, hw.tf (same_tf s1), fun H2 s2 => ?_⟩
    have s12 := s1.trans s2
    have hw2 := hw.tf (same_tf s12)
    have hs2 := hs.tf (same_tf s12)
    refine ⟨_, rfl, b, _, rfl, hw2.1, fun D hD => ?_⟩
    refine lc_it (walk_ity (K := K) (a := b) (xs := ws.map V.int) (c := 0)) (fun i H' => Acc H2 D (fl (List.range ws.length) (fun _ => true) (fun t => .int (wk ws t * ((t : Int) - (nw t 0 q : Nat)))) i) H') (acc_0 hD) (fun i H' _ h => (same_tf h.1).sq hw2.1) (fun i v H3 H4 hi h y => ?_) (fun H' h => ?_)
    · obtain ⟨t, x, y, rfl, nt, rfl, hx, hy⟩ := y
      rw [List.length_map] at hi
      obtain ⟨e1, e2⟩ := wt_at hi
      replace hy : (ws.map V.int)[i]? = some y := hy
      rw [e1] at hy
      cases hx
      cases hy
      have st := new_same (o := .tup [V.int (0 + (i : Nat)), V.int (wk ws i)]) nt
      refine ⟨t, _, rfl, SqT.of upd_same, rfl, _, _, rfl, _, _, rfl, rfl, ?_⟩
      refine ⟨rfl, ?_⟩
      dsimp only [tYes]
      rw [if_pos rfl]
      have h3 := hs2.tf (same_tf (h.1.trans st))
      have hi2 := hw.2.2.1
      obtain ⟨w0, w1⟩ := hw.2.2.2 _ e2
      refine ⟨_, rfl, _, rfl, _, rfl, _, rfl, _, rfl, a, q, i, by rw [Int.zero_add]; rfl, h3, fun j H5 s5 hj => ?_⟩
      refine ⟨a, _, _, _, rfl, rfl, (h3.tf (same_tf s5)).1, atI_nat (nV_at hj), _, _, rfl, rfl, ?_⟩
      have nle := (nw_le (t := i) (b := 0) (q := q) (Nat.zero_le i)).1
      have e0 : (0 : Int) + (i : Nat) = (i : Nat) := Int.zero_add _
      refine ⟨_, _, rfl, rfl, mulc w0 (by omega) (by omega) (by omega), ?_⟩
      rw [e0]
      exact acc_yes (x := i) hD h (st.trans s5) (rng_at hi) rfl (by rw [List.length_range]; omega)
    · have h2 := h.2
      rw [List.length_map, fl_rng] at h2
      refine ⟨D, (List.range ws.length).map fun t => wk ws t * ((t : Int) - (nw t 0 q : Nat)), rfl, SqL.of (by rw [h2, List.map_map]; rfl), ?_⟩
      rw [sum_tsum]
      exact k H' (s12.trans h.1)
end
end K43
set_option maxRecDepth 100000
set_option maxHeartbeats 4000000
/-! The program's best plan. -/
namespace K43
open PySem PySem.Spec PyProof.Rows L2 KF KD KG
/-- the list of the totals from b on -/
def cl (ws : List Int) (b n : Nat) : List V := List.replicate (b + 1) (V.int 0) ++ (List.range n).map fun i => .int (al ws b (i + 1))
theorem cl_len (ws : List Int) (b n : Nat) : (cl ws b n).length = b + 1 + n := by simp [cl]
theorem cl_last (ws : List Int) (b n : Nat) : ∃ xs, cl ws b n = xs ++ [V.int (al ws b n)] := by
  cases n with
  | zero => exact ⟨List.replicate b (V.int 0), by simp [cl, al, List.replicate_succ']⟩
  | succ n => exact ⟨List.replicate (b + 1) (V.int 0) ++ (List.range n).map fun i => .int (al ws b (i + 1)), by simp [cl, List.range_succ, List.append_assoc]⟩
theorem cl_succ (ws : List Int) (b n : Nat) : cl ws b n ++ [.int (al ws b n + wk ws (b + n) * (n : Int))] = cl ws b (n + 1) := by
  simp [cl, List.range_succ, al]
theorem cl_at (ws : List Int) {b n t : Nat} (h : t ≤ b + n) : (cl ws b n)[t]? = some (.int (al ws b (t - b))) := by
  unfold cl
  by_cases g : t < b + 1
  · rw [List.getElem?_append_left (by simpa using g), List.getElem?_replicate, if_pos g, show t - b = 0 by omega]
    rfl
  · rw [List.getElem?_append_right (by simp; omega), List.length_replicate, List.getElem?_map, List.getElem?_range (by omega)]
    simp only [Option.map_some]
    rw [show t - (b + 1) + 1 = t - b by omega]
theorem dpa_snoc {K : PySem.W.Frag} {H : Hp} {v : V} {d : PyData} : ∀ {vs : List V} {ds : List PyData}, DpAll K H vs ds → Dp K H v d → DpAll K H (vs ++ [v]) (ds ++ [d])
  | _, _, .nil, h => .cons h .nil
  | _, _, .cons a t, h => .cons a (dpa_snoc t h)
theorem dp_tup {K : PySem.W.Frag} {H : Hp} {v : V} {ds : List PyData} (h : Dp K H v (.tuple ds)) : ∃ c xs, v = .ref c ∧ SqT K H c xs ∧ DpAll K H xs ds := by
  cases h with
  | tup a b => exact ⟨_, _, rfl, a, b⟩
theorem dpa_nI {K : PySem.W.Frag} {H : Hp} : ∀ {p : List Nat} {vs : List V}, DpAll K H vs (nI p) → vs = nV p
  | [], _, h => by cases h; rfl
  | x :: p, _, h => by
    cases h with
    | cons a t =>
      cases a
      rw [dpa_nI (p := p) t]
      rfl
theorem dp_pd {K : PySem.W.Frag} {H : Hp} {v : V} {p : Int × List Nat} (h : Dp K H v (pd p)) : ∃ c t, v = .ref c ∧ SqT K H c [.int p.1, .ref t] ∧ SqT K H t (nV p.2) := by
  obtain ⟨c, xs, rfl, sq, ha⟩ := dp_tup h
  cases ha with
  | cons a1 a2 =>
    cases a1
    cases a2 with
    | cons b1 b2 =>
      cases b2
      obtain ⟨t, ys, rfl, sq2, hb⟩ := dp_tup b1
      rw [dpa_nI hb] at sq2
      exact ⟨c, t, rfl, sq, sq2⟩
theorem pd_dp {K : PySem.W.Frag} {H : Hp} {c t : Addr} {p : Int × List Nat} (h1 : SqT K H c [.int p.1, .ref t]) (h2 : SqT K H t (nV p.2)) : Dp K H (.ref c) (pd p) :=
  .tup h1 (.cons (.int _) (.cons (.tup h2 (dpa_nV _)) .nil))
theorem nl_pd (p : Int × List Nat) : NL (pd p) := ⟨trivial, nl_nI _, trivial⟩
theorem nl_pds : ∀ ps : List (Int × List Nat), NLs (ps.map pd)
  | [] => trivial
  | p :: ps => ⟨nl_pd p, nl_pds ps⟩
theorem none_back {H H' : Hp} {b : Addr} (s : Same H H') (h : H' b = none) : H b = none := by
  cases e : H b with
  | none => rfl
  | some o => rw [s _ _ e] at h; cases h
section
variable {P : Program} {w : World} {K : PySem.W.Frag} {mg : Str → Option Value} {base : Heap}
def spCf (K : PySem.W.Frag) : Sp := fun vs H Q _ => ∃ (a : Addr) (ws : List Int) (b : Nat), vs = [.ref a, .int (b : Int)] ∧ WtH K H a ws ∧ b < ws.length ∧
  ∀ l H', Same H H' → H l = none → H' l = some (.lst (cl ws b (ws.length - b))) → Q (.ref l) H'
theorem scCf : FnScope ["weights", "begin", "costs", "tick"] ["weights", "begin"] (defScope s_costs_from) := ⟨rfl, rfl, rfl, by decide +kernel, rfl, by decide +kernel, by decide +kernel⟩
theorem ok_costs_from (T : Txt K w mg) : FnOk P w K mg base CX0 1 (He.fAd K ("_costs_from", none)) (fdAt K (He.fAd K ("_costs_from", none))) ["weights", "begin"] (spCf K) := by
  refine T.F_costs_from.ok scCf (fun vs H Q E h => ?_) (fun cdv A outer s H vs Q E hr h => ?_)
  · obtain ⟨a, ws, b, rfl, _⟩ := h
    rfl
  · obtain ⟨a, ws, b, rfl, hw, hb, k⟩ := h
    refine ⟨_, PSs.nox (pss_cons (ps_set (i := 2) scCf.nd rfl (Or.inl rfl) (pe_op op_rep (pe_lst (pa_cons pe_int pa_nil)) (pe_op op_add (pv 1) pe_int)))
      (pss_cons (ps_for PassesOwn.never rfl (pi_range2 (by rfl) T.n_range (pa_cons (pv 1) (pa_cons (pe_callB (r := Evl.rLenS K) call_len_seq (by rfl) T.n_len PyProof.Rows.Boot.«len» (pa_cons (pv 0) pa_nil)) pa_nil))) (pg_name (i := 3) scCf.nd rfl (Or.inl rfl)) (pss_one (ps_expr (pe_bm PySem.F.plainAttrs_list PySem.F.slot_list_append PySem.F.type_list_append mt_append (pv 2) (pa_cons (pe_op op_add (pe_ix (r := rIxL K) ix_list (pv 2) (pe_un un_neg pe_int) (fun _ _ => rfl)) (pe_op op_mulW (pe_ix (r := rIxT K) ix_tup (pv 0) (pv 3) (fun _ _ => rfl)) (pe_op op_sub (pv 3) (pv 1)))) pa_nil)))))
      (pss_one (ps_ret (pv 2))))), ?_⟩
    have hN := hw.2.2.1
    refine ⟨(show 1 ≤ sizeLine by decide), fun p np => ?_⟩
    have s1 := new_same (o := .lst [.int 0]) np
    refine ⟨_, rfl, _, _, rfl, rfl, p, _, _, rfl, rfl, upd_same, by omega, by omega, by simp; exact Nat.le_trans (show (b + 1 : Nat) ≤ 100 by omega) (by decide), fun l nl => ?_⟩
    have s2 := new_same (o := .lst (List.replicate ((b : Int) + 1).toNat [V.int 0]).flatten) nl
    have nlH : H l = none := none_back s1 nl
    have e0 : (List.replicate ((b : Int) + 1).toNat [V.int 0]).flatten = cl ws b 0 := by
      rw [show ((b : Int) + 1).toNat = b + 1 by omega]
      simp [cl]
    rw [e0] at s2 ⊢
    have s12 := s1.trans s2
    refine ⟨_, rfl, _, rfl, a, _, rfl, .inr (hw.tf (same_tf s12)).1, (b : Int), _, rfl, ⟨by omega, by omega, by rw [List.length_map]; omega, by rw [List.length_map]; omega⟩, ?_⟩
    have en : (((ws.map V.int).length : Int) - (b : Int)).toNat = ws.length - b := by
      rw [List.length_map]
      omega
    rw [en]
    refine for_it (walk_range (lo := (b : Int)) (n := ws.length - b)) (fun i σ H' => (∃ v3, σ = [some (.ref a), some (.int (b : Int)), some (.ref l), v3]) ∧ Same H H' ∧ H' l = some (.lst (cl ws b i))) ⟨⟨_, rfl⟩, s12, upd_same⟩ (fun _ _ _ _ _ => trivial) (fun i x σ H' H2 hi h y => ?_) (fun σ H' h => ?_)
    · obtain ⟨⟨v3, rfl⟩, sm, hl⟩ := h
      obtain ⟨rfl, rfl⟩ := y
      obtain ⟨xs, hxs⟩ := cl_last ws b i
      have hbi : b + i < ws.length := by omega
      obtain ⟨e1, e2⟩ := wt_at hbi
      obtain ⟨w0, w1⟩ := hw.2.2.2 _ e2
      refine ⟨_, rfl, .inl ⟨rfl, _, SqL.of hl⟩, _, rfl, _, rfl, l, _, _, _, rfl, rfl, SqL.of hl, (by rw [hxs]; exact atI_last _ _), _, rfl, _, rfl, a, _, _, _, rfl, rfl, (hw.tf (same_tf sm)).1, at_of (j := b + i) (by omega) e1, _, rfl, _, rfl, _, _, rfl, rfl, _, _, rfl, rfl, mulc w0 (by omega) (by omega) (by omega), _, _, rfl, rfl, ?_⟩
      refine ⟨l, _, _, rfl, rfl, hl, by rw [cl_len]; exact Nat.lt_of_lt_of_le (show b + 1 + i < 1000 by omega) (by decide), ⟨_, rfl⟩, fun bb o z => ?_, ?_⟩
      · rw [upd_ne (ne_of_none z nlH)]
        exact sm _ _ z
      · rw [upd_same, ← cl_succ, show (b : Int) + (i : Nat) - (b : Int) = (i : Nat) by omega]
    · obtain ⟨⟨v3, rfl⟩, sm, hl⟩ := h
      exact ⟨_, rfl, k l H' sm nlH hl⟩
end
end K43
set_option maxRecDepth 100000
set_option maxHeartbeats 4000000
/-! The program's best plan, world by world. -/
namespace K43
open PySem PySem.Spec PyProof.Rows L2 KF KD KG
/-- pairs gathered in a list -/
def GaP (K : PySem.W.Frag) (H0 : Hp) (D : Addr) (l : List (Int × List Nat)) (H : Hp) : Prop := ∃ us, Same H0 H ∧ H D = some (.lst us) ∧ DpAll K H us (l.map pd)
theorem gap_0 {K : PySem.W.Frag} {H0 : Hp} {D : Addr} (hD : H0 D = none) : GaP K H0 D [] (upd H0 D (.lst [])) := ⟨[], new_same hD, upd_same, .nil⟩
theorem dpa_s {K : PySem.W.Frag} {H H' : Hp} {us : List V} {l : List (Int × List Nat)} (s : Same H H') (h : DpAll K H us (l.map pd)) : DpAll K H' us (l.map pd) := dpa_nl (same_tf s) _ _ (nl_pds l) h
theorem gap_push {K : PySem.W.Frag} {H0 H H4 : Hp} {D : Addr} {l : List (Int × List Nat)} {p : Int × List Nat} {v : V} (hD : H0 D = none) (h : GaP K H0 D l H) (s : Same H H4) (hv : Dp K H4 v (pd p)) (hl : l.length ≤ 1000) :
    ∃ acc, H4 D = some (.lst acc) ∧ acc.length < sizeLine ∧ GaP K H0 D (l ++ [p]) (upd H4 D (.lst (acc ++ [v]))) := by
  obtain ⟨us, s1, h1, h2⟩ := h
  have e := dpa_len h2
  rw [List.length_map] at e
  have h4 := s _ _ h1
  have tf : TF H4 (upd H4 D (.lst (us ++ [v]))) := Frm.tf (d := D) Frm.of_upd h4
  refine ⟨us, h4, Nat.lt_of_le_of_lt (by omega) (show 1000 < sizeLine by decide), us ++ [v], fun b o z => ?_, upd_same, ?_⟩
  · rw [upd_ne (ne_of_none z hD)]
    exact s _ _ (s1 _ _ z)
  · rw [List.map_append]
    exact dpa_snoc (dpa_nl tf _ _ (nl_pds l) (dpa_s s h2)) (dp_nl tf _ _ (nl_pd p) hv)
theorem dpa_at {K : PySem.W.Frag} {H : Hp} {us : List V} {ps : List (Int × List Nat)} {i : Nat} {p : Int × List Nat} (h : DpAll K H us (ps.map pd)) (hp : ps[i]? = some p) : ∃ v, us[i]? = some v ∧ Dp K H v (pd p) :=
  dpa_get h (by rw [List.getElem?_map, hp]; rfl)
/-- what is best from each tick on, as it stands -/
structure BsH (K : PySem.W.Frag) (H : Hp) (a : Addr) (us : List V) (ps : List (Int × List Nat)) (N : Nat) : Prop where
  at_ : H a = some (.lst us)
  dp : DpAll K H us (ps.map pd)
  len : ps.length = N
  le : N ≤ 60
  nn : ∀ p ∈ ps, p.2 ≠ [] ∧ p.2.length ≤ 100
theorem BsH.s {K : PySem.W.Frag} {H H' : Hp} {a : Addr} {us : List V} {ps : List (Int × List Nat)} {N : Nat} (s : Same H H') (h : BsH K H a us ps N) : BsH K H' a us ps N := ⟨s _ _ h.at_, dpa_s s h.dp, h.len, h.le, h.nn⟩
/-- the pairs by one tick more behind b -/
def cand (ws : List Int) (ps : List (Int × List Nat)) (b k : Nat) : Int × List Nat := (al ws b (k - b) + (ps.getD k (0, [])).1, b :: (ps.getD k (0, [])).2)
section
variable {P : Program} {w : World} {K : PySem.W.Frag} {mg : Str → Option Value} {base : Heap}
def spBt (K : PySem.W.Frag) : Sp := fun vs H Q _ => ∃ (cA bA : Addr) (ws : List Int) (us : List V) (ps : List (Int × List Nat)) (b N : Nat), vs = [.ref cA, .ref bA, .int (b : Int)] ∧ b < N ∧ H cA = some (.lst (cl ws b (N - b))) ∧ BsH K H bA us ps N ∧
  ∀ v p H', Same H H' → Dp K H' v (pd p) → (p = ps.getD b (0, []) ∨ ∃ k, b < k ∧ k < N ∧ p = cand ws ps b k) → LeP p (ps.getD b (0, [])) → (∀ k, b < k → k < N → LeP p (cand ws ps b k)) → Q v H'
theorem scBt : FnScope ["costs", "best", "begin", "plans", "tick"] ["costs", "best", "begin"] (defScope s_better) := ⟨rfl, rfl, rfl, by decide +kernel, rfl, by decide +kernel, by decide +kernel⟩
theorem ok_better (T : Txt K w mg) : FnOk P w K mg base CX0 1 (He.fAd K ("_better", none)) (fdAt K (He.fAd K ("_better", none))) ["costs", "best", "begin"] (spBt K) := by
  refine T.F_better.ok scBt (fun vs H Q E h => ?_) (fun cdv A outer s H vs Q E hr h => ?_)
  · obtain ⟨cA, bA, ws, us, ps, b, N, rfl, _⟩ := h
    rfl
  · obtain ⟨cA, bA, ws, us, ps, b, N, rfl, hb, hc, hB, k⟩ := h
    refine ⟨_, PSs.nox (pss_cons (ps_setLc (i := 3) (own := [("tick", 4)]) (g := gName 4) (tt := tYes) (by rfl) scBt.nd rfl rfl (sw_true rfl rfl rfl (by decide +kernel)) (pi_range2 (by rfl) T.n_range (pa_cons (pe_op op_add (pv 2) pe_int) (pa_cons (pe_callB (r := Evl.rLenS K) call_len_seq (by rfl) T.n_len PyProof.Rows.Boot.«len» (pa_cons (pv 1) pa_nil)) pa_nil))) (blkOk_by (own := [("tick", 4)]) (N := ["costs", "best", "begin", "plans", "tick"]) (sc := defScope s_better) (by decide +kernel)) (fun _ _ _ _ _ => pg_name (i := 4) scBt.nd rfl (Or.inl rfl)) (fun _ _ _ _ _ => pts_nil) (fun _ _ _ _ _ => (pe_tup (pa_cons (pe_op op_add (pe_ix (r := rIxL K) ix_list (pv 0) (pv 4) (fun _ _ => rfl)) (pe_ix (r := rIxT K) ix_tup (pe_ix (r := rIxL K) ix_list (pv 1) (pv 4) (fun _ _ => rfl)) pe_int (fun _ _ => rfl))) (pa_cons (pe_op (show OpR _ _ (rCatT K) from op_catT) (pe_tup (pa_cons (pv 2) pa_nil)) (pe_ix (r := rIxT K) ix_tup (pe_ix (r := rIxL K) ix_list (pv 1) (pv 4) (fun _ _ => rfl)) pe_int (fun _ _ => rfl))) pa_nil)))))
      (pss_one (ps_ret (pe_callB (KG.call_minP rfl hr.units) (by rfl) T.n_min PyProof.Rows.Boot.«min» (pa_cons (pe_op op_cat (pe_lst (pa_cons (pe_ix (r := rIxL K) ix_list (pv 1) (pv 2) (fun _ _ => rfl)) pa_nil)) (pv 3)) pa_nil))))), ?_⟩
    have hN := hB.le
    have hul := dpa_len hB.dp
    rw [List.length_map, hB.len] at hul
    have hget : ∀ k, k < N → ps[k]? = some (ps.getD k (0, [])) := fun k hk => by
      rw [List.getD_eq_getElem?_getD, List.getElem?_eq_getElem (by rw [hB.len]; exact hk)]
      rfl
    refine ⟨_, rfl, _, _, rfl, rfl, _, rfl, _, _, rfl, .inl (SqL.of hB.at_), _, _, rfl, ⟨by omega, by omega, by omega, by omega⟩, fun D hD => ?_⟩
    have en : ((us.length : Int) - ((b : Int) + 1)).toNat = N - (b + 1) := by omega
    rw [en]
    refine lc_range (lo := (b : Int) + 1) (n := N - (b + 1)) (fun i H' => GaP K H D ((List.range i).map fun j => cand ws ps b (b + 1 + j)) H') (gap_0 hD) (fun i H' hi h => ?_) (fun H' h => ?_)
    · have hk : b + 1 + i < N := by omega
      obtain ⟨us1, s1, _, _⟩ := id h
      have hB1 := hB.s s1
      have hc1 := s1 _ _ hc
      obtain ⟨v1, e1, d1⟩ := dpa_at hB1.dp (hget _ hk)
      obtain ⟨c, t, rfl, q1, q2⟩ := dp_pd d1
      have hnn := hB.nn _ (List.mem_of_getElem? (hget _ hk))
      have ec : (b : Int) + 1 + (i : Nat) = ((b + 1 + i : Nat) : Int) := by omega
      refine ⟨rfl, ?_⟩
      dsimp only [tYes]
      rw [if_pos rfl]
      refine ⟨_, rfl, _, rfl, cA, _, _, _, rfl, rfl, SqL.of hc1, (by rw [ec]; exact atI_nat (cl_at ws (t := b + 1 + i) (by omega))), ?_⟩
      refine ⟨_, rfl, _, rfl, bA, _, _, _, rfl, rfl, SqL.of hB1.at_, at_of (j := b + 1 + i) (by omega) e1, c, _, _, _, rfl, rfl, q1, atI_nat (j := 0) rfl, _, _, rfl, rfl, ?_⟩
      refine ⟨_, rfl, (show 1 ≤ sizeLine by decide), fun p1 n1 => ?_⟩
      have t1 := new_same (o := .tup [V.int (b : Int)]) n1
      have q1a := (same_tf t1).sq q1
      have q2a := (same_tf t1).sq q2
      refine ⟨_, rfl, _, rfl, bA, _, _, _, rfl, rfl, SqL.of (hB1.s t1).at_, at_of (j := b + 1 + i) (by omega) e1, c, _, _, _, rfl, rfl, q1a, atI_nat (j := 1) rfl, ?_⟩
      refine ⟨p1, t, _, _, rfl, rfl, SqT.of upd_same, q2a, by simp, by rw [nV_len]; exact Nat.le_trans (Nat.add_le_add_left hnn.2 1) (by decide), fun z => absurd z (by have := hnn.1; simpa [nV] using this), fun _ p2 n2 => ?_⟩
      have t2 := new_same (o := .tup ([V.int (b : Int)] ++ nV (ps.getD (b + 1 + i) (0, [])).2)) n2
      refine ⟨(show 2 ≤ sizeLine by decide), fun p3 n3 => ?_⟩
      have t3 := new_same (o := .tup [V.int (al ws b (b + 1 + i - b) + (ps.getD (b + 1 + i) (0, [])).1), V.ref p2]) n3
      have r2 : SqT K (upd (upd (upd H' p1 (.tup [V.int (b : Int)])) p2 (.tup ([V.int (b : Int)] ++ nV (ps.getD (b + 1 + i) (0, [])).2))) p3 (.tup [V.int (al ws b (b + 1 + i - b) + (ps.getD (b + 1 + i) (0, [])).1), V.ref p2])) p2 (nV (cand ws ps b (b + 1 + i)).2) := (same_tf t3).sq (SqT.of upd_same)
      have hd := pd_dp (K := K) (p := cand ws ps b (b + 1 + i)) (SqT.of (upd_same (H := upd (upd H' p1 (.tup [V.int (b : Int)])) p2 (.tup ([V.int (b : Int)] ++ nV (ps.getD (b + 1 + i) (0, [])).2))) (a := p3))) r2
      have hg := gap_push hD h ((t1.trans t2).trans t3) hd (by rw [List.length_map, List.length_range]; omega)
      rw [List.range_succ, List.map_append]
      exact hg
    · obtain ⟨us1, s1, hl, hd⟩ := h
      have hB1 := hB.s s1
      obtain ⟨v0, e0, d0⟩ := dpa_at hB1.dp (hget _ hb)
      refine ⟨_, rfl, _, rfl, bA, _, _, _, rfl, rfl, SqL.of hB1.at_, atI_nat e0, (show 1 ≤ sizeLine by decide), fun p1 n1 => ?_⟩
      have t1 := new_same (o := .lst [v0]) n1
      have hul1 := dpa_len hd
      rw [List.length_map, List.length_map, List.length_range] at hul1
      refine ⟨_, rfl, p1, D, _, _, rfl, rfl, upd_same, t1 _ _ hl, Nat.le_trans (show 1 + us1.length ≤ 100 by omega) (by decide), fun p2 n2 => ?_⟩
      have t2 := new_same (o := .lst ([v0] ++ us1)) n2
      have t12 := t1.trans t2
      have hall : DpAll K (upd (upd H' p1 (.lst [v0])) p2 (.lst ([v0] ++ us1))) ([v0] ++ us1) ((ps.getD b (0, []) :: (List.range (N - (b + 1))).map fun j => cand ws ps b (b + 1 + j)).map pd) :=
        .cons (dp_nl (same_tf t12) _ _ (nl_pd _) d0) (dpa_s t12 hd)
      refine ⟨p2, _, _, rfl, SqL.of upd_same, hall, by simp, fun i v p hv hp hm hle => ?_⟩
      obtain ⟨v', e', d'⟩ := dpa_at hall hp
      rw [hv] at e'
      cases e'
      refine k v p _ (s1.trans t12) d' ?_ (hle _ List.mem_cons_self) (fun j h1 h2 => hle _ (List.mem_cons_of_mem _ (List.mem_map.mpr ⟨j - (b + 1), List.mem_range.mpr (by omega), by rw [show b + 1 + (j - (b + 1)) = j by omega]⟩)))
      rcases List.mem_cons.mp hm with h | h
      · exact .inl h
      · obtain ⟨j, hj, rfl⟩ := List.mem_map.mp h
        have := List.mem_range.mp hj
        exact .inr ⟨b + 1 + j, by omega, by omega, rfl⟩
end
end K43
set_option maxRecDepth 100000
set_option maxHeartbeats 4000000
/-! The program's best plan, whole. -/
namespace K43
open PySem PySem.Spec PyProof.Rows L2 KF KD KG
theorem opt_nn {ws : List Int} {N m b : Nat} {p : Int × List Nat} (h : IsOpt ws N m b p) : p.2 ≠ [] ∧ p.2.length ≤ N := by
  obtain ⟨q, e, a, l⟩ := h.ex
  subst e
  have := Asc.lt a
  exact ⟨by simp, by simp only [List.length_cons]; omega⟩
/-- the rows of totals, row by row, of the first n ticks -/
def CsR (ws : List Int) (N n : Nat) (us : List V) (H : Hp) : Prop := us.length = n ∧ ∀ j, j < n → ∃ l, us[j]? = some (.ref l) ∧ H l = some (.lst (cl ws j (N - j)))
theorem CsR.s {ws : List Int} {N n : Nat} {us : List V} {H H' : Hp} (s : Same H H') (h : CsR ws N n us H) : CsR ws N n us H' := ⟨h.1, fun j hj => by
  obtain ⟨l, e1, e2⟩ := h.2 j hj
  exact ⟨l, e1, s _ _ e2⟩⟩
section
variable {P : Program} {w : World} {K : PySem.W.Frag} {mg : Str → Option Value} {base : Heap}
def spBp (K : PySem.W.Frag) : Sp := fun vs H Q _ => ∃ (a : Addr) (ws : List Int) (r : Nat), vs = [.ref a, .int (r : Int)] ∧ WtH K H a ws ∧ 1 ≤ r ∧ r ≤ 100 ∧
  ∀ t p H', Same H H' → SqT K H' t (nV p.2) → IsOpt ws ws.length r 0 p → Q (.ref t) H'
theorem scBp : FnScope ["weights", "room", "many", "costs", "best", "_", "begin"] ["weights", "room"] (defScope s_best_plan) := ⟨rfl, rfl, rfl, by decide +kernel, rfl, by decide +kernel, by decide +kernel⟩
theorem ok_best_plan (T : Txt K w mg) : FnOk P w K mg base CX0 3 (He.fAd K ("best_plan", none)) (fdAt K (He.fAd K ("best_plan", none))) ["weights", "room"] (spBp K) := by
  refine T.F_best_plan.ok scBp (fun vs H Q E h => ?_) (fun cdv A outer s H vs Q E hr h => ?_)
  · obtain ⟨a, ws, r, rfl, _⟩ := h
    rfl
  · obtain ⟨a, ws, r, rfl, hw, r1, r2, k⟩ := h
    refine ⟨_, PSs.nox (pss_cons (ps_expr (pe_call (ok_need_room T) (hr.mono (by decide)) (by rfl) T.g_need_room (T.F_need_room).kp T.b_need_room .nil pass0 (pa_cons (pv 1) pa_nil)))
      (pss_cons (ps_expr (pe_call (ok_need_weights T) (hr.mono (by decide)) (by rfl) T.g_need_weights (T.F_need_weights).kp T.b_need_weights .nil pass0 (pa_cons (pv 0) pa_nil)))
      (pss_cons (ps_set (i := 2) scBp.nd rfl (Or.inr rfl) (pe_callB (r := Evl.rLenS K) call_len_seq (by rfl) T.n_len PyProof.Rows.Boot.«len» (pa_cons (pv 0) pa_nil)))
      (pss_cons (ps_set (i := 3) scBp.nd rfl (Or.inr rfl) (pe_lc (own := [("begin", 6)]) (g := gName 6) (tt := tYes) (by rfl) scBp.nd (pi_range1 (by rfl) T.n_range (pa_cons (pv 2) pa_nil)) (blkOk_by (own := [("begin", 6)]) (N := ["weights", "room", "many", "costs", "best", "_", "begin"]) (sc := defScope s_best_plan) (by decide +kernel)) (fun _ _ _ _ _ => pg_name (i := 6) scBp.nd rfl (Or.inl rfl)) (fun _ _ _ _ _ => pts_nil) (fun _ _ _ _ _ => (pe_call (ok_costs_from T) (hr.mono (by decide)) (by rfl) T.g_costs_from (T.F_costs_from).kp T.b_costs_from .nil pass0 (pa_cons (pv 0) (pa_cons (pv 6) pa_nil))))))
      (pss_cons (ps_set (i := 4) scBp.nd rfl (Or.inr rfl) (pe_lc (own := [("begin", 6)]) (g := gName 6) (tt := tYes) (by rfl) scBp.nd (pi_range1 (by rfl) T.n_range (pa_cons (pv 2) pa_nil)) (blkOk_by (own := [("begin", 6)]) (N := ["weights", "room", "many", "costs", "best", "_", "begin"]) (sc := defScope s_best_plan) (by decide +kernel)) (fun _ _ _ _ _ => pg_name (i := 6) scBp.nd rfl (Or.inl rfl)) (fun _ _ _ _ _ => pts_nil) (fun _ _ _ _ _ => (pe_tup (pa_cons (pe_ix (r := rIxL K) ix_list (pe_ix (r := rIxL K) ix_list (pv 3) (pv 6) (fun _ _ => rfl)) (pv 2) (fun _ _ => rfl)) (pa_cons (pe_tup (pa_cons (pv 6) pa_nil)) pa_nil))))))
      (pss_cons (ps_for PassesOwn.never rfl (pi_range1 (by rfl) T.n_range (pa_cons (pe_op op_sub (pe_callB (call_min2 rfl) (by rfl) T.n_min PyProof.Rows.Boot.«min» (pa_cons (pv 1) (pa_cons (pv 2) pa_nil))) pe_int) pa_nil)) (pg_name (i := 5) scBp.nd rfl (Or.inl rfl)) (pss_one (ps_set (i := 4) scBp.nd rfl (Or.inr rfl) (pe_lc (own := [("begin", 6)]) (g := gName 6) (tt := tYes) (by rfl) scBp.nd (pi_range1 (by rfl) T.n_range (pa_cons (pv 2) pa_nil)) (blkOk_by (own := [("begin", 6)]) (N := ["weights", "room", "many", "costs", "best", "_", "begin"]) (sc := defScope s_best_plan) (by decide +kernel)) (fun _ _ _ _ _ => pg_name (i := 6) scBp.nd rfl (Or.inl rfl)) (fun _ _ _ _ _ => pts_nil) (fun _ _ _ _ _ => (pe_call (ok_better T) (hr.mono (by decide)) (by rfl) T.g_better (T.F_better).kp T.b_better .nil pass0 (pa_cons (pe_ix (r := rIxL K) ix_list (pv 3) (pv 6) (fun _ _ => rfl)) (pa_cons (pv 4) (pa_cons (pv 6) pa_nil)))))))))
      (pss_one (ps_ret (pe_ix (r := rIxT K) ix_tup (pe_ix (r := rIxL K) ix_list (pv 4) pe_int (fun _ _ => rfl)) pe_int (fun _ _ => rfl)))))))))), ?_⟩
    have hN := hw.2.2.1
    have hN0 := hw.2.1
    refine ⟨_, rfl, _, rfl, by omega, ?_⟩
    refine ⟨_, rfl, a, ws, rfl, hw, fun H1 s1 => ?_⟩
    have hw1 := hw.tf (same_tf s1)
    refine ⟨_, rfl, a, _, rfl, .inr hw1.1, ?_⟩
    rw [List.length_map]
    refine ⟨_, rfl, (ws.length : Int), rfl, by omega, by omega, fun D hD => ?_⟩
    rw [Int.toNat_natCast]
    refine lc_range (lo := 0) (n := ws.length) (fun i H' => ∃ us, Same H1 H' ∧ H' D = some (.lst us) ∧ CsR ws ws.length i us H') ⟨[], new_same hD, upd_same, rfl, fun j hj => absurd hj (Nat.not_lt_zero _)⟩ (fun i H' hi h => ?_) (fun H2 h => ?_)
    · obtain ⟨us, sm, hl, hc⟩ := h
      refine ⟨rfl, ?_⟩
      dsimp only [tYes]
      rw [if_pos rfl]
      refine ⟨_, rfl, _, rfl, a, ws, i, by rw [Int.zero_add]; rfl, hw1.tf (same_tf sm), hi, fun l H3 s3 nl hl3 => ?_⟩
      have lD : l ≠ D := fun e => by rw [e, hl] at nl; cases nl
      refine ⟨us, s3 _ _ hl, by rw [hc.1]; exact Nat.lt_of_lt_of_le (show i < 100 by omega) (by decide), us ++ [.ref l], fun b o z => ?_, upd_same, by simp [hc.1], fun j hj => ?_⟩
      · rw [upd_ne (ne_of_none z hD)]
        exact s3 _ _ (sm _ _ z)
      · rcases Nat.lt_or_ge j i with g | g
        · obtain ⟨l', e1, e2⟩ := hc.2 j g
          refine ⟨l', by rw [List.getElem?_append_left (by rw [hc.1]; exact g)]; exact e1, ?_⟩
          have lD' : l' ≠ D := fun e => by
            rw [e, hl] at e2
            injection e2 with e2
            injection e2 with e2
            have := hc.1
            rw [e2, cl_len] at this
            omega
          rw [upd_ne lD']
          exact s3 _ _ e2
        · have : j = i := by omega
          subst this
          refine ⟨l, by rw [← hc.1]; simp, ?_⟩
          rw [upd_ne lD]
          exact hl3
    · obtain ⟨cs, s2, hC, hc⟩ := h
      refine ⟨_, rfl, (ws.length : Int), rfl, by omega, by omega, fun D2 hD2 => ?_⟩
      rw [Int.toNat_natCast]
      refine lc_range (lo := 0) (n := ws.length) (fun i H' => GaP K H2 D2 ((List.range i).map fun b => (al ws b (ws.length - b), [b])) H') (gap_0 hD2) (fun i H' hi h => ?_) (fun H3 h => ?_)
      · obtain ⟨us, sm, _, _⟩ := id h
        obtain ⟨l, e1, e2⟩ := (hc.s sm).2 i hi
        have ei : (0 : Int) + (i : Nat) = (i : Nat) := Int.zero_add _
        refine ⟨rfl, ?_⟩
        dsimp only [tYes]
        rw [if_pos rfl]
        refine ⟨_, rfl, _, rfl, D, _, _, _, rfl, rfl, SqL.of (sm _ _ hC), by rw [ei]; exact atI_nat e1, _, rfl, l, _, _, _, rfl, rfl, SqL.of e2, atI_nat (cl_at ws (t := ws.length) (by omega)), ?_⟩
        refine ⟨_, rfl, (show 1 ≤ sizeLine by decide), fun p1 n1 => ⟨(show 2 ≤ sizeLine by decide), fun p2 n2 => ?_⟩⟩
        have t1 := new_same (o := .tup [V.int ((0 : Int) + (i : Nat))]) n1
        have t2 := new_same (o := .tup [V.int (al ws i (ws.length - i)), V.ref p1]) n2
        have q2 : SqT K (upd (upd H' p1 (.tup [V.int ((0 : Int) + (i : Nat))])) p2 (.tup [V.int (al ws i (ws.length - i)), V.ref p1])) p1 [V.int ((0 : Int) + (i : Nat))] := (same_tf t2).sq (SqT.of upd_same)
        rw [ei] at q2
        have hd := pd_dp (K := K) (p := (al ws i (ws.length - i), [i])) (SqT.of (upd_same (H := upd H' p1 (.tup [V.int ((0 : Int) + (i : Nat))])) (a := p2))) (by rw [ei]; exact q2)
        rw [List.range_succ, List.map_append]
        exact gap_push hD2 h (t1.trans t2) hd (by rw [List.length_map, List.length_range]; omega)
      · obtain ⟨us3, s3, hl3, hd3⟩ := h
        have hB : BsH K H3 D2 us3 ((List.range ws.length).map fun b => (al ws b (ws.length - b), [b])) ws.length := ⟨hl3, hd3, by simp, hN, fun p hp => by
          obtain ⟨j, _, rfl⟩ := List.mem_map.mp hp
          exact ⟨by simp, by simp⟩⟩
        have hO : ∀ (j : Nat) p, ((List.range ws.length).map fun b => (al ws b (ws.length - b), [b]))[j]? = some p → IsOpt ws ws.length 1 j p := fun j p hp => by
          rw [List.getElem?_map] at hp
          rcases Nat.lt_or_ge j ws.length with g | g
          · rw [List.getElem?_range g] at hp
            cases hp
            exact opt_one g
          · rw [List.getElem?_eq_none (by simpa using g)] at hp
            cases hp
        revert hB hO
        generalize ((List.range ws.length).map fun b => (al ws b (ws.length - b), [b])) = ps3
        intro hB hO
        have s23 := s2.trans s3
        refine ⟨_, rfl, _, rfl, _, _, rfl, ?_⟩
        have em : (if (ws.length : Int) < (r : Int) then (ws.length : Int) else (r : Int)) = ((min r ws.length : Nat) : Int) := by
          split <;> omega
        rw [em]
        obtain ⟨M, hM⟩ : ∃ M, min r ws.length = M + 1 := ⟨min r ws.length - 1, by omega⟩
        refine ⟨_, _, rfl, rfl, _, rfl, by omega, by omega, ?_⟩
        have eM : (((min r ws.length : Nat) : Int) - 1).toNat = M := by omega
        rw [eM]
        refine for_it (walk_range (lo := 0) (n := M)) (fun i σ H' => ∃ v5 bA us ps, σ = [some (.ref a), some (.int (r : Int)), some (.int (ws.length : Int)), some (.ref D), some (.ref bA), v5, none] ∧ Same H2 H' ∧ BsH K H' bA us ps ws.length ∧ ∀ (j : Nat) p, ps[j]? = some p → IsOpt ws ws.length (i + 1) j p)
          ⟨_, D2, us3, ps3, rfl, s3, hB, hO⟩ (fun _ _ _ _ _ => trivial) (fun i x σ H' H4 hi h y => ?_) (fun σ H' h => ?_)
        · obtain ⟨v5, bA, us, ps, rfl, sm, hB, hO⟩ := h
          obtain ⟨rfl, rfl⟩ := y
          refine ⟨_, rfl, (ws.length : Int), rfl, by omega, by omega, fun D5 hD5 => ?_⟩
          rw [Int.toNat_natCast]
          refine lc_range (lo := 0) (n := ws.length) (fun n H5 => ∃ l, GaP K H4 D5 l H5 ∧ l.length = n ∧ ∀ (j : Nat) p, l[j]? = some p → IsOpt ws ws.length (i + 2) j p) ⟨[], gap_0 hD5, rfl, fun j p z => by simp at z⟩ (fun n H5 hn h => ?_) (fun H5 h => ?_)
          · obtain ⟨l, hg, hl, hlo⟩ := h
            obtain ⟨us5, s5, _, _⟩ := id hg
            obtain ⟨cA, e1, e2⟩ := (hc.s (sm.trans s5)).2 n hn
            have en : (0 : Int) + (n : Nat) = (n : Nat) := Int.zero_add _
            refine ⟨rfl, ?_⟩
            dsimp only [tYes]
            rw [if_pos rfl]
            have hget : ∀ k, k < ws.length → ps[k]? = some (ps.getD k (0, [])) := fun k hk => by
              rw [List.getD_eq_getElem?_getD, List.getElem?_eq_getElem (by rw [hB.len]; exact hk)]
              rfl
            refine ⟨_, rfl, _, rfl, D, _, _, _, rfl, rfl, SqL.of ((sm.trans s5) _ _ hC), by rw [en]; exact atI_nat e1, _, rfl, _, rfl, cA, bA, ws, us, ps, n, ws.length, by rw [en]; rfl, hn, e2, hB.s s5, fun v p H6 s6 hv hp h0 hk => ?_⟩
            have ho : IsOpt ws ws.length (i + 2) n p := opt_step (f := fun k => ps.getD k (0, [])) (Nat.succ_pos i) hn (fun k _ hk => hO k _ (hget k hk)) hp h0 hk
            obtain ⟨acc, x1, x2, x3⟩ := gap_push hD5 hg s6 hv (by omega)
            refine ⟨acc, x1, x2, l ++ [p], x3, by simp [hl], fun j p' hj => ?_⟩
            rcases Nat.lt_or_ge j n with g | g
            · rw [List.getElem?_append_left (by omega)] at hj
              exact hlo j p' hj
            · rw [List.getElem?_append_right (by omega)] at hj
              have : j - l.length = 0 := by
                rcases Nat.eq_zero_or_pos (j - l.length) with z | z
                · exact z
                · rw [List.getElem?_eq_none (by simp; omega)] at hj
                  cases hj
              rw [this] at hj
              cases hj
              have : j = n := by omega
              rw [this]
              exact ho
          · obtain ⟨l, ⟨us5, s5, h1, h2⟩, hl, hlo⟩ := h
            refine ⟨_, D5, us5, l, rfl, sm.trans s5, ⟨h1, h2, hl, hN, fun p hp => ?_⟩, hlo⟩
            obtain ⟨j, hj, rfl⟩ := List.mem_iff_getElem.mp hp
            obtain ⟨o1, o2⟩ := opt_nn (hlo j _ (List.getElem?_eq_getElem hj))
            exact ⟨o1, by omega⟩
        · obtain ⟨v5, bA, us, ps, rfl, sm, hB, hO⟩ := h
          obtain ⟨p0, h0⟩ : ∃ p, ps[0]? = some p := ⟨_, List.getElem?_eq_getElem (by rw [hB.len]; exact hN0)⟩
          obtain ⟨v, e1, d1⟩ := dpa_at hB.dp h0
          obtain ⟨c, t, rfl, q1, q2⟩ := dp_pd d1
          refine ⟨_, rfl, bA, _, _, _, rfl, rfl, SqL.of hB.at_, atI_nat (j := 0) e1, c, _, _, _, rfl, rfl, q1, atI_nat (j := 1) rfl, ?_⟩
          have ho := hO 0 _ h0
          rw [← hM] at ho
          have hof : IsOpt ws ws.length r 0 p0 := by
            rcases Nat.lt_or_ge r ws.length with g | g
            · have e : min r ws.length = r := by omega
              rwa [e] at ho
            · exact opt_more ho (by omega) (by omega)
          exact k t _ H' (s1.trans (s2.trans sm)) q2 hof
end
end K43
set_option maxRecDepth 100000
set_option maxHeartbeats 4000000
/-! The program's least greatest cost. -/
namespace K43
open PySem PySem.Spec PyProof.Rows L2 KF KD KG
theorem gr_nil {N s t b : Nat} (h : N - b ≤ s) : gr N s t b = [] := by
  cases t with
  | zero => rfl
  | succ t => rw [gr, if_neg (by omega)]
theorem nV_snoc (p : List Nat) (n : Nat) : nV p ++ [.int (n : Int)] = nV (p ++ [n]) := by simp [nV]
section
variable {P : Program} {w : World} {K : PySem.W.Frag} {mg : Str → Option Value} {base : Heap}
def spBw (K : PySem.W.Frag) : Sp := fun vs H Q _ => ∃ (N S : Nat), vs = [.int (N : Int), .int (S : Int)] ∧ 1 ≤ N ∧ N ≤ 100 ∧ 1 ≤ S ∧ S ≤ 100 ∧
  ∀ c t H', Same H H' → SqT K H' c [.int ((((N + S - 1) / S : Nat) : Int) - 1), .ref t] → SqT K H' t (nV (0 :: gr N ((N + S - 1) / S) (S - 1) 0)) → Q (.ref c) H'
theorem st_room {N S : Nat} (h : 1 ≤ S) : N ≤ (N + S - 1) / S * S ∧ (N + S - 1) / S * S < N + S := by
  have h1 := Nat.div_add_mod (N + S - 1) S
  have h2 := Nat.mod_lt (N + S - 1) (show 0 < S by omega)
  have h3 := Nat.mul_comm S ((N + S - 1) / S)
  omega
theorem st_le {N S : Nat} (h : 1 ≤ S) (h1 : 1 ≤ N) : 1 ≤ (N + S - 1) / S ∧ (N + S - 1) / S ≤ N := by
  constructor
  · exact (Nat.le_div_iff_mul_le (by omega)).mpr (by omega)
  · refine Nat.div_le_of_le_mul ?_
    rcases Nat.exists_eq_add_of_le h with ⟨x, rfl⟩
    rcases Nat.exists_eq_add_of_le h1 with ⟨y, rfl⟩
    have e : (1 + x) * (1 + y) = 1 + x + y + x * y := by
      rw [Nat.add_mul, Nat.one_mul, Nat.mul_add, Nat.mul_one]
      omega
    have := Nat.zero_le (x * y)
    omega
theorem scBw : FnScope ["many", "room", "stretch", "plan", "left"] ["many", "room"] (defScope s_best_worst) := ⟨rfl, rfl, rfl, by decide +kernel, rfl, by decide +kernel, by decide +kernel⟩
theorem ok_best_worst (T : Txt K w mg) : FnOk P w K mg base CX0 2 (He.fAd K ("best_worst", none)) (fdAt K (He.fAd K ("best_worst", none))) ["many", "room"] (spBw K) := by
  refine T.F_best_worst.ok scBw (fun vs H Q E h => ?_) (fun cdv A outer s H vs Q E hr h => ?_)
  · obtain ⟨N, S, rfl, _⟩ := h
    rfl
  · obtain ⟨N, S, rfl, n1, n2, s1, s2, k⟩ := h
    refine ⟨_, PSs.nox (pss_cons (ps_expr (pe_call (ok_need_room T) (hr.mono (by decide)) (by rfl) T.g_need_room (T.F_need_room).kp T.b_need_room .nil pass0 (pa_cons (pv 1) pa_nil)))
      (pss_cons (ps_if (pt_cmpR op_lt (pv 0) pe_int (nomark _)) (pss_one ps_never) pss_nil)
      (pss_cons (ps_set (i := 2) scBw.nd rfl (Or.inl rfl) (pe_op op_fdivW (pe_op op_sub (pe_op op_add (pv 0) (pv 1)) pe_int) (pv 1)))
      (pss_cons (ps_set (i := 3) scBw.nd rfl (Or.inl rfl) (pe_lst (pa_cons pe_int pa_nil)))
      (pss_cons (ps_while PassesOwn.never (pt_cmpR op_lt (pe_op op_add (pe_ix (r := rIxL K) ix_list (pv 3) (pe_un un_neg pe_int) (fun _ _ => rfl)) (pv 2)) (pv 0) (nomark _)) (pss_cons (ps_set (i := 4) scBw.nd rfl (Or.inl rfl) (pe_op op_sub (pv 1) (pe_callB (r := Evl.rLenS K) call_len_seq (by rfl) T.n_len PyProof.Rows.Boot.«len» (pa_cons (pv 3) pa_nil))))
      (pss_one (ps_expr (pe_bm PySem.F.plainAttrs_list PySem.F.slot_list_append PySem.F.type_list_append mt_append (pv 3) (pa_cons (pe_callB (call_max2 rfl) (by rfl) T.n_max PyProof.Rows.Boot.«max» (pa_cons (pe_op op_add (pe_ix (r := rIxL K) ix_list (pv 3) (pe_un un_neg pe_int) (fun _ _ => rfl)) pe_int) (pa_cons (pe_op op_sub (pv 0) (pe_op op_mulW (pv 4) (pv 2))) pa_nil))) pa_nil))))))
      (pss_one (ps_ret (pe_tup (pa_cons (pe_op op_sub (pv 2) pe_int) (pa_cons (pe_callTy call_tuple_of (by rfl) T.n_tuple PyProof.Rows.Boot.«tuple» (pa_cons (pv 3) pa_nil)) pa_nil)))))))))), ?_⟩
    obtain ⟨sr1, sr2⟩ := st_room (N := N) s1
    obtain ⟨sl1, sl2⟩ := st_le s1 n1
    refine ⟨_, rfl, _, rfl, by omega, ?_⟩
    refine ⟨_, rfl, _, _, rfl, rfl, _, rfl, ite2 (fun z => absurd (of_decide_eq_true z) (by omega)) (fun _ => ?_)⟩
    have hW : CDivW ((N : Int) + (S : Int) - 1) (S : Int) := wide_div (b := 20) (by omega) (small_ab (by omega) (by rw [pow20]; omega)) (by decide) (by decide)
    refine ⟨_, rfl, _, rfl, _, _, rfl, rfl, _, _, rfl, rfl, _, rfl, _, _, rfl, rfl, hW, ?_⟩
    have ed : ((N : Int) + (S : Int) - 1) / (S : Int) = (((N + S - 1) / S : Nat) : Int) := by
      rw [show (N : Int) + (S : Int) - 1 = ((N + S - 1 : Nat) : Int) by omega, ← Int.natCast_ediv]
    show L2.tSeq _ _ _ (List.set _ 2 (some (V.int (((N : Int) + (S : Int) - 1) / (S : Int))))) _
    rw [ed]
    revert k sr1 sr2 sl1 sl2
    generalize (N + S - 1) / S = s
    intro k sr1 sr2 sl1 sl2
    refine ⟨(show 1 ≤ sizeLine by decide), fun l nl => ?_⟩
    have t1 := new_same (o := .lst [V.int 0]) nl
    refine ⟨fun m σ H' => ∃ (v4 : Option V) (pre ys : List Nat) (b : Nat), σ = [some (.int (N : Int)), some (.int (S : Int)), some (.int (s : Int)), some (.ref l), v4] ∧ Same H H' ∧ H' l = some (.lst (nV (0 :: pre))) ∧ 0 :: pre = ys ++ [b] ∧ pre.length + m = S - 1 ∧
      gr N s (S - 1) 0 = pre ++ gr N s m b ∧ N - b ≤ s * (m + 1) ∧ b < N, ⟨S - 1, _, [], [], 0, rfl, t1, upd_same, rfl, by simp, rfl, by rw [show S - 1 + 1 = S by omega]; exact sr1, by omega⟩, fun m σ H' h => ?_⟩
    obtain ⟨v4, pre, ys, b, rfl, sm, hl, hy, hm, hgr, hb, hbN⟩ := h
    have hlast : atI (nV (0 :: pre)) (-1) = some (.int (b : Int)) := by
      rw [hy, ← nV_snoc]
      exact atI_last _ _
    refine ⟨_, rfl, _, rfl, l, _, _, _, rfl, rfl, SqL.of hl, hlast, _, rfl, _, _, rfl, rfl, _, rfl, _, _, rfl, rfl, _, rfl, ?_⟩
    refine ite2 (fun z => ?_) (fun z => ?_)
    · have z : (b : Int) + (s : Int) < (N : Int) := of_decide_eq_true z
      cases m with
      | zero =>
        rw [Nat.zero_add, Nat.mul_one] at hb
        omega
      | succ m =>
        refine ⟨fun σ H' => ∃ (v4 : Option V) (pre ys : List Nat) (b : Nat), σ = [some (.int (N : Int)), some (.int (S : Int)), some (.int (s : Int)), some (.ref l), v4] ∧ Same H H' ∧ H' l = some (.lst (nV (0 :: pre))) ∧ 0 :: pre = ys ++ [b] ∧ pre.length + m = S - 1 ∧
          gr N s (S - 1) 0 = pre ++ gr N s m b ∧ N - b ≤ s * (m + 1) ∧ b < N, fun σ' H' h => ⟨m, Nat.lt_succ_self m, h⟩, ?_⟩
        have e1 : s * (m + 1 + 1) = s * (m + 1) + s := Nat.mul_succ _ _
        have e2 : (m + 1) * s = s * (m + 1) := Nat.mul_comm _ _
        have hgr2 : gr N s (m + 1) b = max (b + 1) (N - (m + 1) * s) :: gr N s m (max (b + 1) (N - (m + 1) * s)) := by
          rw [gr, if_pos (by omega)]
        refine ⟨_, rfl, _, rfl, _, _, rfl, .inl (SqL.of hl), _, _, rfl, rfl, ?_⟩
        have eleft : (S : Int) - ((nV (0 :: pre)).length : Int) = ((m + 1 : Nat) : Int) := by
          rw [nV_len, List.length_cons]
          omega
        dsimp only
        rw [eleft]
        refine ⟨_, rfl, .inl ⟨rfl, _, SqL.of hl⟩, _, rfl, _, rfl, l, _, _, _, rfl, rfl, SqL.of hl, hlast, _, _, rfl, rfl, _, rfl, _, rfl, _, rfl, _, _, rfl, rfl, mulc (by omega) (by omega) (by omega) (by omega), _, _, rfl, rfl, _, _, rfl, ?_⟩
        have emul : ((m + 1 : Nat) : Int) * (s : Int) = (((m + 1) * s : Nat) : Int) := (Int.natCast_mul _ _).symm
        have ek : (if (N : Int) - ((m + 1 : Nat) : Int) * (s : Int) > (b : Int) + 1 then (N : Int) - ((m + 1 : Nat) : Int) * (s : Int) else (b : Int) + 1) = ((max (b + 1) (N - (m + 1) * s) : Nat) : Int) := by
          rw [emul]
          split <;> omega
        rw [ek]
        refine ⟨l, _, _, rfl, rfl, hl, by rw [nV_len, List.length_cons]; exact Nat.lt_of_lt_of_le (show pre.length + 1 < 200 by omega) (by decide), _, pre ++ [max (b + 1) (N - (m + 1) * s)], 0 :: pre, _, rfl, fun bb o y => ?_, ?_, rfl, by simp; omega, ?_, ?_, ?_⟩
        · rw [upd_ne (ne_of_none y nl)]
          exact sm _ _ y
        · rw [upd_same, nV_snoc]
          rfl
        · rw [hgr, hgr2, List.append_assoc]
          rfl
        · omega
        · omega
    · have z : ¬ (b : Int) + (s : Int) < (N : Int) := fun y => z (decide_eq_true y)
      have hnil : gr N s m b = [] := gr_nil (by omega)
      rw [hnil, List.append_nil] at hgr
      refine ⟨_, rfl, _, _, rfl, rfl, _, rfl, l, _, rfl, .inl ⟨SqL.of hl, fun t nt => ?_⟩⟩
      have t2 := new_same (o := .tup (nV (0 :: pre))) nt
      refine ⟨(show 2 ≤ sizeLine by decide), fun c nc => ?_⟩
      have t3 := new_same (o := .tup [V.int ((s : Int) - 1), V.ref t]) nc
      refine k c t _ ((sm.trans t2).trans t3) (SqT.of upd_same) ?_
      rw [hgr]
      exact (same_tf t3).sq (SqT.of upd_same)
end
end K43
set_option maxRecDepth 100000
set_option maxHeartbeats 4000000
/-! The law's costs and draws. -/
namespace K43
open PySem PySem.Spec PyProof.Rows L2 KF KD KG
theorem ixN_nat {n j : Nat} (h : j < n) : ixN n (j : Int) = some j := by
  unfold ixN
  rw [if_pos (by omega), if_pos (by omega)]
  simp
section
variable {P : Program} {w : World} {K : PySem.W.Frag} {mg : Str → Option Value} {base : Heap}
theorem scLc : FnScope ["scheme", "moment", "begin"] ["scheme", "moment"] (defScope s_law_cost) := ⟨rfl, rfl, rfl, by decide +kernel, rfl, by decide +kernel, by decide +kernel⟩
theorem ok_law_cost (T : Txt K w mg) : FnOk P w K mg base CX0 1 (He.fAd K ("_law_cost", none)) (fdAt K (He.fAd K ("_law_cost", none))) ["scheme", "moment"] (spCost K) := by
  refine T.F_law_cost.ok scLc (fun vs H Q E h => ?_) (fun cdv A outer s H vs Q E hr h => ?_)
  · obtain ⟨a, q, t, rfl, _⟩ := h
    rfl
  · obtain ⟨a, q, t, rfl, hs, k⟩ := h
    refine ⟨_, PSs.nox (pss_one (ps_ret (pe_callB (cr_min rfl) (by rfl) T.n_min PyProof.Rows.Boot.«min» (pa_cons (pe_lc (own := [("begin", 2)]) (g := gName 2) (by rfl) scLc.nd (pi_tup (pv 0)) (blkOk_by (own := [("begin", 2)]) (N := ["scheme", "moment", "begin"]) (sc := defScope s_law_cost) (by decide +kernel)) (fun _ _ _ _ _ => pg_name (i := 2) scLc.nd rfl (Or.inl rfl)) (fun _ _ _ _ _ => pts_one (pt_cmpR op_le (pv 2) (pv 1) (nomark _))) (fun _ _ _ _ _ => (pe_op op_sub (pv 1) (pv 2)))) pa_nil)))), ?_⟩
    have hlen : (0 :: q).length ≤ 1000 := by
      have := hs.2.2
      simp only [List.length_cons]
      omega
    refine ⟨_, rfl, a, rfl, ⟨_, hs.1⟩, fun D hD => ?_⟩
    refine lc_tup (xs := nV (0 :: q)) (fun i H' => Acc H D (fl (0 :: q) (fun n => decide (n ≤ t)) (fun n => .int ((t : Int) - (n : Nat))) i) H') (acc_0 hD) (fun i H' _ h => (same_tf h.1).sq hs.1) (fun i x H' hx h => ?_) (fun H' h => ?_)
    · have hi : i < (0 :: q).length := by
        have := (List.getElem?_eq_some_iff.mp hx).1
        rwa [nV_len] at this
      have hx0 : (0 :: q)[i]? = some (0 :: q)[i] := List.getElem?_eq_getElem hi
      rw [nV_at hx0] at hx
      cases hx
      refine ⟨rfl, ?_⟩
      refine ⟨_, rfl, _, rfl, _, _, rfl, rfl, _, rfl, ite2 (fun z => ?_) (fun z => ?_)⟩
      · have z := of_decide_eq_true z
        exact ⟨_, rfl, _, rfl, _, _, rfl, rfl, acc_yes hD h (Same.refl _) hx0 (decide_eq_true (by exact_mod_cast z)) hlen⟩
      · exact acc_no h (Same.refl _) hx0 (decide_eq_false fun y => z (decide_eq_true (by exact_mod_cast y)))
    · have h2 := h.2
      rw [nV_len, fl_all] at h2
      obtain ⟨n1, n2⟩ := nw_le (t := t) (b := 0) (q := q) (Nat.zero_le t)
      refine ⟨D, ((0 :: q).filter fun n => decide (n ≤ t)).map fun n => (t : Int) - (n : Nat), rfl, SqL.of (by rw [h2, List.map_map]; rfl), ?_, fun m hm hle => ?_⟩
      · rw [List.length_map]
        exact List.length_pos_of_mem (List.mem_filter.mpr ⟨n2, decide_eq_true n1⟩)
      · obtain ⟨x, hx, rfl⟩ := List.mem_map.mp hm
        obtain ⟨x1, x2⟩ := List.mem_filter.mp hx
        have x3 := of_decide_eq_true x2
        have x4 := nw_max hs.2.1 x x1 x3
        have x5 := hle _ (List.mem_map.mpr ⟨nw t 0 q, List.mem_filter.mpr ⟨n2, decide_eq_true n1⟩, rfl⟩)
        have e : x = nw t 0 q := by omega
        rw [e]
        exact k H' h.1
theorem scLt : FnScope ["scheme", "loads", "k"] ["scheme", "loads"] (defScope s_law_total) := ⟨rfl, rfl, rfl, by decide +kernel, rfl, by decide +kernel, by decide +kernel⟩
theorem ok_law_total (T : Txt K w mg) : FnOk P w K mg base CX0 2 (He.fAd K ("_law_total", none)) (fdAt K (He.fAd K ("_law_total", none))) ["scheme", "loads"] (spTotal K) := by
  refine T.F_law_total.ok scLt (fun vs H Q E h => ?_) (fun cdv A outer s H vs Q E hr h => ?_)
  · obtain ⟨a, b, q, ws, rfl, _⟩ := h
    rfl
  · obtain ⟨a, b, q, ws, rfl, hs, hw, k⟩ := h
    refine ⟨_, PSs.nox (pss_one (ps_ret (pe_callB (cr_sum rfl) (by rfl) T.n_sum PyProof.Rows.Boot.«sum» (pa_cons (pe_lc (own := [("k", 2)]) (g := gName 2) (tt := tYes) (by rfl) scLt.nd (pi_range1 (by rfl) T.n_range (pa_cons (pe_callB (r := Evl.rLenS K) call_len_seq (by rfl) T.n_len PyProof.Rows.Boot.«len» (pa_cons (pv 1) pa_nil)) pa_nil)) (blkOk_by (own := [("k", 2)]) (N := ["scheme", "loads", "k"]) (sc := defScope s_law_total) (by decide +kernel)) (fun _ _ _ _ _ => pg_name (i := 2) scLt.nd rfl (Or.inl rfl)) (fun _ _ _ _ _ => pts_nil) (fun _ _ _ _ _ => (pe_op op_mulW (pe_ix (r := rIxT K) ix_tup (pv 1) (pv 2) (fun _ _ => rfl)) (pe_call (ok_law_cost T) (hr.mono (by decide)) (by rfl) T.g_law_cost (T.F_law_cost).kp T.b_law_cost .nil pass0 (pa_cons (pv 0) (pa_cons (pv 2) pa_nil)))))) pa_nil)))), ?_⟩
    have hi2 := hw.2.2.1
    refine ⟨_, rfl, b, _, rfl, .inr hw.1, ?_⟩
    rw [List.length_map]
    refine ⟨(ws.length : Int), rfl, by omega, by omega, fun D hD => ?_⟩
    rw [Int.toNat_natCast]
    refine lc_range (lo := 0) (n := ws.length) (fun i H' => Acc H D (fl (List.range ws.length) (fun _ => true) (fun t => .int (wk ws t * ((t : Int) - (nw t 0 q : Nat)))) i) H') (acc_0 hD) (fun i H' hi h => ?_) (fun H' h => ?_)
    · obtain ⟨e1, e2⟩ := wt_at hi
      have ei : (0 : Int) + (i : Nat) = (i : Nat) := Int.zero_add _
      refine ⟨rfl, ?_⟩
      dsimp only [tYes]
      rw [if_pos rfl]
      obtain ⟨w0, w1⟩ := hw.2.2.2 _ e2
      refine ⟨_, rfl, _, rfl, b, _, _, _, rfl, rfl, (hw.tf (same_tf h.1)).1, by rw [ei]; exact atI_nat e1, _, rfl, _, rfl, a, q, i, by rw [ei]; rfl, hs.tf (same_tf h.1), fun H5 s5 => ?_⟩
      have nle := (nw_le (t := i) (b := 0) (q := q) (Nat.zero_le i)).1
      refine ⟨_, _, rfl, rfl, mulc w0 (by omega) (by omega) (by omega), ?_⟩
      exact acc_yes (x := i) hD h s5 (rng_at hi) rfl (by rw [List.length_range]; omega)
    · have h2 := h.2
      rw [fl_rng] at h2
      refine ⟨D, (List.range ws.length).map fun t => wk ws t * ((t : Int) - (nw t 0 q : Nat)), rfl, SqL.of (by rw [h2, List.map_map]; rfl), ?_⟩
      rw [sum_tsum]
      exact k H' h.1
end
end K43
set_option maxRecDepth 100000
set_option maxHeartbeats 4000000
/-! The law's weights and plans, drawn. -/
namespace K43
open PySem PySem.Spec PyProof.Rows L2 KF KD KG
theorem frm_none {d l : Addr} {H H' : Hp} (s : Frm d H H') (hd : ∃ xs, H d = some (.lst xs)) (h : H' l = none) (hd' : ∃ xs, H' d = some (.lst xs)) : H l = none := by
  cases e : H l with
  | none => rfl
  | some o =>
    by_cases g : l = d
    · subst g
      obtain ⟨xs, hx⟩ := hd'
      rw [hx] at h
      cases h
    · rw [s _ _ g e] at h
      cases h
theorem Dk.ne {H : Hp} {d l : Addr} {n : Nat} (h : Dk H d n) (e : H l = none) : l ≠ d := fun z => by
  obtain ⟨r, m, c, h0, _⟩ := h
  rw [z, h0] at e
  cases e
theorem frm_new {d D : Addr} {H0 H' : Hp} {o : HO} (f : Frm d H0 H') (h : H0 D = none) : Frm d H0 (upd H' D o) := fun b u n z => by
  rw [upd_ne (ne_of_none z h)]
  exact f b u n z
theorem atI2 {x y : V} (c : Bool) : atI [x, y] (if c = true then 1 else 0) = some (if c = true then y else x) := by
  cases c <;> rfl
theorem upl_snoc : ∀ {a : Nat} {pre ys : List Nat} {b k : Nat}, UpL a pre → a :: pre = ys ++ [b] → b < k → UpL a (pre ++ [k])
  | a, [], ys, b, k, _, e, h => by
    have : a = b := by
      cases ys with
      | nil => simpa using e
      | cons y ys => simp at e
    subst this
    exact ⟨h, trivial⟩
  | a, x :: pre, ys, b, k, u, e, h => by
    cases ys with
    | nil => simp at e
    | cons y ys =>
      have e2 : x :: pre = ys ++ [b] := by simpa using (List.cons.inj e).2
      exact ⟨u.1, upl_snoc u.2 e2 h⟩
theorem upl_le : ∀ {a b : Nat} {q : List Nat}, a ≤ b → UpL b q → UpL a q
  | _, _, [], _, _ => trivial
  | _, _, _ :: _, h, u => ⟨Nat.lt_of_le_of_lt h u.1, u.2⟩
theorem upl_filter (p : Nat → Bool) : ∀ {a : Nat} {q : List Nat}, UpL a q → UpL a (q.filter p)
  | _, [], _ => trivial
  | a, k :: q, u => by
    rw [List.filter_cons]
    split
    · exact ⟨u.1, upl_filter p u.2⟩
    · exact upl_filter p (upl_le (Nat.le_of_lt u.1) u.2)
section
variable {P : Program} {w : World} {K : PySem.W.Frag} {mg : Str → Option Value} {base : Heap}
def spWts (K : PySem.W.Frag) : Sp := fun vs H Q _ => ∃ (d : Addr) (n : Nat), vs = [.ref d] ∧ Dk H d (n + 100) ∧ ∀ t ws H', Frm d H H' → Dk H' d n → WtH K H' t ws → Q (.ref t) H'
theorem scWt : FnScope ["deck", "amount", "most", "loads", "k"] ["deck"] (defScope s_law_weights) := ⟨rfl, rfl, rfl, by decide +kernel, rfl, by decide +kernel, by decide +kernel⟩
theorem ok_law_weights (T : Txt K w mg) : FnOk P w K mg base CX0 2 (He.fAd K ("_law_weights", none)) (fdAt K (He.fAd K ("_law_weights", none))) ["deck"] (spWts K) := by
  refine T.F_law_weights.ok scWt (fun vs H Q E h => ?_) (fun cdv A outer s H vs Q E hr h => ?_)
  · obtain ⟨d, n, rfl, _⟩ := h
    rfl
  · obtain ⟨d, n, rfl, hd, k⟩ := h
    refine ⟨_, PSs.nox (pss_cons (ps_set (i := 1) scWt.nd rfl (Or.inl rfl) (pe_ix (r := rIxL K) ix_list (pe_lst (pa_cons (pe_op op_add pe_int (pe_call (ok_law_take T) (hr.mono (by decide)) (by rfl) T.g_law_take (T.F_law_take).kp T.b_law_take .nil pass0 (pa_cons (pv 0) (pa_cons pe_int pa_nil)))) (pa_cons (pe_op op_add pe_int (pe_call (ok_law_take T) (hr.mono (by decide)) (by rfl) T.g_law_take (T.F_law_take).kp T.b_law_take .nil pass0 (pa_cons (pv 0) (pa_cons pe_int pa_nil)))) pa_nil))) (pe_callTy call_int1 (by rfl) T.n_int PyProof.Rows.Boot.«int» (pa_cons (pe_cmpR op_eq (pe_call (ok_law_take T) (hr.mono (by decide)) (by rfl) T.g_law_take (T.F_law_take).kp T.b_law_take .nil pass0 (pa_cons (pv 0) (pa_cons pe_int pa_nil))) pe_int (nomark _)) pa_nil)) (fun _ _ => rfl)))
      (pss_cons (ps_set (i := 2) scWt.nd rfl (Or.inr rfl) (pe_ix (r := rIxL K) ix_list (pe_lst (pa_cons pe_int (pa_cons pe_int (pa_cons pe_int (pa_cons (pe_op op_pow pe_int pe_int) pa_nil))))) (pe_call (ok_law_take T) (hr.mono (by decide)) (by rfl) T.g_law_take (T.F_law_take).kp T.b_law_take .nil pass0 (pa_cons (pv 0) (pa_cons pe_int pa_nil))) (fun _ _ => rfl)))
      (pss_cons (ps_setLc (i := 3) (own := [("k", 4)]) (g := gName 4) (tt := tYes) (by rfl) scWt.nd rfl rfl (sw_true rfl rfl rfl (by decide +kernel)) (pi_range1 (by rfl) T.n_range (pa_cons (pv 1) pa_nil)) (blkOk_by (own := [("k", 4)]) (N := ["deck", "amount", "most", "loads", "k"]) (sc := defScope s_law_weights) (by decide +kernel)) (fun _ _ _ _ _ => pg_name (i := 4) scWt.nd rfl (Or.inl rfl)) (fun _ _ _ _ _ => pts_nil) (fun _ _ _ _ _ => (pe_op op_add (pe_call (ok_law_take T) (hr.mono (by decide)) (by rfl) T.g_law_take (T.F_law_take).kp T.b_law_take .nil pass0 (pa_cons (pv 0) (pa_cons (pv 2) pa_nil))) (pe_callTy call_int1 (by rfl) T.n_int PyProof.Rows.Boot.«int» (pa_cons (pe_cmpR op_eq (pv 2) pe_int (nomark _)) pa_nil)))))
      (pss_cons (ps_asg (pe_call (ok_law_take T) (hr.mono (by decide)) (by rfl) T.g_law_take (T.F_law_take).kp T.b_law_take .nil pass0 (pa_cons (pv 0) (pa_cons pe_int pa_nil))) (pg_sub (pv 3) (pe_call (ok_law_take T) (hr.mono (by decide)) (by rfl) T.g_law_take (T.F_law_take).kp T.b_law_take .nil pass0 (pa_cons (pv 0) (pa_cons (pv 1) pa_nil))) set_list))
      (pss_one (ps_ret (pe_callTy call_tuple_of (by rfl) T.n_tuple PyProof.Rows.Boot.«tuple» (pa_cons (pv 3) pa_nil)))))))), ?_⟩
    refine ⟨_, rfl, d, 8, n + 99, rfl, by decide, by decide, hd, fun x1 Ha a0 a1 fa da => ?_⟩
    refine ⟨_, _, rfl, rfl, _, rfl, d, 60, n + 98, rfl, by decide, by decide, da, fun x2 Hb b0 b1 fb db => ?_⟩
    refine ⟨_, _, rfl, rfl, (show 2 ≤ sizeLine by decide), fun p np => ?_⟩
    have t1 := new_same (o := .lst [V.int (1 + x1), V.int (1 + x2)]) np
    refine ⟨_, rfl, d, 3, n + 97, rfl, by decide, by decide, db.same t1, fun x3 Hc c0 c1 fc dc => ?_⟩
    have hp1 := fc p _ (db.ne np) upd_same
    obtain ⟨A, hA1, hA2, hAt⟩ : ∃ A : Nat, 1 ≤ A ∧ A ≤ 60 ∧ atI [V.int (1 + x1), V.int (1 + x2)] (if decide (V.int x3 = V.int 1) = true then 1 else 0) = some (.int (A : Int)) := by
      rw [atI2]
      split
      · exact ⟨(1 + x2).toNat, by omega, by omega, by rw [Int.toNat_of_nonneg (by omega)]⟩
      · exact ⟨(1 + x1).toNat, by omega, by omega, by rw [Int.toNat_of_nonneg (by omega)]⟩
    refine ⟨rfl, .inr ⟨_, rfl, p, _, _, _, rfl, rfl, SqL.of hp1, hAt, ?_⟩⟩
    have f1 : Frm d H Hc := (((fa.trans fb).trans (Frm.of_same t1)).trans fc)
    refine ⟨_, _, rfl, rfl, ⟨by decide, by decide, by decide⟩, (show 4 ≤ sizeLine by decide), fun p2 np2 => ?_⟩
    have t2 := new_same (o := .lst [V.int 1, V.int 2, V.int 4, V.int (10 ^ (9 : Int).toNat)]) np2
    refine ⟨_, rfl, d, 4, n + 96, rfl, by decide, by decide, dc.same t2, fun x4 He e0 e1 fe de => ?_⟩
    have hp2 := fe p2 _ (dc.ne np2) upd_same
    obtain ⟨M, hM1, hM2, hMt⟩ : ∃ M : Int, 1 ≤ M ∧ M ≤ 1000000000 ∧ atI [V.int 1, V.int 2, V.int 4, V.int (10 ^ (9 : Int).toNat)] x4 = some (.int M) := by
      have e9 : (10 : Int) ^ (9 : Int).toNat = 1000000000 := by decide
      rw [e9]
      have hx : x4 = 0 ∨ x4 = 1 ∨ x4 = 2 ∨ x4 = 3 := by omega
      rcases hx with rfl | rfl | rfl | rfl
      · exact ⟨1, by decide, by decide, rfl⟩
      · exact ⟨2, by decide, by decide, rfl⟩
      · exact ⟨4, by decide, by decide, rfl⟩
      · exact ⟨1000000000, by decide, by decide, rfl⟩
    refine ⟨p2, _, _, _, rfl, rfl, SqL.of hp2, hMt, ?_⟩
    have f2 : Frm d H He := ((f1.trans (Frm.of_same t2)).trans fe)
    refine ⟨_, rfl, (A : Int), rfl, by omega, by omega, fun D hD => ?_⟩
    rw [Int.toNat_natCast]
    have Dd := de.ne hD
    refine lc_range (lo := 0) (n := A) (fun i H' => ∃ xs : List Int, Frm d He H' ∧ Dk H' d (n + 96 - i) ∧ H' D = some (.lst (xs.map V.int)) ∧ xs.length = i ∧ ∀ x ∈ xs, 0 ≤ x ∧ x ≤ 1000000000) ⟨[], frm_new (Frm.refl _ _) hD, (de.same (new_same hD)).le (by omega), upd_same, rfl, fun x z => (nomatch z)⟩ (fun i H' hi h => ?_) (fun H' h => ?_)
    · obtain ⟨xs, fx, dx, hl, hlen, hxs⟩ := h
      refine ⟨rfl, ?_⟩
      dsimp only [tYes]
      rw [if_pos rfl]
      refine ⟨_, rfl, _, rfl, d, M, n + 95 - i, rfl, by omega, by omega, dx.le (by omega), fun x Hx x0 x1 fx2 dx2 => ?_⟩
      refine ⟨_, rfl, rfl, .inr ⟨_, rfl, _, _, rfl, rfl, ?_⟩⟩
      refine ⟨_, fx2 _ _ Dd hl, by rw [List.length_map, hlen]; exact Nat.lt_of_lt_of_le (show i < 100 by omega) (by decide), xs ++ [x + (if decide (V.int M = V.int 1) = true then 1 else 0)], frm_new (fx.trans fx2) hD, ?_, ?_, by simp [hlen], fun y hy => ?_⟩
      · obtain ⟨r, m, c, h0, h1⟩ := dx2.le (show n + 96 - (i + 1) ≤ n + 95 - i by omega)
        exact ⟨r, m, c, by rw [upd_ne (Ne.symm Dd)]; exact h0, h1⟩
      · rw [upd_same, List.map_append]
        rfl
      · rcases List.mem_append.mp hy with hy | hy
        · exact hxs y hy
        · rw [List.mem_singleton] at hy
          subst hy
          by_cases g : M = 1
          · subst g
            rw [if_pos (decide_eq_true rfl)]
            omega
          · rw [if_neg (fun z => g (by have := of_decide_eq_true z; injection this))]
            omega
    · obtain ⟨xs, fx, dx, hl, hlen, hxs⟩ := h
      refine ⟨_, rfl, d, 3, n + 35, rfl, by decide, by decide, dx.le (by omega), fun v Hv v0 v1 fv dv => ?_⟩
      refine ⟨_, rfl, _, rfl, _, rfl, d, (A : Int), n + 34, rfl, by omega, by omega, dv, fun j Hj j0 j1 fj dj => ?_⟩
      obtain ⟨jn, rfl⟩ := Int.eq_ofNat_of_zero_le j0
      refine ⟨D, _, _, jn, rfl, rfl, fj _ _ Dd (fv _ _ Dd hl), ixN_nat (by rw [List.length_map, hlen]; omega), ?_⟩
      refine ⟨_, rfl, D, _, rfl, .inl ⟨SqL.of upd_same, fun t nt => ?_⟩⟩
      have es : (xs.map V.int).set jn (V.int v) = (xs.set jn v).map V.int := by rw [List.map_set]
      rw [es] at nt ⊢
      have f3 : Frm d H (upd Hj D (.lst ((xs.set jn v).map V.int))) := f2.trans (frm_new ((fx.trans fv).trans fj) hD)
      refine k t (xs.set jn v) _ (f3.trans (Frm.of_new nt)) ?_ ⟨SqT.of upd_same, by simp; omega, by simp; omega, fun y hy => ?_⟩
      · refine (Dk.same ?_ (new_same nt)).le (show n ≤ n + 34 by omega)
        obtain ⟨r, m, c, h0, h1⟩ := dj
        exact ⟨r, m, c, by rw [upd_ne (Ne.symm Dd)]; exact h0, h1⟩
      · rcases List.mem_or_eq_of_mem_set hy with hy | rfl
        · exact hxs y hy
        · omega
def spPlan (K : PySem.W.Frag) : Sp := fun vs H Q _ => ∃ (d : Addr) (n : Nat), vs = [.ref d, .int 60] ∧ Dk H d (n + 100) ∧ ∀ t q H', Frm d H H' → Dk H' d n → PlH K H' t q → Q (.ref t) H'
theorem scPl : FnScope ["deck", "most", "scheme", "turn", "begin"] ["deck", "most"] (defScope s_law_plan) := ⟨rfl, rfl, rfl, by decide +kernel, rfl, by decide +kernel, by decide +kernel⟩
theorem ok_law_plan (T : Txt K w mg) : FnOk P w K mg base CX0 2 (He.fAd K ("_law_plan", none)) (fdAt K (He.fAd K ("_law_plan", none))) ["deck", "most"] (spPlan K) := by
  refine T.F_law_plan.ok scPl (fun vs H Q E h => ?_) (fun cdv A outer s H vs Q E hr h => ?_)
  · obtain ⟨d, n, rfl, _⟩ := h
    rfl
  · obtain ⟨d, n, rfl, hd, k⟩ := h
    refine ⟨_, PSs.nox (pss_cons (ps_set (i := 2) scPl.nd rfl (Or.inl rfl) (pe_lst (pa_cons pe_int pa_nil)))
      (pss_cons (ps_for PassesOwn.never rfl (pi_range1 (by rfl) T.n_range (pa_cons (pe_call (ok_law_take T) (hr.mono (by decide)) (by rfl) T.g_law_take (T.F_law_take).kp T.b_law_take .nil pass0 (pa_cons (pv 0) (pa_cons pe_int pa_nil))) pa_nil)) (pg_name (i := 3) scPl.nd rfl (Or.inl rfl)) (pss_one (ps_expr (pe_bm PySem.F.plainAttrs_list PySem.F.slot_list_append PySem.F.type_list_append mt_append (pv 2) (pa_cons (pe_op op_add (pe_op op_add (pe_ix (r := rIxL K) ix_list (pv 2) (pe_un un_neg pe_int) (fun _ _ => rfl)) pe_int) (pe_call (ok_law_take T) (hr.mono (by decide)) (by rfl) T.g_law_take (T.F_law_take).kp T.b_law_take .nil pass0 (pa_cons (pv 0) (pa_cons (pe_ix (r := rIxL K) ix_list (pe_lst (pa_cons pe_int (pa_cons pe_int (pa_cons pe_int pa_nil)))) (pe_call (ok_law_take T) (hr.mono (by decide)) (by rfl) T.g_law_take (T.F_law_take).kp T.b_law_take .nil pass0 (pa_cons (pv 0) (pa_cons pe_int pa_nil))) (fun _ _ => rfl)) pa_nil)))) pa_nil)))))
      (pss_one (ps_ret (pe_callTy call_tuple_of (by rfl) T.n_tuple PyProof.Rows.Boot.«tuple» (pa_cons (pe_lc (own := [("begin", 4)]) (g := gName 4) (by rfl) scPl.nd (pi_list (pv 2)) (blkOk_by (own := [("begin", 4)]) (N := ["deck", "most", "scheme", "turn", "begin"]) (sc := defScope s_law_plan) (by decide +kernel)) (fun _ _ _ _ _ => pg_name (i := 4) scPl.nd rfl (Or.inl rfl)) (fun _ _ _ _ _ => pts_one (pt_cmpR op_le (pv 4) (pv 1) (nomark _))) (fun _ _ _ _ _ => (pv 4))) pa_nil)))))), ?_⟩
    refine ⟨(show 1 ≤ sizeLine by decide), fun l nl => ?_⟩
    have t1 := new_same (o := .lst [V.int 0]) nl
    have ld := hd.ne nl
    refine ⟨_, rfl, d, 12, n + 99, rfl, by decide, by decide, hd.same t1, fun X HX X0 X1 fX dX => ?_⟩
    obtain ⟨N, rfl⟩ := Int.eq_ofNat_of_zero_le X0
    have hl0 := fX l _ ld upd_same
    refine ⟨_, rfl, by omega, by omega, ?_⟩
    rw [show ((N : Nat) : Int).toNat = N from Int.toNat_natCast N]
    refine for_it (walk_range (lo := 0) (n := N)) (fun i σ H' => ∃ (v3 : Option V) (pre ys : List Nat) (b : Nat), σ = [some (.ref d), some (.int 60), some (.ref l), v3, none] ∧ Frm d H H' ∧ Dk H' d (n + 99 - 2 * i) ∧ H' l = some (.lst (nV (0 :: pre))) ∧ 0 :: pre = ys ++ [b] ∧ UpL 0 pre ∧ pre.length = i)
      ⟨_, [], [], 0, rfl, (Frm.of_same t1).trans fX, dX, hl0, rfl, trivial, rfl⟩ (fun _ _ _ _ _ => trivial) (fun i x σ H' H2 hi h y => ?_) (fun σ H' h => ?_)
    · obtain ⟨v3, pre, ys, b, rfl, fs, ds, hl, hy, hu, hp⟩ := h
      obtain ⟨rfl, rfl⟩ := y
      have hlast : atI (nV (0 :: pre)) (-1) = some (.int (b : Int)) := by
        rw [hy, ← nV_snoc]
        exact atI_last _ _
      refine ⟨_, rfl, .inl ⟨rfl, _, SqL.of hl⟩, _, rfl, _, rfl, l, _, _, _, rfl, rfl, SqL.of hl, hlast, _, _, rfl, rfl, ?_⟩
      refine ⟨_, rfl, (show 3 ≤ sizeLine by decide), fun p np => ?_⟩
      have t2 := new_same (o := .lst [V.int 1, V.int 3, V.int 12]) np
      refine ⟨_, rfl, d, 3, n + 98 - 2 * i, rfl, by decide, by decide, (ds.same t2).le (by omega), fun z Hz z0 z1 fz dz => ?_⟩
      have hp2 := fz p _ (ds.ne np) upd_same
      obtain ⟨M, hM1, hM2, hMt⟩ : ∃ M : Int, 1 ≤ M ∧ M ≤ 12 ∧ atI [V.int 1, V.int 3, V.int 12] z = some (.int M) := by
        have hx : z = 0 ∨ z = 1 ∨ z = 2 := by omega
        rcases hx with rfl | rfl | rfl
        · exact ⟨1, by decide, by decide, rfl⟩
        · exact ⟨3, by decide, by decide, rfl⟩
        · exact ⟨12, by decide, by decide, rfl⟩
      refine ⟨p, _, _, _, rfl, rfl, SqL.of hp2, hMt, d, M, n + 97 - 2 * i, rfl, by omega, by omega, dz.le (by omega), fun u Hu u0 u1 fu du => ?_⟩
      obtain ⟨U, rfl⟩ := Int.eq_ofNat_of_zero_le u0
      have hl2 := fu l _ ld (fz l _ ld (t2 _ _ hl))
      refine ⟨_, _, rfl, rfl, l, _, _, rfl, rfl, hl2, by rw [nV_len, List.length_cons]; exact Nat.lt_of_lt_of_le (show pre.length + 1 < 200 by omega) (by decide), _, pre ++ [b + 1 + U], 0 :: pre, b + 1 + U, rfl, ?_, ?_, ?_, rfl, upl_snoc hu hy (by omega), by simp [hp]⟩
      · exact frm_new (((fs.trans (Frm.of_same t2)).trans fz).trans fu) nl
      · obtain ⟨r, m, c, h0, h1⟩ := du.le (show n + 99 - 2 * (i + 1) ≤ n + 97 - 2 * i by omega)
        exact ⟨r, m, c, by rw [upd_ne (Ne.symm ld)]; exact h0, h1⟩
      · rw [upd_same, ← List.cons_append, ← nV_snoc]
        congr 4
    · obtain ⟨v3, pre, ys, b, rfl, fs, ds, hl, hy, hu, hp⟩ := h
      refine ⟨_, rfl, l, rfl, ⟨_, SqL.of hl⟩, fun D hD => ?_⟩
      have hlen : (0 :: pre).length ≤ 1000 := by simp only [List.length_cons]; omega
      refine lc_list (xs := nV (0 :: pre)) (fun i H2 => Acc H' D (fl (0 :: pre) (fun n => decide (n ≤ 60)) (fun n => .int (n : Int)) i) H2) (acc_0 hD) (fun i H2 _ h => SqL.of (h.1 _ _ hl)) (fun i x H2 hx h => ?_) (fun H2 h => ?_)
      · have hi : i < (0 :: pre).length := by
          have := (List.getElem?_eq_some_iff.mp hx).1
          rwa [nV_len] at this
        have hx0 : (0 :: pre)[i]? = some (0 :: pre)[i] := List.getElem?_eq_getElem hi
        rw [nV_at hx0] at hx
        cases hx
        refine ⟨rfl, ?_⟩
        refine ⟨_, rfl, _, rfl, _, _, rfl, rfl, _, rfl, ite2 (fun z => ?_) (fun z => ?_)⟩
        · have z := of_decide_eq_true z
          exact ⟨_, rfl, acc_yes hD h (Same.refl _) hx0 (decide_eq_true (by omega)) hlen⟩
        · exact acc_no h (Same.refl _) hx0 (decide_eq_false fun y => z (decide_eq_true (by omega)))
      · have h2 := h.2
        rw [nV_len, fl_all] at h2
        refine ⟨D, _, rfl, .inl ⟨SqL.of h2, fun t nt => ?_⟩⟩
        have t3 := new_same (o := .tup (((0 :: pre).filter fun n => decide (n ≤ 60)).map fun (n : Nat) => V.int (n : Int))) nt
        have s3 := h.1.trans t3
        exact k t (pre.filter fun n => decide (n ≤ 60)) _ (fs.trans (Frm.of_same s3)) ((ds.same s3).le (show n ≤ n + 99 - 2 * N by omega)) ⟨SqT.of upd_same, upl_filter _ hu, Nat.le_trans (List.length_filter_le _ _) (by omega)⟩
end
end K43
set_option maxRecDepth 100000
set_option maxHeartbeats 4000000
/-! The law's totals of what is left. -/
namespace K43
open PySem PySem.Spec PyProof.Rows L2 KF KD KG
/-- the row of the totals from b on -/
def ar (ws : List Int) (b n : Nat) : List V := (List.range (n + 1)).map fun i => .int (al ws b i)
theorem ar_len (ws : List Int) (b n : Nat) : (ar ws b n).length = n + 1 := by simp [ar]
theorem ar_last (ws : List Int) (b n : Nat) : ∃ xs, ar ws b n = xs ++ [V.int (al ws b n)] := ⟨(List.range n).map fun i => .int (al ws b i), by simp [ar, List.range_succ]⟩
theorem ar_succ (ws : List Int) (b n : Nat) : ar ws b n ++ [.int (al ws b n + wk ws (b + n) * (n : Int))] = ar ws b (n + 1) := by
  simp [ar, List.range_succ, al]
theorem ar_at (ws : List Int) {b n t : Nat} (h : t ≤ n) : (ar ws b n)[t]? = some (.int (al ws b t)) := by
  unfold ar
  rw [List.getElem?_map, List.getElem?_range (by omega)]
  rfl
def AlR (ws : List Int) (N n : Nat) (us : List V) (H : Hp) : Prop := us.length = n ∧ ∀ j, j < n → ∃ l, us[j]? = some (.ref l) ∧ H l = some (.lst (ar ws j (N - j)))
theorem AlR.s {ws : List Int} {N n : Nat} {us : List V} {H H' : Hp} (s : Same H H') (h : AlR ws N n us H) : AlR ws N n us H' := ⟨h.1, fun j hj => by
  obtain ⟨l, e1, e2⟩ := h.2 j hj
  exact ⟨l, e1, s _ _ e2⟩⟩
def LfR (ws : List Int) (N n : Nat) (us : List V) (H : Hp) : Prop := us.length = n ∧ ∀ t, t < n → ∃ (l : Addr) (row : List Int), us[t]? = some (.ref l) ∧ H l = some (.lst (row.map V.int)) ∧ row.length = N ∧ ∀ b, b < N → IsVal ws N t b (row.getD b 0)
theorem LfR.s {ws : List Int} {N n : Nat} {us : List V} {H H' : Hp} (s : Same H H') (h : LfR ws N n us H) : LfR ws N n us H' := ⟨h.1, fun j hj => by
  obtain ⟨l, row, e1, e2, e3⟩ := h.2 j hj
  exact ⟨l, row, e1, s _ _ e2, e3⟩⟩
theorem row_at {row : List Int} {b : Nat} (h : b < row.length) : (row.map V.int)[b]? = some (.int (row.getD b 0)) := by
  rw [List.getElem?_map, List.getD_eq_getElem?_getD, List.getElem?_eq_getElem h]
  rfl
theorem walk_r0 {n : Nat} : Walk (Itr 0 n) n (fun _ => True) (YFn fun i => .int ((i : Nat) : Int)) := by
  have h := walk_range (lo := 0) (n := n)
  simpa [Int.zero_add] using h
theorem walk_rN {b n : Nat} : Walk (Itr (b : Int) n) n (fun _ => True) (YFn fun i => .int ((b + i : Nat) : Int)) := by
  have h := walk_range (lo := (b : Int)) (n := n)
  simpa using h
theorem atI_end {xs : List V} {n : Nat} {v : V} (h : xs.length = n + 1) (e : xs[n]? = some v) : atI xs (-1) = some v := by
  have : xs = xs.take n ++ [v] := by
    have h1 : xs.take (n + 1) = xs := List.take_of_length_le (by omega)
    rw [List.take_add_one, e] at h1
    exact h1.symm
  rw [this]
  exact atI_last _ _
theorem ar_int {ws : List Int} {b n j : Nat} {l : Addr} : ¬ (ar ws b n)[j]? = some (.ref l) := fun h => by
  obtain ⟨i, _, e⟩ := List.mem_map.mp (List.mem_of_getElem? h)
  cases e
theorem AlR.upd {ws : List Int} {N n : Nat} {us : List V} {H : Hp} {A : Addr} {o : HO} (h : AlR ws N n us H) (hA : H A = some (.lst us)) : AlR ws N n us (upd H A o) := ⟨h.1, fun j hj => by
  obtain ⟨l, e1, e2⟩ := h.2 j hj
  refine ⟨l, e1, ?_⟩
  have lA : l ≠ A := fun e => by
    rw [e, hA] at e2
    injection e2 with e2
    injection e2 with e2
    rw [e2] at e1
    exact ar_int e1
  rw [upd_ne lA]
  exact e2⟩
theorem AlR.snoc {ws : List Int} {N n : Nat} {us : List V} {H : Hp} {l : Addr} (h : AlR ws N n us H) (hl : H l = some (.lst (ar ws n (N - n)))) : AlR ws N (n + 1) (us ++ [.ref l]) H := ⟨by simp [h.1], fun j hj => by
  rcases Nat.lt_or_ge j n with g | g
  · obtain ⟨l', e1, e2⟩ := h.2 j g
    exact ⟨l', by rw [List.getElem?_append_left (by rw [h.1]; exact g)]; exact e1, e2⟩
  · have : j = n := by omega
    subst this
    exact ⟨l, by rw [← h.1]; simp, hl⟩⟩
theorem LfR.upd {ws : List Int} {N n : Nat} {us : List V} {H : Hp} {A : Addr} {o : HO} (h : LfR ws N n us H) (hA : H A = some (.lst us)) : LfR ws N n us (upd H A o) := ⟨h.1, fun j hj => by
  obtain ⟨l, row, e1, e2, e3⟩ := h.2 j hj
  refine ⟨l, row, e1, ?_, e3⟩
  have lA : l ≠ A := fun e => by
    rw [e, hA] at e2
    injection e2 with e2
    injection e2 with e2
    rw [e2] at e1
    obtain ⟨i, _, e⟩ := List.mem_map.mp (List.mem_of_getElem? e1)
    cases e
  rw [upd_ne lA]
  exact e2⟩
theorem LfR.snoc {ws : List Int} {N n : Nat} {us : List V} {H : Hp} {l : Addr} {row : List Int} (h : LfR ws N n us H) (hl : H l = some (.lst (row.map V.int))) (hr : row.length = N) (hv : ∀ b, b < N → IsVal ws N n b (row.getD b 0)) : LfR ws N (n + 1) (us ++ [.ref l]) H := ⟨by simp [h.1], fun j hj => by
  rcases Nat.lt_or_ge j n with g | g
  · obtain ⟨l', row', e1, e2⟩ := h.2 j g
    exact ⟨l', row', by rw [List.getElem?_append_left (by rw [h.1]; exact g)]; exact e1, e2⟩
  · have : j = n := by omega
    subst this
    exact ⟨l, row, by rw [← h.1]; simp, hl, hr, hv⟩⟩
section
variable {P : Program} {w : World} {K : PySem.W.Frag} {mg : Str → Option Value} {base : Heap}
def spLl (K : PySem.W.Frag) : Sp := fun vs H Q _ => ∃ (a : Addr) (ws : List Int) (S : Nat), vs = [.ref a, .int (S : Int)] ∧ WtH K H a ws ∧ 1 ≤ S ∧ S ≤ 100 ∧
  ∀ c A L us vs H', Same H H' → SqT K H' c [.ref A, .ref L] → H' A = some (.lst us) → AlR ws ws.length ws.length us H' → H' L = some (.lst vs) → LfR ws ws.length S vs H' → Q (.ref c) H'
theorem scLl : FnScope ["loads", "space", "amount", "alone", "begin", "row", "k", "left", "turn", "ways"] ["loads", "space"] (defScope s_law_left) := ⟨rfl, rfl, rfl, by decide +kernel, rfl, by decide +kernel, by decide +kernel⟩
theorem ok_law_left (T : Txt K w mg) : FnOk P w K mg base CX0 1 (He.fAd K ("_law_left", none)) (fdAt K (He.fAd K ("_law_left", none))) ["loads", "space"] (spLl K) := by
  refine T.F_law_left.ok scLl (fun vs H Q E h => ?_) (fun cdv A outer s H vs Q E hr h => ?_)
  · obtain ⟨a, ws, S, rfl, _⟩ := h
    rfl
  · obtain ⟨a, ws, S, rfl, hw, S1, S2, k⟩ := h
    refine ⟨_, PSs.nox (pss_cons (ps_set (i := 2) scLl.nd rfl (Or.inr rfl) (pe_callB (r := Evl.rLenS K) call_len_seq (by rfl) T.n_len PyProof.Rows.Boot.«len» (pa_cons (pv 0) pa_nil)))
      (pss_cons (ps_set (i := 3) scLl.nd rfl (Or.inr rfl) (pe_lst pa_nil))
      (pss_cons (ps_for PassesOwn.never rfl (pi_range1 (by rfl) T.n_range (pa_cons (pv 2) pa_nil)) (pg_name (i := 4) scLl.nd rfl (Or.inr rfl)) (pss_cons (ps_set (i := 5) scLl.nd rfl (Or.inl rfl) (pe_lst (pa_cons pe_int pa_nil)))
      (pss_cons (ps_for PassesOwn.never rfl (pi_range2 (by rfl) T.n_range (pa_cons (pv 4) (pa_cons (pv 2) pa_nil))) (pg_name (i := 6) scLl.nd rfl (Or.inl rfl)) (pss_one (ps_expr (pe_bm PySem.F.plainAttrs_list PySem.F.slot_list_append PySem.F.type_list_append mt_append (pv 5) (pa_cons (pe_op op_add (pe_ix (r := rIxL K) ix_list (pv 5) (pe_un un_neg pe_int) (fun _ _ => rfl)) (pe_op op_mulW (pe_ix (r := rIxT K) ix_tup (pv 0) (pv 6) (fun _ _ => rfl)) (pe_op op_sub (pv 6) (pv 4)))) pa_nil)))))
      (pss_one (ps_expr (pe_bm PySem.F.plainAttrs_list PySem.F.slot_list_append PySem.F.type_list_append mt_append (pv 3) (pa_cons (pv 5) pa_nil)))))))
      (pss_cons (ps_set (i := 7) scLl.nd rfl (Or.inr rfl) (pe_lst (pa_cons (pe_lc (own := [("begin", 4)]) (g := gName 4) (tt := tYes) (by rfl) scLl.nd (pi_range1 (by rfl) T.n_range (pa_cons (pv 2) pa_nil)) (blkOk_by (own := [("begin", 4)]) (N := ["loads", "space", "amount", "alone", "begin", "row", "k", "left", "turn", "ways"]) (sc := defScope s_law_left) (by decide +kernel)) (fun _ _ _ _ _ => pg_name (i := 4) scLl.nd rfl (Or.inl rfl)) (fun _ _ _ _ _ => pts_nil) (fun _ _ _ _ _ => (pe_ix (r := rIxL K) ix_list (pe_ix (r := rIxL K) ix_list (pv 3) (pv 4) (fun _ _ => rfl)) (pe_op op_sub (pv 2) (pv 4)) (fun _ _ => rfl)))) pa_nil)))
      (pss_cons (ps_for PassesOwn.never rfl (pi_range1 (by rfl) T.n_range (pa_cons (pe_op op_sub (pv 1) pe_int) pa_nil)) (pg_name (i := 8) scLl.nd rfl (Or.inl rfl)) (pss_cons (ps_set (i := 5) scLl.nd rfl (Or.inl rfl) (pe_lst pa_nil))
      (pss_cons (ps_for PassesOwn.never rfl (pi_range1 (by rfl) T.n_range (pa_cons (pv 2) pa_nil)) (pg_name (i := 4) scLl.nd rfl (Or.inr rfl)) (pss_cons (ps_setLc (i := 9) (own := [("k", 6)]) (g := gName 6) (tt := tYes) (by rfl) scLl.nd rfl rfl (sw_true rfl rfl rfl (by decide +kernel)) (pi_range2 (by rfl) T.n_range (pa_cons (pe_op op_add (pv 4) pe_int) (pa_cons (pv 2) pa_nil))) (blkOk_by (own := [("k", 6)]) (N := ["loads", "space", "amount", "alone", "begin", "row", "k", "left", "turn", "ways"]) (sc := defScope s_law_left) (by decide +kernel)) (fun _ _ _ _ _ => pg_name (i := 6) scLl.nd rfl (Or.inl rfl)) (fun _ _ _ _ _ => pts_nil) (fun _ _ _ _ _ => (pe_op op_add (pe_ix (r := rIxL K) ix_list (pe_ix (r := rIxL K) ix_list (pv 3) (pv 4) (fun _ _ => rfl)) (pe_op op_sub (pv 6) (pv 4)) (fun _ _ => rfl)) (pe_ix (r := rIxL K) ix_list (pe_ix (r := rIxL K) ix_list (pv 7) (pe_un un_neg pe_int) (fun _ _ => rfl)) (pv 6) (fun _ _ => rfl)))))
      (pss_one (ps_expr (pe_bm PySem.F.plainAttrs_list PySem.F.slot_list_append PySem.F.type_list_append mt_append (pv 5) (pa_cons (pe_callB (cr_min rfl) (by rfl) T.n_min PyProof.Rows.Boot.«min» (pa_cons (pe_op op_cat (pv 9) (pe_lst (pa_cons (pe_ix (r := rIxL K) ix_list (pe_ix (r := rIxL K) ix_list (pv 7) pe_int (fun _ _ => rfl)) (pv 4) (fun _ _ => rfl)) pa_nil))) pa_nil)) pa_nil))))))
      (pss_one (ps_expr (pe_bm PySem.F.plainAttrs_list PySem.F.slot_list_append PySem.F.type_list_append mt_append (pv 7) (pa_cons (pv 5) pa_nil)))))))
      (pss_one (ps_ret (pe_tup (pa_cons (pv 3) (pa_cons (pv 7) pa_nil)))))))))), ?_⟩
    have hN := hw.2.2.1
    have hN0 := hw.2.1
    refine ⟨_, rfl, a, _, rfl, .inr hw.1, ?_⟩
    rw [List.length_map]
    revert k
    obtain ⟨N, hNe⟩ : ∃ N, N = ws.length := ⟨_, rfl⟩
    rw [← hNe] at hN hN0 ⊢
    intro k
    refine ⟨(show 0 ≤ sizeLine by decide), fun A nA => ?_⟩
    have tA := new_same (o := .lst []) nA
    refine ⟨_, rfl, (N : Int), rfl, by omega, by omega, ?_⟩
    rw [Int.toNat_natCast]
    refine for_it (walk_r0 (n := N)) (fun i σ H' => ∃ (v4 v5 v6 : Option V) (us : List V), σ = [some (.ref a), some (.int (S : Int)), some (.int (N : Int)), some (.ref A), v4, v5, v6, none, none, none] ∧ Same H H' ∧ H' A = some (.lst us) ∧ AlR ws N i us H')
      ⟨_, _, _, [], rfl, tA, upd_same, rfl, fun j hj => absurd hj (Nat.not_lt_zero _)⟩ (fun _ _ _ _ _ => trivial) (fun i x σ H1 H2 hi h y => ?_) (fun σ H1 h => ?_)
    · obtain ⟨v4, v5, v6, us, rfl, s1, hA, hal⟩ := h
      obtain ⟨rfl, rfl⟩ := y
      refine ⟨(show 1 ≤ sizeLine by decide), fun R nR => ?_⟩
      have tR := new_same (o := .lst [V.int 0]) nR
      refine ⟨_, rfl, _, rfl, (i : Int), (N : Int), rfl, ⟨by omega, by omega, by omega, by omega⟩, ?_⟩
      rw [show ((N : Int) - (i : Int)).toNat = N - i by omega]
      refine for_it (walk_rN (b := i) (n := N - i)) (fun j σ H' => ∃ (v6 : Option V), σ = [some (.ref a), some (.int (S : Int)), some (.int (N : Int)), some (.ref A), some (.int (i : Int)), some (.ref R), v6, none, none, none] ∧ Same H2 H' ∧ H' R = some (.lst (ar ws i j)))
        ⟨_, rfl, tR, upd_same⟩ (fun _ _ _ _ _ => trivial) (fun j x σ H3 H4 hj h y => ?_) (fun σ H3 h => ?_)
      · obtain ⟨v6, rfl, s3, hR⟩ := h
        obtain ⟨rfl, rfl⟩ := y
        obtain ⟨xs, hxs⟩ := ar_last ws i j
        have hij : i + j < ws.length := by omega
        obtain ⟨e1, e2⟩ := wt_at hij
        obtain ⟨w0, w1⟩ := hw.2.2.2 _ e2
        refine ⟨_, rfl, .inl ⟨rfl, _, SqL.of hR⟩, _, rfl, _, rfl, R, _, _, _, rfl, rfl, SqL.of hR, (by rw [hxs]; exact atI_last _ _), _, rfl, _, rfl, a, _, _, _, rfl, rfl, (hw.tf (same_tf (s1.trans s3))).1, atI_nat e1, _, rfl, _, rfl, _, _, rfl, rfl, _, _, rfl, rfl, mulc w0 (by omega) (by omega) (by omega), _, _, rfl, rfl, ?_⟩
        refine ⟨R, _, _, rfl, rfl, hR, by rw [ar_len]; exact Nat.lt_of_lt_of_le (show j + 1 < 1000 by omega) (by decide), _, rfl, fun bb o z => ?_, ?_⟩
        · rw [upd_ne (ne_of_none z nR)]
          exact s3 _ _ z
        · rw [upd_same, ← ar_succ, show ((i + j : Nat) : Int) - (i : Int) = (j : Nat) by omega]
      · obtain ⟨v6, rfl, s3, hR⟩ := h
        have hA3 := s3 _ _ hA
        have h1 : AlR ws N (i + 1) (us ++ [.ref R]) H3 := (hal.s s3).snoc hR
        refine ⟨_, rfl, .inl ⟨rfl, _, SqL.of hA3⟩, _, rfl, A, _, _, rfl, rfl, hA3, by rw [hal.1]; exact Nat.lt_of_lt_of_le (show i < 1000 by omega) (by decide), _, _, _, us ++ [.ref R], rfl, fun bb o z => ?_, upd_same, ?_⟩
        · rw [upd_ne (ne_of_none z nA)]
          exact s3 _ _ (s1 _ _ z)
        · have RA : R ≠ A := fun e => by rw [e, hA] at nR; cases nR
          exact ((hal.s s3).upd hA3).snoc (by rw [upd_ne RA]; exact hR)
    · obtain ⟨v4, v5, v6, us, rfl, s1, hA, hal⟩ := h
      refine ⟨_, rfl, (N : Int), rfl, by omega, by omega, fun D hD => ?_⟩
      rw [Int.toNat_natCast]
      refine lc_it (walk_r0 (n := N)) (fun i H' => Acc H1 D (fl (List.range N) (fun _ => true) (fun b => .int (al ws b (N - b))) i) H') (acc_0 hD) (fun _ _ _ _ => trivial) (fun i x H2 H3 hi h y => ?_) (fun H2 h => ?_)
      · obtain ⟨rfl, rfl⟩ := y
        obtain ⟨l, e1, e2⟩ := (hal.s h.1).2 i hi
        refine ⟨rfl, ?_⟩
        dsimp only [tYes]
        rw [if_pos rfl]
        refine ⟨_, rfl, _, rfl, A, _, _, _, rfl, rfl, SqL.of (h.1 _ _ hA), atI_nat e1, _, rfl, _, rfl, _, _, rfl, rfl, l, _, _, _, rfl, rfl, SqL.of e2, at_of (j := N - i) (by omega) (ar_at ws (Nat.le_refl _)), ?_⟩
        exact acc_yes (x := i) hD h (Same.refl _) (rng_at hi) rfl (by rw [List.length_range]; omega)
      · obtain ⟨s2, hD2⟩ := h
        rw [fl_rng] at hD2
        refine ⟨(show 1 ≤ sizeLine by decide), fun L nL => ?_⟩
        have tL := new_same (o := .lst [V.ref D]) nL
        have hlf : LfR ws N 1 [V.ref D] (upd H2 L (.lst [V.ref D])) := by
          refine LfR.snoc (us := []) (n := 0) (row := (List.range N).map fun b => al ws b (N - b)) ⟨rfl, fun j hj => absurd hj (Nat.not_lt_zero _)⟩ (by rw [tL _ _ hD2, List.map_map]; rfl) (by simp) (fun b hb => ?_)
          rw [List.getD_eq_getElem?_getD, List.getElem?_map, List.getElem?_range hb]
          exact val_zero hb
        have s12 := s1.trans s2
        have hA2 := s2 _ _ hA
        have hal2 := hal.s s2
        refine ⟨_, rfl, _, _, rfl, rfl, _, rfl, by omega, by omega, ?_⟩
        rw [show ((S : Int) - 1).toNat = S - 1 by omega]
        refine for_it (walk_r0 (n := S - 1)) (fun t σ H' => ∃ (v4 v5 v6 v8 v9 : Option V) (vs : List V), σ = [some (.ref a), some (.int (S : Int)), some (.int (N : Int)), some (.ref A), v4, v5, v6, some (.ref L), v8, v9] ∧ Same H2 H' ∧ H' L = some (.lst vs) ∧ LfR ws N (t + 1) vs H')
          ⟨_, _, _, _, _, _, rfl, tL, upd_same, hlf⟩ (fun _ _ _ _ _ => trivial) (fun t x σ H3 H4 ht h y => ?_) (fun σ H3 h => ?_)
        · obtain ⟨v4, v5, v6, v8, v9, vs, rfl, s3, hL, hlf⟩ := h
          obtain ⟨rfl, rfl⟩ := y
          refine ⟨(show 0 ≤ sizeLine by decide), fun R nR => ?_⟩
          have tR := new_same (o := .lst []) nR
          refine ⟨_, rfl, (N : Int), rfl, by omega, by omega, ?_⟩
          rw [Int.toNat_natCast]
          obtain ⟨l2, row2, f1, f2, f3, f4⟩ := hlf.2 t (by omega)
          obtain ⟨l0, row0, g1, g2, g3, g4⟩ := hlf.2 0 (by omega)
          have hlast : atI vs (-1) = some (.ref l2) := atI_end hlf.1 f1
          refine for_it (walk_r0 (n := N)) (fun b σ H' => ∃ (v4 v6 v9 : Option V) (row : List Int), σ = [some (.ref a), some (.int (S : Int)), some (.int (N : Int)), some (.ref A), v4, some (.ref R), v6, some (.ref L), some (.int (t : Int)), v9] ∧ Same H4 H' ∧ H' R = some (.lst (row.map V.int)) ∧ row.length = b ∧ ∀ j, j < b → IsVal ws N (t + 1) j (row.getD j 0))
            ⟨_, _, _, [], rfl, tR, upd_same, rfl, fun j hj => absurd hj (Nat.not_lt_zero _)⟩ (fun _ _ _ _ _ => trivial) (fun b x σ H5 H6 hb h y => ?_) (fun σ H5 h => ?_)
          · obtain ⟨v4, v6, v9, row, rfl, s5, hR, hrl, hrv⟩ := h
            obtain ⟨rfl, rfl⟩ := y
            have s25 := s3.trans s5
            obtain ⟨lb, a1, a2⟩ := (hal2.s s25).2 b hb
            refine ⟨_, rfl, _, _, rfl, rfl, _, rfl, ((b + 1 : Nat) : Int), (N : Int), rfl, ⟨by omega, by omega, by omega, by omega⟩, fun D5 hD5 => ?_⟩
            rw [show ((N : Int) - ((b + 1 : Nat) : Int)).toNat = N - (b + 1) by omega]
            refine lc_it (walk_rN (b := b + 1) (n := N - (b + 1))) (fun i H' => Acc H6 D5 (fl (List.range (N - (b + 1))) (fun _ => true) (fun j => .int (al ws b (j + 1) + row2.getD (b + 1 + j) 0)) i) H') (acc_0 hD5) (fun _ _ _ _ => trivial) (fun i x H7 H8 hi h y => ?_) (fun H7 h => ?_)
            · obtain ⟨rfl, rfl⟩ := y
              refine ⟨rfl, ?_⟩
              dsimp only [tYes]
              rw [if_pos rfl]
              have s57 := s5.trans h.1
              refine ⟨_, rfl, _, rfl, A, _, _, _, rfl, rfl, SqL.of ((s3.trans s57) _ _ hA2), atI_nat a1, _, rfl, _, rfl, _, _, rfl, rfl, lb, _, _, _, rfl, rfl, SqL.of (h.1 _ _ a2), at_of (j := i + 1) (by omega) (ar_at ws (by omega)), ?_⟩
              refine ⟨_, rfl, _, rfl, L, _, _, _, rfl, rfl, SqL.of (s57 _ _ hL), hlast, _, rfl, l2, _, _, _, rfl, rfl, SqL.of (s57 _ _ f2), atI_nat (row_at (by omega)), _, _, rfl, rfl, ?_⟩
              exact acc_yes (x := i) hD5 h (Same.refl _) (rng_at hi) rfl (by rw [List.length_range]; omega)
            · obtain ⟨s7, hD7⟩ := h
              rw [fl_rng] at hD7
              have s57 := s5.trans s7
              refine ⟨_, rfl, .inl ⟨rfl, _, SqL.of (s7 _ _ hR)⟩, _, rfl, _, rfl, L, _, _, _, rfl, rfl, SqL.of (s57 _ _ hL), atI_nat (j := 0) g1, _, rfl, l0, _, _, _, rfl, rfl, SqL.of (s57 _ _ g2), atI_nat (row_at (by omega)), (show 1 ≤ sizeLine by decide), fun p np => ?_⟩
              have tp := new_same (o := .lst [V.int (row0.getD b 0)]) np
              refine ⟨D5, p, _, _, rfl, rfl, tp _ _ hD7, upd_same, by simp; exact Nat.le_trans (show N - (b + 1) + 1 ≤ 100 by omega) (by decide), fun p2 np2 => ?_⟩
              have tp2 := new_same (o := .lst ((List.range (N - (b + 1))).map (fun j => V.int (al ws b (j + 1) + row2.getD (b + 1 + j) 0)) ++ [V.int (row0.getD b 0)])) np2
              refine ⟨p2, ((List.range (N - (b + 1))).map fun j => al ws b (j + 1) + row2.getD (b + 1 + j) 0) ++ [row0.getD b 0], rfl, SqL.of (by rw [upd_same, List.map_append, List.map_map]; rfl), by simp, fun m hm hle => ?_⟩
              have s8 := (s7.trans tp).trans tp2
              have hR8 := s8 _ _ hR
              have hv0 : row0.getD b 0 = al ws b (N - b) := by
                obtain ⟨q, x1, x2, x3⟩ := (g4 b hb).ex
                have : q = [] := List.eq_nil_of_length_eq_zero (by omega)
                subst this
                exact x3.symm
              have hm' : IsVal ws N (t + 1) b m := by
                refine val_step (f := fun k => row2.getD k 0) hb (fun k _ k2 => f4 k k2) ?_ (by rw [← hv0]; exact hle _ (List.mem_append_right _ (List.mem_singleton.mpr rfl))) (fun k k1 k2 => ?_)
                · rcases List.mem_append.mp hm with h | h
                  · obtain ⟨j, hj, rfl⟩ := List.mem_map.mp h
                    have := List.mem_range.mp hj
                    exact .inr ⟨b + 1 + j, by omega, by omega, by rw [show b + 1 + j - b = j + 1 by omega]⟩
                  · rw [List.mem_singleton] at h
                    exact .inl (h.trans hv0)
                · have h1 := hle _ (List.mem_append_left _ (List.mem_map.mpr ⟨k - (b + 1), List.mem_range.mpr (by omega), rfl⟩))
                  rw [show k - (b + 1) + 1 = k - b by omega, show b + 1 + (k - (b + 1)) = k by omega] at h1
                  exact h1
              refine ⟨R, _, _, rfl, rfl, hR8, by rw [List.length_map, hrl]; exact Nat.lt_of_lt_of_le (show b < 1000 by omega) (by decide), _, _, _, row ++ [m], rfl, fun bb o z => ?_, by rw [upd_same, List.map_append]; rfl, by simp [hrl], fun j hj => ?_⟩
              · rw [upd_ne (ne_of_none z nR)]
                exact (s5.trans s8) _ _ z
              · rw [List.getD_eq_getElem?_getD]
                rcases Nat.lt_or_ge j b with g | g
                · rw [List.getElem?_append_left (by omega), ← List.getD_eq_getElem?_getD]
                  exact hrv j g
                · have : j = row.length := by omega
                  subst this
                  have hjb : row.length = b := hrl
                  rw [hjb]
                  simp [← hjb]
                  rw [hjb]
                  exact hm'
          · obtain ⟨v4, v6, v9, row, rfl, s5, hR, hrl, hrv⟩ := h
            have hL5 := s5 _ _ hL
            have hlf5 := hlf.s s5
            refine ⟨_, rfl, .inl ⟨rfl, _, SqL.of hL5⟩, _, rfl, L, _, _, rfl, rfl, hL5, by rw [hlf.1]; exact Nat.lt_of_lt_of_le (show t + 1 < 1000 by omega) (by decide), _, _, _, _, _, vs ++ [.ref R], rfl, fun bb o z => ?_, upd_same, ?_⟩
            · rw [upd_ne (ne_of_none z nL)]
              exact s5 _ _ (s3 _ _ z)
            · have RL : R ≠ L := fun e => by rw [e, hL] at nR; cases nR
              exact (hlf5.upd hL5).snoc (by rw [upd_ne RL]; exact hR) hrl hrv
        · obtain ⟨v4, v5, v6, v8, v9, vs, rfl, s3, hL, hlf⟩ := h
          refine ⟨_, rfl, _, rfl, (show 2 ≤ sizeLine by decide), fun c nc => ?_⟩
          have tc := new_same (o := .tup [V.ref A, V.ref L]) nc
          have sA := s3.trans tc
          have hlf' := hlf.s tc
          rw [show S - 1 + 1 = S by omega] at hlf'
          exact k c A L us vs _ (s12.trans sA) (SqT.of upd_same) (sA _ _ hA2) (hal2.s sA) (tc _ _ hL) hlf'
end
end K43
set_option maxRecDepth 100000
set_option maxHeartbeats 4000000
/-! The law's best and worst. -/
namespace K43
open PySem PySem.Spec PyProof.Rows L2 KF KD KG
theorem walk_down {S : Nat} : Walk (Itc ((S : Int) - 1) (-1) (S - 1)) (S - 1) (fun _ => True) (YFn fun i => .int ((S - 1 - i : Nat) : Int)) := by
  have h := walk_rangeC (lo := (S : Int) - 1) (c := -1) (n := S - 1)
  refine ⟨h.goes, h.stops, fun i H x H' hi g y => ?_⟩
  obtain ⟨rfl, rfl⟩ := h.yields i H x H' hi g y
  refine ⟨rfl, ?_⟩
  show V.int ((S : Int) - 1 + (i : Nat) * (-1)) = V.int ((S - 1 - i : Nat) : Int)
  congr 1
  omega
theorem first_of {P : Nat → Bool} : ∀ {n : Nat}, (∃ j, j < n ∧ P j = true) → ∃ x, ((List.range n).filter P)[0]? = some x ∧ x < n ∧ P x = true ∧ ∀ j, j < x → P j = false
  | 0, h => by
    obtain ⟨j, h, _⟩ := h
    omega
  | n + 1, h => by
    rw [List.range_succ, List.filter_append]
    by_cases g : ∃ j, j < n ∧ P j = true
    · obtain ⟨x, h1, h2, h3, h4⟩ := first_of g
      refine ⟨x, ?_, by omega, h3, h4⟩
      rw [List.getElem?_append_left (List.getElem?_eq_some_iff.mp h1).1]
      exact h1
    · obtain ⟨j, h1, h2⟩ := h
      have hj : j = n := by
        rcases Nat.lt_or_ge j n with z | z
        · exact absurd ⟨j, z, h2⟩ g
        · omega
      subst hj
      have hno : ∀ i, i < j → P i = false := fun i hi => by
        cases e : P i with
        | false => rfl
        | true => exact absurd ⟨i, hi, e⟩ g
      refine ⟨j, ?_, by omega, h2, hno⟩
      have : (List.range j).filter P = [] := by
        rw [List.filter_eq_nil_iff]
        intro i hi
        rw [hno i (List.mem_range.mp hi)]
        decide
      rw [this, List.nil_append, List.filter_cons, if_pos h2]
      rfl
section
variable {P : Program} {w : World} {K : PySem.W.Frag} {mg : Str → Option Value} {base : Heap}
theorem scLb : FnScope ["loads", "space", "alone", "left", "scheme", "amount", "turn", "begin", "due", "ways", "k"] ["loads", "space"] (defScope s_law_best) := ⟨rfl, rfl, rfl, by decide +kernel, rfl, by decide +kernel, by decide +kernel⟩
theorem ok_law_best (T : Txt K w mg) : FnOk P w K mg base CX0 2 (He.fAd K ("_law_best", none)) (fdAt K (He.fAd K ("_law_best", none))) ["loads", "space"] (spBp K) := by
  refine T.F_law_best.ok scLb (fun vs H Q E h => ?_) (fun cdv A outer s H vs Q E hr h => ?_)
  · obtain ⟨a, ws, S, rfl, _⟩ := h
    rfl
  · obtain ⟨a, ws, S, rfl, hw, S1, S2, k⟩ := h
    refine ⟨_, PSs.nox (pss_cons (ps_asg (pe_call (ok_law_left T) (hr.mono (by decide)) (by rfl) T.g_law_left (T.F_law_left).kp T.b_law_left .nil pass0 (pa_cons (pv 0) (pa_cons (pv 1) pa_nil))) (pg_tup (by rfl) (pgs_cons (pg_name (i := 2) scLb.nd rfl (Or.inr rfl)) (pgs_cons (pg_name (i := 3) scLb.nd rfl (Or.inr rfl)) pgs_nil))))
      (pss_cons (ps_par (i := 4) (j := 5) (by rfl) scLb.nd rfl rfl (by decide) rfl rfl (pa_cons (pe_lst (pa_cons pe_int pa_nil)) (pa_cons (pe_callB (r := Evl.rLenS K) call_len_seq (by rfl) T.n_len PyProof.Rows.Boot.«len» (pa_cons (pv 0) pa_nil)) pa_nil)) (by rfl))
      (pss_cons (ps_for PassesOwn.never rfl (pi_range3 (by rfl) T.n_range (pa_cons (pe_op op_sub (pv 1) pe_int) (pa_cons pe_int (pa_cons (pe_un un_neg pe_int) pa_nil)))) (pg_name (i := 6) scLb.nd rfl (Or.inr rfl)) (pss_cons (ps_set (i := 7) scLb.nd rfl (Or.inr rfl) (pe_ix (r := rIxL K) ix_list (pv 4) (pe_un un_neg pe_int) (fun _ _ => rfl)))
      (pss_cons (ps_set (i := 8) scLb.nd rfl (Or.inr rfl) (pe_ix (r := rIxL K) ix_list (pe_ix (r := rIxL K) ix_list (pv 3) (pv 6) (fun _ _ => rfl)) (pv 7) (fun _ _ => rfl)))
      (pss_cons (ps_setLc (i := 9) (own := [("k", 10)]) (g := gName 10) (by rfl) scLb.nd rfl rfl (sw_true rfl rfl rfl (by decide +kernel)) (pi_range2 (by rfl) T.n_range (pa_cons (pe_op op_add (pv 7) pe_int) (pa_cons (pv 5) pa_nil))) (blkOk_by (own := [("k", 10)]) (N := ["loads", "space", "alone", "left", "scheme", "amount", "turn", "begin", "due", "ways", "k"]) (sc := defScope s_law_best) (by decide +kernel)) (fun _ _ _ _ _ => pg_name (i := 10) scLb.nd rfl (Or.inl rfl)) (fun _ _ _ _ _ => pts_one (pt_cmpR op_eq (pe_op op_add (pe_ix (r := rIxL K) ix_list (pe_ix (r := rIxL K) ix_list (pv 2) (pv 7) (fun _ _ => rfl)) (pe_op op_sub (pv 10) (pv 7)) (fun _ _ => rfl)) (pe_ix (r := rIxL K) ix_list (pe_ix (r := rIxL K) ix_list (pv 3) (pe_op op_sub (pv 6) pe_int) (fun _ _ => rfl)) (pv 10) (fun _ _ => rfl))) (pv 8) (nomark _))) (fun _ _ _ _ _ => (pv 10)))
      (pss_cons (ps_if (pt_cmpR op_eq (pe_ix (r := rIxL K) ix_list (pe_ix (r := rIxL K) ix_list (pv 3) pe_int (fun _ _ => rfl)) (pv 7) (fun _ _ => rfl)) (pv 8) (nomark _)) (pss_one (ps_ret (pe_callTy call_tuple_of (by rfl) T.n_tuple PyProof.Rows.Boot.«tuple» (pa_cons (pv 4) pa_nil)))) pss_nil)
      (pss_one (ps_expr (pe_bm PySem.F.plainAttrs_list PySem.F.slot_list_append PySem.F.type_list_append mt_append (pv 4) (pa_cons (pe_ix (r := rIxL K) ix_list (pv 9) pe_int (fun _ _ => rfl)) pa_nil)))))))))
      (pss_one (ps_ret (pe_callTy call_tuple_of (by rfl) T.n_tuple PyProof.Rows.Boot.«tuple» (pa_cons (pv 4) pa_nil))))))), ?_⟩
    have hN := hw.2.2.1
    have hN0 := hw.2.1
    refine ⟨_, rfl, _, rfl, a, ws, S, rfl, hw, S1, S2, fun c A L us vs H1 sH hc hA hal hL hlf => ?_⟩
    refine ⟨c, _, rfl, hc, rfl, _, _, rfl, _, _, rfl, rfl, ?_⟩
    have hw1 := hw.tf (same_tf sH)
    refine ⟨(show 1 ≤ sizeLine by decide), fun sc nsc => ?_⟩
    have ts := new_same (o := .lst [V.int 0]) nsc
    refine ⟨_, rfl, a, _, rfl, .inr (hw1.tf (same_tf ts)).1, ?_⟩
    rw [List.length_map]
    refine ⟨_, _, rfl, ?_⟩
    revert k hal hlf
    obtain ⟨N, hNe⟩ : ∃ N, N = ws.length := ⟨_, rfl⟩
    rw [← hNe] at hN hN0 ⊢
    intro k hal hlf
    refine ⟨_, rfl, _, _, rfl, rfl, _, rfl, (S : Int) - 1, 0, -1, S - 1, rfl, ?_, ?_⟩
    · have h := RgC.neg (i := (S : Int) - 1) (j := 0) (by omega) (by omega) (by omega) (by omega)
      rwa [show ((S : Int) - 1 - 0).toNat = S - 1 by omega] at h
    refine for_it walk_down (fun i σ H' => ∃ (v6 v7 v8 v9 : Option V) (pre ys : List Nat) (b : Nat) (cc : Int), σ = [some (.ref a), some (.int (S : Int)), some (.ref A), some (.ref L), some (.ref sc), some (.int (N : Int)), v6, v7, v8, v9, none] ∧
      Same H1 H' ∧ H' sc = some (.lst (nV (0 :: pre))) ∧ 0 :: pre = ys ++ [b] ∧ pre.length = i ∧ b < N ∧ ∀ r, IsOpt ws N (S - 1 - i + 1) b r → IsOpt ws N S 0 (cc + r.1, ys ++ r.2))
      ⟨_, _, _, _, [], [], 0, 0, rfl, ts, upd_same, rfl, rfl, hN0, fun r hr => by
        rw [show S - 1 - 0 + 1 = S by omega] at hr
        rw [Int.zero_add]
        exact hr⟩ (fun _ _ _ _ _ => trivial) (fun i x σ H2 H3 hi h y => ?_) (fun σ H2 h => ?_)
    · obtain ⟨v6, v7, v8, v9, pre, ys, b, cc, rfl, s2, hsc, hy, hp, hb, hinv⟩ := h
      obtain ⟨rfl, rfl⟩ := y
      obtain ⟨m, hm⟩ : ∃ m, S - 1 - i = m + 1 := ⟨S - 1 - i - 1, by omega⟩
      have hlast : atI (nV (0 :: pre)) (-1) = some (.int (b : Int)) := by
        rw [hy, ← nV_snoc]
        exact atI_last _ _
      have hL2 := s2 _ _ hL
      have hA2 := s2 _ _ hA
      have hlf2 := hlf.s s2
      obtain ⟨lt, rt, t1, t2, t3, t4⟩ := hlf2.2 (m + 1) (by omega)
      obtain ⟨lm, rm, m1, m2, m3, m4⟩ := hlf2.2 m (by omega)
      obtain ⟨l0, r0, g1, g2, g3, g4⟩ := hlf2.2 0 (by omega)
      obtain ⟨lb, b1, b2⟩ := (hal.s s2).2 b hb
      have hv := t4 b hb
      obtain ⟨v, hve⟩ : ∃ v, v = rt.getD b 0 := ⟨_, rfl⟩
      rw [← hve] at hv
      have et : (rt.map V.int)[b]? = some (.int v) := by rw [hve]; exact row_at (by omega)
      refine ⟨_, rfl, _, rfl, sc, _, _, _, rfl, rfl, SqL.of hsc, hlast, ?_⟩
      refine ⟨_, rfl, _, rfl, L, _, _, _, rfl, rfl, SqL.of hL2, at_of (j := m + 1) (by omega) t1, _, rfl, lt, _, _, _, rfl, rfl, SqL.of t2, atI_nat et, ?_⟩
      refine ⟨_, rfl, _, _, rfl, rfl, _, rfl, ((b + 1 : Nat) : Int), (N : Int), rfl, ⟨by omega, by omega, by omega, by omega⟩, fun D hD => ?_⟩
      rw [show ((N : Int) - ((b + 1 : Nat) : Int)).toNat = N - (b + 1) by omega]
      refine lc_it (walk_rN (b := b + 1) (n := N - (b + 1))) (fun i H' => Acc H3 D (fl (List.range (N - (b + 1))) (fun j => decide (al ws b (j + 1) + rm.getD (b + 1 + j) 0 = v)) (fun j => .int ((b + 1 + j : Nat) : Int)) i) H') (acc_0 hD) (fun _ _ _ _ => trivial) (fun j x H4 H5 hj h y => ?_) (fun H4 h => ?_)
      · obtain ⟨rfl, rfl⟩ := y
        refine ⟨rfl, ?_⟩
        refine ⟨_, rfl, _, rfl, A, _, _, _, rfl, rfl, SqL.of (h.1 _ _ hA2), atI_nat b1, _, rfl, _, rfl, _, _, rfl, rfl, lb, _, _, _, rfl, rfl, SqL.of (h.1 _ _ b2), at_of (j := j + 1) (by omega) (ar_at ws (by omega)), ?_⟩
        refine ⟨_, rfl, _, rfl, _, _, rfl, rfl, L, _, _, _, rfl, rfl, SqL.of (h.1 _ _ hL2), at_of (j := m) (by omega) m1, _, rfl, lm, _, _, _, rfl, rfl, SqL.of (h.1 _ _ m2), atI_nat (row_at (by omega)), _, _, rfl, rfl, _, rfl, rfl, _, rfl, ite2 (fun z => ?_) (fun z => ?_)⟩
        · have z : V.int (al ws b (j + 1) + rm.getD (b + 1 + j) 0) = V.int v := of_decide_eq_true z
          injection z with z
          exact ⟨_, rfl, acc_yes (x := j) hD h (Same.refl _) (rng_at hj) (decide_eq_true z) (by rw [List.length_range]; omega)⟩
        · exact acc_no (x := j) h (Same.refl _) (rng_at hj) (decide_eq_false fun y => z (decide_eq_true (congrArg V.int y)))
      · obtain ⟨s4, hD4⟩ := h
        rw [fl_rngq] at hD4
        have hv0 : r0.getD b 0 = al ws b (N - b) := by
          obtain ⟨q, x1, x2, x3⟩ := (g4 b hb).ex
          have : q = [] := List.eq_nil_of_length_eq_zero (by omega)
          subst this
          exact x3.symm
        refine ⟨_, rfl, _, _, _, _, rfl, rfl, SqL.of (s4 _ _ hL2), atI_nat (j := 0) g1, _, rfl, l0, _, _, _, rfl, rfl, SqL.of (s4 _ _ g2), atI_nat (row_at (by omega)), _, rfl, rfl, _, rfl, ite2 (fun z => ?_) (fun z => ?_)⟩
        · have z : V.int (r0.getD b 0) = V.int v := of_decide_eq_true z
          injection z with z
          rw [hv0] at z
          refine ⟨_, rfl, sc, _, rfl, .inl ⟨SqL.of (s4 _ _ hsc), fun t nt => ?_⟩⟩
          have tt := new_same (o := .tup (nV (0 :: pre))) nt
          refine k t (cc + al ws b (N - b), 0 :: pre) _ (sH.trans ((s2.trans s4).trans tt)) (SqT.of upd_same) ?_
          rw [hy]
          rw [hm] at hinv
          exact hinv (al ws b (N - b), [b]) (opt_stop hb (by rw [z]; exact hv))
        · have z : r0.getD b 0 ≠ v := fun y => z (decide_eq_true (congrArg V.int y))
          rw [hv0] at z
          obtain ⟨x, x1, x2, x3, x4⟩ : ∃ x, ((List.range (N - (b + 1))).filter fun j => decide (al ws b (j + 1) + rm.getD (b + 1 + j) 0 = v))[0]? = some x ∧ x < N - (b + 1) ∧ decide (al ws b (x + 1) + rm.getD (b + 1 + x) 0 = v) = true ∧ ∀ j, j < x → decide (al ws b (j + 1) + rm.getD (b + 1 + j) 0 = v) = false := by
            refine first_of ?_
            obtain ⟨q, q1, q2, q3⟩ := hv.ex
            cases q with
            | nil => exact absurd q3 z
            | cons kk q =>
              have k1 := q1.1
              have k2 : kk < N := by have := Asc.lt q1.2; omega
              have h1 := (m4 kk k2).le q q1.2 (by simpa using q2)
              obtain ⟨q', y1, y2, y3⟩ := (m4 kk k2).ex
              have h2 := hv.le (kk :: q') ⟨k1, y1⟩ (by simpa using y2)
              have e3 : tot ws N b (kk :: q') = al ws b (kk - b) + tot ws N kk q' := rfl
              have e4 : tot ws N b (kk :: q) = al ws b (kk - b) + tot ws N kk q := rfl
              refine ⟨kk - (b + 1), by omega, decide_eq_true ?_⟩
              rw [show kk - (b + 1) + 1 = kk - b by omega, show b + 1 + (kk - (b + 1)) = kk by omega]
              omega
          have x3 := of_decide_eq_true x3
          have hsc4 := s4 _ _ hsc
          refine ⟨_, rfl, .inl ⟨rfl, _, SqL.of hsc4⟩, _, rfl, D, _, _, _, rfl, rfl, SqL.of hD4, atI_nat (j := 0) (by rw [List.getElem?_map, x1]; rfl), ?_⟩
          refine ⟨sc, _, _, rfl, rfl, hsc4, by rw [nV_len, List.length_cons]; exact Nat.lt_of_lt_of_le (show pre.length + 1 < 1000 by omega) (by decide), _, _, _, _, pre ++ [b + 1 + x], 0 :: pre, b + 1 + x, cc + al ws b (b + 1 + x - b), rfl, fun bb o zz => ?_, by rw [upd_same, nV_snoc]; rfl, rfl, by simp [hp], by omega, fun r hr => ?_⟩
          · rw [upd_ne (ne_of_none zz nsc)]
            exact s4 _ _ (s2 _ _ zz)
          · rw [show S - 1 - (i + 1) + 1 = m + 1 by omega] at hr
            rw [hm] at hinv
            have hgo := (opt_go (f := fun k => rm.getD k 0) hv z (fun k _ k2 => m4 k k2) (show b < b + 1 + x by omega) (by omega) (by rw [show b + 1 + x - b = x + 1 by omega]; exact x3) (fun j j1 j2 => by
              have := of_decide_eq_false (x4 (j - (b + 1)) (by omega))
              rwa [show j - (b + 1) + 1 = j - b by omega, show b + 1 + (j - (b + 1)) = j by omega] at this) hr).2
            have h5 := hinv _ hgo
            rw [hy, List.append_assoc]
            have e6 : cc + al ws b (b + 1 + x - b) + r.1 = cc + (al ws b (b + 1 + x - b) + r.1) := Int.add_assoc _ _ _
            rw [e6]
            exact h5
    · obtain ⟨v6, v7, v8, v9, pre, ys, b, cc, rfl, s2, hsc, hy, hp, hb, hinv⟩ := h
      refine ⟨_, rfl, sc, _, rfl, .inl ⟨SqL.of hsc, fun t nt => ?_⟩⟩
      have tt := new_same (o := .tup (nV (0 :: pre))) nt
      refine k t (cc + al ws b (N - b), 0 :: pre) _ (sH.trans (s2.trans tt)) (SqT.of upd_same) ?_
      rw [hy]
      rw [show S - 1 - (S - 1) + 1 = 1 by omega] at hinv
      exact hinv (al ws b (N - b), [b]) (opt_one hb)
theorem scLw : FnScope ["amount", "space", "greatest", "scheme", "turn", "k"] ["amount", "space"] (defScope s_law_worst) := ⟨rfl, rfl, rfl, by decide +kernel, rfl, by decide +kernel, by decide +kernel⟩
theorem ok_law_worst (T : Txt K w mg) : FnOk P w K mg base CX0 1 (He.fAd K ("_law_worst", none)) (fdAt K (He.fAd K ("_law_worst", none))) ["amount", "space"] (spBw K) := by
  refine T.F_law_worst.ok scLw (fun vs H Q E h => ?_) (fun cdv A outer s H vs Q E hr h => ?_)
  · obtain ⟨N, S, rfl, _⟩ := h
    rfl
  · obtain ⟨N, S, rfl, n1, n2, s1, s2, k⟩ := h
    refine ⟨_, PSs.nox (pss_cons (ps_set (i := 2) scLw.nd rfl (Or.inr rfl) (pe_callB (cr_min rfl) (by rfl) T.n_min PyProof.Rows.Boot.«min» (pa_cons (pe_lc (own := [("k", 5)]) (g := gName 5) (by rfl) scLw.nd (pi_range1 (by rfl) T.n_range (pa_cons (pv 0) pa_nil)) (blkOk_by (own := [("k", 5)]) (N := ["amount", "space", "greatest", "scheme", "turn", "k"]) (sc := defScope s_law_worst) (by decide +kernel)) (fun _ _ _ _ _ => pg_name (i := 5) scLw.nd rfl (Or.inl rfl)) (fun _ _ _ _ _ => pts_one (pt_cmpR op_ge (pe_op op_mulW (pe_op op_add (pv 5) pe_int) (pv 1)) (pv 0) (nomark _))) (fun _ _ _ _ _ => (pv 5))) pa_nil)))
      (pss_cons (ps_set (i := 3) scLw.nd rfl (Or.inl rfl) (pe_lst (pa_cons pe_int pa_nil)))
      (pss_cons (ps_for PassesOwn.never rfl (pi_range3 (by rfl) T.n_range (pa_cons (pe_op op_sub (pv 1) pe_int) (pa_cons pe_int (pa_cons (pe_un un_neg pe_int) pa_nil)))) (pg_name (i := 4) scLw.nd rfl (Or.inr rfl)) (pss_one (ps_if (pt_cmpR op_gt (pe_op op_sub (pv 0) (pe_ix (r := rIxL K) ix_list (pv 3) (pe_un un_neg pe_int) (fun _ _ => rfl))) (pe_op op_add (pv 2) pe_int) (nomark _)) (pss_one (ps_expr (pe_bm PySem.F.plainAttrs_list PySem.F.slot_list_append PySem.F.type_list_append mt_append (pv 3) (pa_cons (pe_ix (r := rIxL K) ix_list (pe_lc (own := [("k", 5)]) (g := gName 5) (by rfl) scLw.nd (pi_range2 (by rfl) T.n_range (pa_cons (pe_op op_add (pe_ix (r := rIxL K) ix_list (pv 3) (pe_un un_neg pe_int) (fun _ _ => rfl)) pe_int) (pa_cons (pv 0) pa_nil))) (blkOk_by (own := [("k", 5)]) (N := ["amount", "space", "greatest", "scheme", "turn", "k"]) (sc := defScope s_law_worst) (by decide +kernel)) (fun _ _ _ _ _ => pg_name (i := 5) scLw.nd rfl (Or.inl rfl)) (fun _ _ _ _ _ => pts_one (pt_cmpR op_ge (pe_op op_mulW (pe_op op_add (pv 2) pe_int) (pv 4)) (pe_op op_sub (pv 0) (pv 5)) (nomark _))) (fun _ _ _ _ _ => (pv 5))) pe_int (fun _ _ => rfl)) pa_nil)))) pss_nil)))
      (pss_one (ps_ret (pe_tup (pa_cons (pv 2) (pa_cons (pe_callTy call_tuple_of (by rfl) T.n_tuple PyProof.Rows.Boot.«tuple» (pa_cons (pv 3) pa_nil)) pa_nil)))))))), ?_⟩
    obtain ⟨sr1, sr2⟩ := st_room (N := N) s1
    obtain ⟨sl1, sl2⟩ := st_le s1 n1
    revert k sr1 sr2 sl1 sl2
    generalize (N + S - 1) / S = s
    intro k sr1 sr2 sl1 sl2
    refine ⟨_, rfl, (N : Int), rfl, by omega, by omega, fun D hD => ?_⟩
    rw [Int.toNat_natCast]
    refine lc_it (walk_r0 (n := N)) (fun i H' => Acc H D (fl (List.range N) (fun j => decide (N ≤ (j + 1) * S)) (fun j => .int (j : Int)) i) H') (acc_0 hD) (fun _ _ _ _ => trivial) (fun j x H4 H5 hj h y => ?_) (fun H1 h => ?_)
    · obtain ⟨rfl, rfl⟩ := y
      refine ⟨rfl, ?_⟩
      have em : ((j : Int) + 1) * (S : Int) = (((j + 1) * S : Nat) : Int) := by
        rw [Int.natCast_mul]
        rfl
      refine ⟨_, rfl, _, _, rfl, rfl, _, rfl, _, _, rfl, rfl, mulc (by omega) (by omega) (by omega) (by omega), _, rfl, _, _, rfl, rfl, _, rfl, ite2 (fun z => ?_) (fun z => ?_)⟩
      · have z : (N : Int) ≤ ((j : Int) + 1) * (S : Int) := of_decide_eq_true z
        rw [em] at z
        exact ⟨_, rfl, acc_yes (x := j) hD h (Same.refl _) (rng_at hj) (decide_eq_true (by exact_mod_cast z)) (by rw [List.length_range]; omega)⟩
      · have z : ¬ (N : Int) ≤ ((j : Int) + 1) * (S : Int) := fun y => z (decide_eq_true y)
        rw [em] at z
        exact acc_no (x := j) h (Same.refl _) (rng_at hj) (decide_eq_false fun y => z (by exact_mod_cast y))
    · obtain ⟨sa, hD1⟩ := h
      rw [fl_rngq] at hD1
      have hin : (s - 1) ∈ (List.range N).filter fun j => decide (N ≤ (j + 1) * S) := List.mem_filter.mpr ⟨List.mem_range.mpr (by omega), decide_eq_true (by rw [show s - 1 + 1 = s by omega]; exact sr1)⟩
      refine ⟨D, ((List.range N).filter fun j => decide (N ≤ (j + 1) * S)).map fun (j : Nat) => (j : Int), rfl, SqL.of (by rw [hD1, List.map_map]; rfl), by rw [List.length_map]; exact List.length_pos_of_mem hin, fun m hm hle => ?_⟩
      have hms : m = (s : Int) - 1 := by
        obtain ⟨j, hj, rfl⟩ := List.mem_map.mp hm
        obtain ⟨j1, j2⟩ := List.mem_filter.mp hj
        have j2 := of_decide_eq_true j2
        have h1 := hle _ (List.mem_map.mpr ⟨s - 1, hin, rfl⟩)
        have h2 : s * S < (j + 2) * S := by
          rw [Nat.add_mul] at j2 ⊢
          omega
        have h3 := Nat.lt_of_mul_lt_mul_right h2
        omega
      subst hms
      refine ⟨(show 1 ≤ sizeLine by decide), fun sc nsc => ?_⟩
      have ts := new_same (o := .lst [V.int 0]) nsc
      refine ⟨_, rfl, _, _, rfl, rfl, _, rfl, (S : Int) - 1, 0, -1, S - 1, rfl, ?_, ?_⟩
      · have h := RgC.neg (i := (S : Int) - 1) (j := 0) (by omega) (by omega) (by omega) (by omega)
        rwa [show ((S : Int) - 1 - 0).toNat = S - 1 by omega] at h
      refine for_it walk_down (fun i σ H' => ∃ (v4 : Option V) (pre ys : List Nat) (b : Nat), σ = [some (.int (N : Int)), some (.int (S : Int)), some (.int ((s : Int) - 1)), some (.ref sc), v4, none] ∧
        Same H1 H' ∧ H' sc = some (.lst (nV (0 :: pre))) ∧ 0 :: pre = ys ++ [b] ∧ pre.length ≤ i ∧ b < N ∧ gr N s (S - 1) 0 = pre ++ gr N s (S - 1 - i) b ∧ N - b ≤ s * (S - 1 - i + 1))
        ⟨_, [], [], 0, rfl, ts, upd_same, rfl, Nat.le_refl _, by omega, rfl, by rw [show S - 1 - 0 + 1 = S by omega]; exact sr1⟩ (fun _ _ _ _ _ => trivial) (fun i x σ H2 H3 hi h y => ?_) (fun σ H2 h => ?_)
      · obtain ⟨v4, pre, ys, b, rfl, s2', hsc, hy, hp, hb, hgr, hbs⟩ := h
        obtain ⟨rfl, rfl⟩ := y
        obtain ⟨m, hm⟩ : ∃ m, S - 1 - i = m + 1 := ⟨S - 1 - i - 1, by omega⟩
        rw [hm] at hgr hbs
        have hm2 : S - 1 - (i + 1) = m := by omega
        have hlast : atI (nV (0 :: pre)) (-1) = some (.int (b : Int)) := by
          rw [hy, ← nV_snoc]
          exact atI_last _ _
        refine ⟨_, rfl, _, rfl, _, rfl, sc, _, _, _, rfl, rfl, SqL.of hsc, hlast, _, _, rfl, rfl, _, rfl, _, _, rfl, rfl, _, _, rfl, rfl, _, rfl, ite2 (fun z => ?_) (fun z => ?_)⟩
        · have z : (s : Int) - 1 + 1 < (N : Int) - (b : Int) := of_decide_eq_true z
          have e1 : s * (m + 1 + 1) = s * (m + 1) + s := Nat.mul_succ _ _
          have e2 : (m + 1) * s = s * (m + 1) := Nat.mul_comm _ _
          have hgr2 : gr N s (m + 1) b = max (b + 1) (N - (m + 1) * s) :: gr N s m (max (b + 1) (N - (m + 1) * s)) := by
            rw [gr, if_pos (by omega)]
          refine ⟨_, rfl, .inl ⟨rfl, _, SqL.of hsc⟩, _, rfl, _, rfl, sc, _, _, _, rfl, rfl, SqL.of hsc, hlast, _, _, rfl, rfl, _, rfl, ((b + 1 : Nat) : Int), (N : Int), rfl, ⟨by omega, by omega, by omega, by omega⟩, fun D5 hD5 => ?_⟩
          rw [show ((N : Int) - ((b + 1 : Nat) : Int)).toNat = N - (b + 1) by omega]
          refine lc_it (walk_rN (b := b + 1) (n := N - (b + 1))) (fun i H' => Acc H3 D5 (fl (List.range (N - (b + 1))) (fun j => decide (N - (b + 1 + j) ≤ s * (m + 1))) (fun j => .int ((b + 1 + j : Nat) : Int)) i) H') (acc_0 hD5) (fun _ _ _ _ => trivial) (fun j x H4 H5 hj h y => ?_) (fun H4 h => ?_)
          · obtain ⟨rfl, rfl⟩ := y
            refine ⟨rfl, ?_⟩
            have em : ((s : Int) - 1 + 1) * ((S - 1 - i : Nat) : Int) = ((s * (m + 1) : Nat) : Int) := by
              rw [hm, Int.natCast_mul, show (s : Int) - 1 + 1 = (s : Int) by omega]
            refine ⟨_, rfl, _, _, rfl, rfl, _, rfl, _, _, rfl, rfl, mulc (by omega) (by omega) (by omega) (by omega), _, rfl, _, rfl, _, _, rfl, rfl, _, _, rfl, rfl, _, rfl, ite2 (fun z => ?_) (fun z => ?_)⟩
            · have z : (N : Int) - ((b + 1 + j : Nat) : Int) ≤ ((s : Int) - 1 + 1) * ((S - 1 - i : Nat) : Int) := of_decide_eq_true z
              rw [em] at z
              exact ⟨_, rfl, acc_yes (x := j) hD5 h (Same.refl _) (rng_at hj) (decide_eq_true (by omega)) (by rw [List.length_range]; omega)⟩
            · have z : ¬ (N : Int) - ((b + 1 + j : Nat) : Int) ≤ ((s : Int) - 1 + 1) * ((S - 1 - i : Nat) : Int) := fun y => z (decide_eq_true y)
              rw [em] at z
              exact acc_no (x := j) h (Same.refl _) (rng_at hj) (decide_eq_false (by omega))
          · obtain ⟨s4, hD4⟩ := h
            rw [fl_rngq] at hD4
            obtain ⟨x, x1, x2, x3, x4⟩ : ∃ x, ((List.range (N - (b + 1))).filter fun j => decide (N - (b + 1 + j) ≤ s * (m + 1)))[0]? = some x ∧ x < N - (b + 1) ∧ decide (N - (b + 1 + x) ≤ s * (m + 1)) = true ∧ ∀ j, j < x → decide (N - (b + 1 + j) ≤ s * (m + 1)) = false :=
              first_of ⟨N - (m + 1) * s - (b + 1), by omega, decide_eq_true (by omega)⟩
            have x3 := of_decide_eq_true x3
            have hk : b + 1 + x = max (b + 1) (N - (m + 1) * s) := by
              have h5 : ¬ b + 1 + x > max (b + 1) (N - (m + 1) * s) := fun g => by
                have := of_decide_eq_false (x4 (max (b + 1) (N - (m + 1) * s) - (b + 1)) (by omega))
                omega
              omega
            have hsc4 := s4 _ _ hsc
            refine ⟨D5, _, _, _, rfl, rfl, SqL.of hD4, atI_nat (j := 0) (by rw [List.getElem?_map, x1]; rfl), ?_⟩
            refine ⟨sc, _, _, rfl, rfl, hsc4, by rw [nV_len, List.length_cons]; exact Nat.lt_of_lt_of_le (show pre.length + 1 < 1000 by omega) (by decide), _, pre ++ [b + 1 + x], 0 :: pre, b + 1 + x, rfl, fun bb o zz => ?_, by rw [upd_same, nV_snoc]; rfl, rfl, by simp; omega, by omega, ?_, ?_⟩
            · rw [upd_ne (ne_of_none zz nsc)]
              exact s4 _ _ (s2' _ _ zz)
            · rw [hgr, hgr2, hm2, hk, List.append_assoc]
              rfl
            · rw [hm2]
              omega
        · have z : ¬ (s : Int) - 1 + 1 < (N : Int) - (b : Int) := fun y => z (decide_eq_true y)
          refine ⟨_, pre, ys, b, rfl, s2', hsc, hy, by omega, hb, ?_, ?_⟩
          · rw [hgr, gr_nil (by omega), gr_nil (by omega)]
          · rw [hm2, Nat.mul_succ]
            omega
      · obtain ⟨v4, pre, ys, b, rfl, s2', hsc, hy, hp, hb, hgr, hbs⟩ := h
        refine ⟨_, rfl, _, rfl, sc, _, rfl, .inl ⟨SqL.of hsc, fun t nt => ?_⟩⟩
        have t2 := new_same (o := .tup (nV (0 :: pre))) nt
        refine ⟨(show 2 ≤ sizeLine by decide), fun c nc => ?_⟩
        have t3 := new_same (o := .tup [V.int ((s : Int) - 1), V.ref t]) nc
        refine k c t _ (sa.trans ((s2'.trans t2).trans t3)) (SqT.of upd_same) ?_
        rw [show S - 1 - (S - 1) = 0 by omega] at hgr
        have e0 : gr N s 0 b = [] := rfl
        rw [e0, List.append_nil] at hgr
        rw [hgr]
        exact (same_tf t3).sq (SqT.of upd_same)
end
end K43
set_option maxRecDepth 100000
set_option maxHeartbeats 4000000
/-! The law's plans. -/
namespace K43
open PySem PySem.Spec PyProof.Rows L2 KF KD KG
def bl (n bits : Nat) : List Nat := ((List.range n).filter fun k => decide (bits / 2 ^ k % 2 = 1)).map (· + 1)
theorem asc_of {N : Nat} : ∀ {l : List Nat} {b : Nat}, b < N → (∀ x ∈ l, b < x ∧ x < N) → l.Pairwise (· < ·) → Asc N b l
  | [], _, h, _, _ => h
  | k :: l, b, h, hm, hp => by
    obtain ⟨h1, h2⟩ := List.pairwise_cons.mp hp
    have hk := hm k List.mem_cons_self
    exact ⟨hk.1, asc_of hk.2 (fun x hx => ⟨h1 x hx, (hm x (List.mem_cons_of_mem _ hx)).2⟩) h2⟩
theorem asc_pw {N : Nat} : ∀ {l : List Nat} {b : Nat}, Asc N b l → l.Pairwise (· < ·) ∧ ∀ x ∈ l, b < x ∧ x < N
  | [], _, _ => ⟨List.Pairwise.nil, fun _ z => (nomatch z)⟩
  | k :: l, b, h => by
    obtain ⟨h1, h2⟩ := asc_pw h.2
    have hk := Asc.lt h.2
    refine ⟨List.pairwise_cons.mpr ⟨fun x hx => (h2 x hx).1, h1⟩, fun x hx => ?_⟩
    rcases List.mem_cons.mp hx with rfl | hx
    · exact ⟨h.1, by omega⟩
    · exact ⟨Nat.lt_trans h.1 (h2 x hx).1, (h2 x hx).2⟩
theorem pw_filter_range (n : Nat) (P : Nat → Bool) : (((List.range n).filter P).map (· + 1)).Pairwise (· < ·) := by
  rw [List.pairwise_map]
  refine List.Pairwise.filter P ?_
  exact List.pairwise_lt_range.imp (fun h => by omega)
theorem bl_asc {N : Nat} (hN : 1 ≤ N) (bits : Nat) : Asc N 0 (bl (N - 1) bits) := by
  refine asc_of (by omega) (fun x hx => ?_) (pw_filter_range _ _)
  obtain ⟨y, hy, rfl⟩ := List.mem_map.mp hx
  have := List.mem_range.mp (List.mem_filter.mp hy).1
  omega
theorem sort_ext : ∀ {l m : List Nat}, l.Pairwise (· < ·) → m.Pairwise (· < ·) → (∀ x, x ∈ l ↔ x ∈ m) → l = m
  | [], [], _, _, _ => rfl
  | [], y :: m, _, _, h => by have := (h y).mpr List.mem_cons_self; cases this
  | x :: l, [], _, _, h => by have := (h x).mp List.mem_cons_self; cases this
  | x :: l, y :: m, hl, hm, h => by
    obtain ⟨a1, a2⟩ := List.pairwise_cons.mp hl
    obtain ⟨b1, b2⟩ := List.pairwise_cons.mp hm
    have e : x = y := by
      rcases List.mem_cons.mp ((h x).mp List.mem_cons_self) with g | g
      · exact g
      · rcases List.mem_cons.mp ((h y).mpr List.mem_cons_self) with k | k
        · exact k.symm
        · have := b1 x g
          have := a1 y k
          omega
    subst e
    rw [sort_ext a2 b2 fun z => ⟨fun hz => ?_, fun hz => ?_⟩]
    · rcases List.mem_cons.mp ((h z).mp (List.mem_cons_of_mem _ hz)) with g | g
      · subst g
        exact absurd (a1 z hz) (Nat.lt_irrefl _)
      · exact g
    · rcases List.mem_cons.mp ((h z).mpr (List.mem_cons_of_mem _ hz)) with g | g
      · subst g
        exact absurd (b1 z hz) (Nat.lt_irrefl _)
      · exact g
theorem bits_of (P : Nat → Bool) : ∀ n, ∃ bits, bits < 2 ^ n ∧ ∀ k, k < n → (bits / 2 ^ k % 2 = 1 ↔ P k = true)
  | 0 => ⟨0, by decide, fun k h => absurd h (Nat.not_lt_zero _)⟩
  | n + 1 => by
    obtain ⟨bits, h1, h2⟩ := bits_of P n
    have e2 : 2 ^ (n + 1) = 2 ^ n + 2 ^ n := by rw [Nat.pow_succ]; omega
    have hpos : 0 < 2 ^ n := Nat.two_pow_pos n
    cases e : P n with
    | false =>
      refine ⟨bits, by omega, fun k hk => ?_⟩
      rcases Nat.lt_or_ge k n with g | g
      · exact h2 k g
      · have : k = n := by omega
        subst this
        rw [Nat.div_eq_of_lt h1, e]
        simp
    | true =>
      refine ⟨bits + 2 ^ n, by omega, fun k hk => ?_⟩
      rcases Nat.lt_or_ge k n with g | g
      · rw [← h2 k g]
        obtain ⟨d, hd⟩ := Nat.exists_eq_add_of_lt g
        have e3 : 2 ^ n = 2 ^ k * (2 * 2 ^ d) := by
          rw [hd, show k + d + 1 = k + (1 + d) by omega, Nat.pow_add, Nat.pow_add]
        rw [e3, Nat.add_mul_div_left _ _ (Nat.two_pow_pos k)]
        omega
      · have : k = n := by omega
        subst this
        rw [Nat.add_div_right _ hpos, Nat.div_eq_of_lt h1, e]
        simp
theorem bl_all {N : Nat} {q : List Nat} (h : Asc N 0 q) : ∃ bits, bits < 2 ^ (N - 1) ∧ bl (N - 1) bits = q := by
  obtain ⟨bits, h1, h2⟩ := bits_of (fun k => decide (k + 1 ∈ q)) (N - 1)
  refine ⟨bits, h1, sort_ext (pw_filter_range _ _) (asc_pw h).1 fun x => ?_⟩
  constructor
  · intro hx
    obtain ⟨y, hy, rfl⟩ := List.mem_map.mp hx
    obtain ⟨y1, y2⟩ := List.mem_filter.mp hy
    exact of_decide_eq_true ((h2 y (List.mem_range.mp y1)).mp (of_decide_eq_true y2))
  · intro hx
    have hr := (asc_pw h).2 x hx
    refine List.mem_map.mpr ⟨x - 1, List.mem_filter.mpr ⟨List.mem_range.mpr (by omega), decide_eq_true ((h2 (x - 1) (by omega)).mpr (decide_eq_true ?_))⟩, by omega⟩
    rw [show x - 1 + 1 = x by omega]
    exact hx
def qd (q : List Nat) : PyData := .tuple (nI (0 :: q))
theorem nl_qd (q : List Nat) : NL (qd q) := nl_nI _
theorem nl_qds : ∀ qs : List (List Nat), NLs (qs.map qd)
  | [] => trivial
  | q :: qs => ⟨nl_qd q, nl_qds qs⟩
section
variable {P : Program} {w : World} {K : PySem.W.Frag} {mg : Str → Option Value} {base : Heap}
def spPs (K : PySem.W.Frag) : Sp := fun vs H Q _ => ∃ (N S : Nat), vs = [.int (N : Int), .int (S : Int)] ∧ 1 ≤ N ∧ N ≤ 8 ∧ 1 ≤ S ∧ S ≤ 100 ∧
  ∀ (F : Addr) (us : List V) (qs : List (List Nat)) H', Same H H' → H' F = some (.lst us) → DpAll K H' us (qs.map qd) → (∀ q ∈ qs, Asc N 0 q ∧ q.length < S) → (∀ q, Asc N 0 q → q.length < S → q ∈ qs) → qs.length ≤ 128 → Q (.ref F) H'
theorem scPs : FnScope ["amount", "space", "found", "bits", "scheme", "k"] ["amount", "space"] (defScope s_law_plans) := ⟨rfl, rfl, rfl, by decide +kernel, rfl, by decide +kernel, by decide +kernel⟩
theorem ok_law_plans (T : Txt K w mg) : FnOk P w K mg base CX0 1 (He.fAd K ("_law_plans", none)) (fdAt K (He.fAd K ("_law_plans", none))) ["amount", "space"] (spPs K) := by
  refine T.F_law_plans.ok scPs (fun vs H Q E h => ?_) (fun cdv A outer s H vs Q E hr h => ?_)
  · obtain ⟨N, S, rfl, _⟩ := h
    rfl
  · obtain ⟨N, S, rfl, n1, n2, s1, s2, k⟩ := h
    refine ⟨_, PSs.nox (pss_cons (ps_set (i := 2) scPs.nd rfl (Or.inl rfl) (pe_lst pa_nil))
      (pss_cons (ps_for PassesOwn.never rfl (pi_range1 (by rfl) T.n_range (pa_cons (pe_op op_shlW pe_int (pe_op op_sub (pv 0) pe_int)) pa_nil)) (pg_name (i := 3) scPs.nd rfl (Or.inr rfl)) (pss_cons (ps_set (i := 4) scPs.nd rfl (Or.inl rfl) (pe_op op_cat (pe_lst (pa_cons pe_int pa_nil)) (pe_lc (own := [("k", 5)]) (g := gName 5) (by rfl) scPs.nd (pi_range1 (by rfl) T.n_range (pa_cons (pe_op op_sub (pv 0) pe_int) pa_nil)) (blkOk_by (own := [("k", 5)]) (N := ["amount", "space", "found", "bits", "scheme", "k"]) (sc := defScope s_law_plans) (by decide +kernel)) (fun _ _ _ _ _ => pg_name (i := 5) scPs.nd rfl (Or.inl rfl)) (fun _ _ _ _ _ => pts_one (pt_cmpR op_eq (pe_op op_odd (pe_op op_shr (pv 3) (pv 5)) pe_int) pe_int (nomark _))) (fun _ _ _ _ _ => (pe_op op_add (pv 5) pe_int)))))
      (pss_one (ps_if (pt_cmpR op_le (pe_callB (r := Evl.rLenS K) call_len_seq (by rfl) T.n_len PyProof.Rows.Boot.«len» (pa_cons (pv 4) pa_nil)) (pv 1) (nomark _)) (pss_one (ps_expr (pe_bm PySem.F.plainAttrs_list PySem.F.slot_list_append PySem.F.type_list_append mt_append (pv 2) (pa_cons (pe_callTy call_tuple_of (by rfl) T.n_tuple PyProof.Rows.Boot.«tuple» (pa_cons (pv 4) pa_nil)) pa_nil)))) pss_nil))))
      (pss_one (ps_ret (pv 2))))), ?_⟩
    refine ⟨(show 0 ≤ sizeLine by decide), fun F nF => ?_⟩
    have tF := new_same (o := .lst []) nF
    obtain ⟨M, hM⟩ : ∃ M, M = 2 ^ (N - 1) := ⟨_, rfl⟩
    have hpw : M ≤ 128 := hM ▸ Nat.le_trans (Nat.pow_le_pow_right (by decide) (show N - 1 ≤ 7 by omega)) (by decide)
    have eN : (N : Int) - 1 = ((N - 1 : Nat) : Int) := by omega
    have hsh : CShl 1 ((N : Int) - 1) := by
      rw [eN]
      exact shl_ok (n := 1) (by decide) (by omega)
    have e2 : (1 : Int) * 2 ^ ((N : Int) - 1).toNat = (M : Int) := by
      rw [hM, eN, Int.toNat_natCast, Int.one_mul, Int.natCast_pow]
      rfl
    refine ⟨_, rfl, _, _, rfl, rfl, _, _, rfl, rfl, hsh, (M : Int), congrArg (fun x => [V.int x]) e2, by omega, by omega, ?_⟩
    rw [Int.toNat_natCast]
    refine for_it (walk_r0 (n := M)) (fun i σ H' => ∃ (v3 v4 : Option V) (us : List V) (qs : List (List Nat)), σ = [some (.int (N : Int)), some (.int (S : Int)), some (.ref F), v3, v4, none] ∧ Same H H' ∧ H' F = some (.lst us) ∧ DpAll K H' us (qs.map qd) ∧
      (∀ q ∈ qs, Asc N 0 q ∧ q.length < S) ∧ (∀ j, j < i → (bl (N - 1) j).length < S → bl (N - 1) j ∈ qs) ∧ qs.length ≤ i)
      ⟨_, _, [], [], rfl, tF, upd_same, .nil, fun _ z => (nomatch z), fun j hj => absurd hj (Nat.not_lt_zero _), Nat.le_refl _⟩ (fun _ _ _ _ _ => trivial) (fun i x σ H1 H2 hi h y => ?_) (fun σ H1 h => ?_)
    · obtain ⟨v3, v4, us, qs, rfl, sm, hF, hd, hq1, hq2, hql⟩ := h
      obtain ⟨rfl, rfl⟩ := y
      refine ⟨(show 1 ≤ sizeLine by decide), fun p np => ?_⟩
      have tp := new_same (o := .lst [V.int 0]) np
      refine ⟨_, rfl, _, _, rfl, rfl, ((N - 1 : Nat) : Int), by rw [← eN], by omega, by omega, fun D hD => ?_⟩
      rw [Int.toNat_natCast]
      refine lc_it (walk_r0 (n := N - 1)) (fun j H' => Acc (upd H2 p (.lst [V.int 0])) D (fl (List.range (N - 1)) (fun k => decide (i / 2 ^ k % 2 = 1)) (fun k => .int ((k + 1 : Nat) : Int)) j) H') (acc_0 hD) (fun _ _ _ _ => trivial) (fun j x H4 H5 hj h y => ?_) (fun H3 h => ?_)
      · obtain ⟨rfl, rfl⟩ := y
        refine ⟨rfl, ?_⟩
        have ediv : (i : Int) / 2 ^ ((j : Nat) : Int).toNat = ((i / 2 ^ j : Nat) : Int) := by
          rw [Int.toNat_natCast, Int.natCast_ediv, Int.natCast_pow]
          rfl
        refine ⟨_, rfl, _, rfl, _, _, rfl, rfl, Int.natCast_nonneg _, i / 2 ^ j, congrArg V.int ediv, rfl, rfl, _, rfl, ite2 (fun z => ?_) (fun z => ?_)⟩
        · have z : V.int ((i / 2 ^ j % 2 : Nat) : Int) = V.int 1 := of_decide_eq_true z
          injection z with z
          exact ⟨_, rfl, _, _, rfl, rfl, acc_yes (x := j) hD h (Same.refl _) (rng_at hj) (decide_eq_true (by exact_mod_cast z)) (by rw [List.length_range]; omega)⟩
        · exact acc_no (x := j) h (Same.refl _) (rng_at hj) (decide_eq_false fun y => z (decide_eq_true (by rw [y]; rfl)))
      · obtain ⟨s3, hD3⟩ := h
        rw [fl_rngq] at hD3
        have eb : V.int 0 :: ((List.range (N - 1)).filter fun k => decide (i / 2 ^ k % 2 = 1)).map (fun k => V.int ((k + 1 : Nat) : Int)) = nV (0 :: bl (N - 1) i) := by
          unfold nV bl
          rw [List.map_cons, List.map_map]
          rfl
        have hblen : (bl (N - 1) i).length ≤ 7 := by
          unfold bl
          rw [List.length_map]
          exact Nat.le_trans (List.length_filter_le _ _) (by rw [List.length_range]; omega)
        have hlen2 : (((List.range (N - 1)).filter fun k => decide (i / 2 ^ k % 2 = 1)).map (fun k => V.int ((k + 1 : Nat) : Int))).length ≤ 7 := by
          rw [List.length_map]
          exact Nat.le_trans (List.length_filter_le _ _) (by rw [List.length_range]; omega)
        refine ⟨p, D, _, _, rfl, rfl, s3 _ _ upd_same, hD3, Nat.le_trans (Nat.add_le_add_left hlen2 1) (show 1 + 7 ≤ sizeLine by decide), fun p2 np2 => ?_⟩
        have e9 : [V.int 0] ++ ((List.range (N - 1)).filter fun k => decide (i / 2 ^ k % 2 = 1)).map (fun k => V.int ((k + 1 : Nat) : Int)) = nV (0 :: bl (N - 1) i) := eb
        rw [e9]
        have t2 := new_same (o := .lst (nV (0 :: bl (N - 1) i))) np2
        have s5 := (tp.trans s3).trans t2
        refine ⟨_, rfl, _, _, rfl, .inl (SqL.of upd_same), _, rfl, _, _, rfl, rfl, _, rfl, ite2 (fun z => ?_) (fun z => ?_)⟩
        · have z : ((nV (0 :: bl (N - 1) i)).length : Int) ≤ (S : Int) := of_decide_eq_true z
          rw [nV_len, List.length_cons] at z
          have hF5 := s5 _ _ hF
          refine ⟨_, rfl, .inl ⟨rfl, _, SqL.of hF5⟩, _, rfl, p2, _, rfl, .inl ⟨SqL.of upd_same, fun t nt => ?_⟩⟩
          have tt := new_same (o := .tup (nV (0 :: bl (N - 1) i))) nt
          have hF6 := tt _ _ hF5
          have hul := dpa_len hd
          rw [List.length_map] at hul
          have s6 := s5.trans tt
          have tfF := fun (o : HO) => Frm.tf (d := F) (Frm.of_upd (o := o)) hF6
          refine ⟨F, us, _, rfl, rfl, hF6, Nat.lt_of_le_of_lt (show us.length ≤ 128 by omega) (by decide), _, _, us ++ [.ref t], qs ++ [bl (N - 1) i], rfl, fun bb o zz => ?_, upd_same, ?_, fun q hq => ?_, fun j hj hjl => ?_, by simp; omega⟩
          · rw [upd_ne (ne_of_none zz nF)]
            exact s6 _ _ (sm _ _ zz)
          · rw [List.map_append]
            exact dpa_snoc (dpa_nl (tfF _) _ _ (nl_qds qs) (dpa_nl (same_tf s6) _ _ (nl_qds qs) hd)) (.tup ((tfF _).sq (SqT.of upd_same)) (dpa_nV _))
          · rcases List.mem_append.mp hq with hq | hq
            · exact hq1 q hq
            · rw [List.mem_singleton] at hq
              subst hq
              exact ⟨bl_asc n1 i, by omega⟩
          · rcases Nat.lt_or_ge j i with g | g
            · exact List.mem_append_left _ (hq2 j g hjl)
            · have : j = i := by omega
              subst this
              exact List.mem_append_right _ (List.mem_singleton.mpr rfl)
        · have z : ¬ ((nV (0 :: bl (N - 1) i)).length : Int) ≤ (S : Int) := fun y => z (decide_eq_true y)
          rw [nV_len, List.length_cons] at z
          refine ⟨_, _, us, qs, rfl, sm.trans s5, s5 _ _ hF, dpa_nl (same_tf s5) _ _ (nl_qds qs) hd, hq1, fun j hj hjl => ?_, by omega⟩
          rcases Nat.lt_or_ge j i with g | g
          · exact hq2 j g hjl
          · have : j = i := by omega
            subst this
            omega
    · obtain ⟨v3, v4, us, qs, rfl, sm, hF, hd, hq1, hq2, hql⟩ := h
      refine ⟨_, rfl, k F us qs H1 sm hF hd hq1 (fun q hq hl => ?_) (by omega)⟩
      obtain ⟨bits, b1, b2⟩ := bl_all hq
      rw [← b2] at hl ⊢
      exact hq2 bits (hM ▸ b1) hl
end
end K43
set_option maxRecDepth 100000
set_option maxHeartbeats 4000000
/-! Calls by name, the names the other way about. -/
namespace KG
open PySem PySem.Spec PyProof.Rows L2
section
variable {X : Cx} {CX : CXT} {k : Nat} {f : Addr} {fd : FuncData} {ps ks : List Str} {sp : Sp} {E : XK} {x : Str} {p pos : Pos} {kws : List Keyword} {tk : TA} {g : List Value → List Value → List Value} {gV : List V → List V → List V}
theorem pe_callKw (F : FnOk X.prog X.w X.K X.mg X.base CX k f fd ps sp) (hr : Room k X.A) (hg : Gl X x) (hm : X.mg x = some (.ref f)) (hk : PySem.W.keepIn X.K (.ref f) = true) (hb : KBinds X.K fd ps ks g gV) (hx : Passes CX X E)
    (hkw : PK X kws tk) (hall : (backToKw pos (keywordEach kws X.env)).all (·.1.isSome) = true := by rfl) (hks : (backToKw pos (keywordEach kws X.env)).filterMap (·.1) = ks := by rfl)
    (hdb : (x == ("__debug__" : Str)) = false := by decide)
    (hpl : ((backTo pos (starEach [] X.env)).any (·.1) || (backToKw pos (keywordEach kws X.env)).any (·.1.isNone)) = false := by rfl) :
    PE X (.Call (.Name x p) [] kws pos) (tCallK sp gV E tNil tk) := by
  refine ⟨fun pins s σ H Q I h => ?_⟩
  refine wpAny_Call_Name_kw (ld_glob I hg hm ?_ hdb)
  refine PySem.W.callWith_KW0 (h₀ := X.base) I.ok.mod.kin hk hall ?_ hpl
  refine thn (hkw.run pos pins s σ H _ I h) fun ws s2 ⟨zs, H2, I2, rz, q2⟩ => ⟨I2.kIn, ?_⟩
  rw [hks]
  exact run_fnk (us := []) (vs := []) F hr hb hx I2 .nil rz q2
end
section
variable {x : Str} {ps ks : List Str} {f : Addr} {fd : FuncData}
def kR {α : Type} (us ws : List α) : List α := if us.isEmpty then ws.reverse else []
theorem vals_app : ∀ {vs us : List V} {ws zs : List Value}, Vals vs ws → Vals us zs → Vals (vs ++ us) (ws ++ zs)
  | _, _, _, _, .nil, h => h
  | _, _, _, _, .cons a t, h => .cons a (vals_app t h)
theorem vals_rev : ∀ {vs : List V} {ws : List Value}, Vals vs ws → Vals vs.reverse ws.reverse
  | _, _, .nil => .nil
  | _, _, .cons a t => by
    rw [List.reverse_cons, List.reverse_cons]
    exact vals_app (vals_rev t) (.cons a .nil)
theorem kb_rev {K : PySem.W.Frag} {qual : Str} {params : Arguments} {body : List Stmt} {scope : Scope} {kws : List (Str × V)} (F : FunD K x qual params body scope [] kws f fd) (hp : ps.length ≠ 0)
    (h : ∀ (kV doc pm : Value) (an : Option Addr) (cdv ct : Value) (ws : List Value), ws.length = ps.length → bindArgs (PySem.W.fnOf x qual params body scope .none kV doc pm an cdv ct) ⟨[], ks.zip ws⟩ = pure (ps.zip ws.reverse)) : KBinds K fd ps ks kR kR := by
  obtain ⟨oc, od, dV, kV, doc, pm, an, cdv, ct, osl, rfl, lk, hcd, hD, hK⟩ := F.ex
  rcases hD with ⟨_, rfl⟩ | ⟨e, _⟩
  · refine ⟨fun s us ws _ hl => ?_, fun {vs us zs ws} r rz => ?_⟩
    · cases us with
      | nil =>
        have hl2 : ws.length = ps.length := by
          have : ws.reverse.length = ps.length := hl
          rw [List.length_reverse] at this
          exact this
        exact .of_eq (h kV doc pm an cdv ct ws hl2)
      | cons a b => exact absurd hl.symm hp
    · cases r with
      | nil => exact vals_rev rz
      | cons _ _ => exact .nil
  · exact absurd rfl e
end
end KG
set_option maxRecDepth 100000
set_option maxHeartbeats 4000000
/-! The law. -/
namespace K43
open PySem PySem.Spec PyProof.Rows L2 KF KD KG
theorem seq_cut {a b : TS} {D : Ends} {σ : L2.St} {H : Hp} (Pv : L2.St → Hp → Prop) (hb : ∀ σ' H', Pv σ' H' → b D σ' H') (ha : ∀ R : L2.St → Hp → Prop, (∀ σ' H', Pv σ' H' → R σ' H') → a { D with nx := R } σ H) : tSeq a b D σ H := ha _ hb
theorem eqv_pd (p : Int × List Nat) : PyData.eqv (pd p) (pd p) = true := by
  unfold pd
  rw [PyData.eqv, PyData.eqvAll, PyData.eqvAll, PyData.eqvAll]
  have h : PyData.eqv (.tuple (nI p.2)) (.tuple (nI p.2)) = true := by
    rw [PyData.eqv, eqv_nI]
    exact decide_eq_true rfl
  rw [h]
  simp [PyData.eqv]
theorem shaped_pd (p : Int × List Nat) : SeqAt.shaped (pd p) = true := by
  unfold SeqAt.shaped
  have h1 := can_nI p.2
  have h2 := depth_pd p
  rw [Bool.and_eq_true]
  constructor
  · unfold pd
    simp only [PyData.canLay0, PyData.canLayAll0, h1, Bool.and_self]
  · exact decide_eq_true (by omega)
theorem al_q {q : List Nat} (h : q.length ≤ 1000) : AlOk 2 (.tuple (nI (0 :: q))) := by
  refine ⟨by simp [nI]; omega, nl_nI _, fun e he => ?_⟩
  obtain ⟨n, _, rfl⟩ := List.mem_map.mp he
  trivial
theorem al_pd {p : Int × List Nat} (h : p.2.length ≤ 1000) : AlOk 2 (pd p) := by
  refine ⟨(show 2 ≤ 1100 by decide), nl_pd p, fun e he => ?_⟩
  simp only [List.mem_cons, List.not_mem_nil, or_false] at he
  rcases he with rfl | rfl
  · trivial
  · refine ⟨by simp [nI]; omega, nl_nI _, fun e he => ?_⟩
    obtain ⟨n, _, rfl⟩ := List.mem_map.mp he
    trivial
theorem tsm_tot {ws : List Int} {q : List Nat} (h : Asc ws.length 0 q) : tsm ws q = tot ws ws.length 0 q := tsum_tot ws h
/-- the least greatest cost, and its plan, by stretches -/
def wp (N S : Nat) : Int × List Nat := ((((N + S - 1) / S : Nat) : Int) - 1, 0 :: gr N ((N + S - 1) / S) (S - 1) 0)
theorem wp_in {N S : Nat} (hN : 1 ≤ N) (hS : 1 ≤ S) : ∃ q, Asc N 0 q ∧ q.length < S ∧ wp N S = (((mx N 0 q : Nat) : Int), 0 :: q) := by
  obtain ⟨r1, r2⟩ := st_room (N := N) hS
  obtain ⟨l1, l2⟩ := st_le hS hN
  unfold wp
  revert r1 r2 l1 l2
  generalize (N + S - 1) / S = s
  intro r1 r2 l1 l2
  obtain ⟨g1, g2, g3⟩ := gr_ok (N := N) (s := s) (by omega) (t := S - 1) (b := 0) (by omega) (by rw [show S - 1 + 1 = S by omega]; exact r1)
  refine ⟨_, g1, by omega, ?_⟩
  have hr := mx_room g1
  have h2 : (mx N 0 (gr N s (S - 1) 0) + 1) * ((gr N s (S - 1) 0).length + 1) ≤ (mx N 0 (gr N s (S - 1) 0) + 1) * S := Nat.mul_le_mul_left _ (by omega)
  have h3 : s * S < (mx N 0 (gr N s (S - 1) 0) + 2) * S := by
    rw [show mx N 0 (gr N s (S - 1) 0) + 2 = (mx N 0 (gr N s (S - 1) 0) + 1) + 1 from rfl, Nat.succ_mul]
    omega
  have h4 := Nat.lt_of_mul_lt_mul_right h3
  have : (s : Int) - 1 = ((mx N 0 (gr N s (S - 1) 0) : Nat) : Int) := by omega
  rw [this]
theorem wp_le {N S : Nat} {q : List Nat} (hN : 1 ≤ N) (hS : 1 ≤ S) (a : Asc N 0 q) (l : q.length < S) : LeP (wp N S) (((mx N 0 q : Nat) : Int), 0 :: q) := by
  obtain ⟨r1, r2⟩ := st_room (N := N) hS
  obtain ⟨l1, l2⟩ := st_le hS hN
  unfold wp
  revert r1 r2 l1 l2
  generalize (N + S - 1) / S = s
  intro r1 r2 l1 l2
  have hr := mx_room a
  have h2 : (mx N 0 q + 1) * (q.length + 1) ≤ (mx N 0 q + 1) * S := Nat.mul_le_mul_left _ (by omega)
  have h3 : s * S < (mx N 0 q + 2) * S := by
    rw [show mx N 0 q + 2 = (mx N 0 q + 1) + 1 from rfl, Nat.succ_mul]
    omega
  have h4 := Nat.lt_of_mul_lt_mul_right h3
  rw [lep_iff]
  by_cases e : s = mx N 0 q + 1
  · exact .inr ⟨by simp only; omega, gr_le (by omega) a (by omega) (by omega)⟩
  · exact .inl (by simp only; omega)
theorem same_tgt {H H' : Hp} (_ : Same H H') : ∃ HL, HL = H' := ⟨_, rfl⟩
theorem new_at {H : Hp} {L : Addr} {o : HO} (_ : Same H (upd H L o)) : upd H L o L = some o := upd_same
theorem mx_max {N : Nat} {q : List Nat} (a : Asc N 0 q) (hq : UpL 0 q) {m : Int} (hm : m ∈ (List.range N).map fun (k : Nat) => (k : Int) - (nw k 0 q : Nat)) (hle : ∀ y ∈ (List.range N).map fun (k : Nat) => (k : Int) - (nw k 0 q : Nat), y ≤ m) : m = ((mx N 0 q : Nat) : Int) := by
  obtain ⟨k, hk, rfl⟩ := List.mem_map.mp hm
  obtain ⟨t, t1, t2, t3⟩ := mx_ex a
  have h1 := mx_ge a k (Nat.zero_le k) (List.mem_range.mp hk)
  have h2 := hle _ (List.mem_map.mpr ⟨t, List.mem_range.mpr t2, rfl⟩)
  have h3 := (nw_le (t := t) (b := 0) (q := q) t1).1
  have h4 := (nw_le (t := k) (b := 0) (q := q) (Nat.zero_le k)).1
  omega
section
variable {P : Program} {w : World} {K : PySem.W.Frag} {mg : Str → Option Value} {base : Heap}
def spLaw (K : PySem.W.Frag) : Sp := fun vs H Q _ => ∃ (a : Addr) (ns : List Int), vs = [.ref a] ∧ SqL K H a (ns.map V.int) ∧ ns.length ≤ 63 ∧ ∀ H', Q (.bl true) H'
theorem scLaw : FnScope ["script", "deck", "loads", "space", "amount", "due", "plans", "worst", "ticks", "more", "number", "place", "k", "scheme", "at"] ["script"] (defScope s_law) := ⟨rfl, rfl, rfl, by decide +kernel, rfl, by decide +kernel, by decide +kernel⟩
theorem ok_law (T : Txt K w mg) : FnOk P w K mg base CX0 9 (He.fAd K ("law", none)) (fdAt K (He.fAd K ("law", none))) ["script"] (spLaw K) := by
  have kb1 : KBinds K (fdAt K (He.fAd K ("best_plan", none))) ["weights", "room"] ["room", "weights"] kR kR := kb_rev T.F_best_plan (by decide) fun _ _ _ _ _ _ ws hl => match ws, hl with | [_, _], _ => rfl
  have kb2 : KBinds K (fdAt K (He.fAd K ("best_worst", none))) ["many", "room"] ["room", "many"] kR kR := kb_rev T.F_best_worst (by decide) fun _ _ _ _ _ _ ws hl => match ws, hl with | [_, _], _ => rfl
  have kb3 : KBinds K (fdAt K (He.fAd K ("cost", none))) ["plan", "tick"] ["tick", "plan"] kR kR := kb_rev T.F_cost (by decide) fun _ _ _ _ _ _ ws hl => match ws, hl with | [_, _], _ => rfl
  have kb4 : KBinds K (fdAt K (He.fAd K ("total", none))) ["plan", "weights"] ["weights", "plan"] kR kR := kb_rev T.F_total (by decide) fun _ _ _ _ _ _ ws hl => match ws, hl with | [_, _], _ => rfl
  refine T.F_law.ok scLaw (fun vs H Q E h => ?_) (fun cdv A outer s H vs Q E hr h => ?_)
  · obtain ⟨a, ns, rfl, _⟩ := h
    rfl
  · obtain ⟨a, ns, rfl, hS, hln, kk⟩ := h
    refine ⟨_, PSs.nox (pss_cons (ps_set (i := 1) scLaw.nd rfl (Or.inl rfl) (pe_call (ok_law_deck T) (hr.mono (by decide)) (by rfl) T.g_law_deck (T.F_law_deck).kp T.b_law_deck .nil pass0 (pa_cons (pv 0) (pa_cons pe_int pa_nil))))
      (pss_cons (ps_asg (pe_tup (pa_cons (pe_call (ok_law_weights T) (hr.mono (by decide)) (by rfl) T.g_law_weights (T.F_law_weights).kp T.b_law_weights .nil pass0 (pa_cons (pv 1) pa_nil)) (pa_cons (pe_op op_add pe_int (pe_call (ok_law_take T) (hr.mono (by decide)) (by rfl) T.g_law_take (T.F_law_take).kp T.b_law_take .nil pass0 (pa_cons (pv 1) (pa_cons pe_int pa_nil)))) pa_nil))) (pg_tup (by rfl) (pgs_cons (pg_name (i := 2) scLaw.nd rfl (Or.inr rfl)) (pgs_cons (pg_name (i := 3) scLaw.nd rfl (Or.inl rfl)) pgs_nil))))
      (pss_cons (ps_set (i := 4) scLaw.nd rfl (Or.inr rfl) (pe_callB (r := Evl.rLenS K) call_len_seq (by rfl) T.n_len PyProof.Rows.Boot.«len» (pa_cons (pv 2) pa_nil)))
      (pss_cons (ps_set (i := 5) scLaw.nd rfl (Or.inl rfl) (pe_call (ok_law_best T) (hr.mono (by decide)) (by rfl) T.g_law_best (T.F_law_best).kp T.b_law_best .nil pass0 (pa_cons (pv 2) (pa_cons (pv 3) pa_nil))))
      (pss_cons (ps_if (pt_cmpR op_lt (pv 4) pe_int (nomark _)) (pss_cons (ps_set (i := 6) scLaw.nd rfl (Or.inl rfl) (pe_call (ok_law_plans T) (hr.mono (by decide)) (by rfl) T.g_law_plans (T.F_law_plans).kp T.b_law_plans .nil pass0 (pa_cons (pv 4) (pa_cons (pv 3) pa_nil))))
      (pss_cons (ps_if (pt_cmpR (op_neD hr.units) (pe_callB (KG.call_minP rfl hr.units) (by rfl) T.n_min PyProof.Rows.Boot.«min» (pa_cons (pe_lc (own := [("scheme", 13)]) (g := gName 13) (tt := tYes) (by rfl) scLaw.nd (pi_list (pv 6)) (blkOk_by (own := [("scheme", 13)]) (N := ["script", "deck", "loads", "space", "amount", "due", "plans", "worst", "ticks", "more", "number", "place", "k", "scheme", "at"]) (sc := defScope s_law) (by decide +kernel)) (fun _ _ _ _ _ => pg_name (i := 13) scLaw.nd rfl (Or.inl rfl)) (fun _ _ _ _ _ => pts_nil) (fun _ _ _ _ _ => (pe_tup (pa_cons (pe_call (ok_law_total T) (hr.mono (by decide)) (by rfl) T.g_law_total (T.F_law_total).kp T.b_law_total .nil pass0 (pa_cons (pv 13) (pa_cons (pv 2) pa_nil))) (pa_cons (pv 13) pa_nil))))) pa_nil)) (pe_tup (pa_cons (pe_call (ok_law_total T) (hr.mono (by decide)) (by rfl) T.g_law_total (T.F_law_total).kp T.b_law_total .nil pass0 (pa_cons (pv 5) (pa_cons (pv 2) pa_nil))) (pa_cons (pv 5) pa_nil))) (nomark _)) (pss_one (ps_ret pe_bl)) pss_nil)
      (pss_cons (ps_set (i := 7) scLaw.nd rfl (Or.inl rfl) (pe_callB (KG.call_minP rfl hr.units) (by rfl) T.n_min PyProof.Rows.Boot.«min» (pa_cons (pe_lc (own := [("scheme", 13)]) (g := gName 13) (tt := tYes) (by rfl) scLaw.nd (pi_list (pv 6)) (blkOk_by (own := [("scheme", 13)]) (N := ["script", "deck", "loads", "space", "amount", "due", "plans", "worst", "ticks", "more", "number", "place", "k", "scheme", "at"]) (sc := defScope s_law) (by decide +kernel)) (fun _ _ _ _ _ => pg_name (i := 13) scLaw.nd rfl (Or.inr rfl)) (fun _ _ _ _ _ => pts_nil) (fun _ _ _ _ _ => (pe_tup (pa_cons (pe_callB (r := rMax K) (cr_max rfl) (by rfl) T.n_max PyProof.Rows.Boot.«max» (pa_cons (pe_lc (own := [("k", 12)]) (g := gName 12) (tt := tYes) (by rfl) scLaw.nd (pi_range1 (by rfl) T.n_range (pa_cons (pv 4) pa_nil)) (blkOk_by (by kernel_rfl)) (fun _ _ _ _ _ => pg_name (i := 12) scLaw.nd rfl (Or.inl rfl)) (fun _ _ _ _ _ => pts_nil) (fun _ _ _ _ _ => (pe_call (ok_law_cost T) (hr.mono (by decide)) (by rfl) T.g_law_cost (T.F_law_cost).kp T.b_law_cost .nil pass0 (pa_cons (pv 13) (pa_cons (pv 12) pa_nil))))) pa_nil)) (pa_cons (pv 13) pa_nil))))) pa_nil)))
      (pss_one (ps_if (pt_cmpR (op_neD hr.units) (pe_call (ok_law_worst T) (hr.mono (by decide)) (by rfl) T.g_law_worst (T.F_law_worst).kp T.b_law_worst .nil pass0 (pa_cons (pv 4) (pa_cons (pv 3) pa_nil))) (pv 7) (nomark _)) (pss_one (ps_ret pe_bl)) pss_nil))))) pss_nil)
      (pss_cons (ps_if (PW.pt (pw_or (pt_not (pt_val (pe_call (ok_law_same T 3) (hr.mono (by omega)) (by rfl) T.g_law_same (T.F_law_same).kp T.b_law_same .nil pass0 (pa_cons (pe_call (ok_best_plan T) (hr.mono (by decide)) (by rfl) T.g_best_plan (T.F_best_plan).kp T.b_best_plan .nil pass0 (pa_cons (pv 2) (pa_cons (pv 3) pa_nil))) (pa_cons (pv 5) pa_nil))))) (pw_or1 (pt_not (pt_val (pe_call (ok_law_same T 3) (hr.mono (by omega)) (by rfl) T.g_law_same (T.F_law_same).kp T.b_law_same .nil pass0 (pa_cons (pe_callKw (ok_best_plan T) (hr.mono (by decide)) (by rfl) T.g_best_plan T.F_best_plan.kp kb1 pass0 (pk_cons (pv 3) (pk_cons (pv 2) pk_nil))) (pa_cons (pv 5) pa_nil)))))))) (pss_one (ps_ret pe_bl)) pss_nil)
      (pss_cons (ps_if (pt_not (pt_val (pe_call (ok_law_same T 3) (hr.mono (by omega)) (by rfl) T.g_law_same (T.F_law_same).kp T.b_law_same .nil pass0 (pa_cons (pe_call (ok_total T) (hr.mono (by decide)) (by rfl) T.g_total (T.F_total).kp T.b_total .nil pass0 (pa_cons (pv 5) (pa_cons (pv 2) pa_nil))) (pa_cons (pe_call (ok_law_total T) (hr.mono (by decide)) (by rfl) T.g_law_total (T.F_law_total).kp T.b_law_total .nil pass0 (pa_cons (pv 5) (pa_cons (pv 2) pa_nil))) pa_nil))))) (pss_one (ps_ret pe_bl)) pss_nil)
      (pss_cons (ps_set (i := 1) scLaw.nd rfl (Or.inl rfl) (pe_call (ok_law_deck T) (hr.mono (by decide)) (by rfl) T.g_law_deck (T.F_law_deck).kp T.b_law_deck .nil pass0 (pa_cons (pv 0) (pa_cons pe_int pa_nil))))
      (pss_cons (ps_par (i := 8) (j := 9) (by rfl) scLaw.nd rfl rfl (by decide) rfl rfl (pa_cons (pe_op op_add pe_int (pe_call (ok_law_take T) (hr.mono (by decide)) (by rfl) T.g_law_take (T.F_law_take).kp T.b_law_take .nil pass0 (pa_cons (pv 1) (pa_cons pe_int pa_nil)))) (pa_cons (pe_op op_add pe_int (pe_call (ok_law_take T) (hr.mono (by decide)) (by rfl) T.g_law_take (T.F_law_take).kp T.b_law_take .nil pass0 (pa_cons (pv 1) (pa_cons pe_int pa_nil)))) pa_nil)) (by rfl))
      (pss_cons (ps_for PassesOwn.never rfl (pi_list (pe_lst (pa_cons (pe_tup (pa_cons (pv 4) (pa_cons (pv 3) pa_nil))) (pa_cons (pe_tup (pa_cons (pv 8) (pa_cons (pv 3) pa_nil))) (pa_cons (pe_tup (pa_cons (pv 8) (pa_cons (pe_op op_add (pe_op op_mod (pe_callTy call_int1 (by rfl) T.n_int PyProof.Rows.Boot.«int» (pa_cons (pv 9) pa_nil)) pe_int) pe_int) pa_nil))) (pa_cons (pe_tup (pa_cons (pe_op op_add pe_int (pe_op op_fdivW (pv 8) pe_int)) (pa_cons (pv 9) pa_nil))) pa_nil)))))) (pg_tup (by rfl) (pgs_cons (pg_name (i := 10) scLaw.nd rfl (Or.inl rfl)) (pgs_cons (pg_name (i := 11) scLaw.nd rfl (Or.inl rfl)) pgs_nil))) (pss_one (ps_if (pt_not (pt_val (pe_call (ok_law_same T 3) (hr.mono (by omega)) (by rfl) T.g_law_same (T.F_law_same).kp T.b_law_same .nil pass0 (pa_cons (pe_call (ok_best_worst T) (hr.mono (by decide)) (by rfl) T.g_best_worst (T.F_best_worst).kp T.b_best_worst .nil pass0 (pa_cons (pv 10) (pa_cons (pv 11) pa_nil))) (pa_cons (pe_call (ok_law_worst T) (hr.mono (by decide)) (by rfl) T.g_law_worst (T.F_law_worst).kp T.b_law_worst .nil pass0 (pa_cons (pv 10) (pa_cons (pv 11) pa_nil))) pa_nil))))) (pss_one (ps_ret pe_bl)) pss_nil)))
      (pss_cons (ps_if (pt_not (pt_val (pe_call (ok_law_same T 3) (hr.mono (by omega)) (by rfl) T.g_law_same (T.F_law_same).kp T.b_law_same .nil pass0 (pa_cons (pe_callKw (ok_best_worst T) (hr.mono (by decide)) (by rfl) T.g_best_worst T.F_best_worst.kp kb2 pass0 (pk_cons (pv 3) (pk_cons (pv 4) pk_nil))) (pa_cons (pe_call (ok_law_worst T) (hr.mono (by decide)) (by rfl) T.g_law_worst (T.F_law_worst).kp T.b_law_worst .nil pass0 (pa_cons (pv 4) (pa_cons (pv 3) pa_nil))) pa_nil))))) (pss_one (ps_ret pe_bl)) pss_nil)
      (pss_cons (ps_for PassesOwn.never rfl (pi_range2 (by rfl) T.n_range (pa_cons pe_int (pa_cons (pe_callB (call_max2 rfl) (by rfl) T.n_max PyProof.Rows.Boot.«max» (pa_cons pe_int (pa_cons (pe_callB (call_min2 rfl) (by rfl) T.n_min PyProof.Rows.Boot.«min» (pa_cons pe_int (pa_cons (pe_callB (r := Evl.rLenS K) call_len_seq (by rfl) T.n_len PyProof.Rows.Boot.«len» (pa_cons (pv 0) pa_nil)) pa_nil))) pa_nil))) pa_nil))) (pg_name (i := 12) scLaw.nd rfl (Or.inl rfl)) (pss_cons (ps_set (i := 1) scLaw.nd rfl (Or.inl rfl) (pe_call (ok_law_deck T) (hr.mono (by decide)) (by rfl) T.g_law_deck (T.F_law_deck).kp T.b_law_deck .nil pass0 (pa_cons (pv 0) (pa_cons (pv 12) pa_nil))))
      (pss_cons (ps_par (i := 13) (j := 14) (by rfl) scLaw.nd rfl rfl (by decide) rfl rfl (pa_cons (pe_call (ok_law_plan T) (hr.mono (by decide)) (by rfl) T.g_law_plan (T.F_law_plan).kp T.b_law_plan .nil pass0 (pa_cons (pv 1) (pa_cons pe_int pa_nil))) (pa_cons (pe_call (ok_law_take T) (hr.mono (by decide)) (by rfl) T.g_law_take (T.F_law_take).kp T.b_law_take .nil pass0 (pa_cons (pv 1) (pa_cons pe_int pa_nil))) pa_nil)) (by rfl))
      (pss_cons (ps_if (pt_not (pt_val (pe_call (ok_law_same T 3) (hr.mono (by omega)) (by rfl) T.g_law_same (T.F_law_same).kp T.b_law_same .nil pass0 (pa_cons (pe_call (ok_cost T) (hr.mono (by decide)) (by rfl) T.g_cost (T.F_cost).kp T.b_cost .nil pass0 (pa_cons (pv 13) (pa_cons (pv 14) pa_nil))) (pa_cons (pe_call (ok_law_cost T) (hr.mono (by decide)) (by rfl) T.g_law_cost (T.F_law_cost).kp T.b_law_cost .nil pass0 (pa_cons (pv 13) (pa_cons (pv 14) pa_nil))) pa_nil))))) (pss_one (ps_ret pe_bl)) pss_nil)
      (pss_cons (ps_if (pt_not (pt_val (pe_call (ok_law_same T 3) (hr.mono (by omega)) (by rfl) T.g_law_same (T.F_law_same).kp T.b_law_same .nil pass0 (pa_cons (pe_callKw (ok_cost T) (hr.mono (by decide)) (by rfl) T.g_cost T.F_cost.kp kb3 pass0 (pk_cons (pv 14) (pk_cons (pv 13) pk_nil))) (pa_cons (pe_call (ok_law_cost T) (hr.mono (by decide)) (by rfl) T.g_law_cost (T.F_law_cost).kp T.b_law_cost .nil pass0 (pa_cons (pv 13) (pa_cons (pv 14) pa_nil))) pa_nil))))) (pss_one (ps_ret pe_bl)) pss_nil)
      (pss_one (ps_if (pt_not (pt_val (pe_call (ok_law_same T 3) (hr.mono (by omega)) (by rfl) T.g_law_same (T.F_law_same).kp T.b_law_same .nil pass0 (pa_cons (pe_call (ok_total T) (hr.mono (by decide)) (by rfl) T.g_total (T.F_total).kp T.b_total .nil pass0 (pa_cons (pv 13) (pa_cons (pv 2) pa_nil))) (pa_cons (pe_call (ok_law_total T) (hr.mono (by decide)) (by rfl) T.g_law_total (T.F_law_total).kp T.b_law_total .nil pass0 (pa_cons (pv 13) (pa_cons (pv 2) pa_nil))) pa_nil))))) (pss_one (ps_ret pe_bl)) pss_nil)))))))
      (pss_one (ps_ret (pe_cmpR op_eq (pe_callKw (ok_total T) (hr.mono (by decide)) (by rfl) T.g_total T.F_total.kp kb4 pass0 (pk_cons (pv 2) (pk_cons (pv 13) pk_nil))) (pe_call (ok_law_total T) (hr.mono (by decide)) (by rfl) T.g_law_total (T.F_law_total).kp T.b_law_total .nil pass0 (pa_cons (pv 13) (pa_cons (pv 2) pa_nil))) (nomark _)))))))))))))))), ?_⟩
    refine ⟨_, rfl, a, ns, 0, rfl, hS, by decide, fun d H1 s1 n1 D1 => ?_⟩
    refine ⟨_, rfl, d, 899999999900, rfl, D1.le (by decide), fun lo ws H2 f2 D2 hw2 => ?_⟩
    refine ⟨_, rfl, d, 12, 899999999899, rfl, by decide, by decide, D2.le (by decide), fun x H3 x0 x1 f3 D3 => ⟨_, _, rfl, rfl, (show 2 ≤ sizeLine by decide), fun c nc => ?_⟩⟩
    obtain ⟨S, hSe, S1, S2⟩ : ∃ S : Nat, 1 + x = (S : Int) ∧ 1 ≤ S ∧ S ≤ 12 := ⟨(1 + x).toNat, by omega, by omega, by omega⟩
    have sc := new_same (o := .tup [V.ref lo, V.int (1 + x)]) nc
    refine ⟨c, _, rfl, SqT.of upd_same, rfl, _, _, rfl, _, _, rfl, rfl, ?_⟩
    obtain ⟨xs2, hx2⟩ := D2.lst
    have s03 : Same H H3 := frm_same s1 n1 (f2.trans f3)
    have hw3 := (hw2.tf (f3.tf hx2)).tf (same_tf sc)
    have s0c := s03.trans sc
    have hN0 := hw3.2.1
    have hN := hw3.2.2.1
    refine ⟨_, rfl, lo, _, rfl, .inr hw3.1, ?_⟩
    have eN : ((((ws.map V.int).length : Nat)) : Int) = (ws.length : Int) := by rw [List.length_map]
    dsimp only
    rw [hSe, eN] at *
    refine ⟨_, rfl, _, rfl, lo, ws, S, rfl, hw3, S1, by omega, fun t p H4 s4 sq ho => ?_⟩
    obtain ⟨q, rfl, hasc, hql⟩ := ho.ex
    have hqN := Asc.lt hasc
    have s04 := s0c.trans s4
    have hw4 := hw3.tf (same_tf s4)
    have hp4 : PlH K H4 t q := ⟨sq, hasc.up, by omega⟩
    dsimp only
    refine seq_cut (fun σ' H' => (∃ v6 v7, σ' = [some (.ref a), some (.ref d), some (.ref lo), some (.int (S : Int)), some (.int (ws.length : Int)), some (.ref t), v6, v7, none, none, none, none, none, none, none]) ∧ Same H4 H') (fun σ' H5 hP => ?_) (fun R hR => ?_)
    · obtain ⟨⟨v6, v7, rfl⟩, s5⟩ := hP
      have hw5 := hw4.tf (same_tf s5)
      have hp5 := hp4.tf (same_tf s5)
      have s05 := s04.trans s5
      -- the best plan
      refine ⟨_, rfl, _, rfl, lo, ws, S, rfl, hw5, S1, by omega, fun t2 p2 H6 s6 sq2 ho2 => ?_⟩
      have e2 := ho2.uniq ho
      subst e2
      refine ⟨_, rfl, .ref t2, .ref t, .tuple (nI (0 :: q)), rfl, .tup sq2 (dpa_nV _), .tup (hp5.tf (same_tf s6)).1 (dpa_nV _), al_q (by omega), fun H7 s7 => ⟨true, rfl, iteF ?_⟩⟩
      have s57 := s6.trans s7
      refine ⟨_, rfl, _, rfl, lo, ws, S, rfl, hw5.tf (same_tf s57), S1, by omega, fun t3 p3 H8 s8 sq3 ho3 => ?_⟩
      have e3 := ho3.uniq ho
      subst e3
      refine ⟨_, rfl, .ref t3, .ref t, .tuple (nI (0 :: q)), rfl, .tup sq3 (dpa_nV _), .tup (hp5.tf (same_tf (s57.trans s8))).1 (dpa_nV _), al_q (by omega), fun H9 s9 => ⟨true, rfl, iteF ?_⟩⟩
      have s59 := (s57.trans s8).trans s9
      have hw9 := hw5.tf (same_tf s59)
      have hp9 := hp5.tf (same_tf s59)
      have s09 := s05.trans s59
      -- its total
      refine ⟨_, rfl, _, rfl, t, lo, q, ws, rfl, hp9, hw9, fun Ha sa => ⟨_, rfl, _, rfl, t, lo, q, ws, rfl, hp9.tf (same_tf sa), hw9.tf (same_tf sa), fun Hb sb => ⟨.int (tsm ws q), .int (tsm ws q), .int (tsm ws q), rfl, .int _, .int _, trivial, fun Hc sc2 => ⟨true, rfl, iteF ?_⟩⟩⟩⟩
      have s9c := (sa.trans sb).trans sc2
      have s0c2 := s09.trans s9c
      have hw10 := hw9.tf (same_tf s9c)
      refine ⟨_, rfl, a, ns, 1, rfl, s0c2.seq hS, by decide, fun d2 Hd sd nd2 Dd => ?_⟩
      refine ⟨_, rfl, d2, 60, 899999999999, rfl, by decide, by decide, Dd.le (by decide), fun x He x0 x1 fe De => ⟨_, _, rfl, rfl, _, rfl, d2, 12, 899999999998, rfl, by decide, by decide, De.le (by decide), fun y Hf y0 y1 ff Df => ⟨_, _, rfl, rfl, _, _, rfl, ?_⟩⟩⟩
      obtain ⟨X, hX, X1, X2⟩ : ∃ X : Nat, 1 + x = (X : Int) ∧ 1 ≤ X ∧ X ≤ 60 := ⟨(1 + x).toNat, by omega, by omega, by omega⟩
      obtain ⟨Y, hY, Y1, Y2⟩ : ∃ Y : Nat, 1 + y = (Y : Int) ∧ 1 ≤ Y ∧ Y ≤ 12 := ⟨(1 + y).toNat, by omega, by omega, by omega⟩
      dsimp only
      rw [hX, hY]
      have scf : Same Hc Hf := frm_same sd nd2 (fe.trans ff)
      have s0f := s0c2.trans scf
      have hw11 := hw10.tf (same_tf scf)
      -- the list of pairs
      have hW9 : CDivW (X : Int) 9 := wide_div (b := 20) (by decide) (by decide) (by decide) (by decide)
      refine ⟨_, rfl, _, rfl, (show 2 ≤ sizeLine by decide), fun c1 m1 => ?_⟩
      have g1 := new_same (o := .tup [V.int (ws.length : Int), V.int (S : Int)]) m1
      refine ⟨_, rfl, _, rfl, (show 2 ≤ sizeLine by decide), fun c2 m2 => ?_⟩
      have g2 := new_same (o := .tup [V.int (X : Int), V.int (S : Int)]) m2
      refine ⟨_, rfl, _, rfl, .inl ⟨_, rfl, _, _, rfl, rfl, (show (0 : Int) < 12 by decide), _, _, rfl, rfl, (show 2 ≤ sizeLine by decide), fun c3 m3 => ?_⟩⟩
      have g3 := new_same (o := .tup [V.int (X : Int), V.int ((Y : Int) % 12 + 1)]) m3
      refine ⟨_, rfl, _, _, rfl, rfl, hW9, _, _, rfl, rfl, _, rfl, (show 2 ≤ sizeLine by decide), fun c4 m4 => ?_⟩
      have g4 := new_same (o := .tup [V.int (1 + (X : Int) / 9), V.int (Y : Int)]) m4
      refine ⟨(show 4 ≤ sizeLine by decide), fun L mL => ⟨L, rfl, ⟨_, SqL.of upd_same⟩, ?_⟩⟩
      have gL := new_same (o := .lst [V.ref c1, V.ref c2, V.ref c3, V.ref c4]) mL
      obtain ⟨HL, hHL⟩ := same_tgt gL
      have hq1 : SqT K _ c1 [V.int (ws.length : Int), V.int (S : Int)] := (same_tf (((g2.trans g3).trans g4).trans gL)).sq (SqT.of upd_same)
      have hq2 : SqT K _ c2 [V.int (X : Int), V.int (S : Int)] := (same_tf ((g3.trans g4).trans gL)).sq (SqT.of upd_same)
      have hq3 : SqT K _ c3 [V.int (X : Int), V.int ((Y % 12 + 1 : Nat) : Int)] := (same_tf (g4.trans gL)).sq (SqT.of upd_same)
      have hq4 : SqT K _ c4 [V.int ((1 + X / 9 : Nat) : Int), V.int (Y : Int)] := (same_tf gL).sq (SqT.of (by rw [upd_same, Int.natCast_add, Int.natCast_ediv]; rfl))
      have sFL := (((g1.trans g2).trans g3).trans g4).trans gL
      have hLL := new_at gL
      rw [← hHL] at hq1 hq2 hq3 hq4 sFL hLL ⊢
      have hall : ∀ u ∈ [V.ref c1, V.ref c2, V.ref c3, V.ref c4], ∃ (cc : Addr) (Nn Sn : Nat), u = .ref cc ∧ SqT K HL cc [V.int (Nn : Int), V.int (Sn : Int)] ∧ 1 ≤ Nn ∧ Nn ≤ 100 ∧ 1 ≤ Sn ∧ Sn ≤ 100 := fun u hu => by
        simp only [List.mem_cons, List.not_mem_nil, or_false] at hu
        rcases hu with rfl | rfl | rfl | rfl
        · exact ⟨c1, _, _, rfl, hq1, by omega, by omega, by omega, by omega⟩
        · exact ⟨c2, _, _, rfl, hq2, by omega, by omega, by omega, by omega⟩
        · exact ⟨c3, _, _, rfl, hq3, by omega, by omega, by omega, by omega⟩
        · exact ⟨c4, _, _, rfl, hq4, by omega, by omega, by omega, by omega⟩
      have gl : ∀ N S : Nat, 1 ≤ N → N ≤ 100 → 1 ≤ S → (wp N S).2.length ≤ 1000 := fun N S n1 n2 h1 => by
        obtain ⟨q, a1, a2, a3⟩ := wp_in n1 h1
        rw [a3]
        have := Asc.lt a1
        simp only [List.length_cons]
        omega
      refine for_it (walk_list (K := K) (a := L) (xs := [V.ref c1, V.ref c2, V.ref c3, V.ref c4])) (fun i σ H' => (∃ v10 v11, σ = [some (.ref a), some (.ref d2), some (.ref lo), some (.int (S : Int)), some (.int (ws.length : Int)), some (.ref t), v6, v7, some (.int (X : Int)), some (.int (Y : Int)), v10, v11, none, none, none]) ∧ Same HL H')
        ⟨⟨_, _, rfl⟩, Same.refl _⟩ (fun i σ H' _ h => SqL.of (h.2 _ _ hLL)) (fun i u σ H' Hx hi h y => ?_) (fun σ Hg h => ?_)
      · obtain ⟨⟨v10, v11, rfl⟩, sm⟩ := h
        obtain ⟨rfl, hx⟩ := y
        obtain ⟨cc, Nn, Sn, rfl, hcc, b1, b2, b3, b4⟩ := hall u (List.mem_of_getElem? hx)
        refine ⟨cc, _, rfl, (same_tf sm).sq hcc, rfl, _, _, rfl, _, _, rfl, rfl, ?_⟩
        refine ⟨_, rfl, _, rfl, Nn, Sn, rfl, b1, b2, b3, b4, fun k1 k2 Hh sh sqa sqb => ⟨_, rfl, _, rfl, Nn, Sn, rfl, b1, b2, b3, b4, fun k3 k4 Hi si sqc sqd => ⟨.ref k1, .ref k3, pd (wp Nn Sn), rfl, dp_nl (same_tf si) _ _ (nl_pd _) (pd_dp (p := wp Nn Sn) sqa sqb), pd_dp (p := wp Nn Sn) sqc sqd, al_pd (gl _ _ b1 b2 b3), fun Hj sj => ⟨true, rfl, iteF ⟨⟨_, _, rfl⟩, ((sm.trans sh).trans si).trans sj⟩⟩⟩⟩⟩
      · obtain ⟨⟨v10, v11, rfl⟩, sm⟩ := h
        refine ⟨_, rfl, _, rfl, ws.length, S, rfl, hN0, by omega, S1, by omega, fun k1 k2 Hh sh sqa sqb => ⟨_, rfl, _, rfl, ws.length, S, rfl, hN0, by omega, S1, by omega, fun k3 k4 Hi si sqc sqd => ⟨.ref k1, .ref k3, pd (wp ws.length S), rfl, dp_nl (same_tf si) _ _ (nl_pd _) (pd_dp (p := wp ws.length S) sqa sqb), pd_dp (p := wp ws.length S) sqc sqd, al_pd (gl _ _ hN0 (by omega) S1), fun Hj sj => ⟨true, rfl, iteF ?_⟩⟩⟩⟩
        have sfj := ((sFL.trans sm).trans sh).trans (si.trans sj)
        have s0j := s0f.trans sfj
        have hwj := hw11.tf (same_tf sfj)
        -- the plans that are drawn
        obtain ⟨M, hM, hM4, hM6⟩ : ∃ M : Int, M = (if (if (((ns.map V.int).length : Nat) : Int) < 63 then (((ns.map V.int).length : Nat) : Int) else 63) > 4 then (if (((ns.map V.int).length : Nat) : Int) < 63 then (((ns.map V.int).length : Nat) : Int) else 63) else 4) ∧ 4 ≤ M ∧ M ≤ 63 := by
          refine ⟨_, rfl, ?_⟩
          constructor
          · split
            · omega
            · omega
          · split
            · split <;> omega
            · omega
        refine ⟨_, rfl, a, _, rfl, .inl (s0j.seq hS), _, _, rfl, _, _, rfl, 2, M, by rw [hM], ⟨by omega, by omega, by omega, by omega⟩, ?_⟩
        refine for_range (lo := 2) (n := (M - 2).toNat) (fun i σ H' => ∃ (v1 v12 v13 v14 : Option V), σ = [some (.ref a), v1, some (.ref lo), some (.int (S : Int)), some (.int (ws.length : Int)), some (.ref t), v6, v7, some (.int (X : Int)), some (.int (Y : Int)), v10, v11, v12, v13, v14] ∧ Same Hj H' ∧ (0 < i → ∃ tt qq, v13 = some (.ref tt) ∧ PlH K H' tt qq))
          ⟨_, _, _, _, rfl, Same.refl _, fun z => absurd z (Nat.lt_irrefl _)⟩ (fun i σ Hk hi h => ?_) (fun σ Hk h => ?_)
        · obtain ⟨v1, v12, v13, v14, rfl, sk, _⟩ := h
          have s0k := s0j.trans sk
          refine ⟨_, rfl, _, rfl, a, ns, 2 + i, by rw [Int.natCast_add]; rfl, s0k.seq hS, by omega, fun d3 Hl sl nd3 Dl => ?_⟩
          refine ⟨_, rfl, d3, 899999999900, rfl, Dl.le (by decide), fun tt qq Hm fm Dm hp => ?_⟩
          refine ⟨_, rfl, d3, 61, 899999999899, rfl, by decide, by decide, Dm.le (by decide), fun y Hn y0 y1 fn Dn => ⟨_, _, rfl, ?_⟩⟩
          obtain ⟨W, rfl⟩ := Int.eq_ofNat_of_zero_le y0
          obtain ⟨xsm, hxm⟩ := Dm.lst
          have hpn := hp.tf (fn.tf hxm)
          have skn : Same Hk Hn := frm_same sl nd3 (fm.trans fn)
          have hwn := hwj.tf (same_tf (sk.trans skn))
          refine ⟨_, rfl, _, rfl, tt, qq, W, rfl, hpn, fun Ho so => ⟨_, rfl, _, rfl, tt, qq, W, rfl, hpn.tf (same_tf so), fun Hp sp => ⟨_, _, .int ((W : Int) - (nw W 0 qq : Nat)), rfl, .int _, .int _, trivial, fun Hq sq => ⟨true, rfl, iteF ?_⟩⟩⟩⟩
          have snq := (so.trans sp).trans sq
          have hpq := hpn.tf (same_tf snq)
          refine ⟨_, rfl, _, rfl, tt, qq, W, rfl, hpq, fun Hr sr => ⟨_, rfl, _, rfl, tt, qq, W, rfl, hpq.tf (same_tf sr), fun Hs ss => ⟨_, _, .int ((W : Int) - (nw W 0 qq : Nat)), rfl, .int _, .int _, trivial, fun Ht st => ⟨true, rfl, iteF ?_⟩⟩⟩⟩
          have snt := snq.trans ((sr.trans ss).trans st)
          have hpt := hpn.tf (same_tf snt)
          have hwt := hwn.tf (same_tf snt)
          refine ⟨_, rfl, _, rfl, tt, lo, qq, ws, rfl, hpt, hwt, fun Hu su => ⟨_, rfl, _, rfl, tt, lo, qq, ws, rfl, hpt.tf (same_tf su), hwt.tf (same_tf su), fun Hv sv => ⟨.int (tsm ws qq), .int (tsm ws qq), .int (tsm ws qq), rfl, .int _, .int _, trivial, fun Hw sw => ⟨true, rfl, iteF ?_⟩⟩⟩⟩
          have stw := (su.trans sv).trans sw
          exact ⟨_, _, _, _, rfl, (sk.trans skn).trans (snt.trans stw), fun _ => ⟨tt, qq, rfl, hpt.tf (same_tf stw)⟩⟩
        · obtain ⟨v1, v12, v13, v14, rfl, sk, h13⟩ := h
          obtain ⟨tt, qq, rfl, hp⟩ := h13 (by omega)
          have hwk := hwj.tf (same_tf sk)
          refine ⟨_, rfl, _, rfl, tt, lo, qq, ws, rfl, hp, hwk, fun Hu su => ⟨_, rfl, _, rfl, tt, lo, qq, ws, rfl, hp.tf (same_tf su), hwk.tf (same_tf su), fun Hv sv => ⟨rfl, ?_⟩⟩⟩
          rw [decide_eq_true (rfl : V.int (tsm ws qq) = V.int (tsm ws qq))]
          exact kk Hv
    · refine ⟨_, rfl, _, _, rfl, rfl, _, rfl, ite2 (fun z => ?_) (fun z => hR _ _ ⟨⟨_, _, rfl⟩, Same.refl _⟩)⟩
      have z : (ws.length : Int) < 9 := of_decide_eq_true z
      refine ⟨_, rfl, _, rfl, ws.length, S, rfl, hN0, by omega, S1, by omega, fun F us qs H5 s5 hF hd hq1 hq2 hql2 => ?_⟩
      have hw5 := hw4.tf (same_tf s5)
      have hp5 := hp4.tf (same_tf s5)
      have hul := dpa_len hd
      rw [List.length_map] at hul
      have hmem : q ∈ qs := hq2 q hasc hql
      have hne : ∀ f : List Nat → Int × List Nat, qs.map f ≠ [] := fun f e => by
        rw [List.map_eq_nil_iff] at e
        rw [e] at hmem
        cases hmem
      have hat : ∀ (i : Nat) (v : V), us[i]? = some v → ∃ q t, qs[i]? = some q ∧ v = .ref t ∧ PlH K H5 t q ∧ Asc ws.length 0 q := fun i v hv => by
        have hi : i < qs.length := by
          rw [← hul]
          exact (List.getElem?_eq_some_iff.mp hv).1
        have hq0 : qs[i]? = some qs[i] := List.getElem?_eq_getElem hi
        obtain ⟨v', e1, e2⟩ := dpa_get hd (show (qs.map qd)[i]? = some (qd qs[i]) by rw [List.getElem?_map, hq0]; rfl)
        rw [hv] at e1
        cases e1
        obtain ⟨t, ys, rfl, sq', ha⟩ := dp_tup e2
        rw [dpa_nI ha] at sq'
        have h1 := (hq1 _ (List.getElem_mem hi)).1
        have := Asc.lt h1
        exact ⟨_, t, hq0, rfl, ⟨sq', h1.up, by omega⟩, h1⟩
      -- the least total
      refine ⟨_, rfl, F, rfl, ⟨_, SqL.of hF⟩, fun D hD => ?_⟩
      refine lc_list (xs := us) (fun i H' => GaP K H5 D ((qs.take i).map fun q => (tot ws ws.length 0 q, 0 :: q)) H') (gap_0 hD) (fun i H' _ h => by
        obtain ⟨_, s, _, _⟩ := h
        exact SqL.of (s _ _ hF)) (fun i v H' hv h => ?_) (fun H6 h => ?_)
      · obtain ⟨q', t', e1, rfl, hp', ha'⟩ := hat i v hv
        obtain ⟨_, sg, _, _⟩ := id h
        refine ⟨rfl, ?_⟩
        dsimp only [tYes]
        rw [if_pos rfl]
        refine ⟨_, rfl, _, rfl, t', lo, q', ws, rfl, hp'.tf (same_tf sg), hw5.tf (same_tf sg), fun H7 s7 => ⟨_, rfl, (show 2 ≤ sizeLine by decide), fun c nc => ?_⟩⟩
        have tc := new_same (o := .tup [V.int (tsm ws q'), V.ref t']) nc
        have hdp := pd_dp (K := K) (p := (tot ws ws.length 0 q', 0 :: q')) (by rw [← tsm_tot ha']; exact SqT.of (upd_same (H := H7) (a := c))) ((hp'.tf (same_tf ((sg.trans s7).trans tc))).1)
        rw [List.take_add_one, e1, List.map_append]
        exact gap_push hD h (s7.trans tc) hdp (by rw [List.length_map, List.length_take]; omega)
      · rw [hul, List.take_length] at h
        obtain ⟨us1, s6, hD6, hd6⟩ := h
        refine ⟨D, us1, _, rfl, SqL.of hD6, hd6, hne _, fun i v p hv hp hm hle => ?_⟩
        obtain ⟨v', e', d'⟩ := dpa_at hd6 hp
        rw [hv] at e'
        cases e'
        have hopt : IsOpt ws ws.length S 0 p := by
          obtain ⟨q', hq', rfl⟩ := List.mem_map.mp hm
          exact ⟨⟨q', rfl, hq1 q' hq'⟩, fun q2 a2 l2 => hle _ (List.mem_map.mpr ⟨q2, hq2 q2 a2 l2, rfl⟩)⟩
        have ep := hopt.uniq ho
        subst ep
        have hw6 := hw5.tf (same_tf s6)
        have hp6 := hp5.tf (same_tf s6)
        refine ⟨_, rfl, _, rfl, t, lo, q, ws, rfl, hp6, hw6, fun H8 s8 => ⟨_, rfl, (show 2 ≤ sizeLine by decide), fun c nc => ?_⟩⟩
        have tc := new_same (o := .tup [V.int (tsm ws q), V.ref t]) nc
        have s68 := s8.trans tc
        have hdp := pd_dp (K := K) (p := (tot ws ws.length 0 q, 0 :: q)) (by rw [← tsm_tot hasc]; exact SqT.of (upd_same (H := H8) (a := c))) ((hp6.tf (same_tf s68)).1)
        refine ⟨_, _, dp_nl (same_tf s68) _ _ (nl_pd _) d', hdp, shaped_pd _, shaped_pd _, ?_⟩
        rw [eqv_pd]
        refine ⟨_, rfl, iteF ?_⟩
        have s58 := s6.trans s68
        generalize upd H8 c (.tup [V.int (tsm ws q), V.ref t]) = H9 at s58 ⊢
        have hF9 := s58 _ _ hF
        -- the least greatest cost
        refine ⟨_, rfl, F, rfl, ⟨_, SqL.of hF9⟩, fun D2 hD2 => ?_⟩
        refine lc_list (xs := us) (fun i H' => GaP K H9 D2 ((qs.take i).map fun q => (((mx ws.length 0 q : Nat) : Int), 0 :: q)) H') (gap_0 hD2) (fun i H' _ h => by
          obtain ⟨_, s, _, _⟩ := h
          exact SqL.of (s _ _ hF9)) (fun i v H' hv h => ?_) (fun H10 h => ?_)
        · obtain ⟨q', t', e1, rfl, hp', ha'⟩ := hat i v hv
          obtain ⟨_, sg, _, _⟩ := id h
          have hpg := hp'.tf (same_tf (s58.trans sg))
          refine ⟨rfl, ?_⟩
          dsimp only [tYes]
          rw [if_pos rfl]
          refine ⟨_, rfl, (ws.length : Int), rfl, by omega, by omega, fun D3 hD3 => ?_⟩
          rw [Int.toNat_natCast]
          refine lc_it (walk_r0 (n := ws.length)) (fun k H'' => Acc H' D3 (fl (List.range ws.length) (fun _ => true) (fun k => .int ((k : Int) - (nw k 0 q' : Nat))) k) H'') (acc_0 hD3) (fun _ _ _ _ => trivial) (fun k x H11 H12 hk h y => ?_) (fun H11 h11 => ?_)
          · obtain ⟨rfl, rfl⟩ := y
            refine ⟨rfl, ?_⟩
            dsimp only [tYes]
            rw [if_pos rfl]
            exact ⟨_, rfl, _, rfl, t', q', k, rfl, hpg.tf (same_tf h.1), fun H13 s13 => acc_yes (x := k) hD3 h s13 (rng_at hk) rfl (by rw [List.length_range]; omega)⟩
          · obtain ⟨s11, hD11⟩ := h11
            rw [fl_rng] at hD11
            refine ⟨D3, (List.range ws.length).map fun (k : Nat) => (k : Int) - (nw k 0 q' : Nat), rfl, SqL.of (by rw [hD11, List.map_map]; rfl), by simp; omega, fun m hm2 hle2 => ?_⟩
            have em := mx_max ha' ha'.up hm2 hle2
            subst em
            refine ⟨_, rfl, (show 2 ≤ sizeLine by decide), fun c nc => ?_⟩
            have tc2 := new_same (o := .tup [V.int ((mx ws.length 0 q' : Nat) : Int), V.ref t']) nc
            have hdp2 := pd_dp (K := K) (p := (((mx ws.length 0 q' : Nat) : Int), 0 :: q')) (SqT.of (upd_same (H := H11) (a := c))) ((hpg.tf (same_tf (s11.trans tc2))).1)
            rw [List.take_add_one, e1, List.map_append]
            exact gap_push hD2 h (s11.trans tc2) hdp2 (by rw [List.length_map, List.length_take]; omega)
        · rw [hul, List.take_length] at h
          obtain ⟨us2, s10, hD10, hd10⟩ := h
          refine ⟨D2, us2, _, rfl, SqL.of hD10, hd10, hne _, fun i v2 p2 hv2 hp2 hm2 hle2 => ?_⟩
          obtain ⟨v', e', d2⟩ := dpa_at hd10 hp2
          rw [hv2] at e'
          cases e'
          have hw1 : p2 = wp ws.length S := by
            obtain ⟨q1, w1, w2, w3⟩ := wp_in hN0 S1
            refine LeP.anti ?_ ?_
            · rw [w3]
              exact hle2 _ (List.mem_map.mpr ⟨q1, hq2 q1 w1 w2, rfl⟩)
            · obtain ⟨q2, hq2', rfl⟩ := List.mem_map.mp hm2
              exact wp_le hN0 S1 (hq1 q2 hq2').1 (hq1 q2 hq2').2
          subst hw1
          refine ⟨_, rfl, _, rfl, ws.length, S, rfl, hN0, by omega, S1, by omega, fun cw tw H11 s11 sqa sqb => ⟨_, rfl, _, _, pd_dp (p := wp ws.length S) sqa sqb, dp_nl (same_tf s11) _ _ (nl_pd _) d2, shaped_pd _, shaped_pd _, ?_⟩⟩
          rw [eqv_pd]
          exact ⟨_, rfl, iteF (hR _ _ ⟨⟨_, _, rfl⟩, ((s5.trans s58).trans s10).trans s11⟩)⟩
end
end K43
set_option maxRecDepth 100000
set_option maxHeartbeats 0
open PySem PySem.W PySem.Calls PyProof.Rows
set_option maxHeartbeats 0 in
theorem PySem.Challenge.cw_latepresses_k43_whole_kept_worlds_and_be_holds : PySem.Challenge.rw_latepresses_k43_whole_kept_worlds_and_be.Holds := by
  w_on; o_law
  refine HandSHeadRun.head_any (r := K43.R) (q := view K43.R.prog [29]) (H := K43.hk) (ob := K43.ob) (M := 20000) (loose := K43.loose) (d := HandSHeadRun.topDef K43.R.prog 29) (kwd := []) K43.ob_eq
    (by kernel_rfl) (fun s => by kernel_rfl) K43.run (by kernel_rfl) (by kernel_rfl) (by kernel_rfl) (by rfl) (by first | assumption | decide +kernel) (by decide +kernel) ⟨rfl, rfl, rfl, rfl, rfl, by decide +kernel⟩ ?hw ?hc
  case hw => w_witness2
  case hc =>
    refine L2.walk_ofE (l := PySem.Challenge.rw_latepresses_k43_whole_kept_worlds_and_be) (n := 63) (k := 9) (x := "script") (CX := L2.CX0) rfl (by decide) (by kernel_rfl) ⟨rfl, by decide, by decide⟩ ?F (fun _ _ _ _ z => z)
    intro w mg fa h Y G hmg0
    obtain ⟨K, KX, c⟩ := Y
    have hmg : mg ("law" : PySem.Str) = some (.ref fa) := by
      have e : (HandSHeadRun.topDef K43.R.prog 29).name = ("law" : PySem.Str) := by kernel_rfl
      rw [← e]
      exact hmg0
    have T := K43.txt_of KX G c
    have e := hmg.symm.trans T.g_law
    cases e
    exact ⟨K, K43.fdAt K (He.fAd K ("law", none)), K43.spLaw K, KX, fun s v => L2.FunD.bindsA (ps := ["script"]) T.F_law (fun _ _ _ _ _ _ us hl => match us, hl with | [_], _ => rfl) s [v] rfl, fun H a ns hl _ hS => ⟨a, ns, rfl, hS, hl, fun _ => rfl⟩, fun base _ _ => K43.ok_law T⟩
#print axioms PySem.Challenge.cw_latepresses_k43_whole_kept_worlds_and_be_holds
