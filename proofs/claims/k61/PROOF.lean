import PyProof.Rows.All
import Wide.All
import OpenK.AllK
import Wide.FinOn
import HandS.ForExc
import HandS.IsInst
import HandS.Wide
import KE.KExcIs
import HandS.ExcInit
import HandS.Defaults
import HandS.ExcIs
import HandS.ExcField
import HandS.Evl
import KE.KStateDown
import Wide.Once
import HandS.Comp
import HandS.Dict
import HandS.More
import HandS.Head0
import HandS.Head1
import HandS.Head2
import HandS.HeadEnd
import HandS.HeadHook1
import HandS.HeadHook2
import HandS.HeadHook3
import HandS.HeadHook4
import HandS.RaiseMore
import HandS.Iter
import HandS.Walk
import HandS.TupAny
import PyProof.ListMulRoad
import PyProof.FactsAll.tuple_2
import HandS.Base
import HandS.Call
import HandS.List
import HandS.TupMul
import HandS.Zip
import HandS.Text
import PySem.Challenge.RW_latepresses_k61_packed
set_option Elab.async false
set_option linter.all false
set_option maxRecDepth 100000
set_option maxHeartbeats 4000000
/-! Frames, draws, data without lists. -/
namespace KF
open PySem PySem.Spec PyProof.Rows L2
/-! ### data stand while tuples stand -/
def TF (H H' : Hp) : Prop := ∀ b xs, Rd H b (.tup xs) → Rd H' b (.tup xs)
theorem TF.sq {K : PySem.W.Frag} {H H' : Hp} (e : TF H H') {a : Addr} {xs : List V} (h : SqT K H a xs) : SqT K H' a xs := by
  rcases h with h | h
  · exact .inl (e _ _ h)
  · exact .inr h
theorem TF.refl (H : Hp) : TF H H := fun _ _ h => h
theorem TF.trans {H H1 H2 : Hp} (a : TF H H1) (b : TF H1 H2) : TF H H2 := fun c xs h => b c xs (a c xs h)
theorem TF.of_new {H : Hp} {p : Addr} {o : HO} (h : H p = none) : TF H (upd H p o) := fun c xs z => by
  rcases z with z | ⟨u, z⟩
  · exact .inl (by rw [upd_ne (ne_of_none z h)]; exact z)
  · exact .inr ⟨u, by rw [upd_ne (ne_of_none z h)]; exact z⟩
/-- but for one list all stands -/
def Frm (d : Addr) (H H' : Hp) : Prop := ∀ b o, b ≠ d → H b = some o → H' b = some o
theorem Frm.refl (d : Addr) (H : Hp) : Frm d H H := fun _ _ _ h => h
theorem Frm.trans {d : Addr} {H H1 H2 : Hp} (a : Frm d H H1) (b : Frm d H1 H2) : Frm d H H2 := fun c o n h => b c o n (a c o n h)
theorem Frm.of_same {d : Addr} {H H' : Hp} (e : Same H H') : Frm d H H' := fun b o _ h => e b o h
theorem Frm.of_new {d : Addr} {H : Hp} {p : Addr} {o : HO} (h : H p = none) : Frm d H (upd H p o) := fun b u _ z => by
  rw [upd_ne (ne_of_none z h)]
  exact z
theorem Frm.of_upd {d : Addr} {H : Hp} {o : HO} : Frm d H (upd H d o) := fun b u n z => by
  rw [upd_ne n]
  exact z
theorem Frm.tf {d : Addr} {H H' : Hp} {xs : List V} (e : Frm d H H') (h : H d = some (.lst xs)) : TF H H' := fun c ys z => by
  rcases z with z | ⟨u, z⟩
  · exact .inl (e c _ (fun q => by rw [q, h] at z; cases z) z)
  · exact .inr ⟨u, e c _ (fun q => by rw [q, h] at z; cases z) z⟩
theorem new_same {H : Hp} {p : Addr} {o : HO} (h : H p = none) : Same H (upd H p o) := fun b u z => by
  rw [upd_ne (ne_of_none z h)]
  exact z
theorem same_tf {H H' : Hp} (s : Same H H') : TF H H' := fun c zs z => by
  rcases z with z | ⟨u, z⟩
  · exact .inl (s _ _ z)
  · exact .inr ⟨u, s _ _ z⟩
theorem frm_same {H0 H1 H2 : Hp} {d : Addr} (s : Same H0 H1) (n : H0 d = none) (f : Frm d H1 H2) : Same H0 H2 := fun b o z => f b o (ne_of_none z n) (s b o z)
/-- a row of draws at d, good for n more -/
def Deck (H : Hp) (d : Addr) (n : Nat) : Prop := ∃ r m i c : Int, H d = some (.lst [.int r, .int m, .int i, .int c]) ∧ 0 ≤ m ∧ m < 2305843009213693951 ∧ 0 ≤ i ∧ i ≤ 1000 ∧ 0 ≤ c ∧ c + n ≤ 1000000000000
theorem Deck.le {H : Hp} {d : Addr} {n k : Nat} (h : Deck H d n) (hk : k ≤ n) : Deck H d k := by
  obtain ⟨r, m, i, c, h0, h1, h2, h3, h4, h5, h6⟩ := h
  exact ⟨r, m, i, c, h0, h1, h2, h3, h4, h5, by omega⟩
theorem Deck.lst {H : Hp} {d : Addr} {n : Nat} (h : Deck H d n) : ∃ xs, H d = some (.lst xs) := by
  obtain ⟨r, m, i, c, h0, _⟩ := h
  exact ⟨_, h0⟩
theorem Deck.keep {H H' : Hp} {d : Addr} {n : Nat} (h : Deck H d n) (e : H' d = H d) : Deck H' d n := by
  obtain ⟨r, m, i, c, h0, h1⟩ := h
  exact ⟨r, m, i, c, by rw [e]; exact h0, h1⟩
theorem Deck.same {H H' : Hp} {d : Addr} {n : Nat} (h : Deck H d n) (e : Same H H') : Deck H' d n := by
  obtain ⟨r, m, i, c, h0, h1⟩ := h
  exact ⟨r, m, i, c, e _ _ h0, h1⟩
theorem small_ab {i : Int} {n : Nat} (h0 : 0 ≤ i) (h1 : i < 2 ^ n) : i.natAbs < 2 ^ n := by
  have e : ((i.natAbs : Nat) : Int) = i := Int.natAbs_of_nonneg h0
  have h2 : ((i.natAbs : Nat) : Int) < ((2 ^ n : Nat) : Int) := by
    rw [e, Int.natCast_pow]
    exact h1
  exact Int.ofNat_lt.mp h2
theorem pow63 : (2 : Int) ^ 63 = 9223372036854775808 := by decide
theorem pow20 : (2 : Int) ^ 20 = 1048576 := by decide
theorem pow40 : (2 : Int) ^ 40 = 1099511627776 := by decide
theorem pow122 : (2 : Nat) ^ 122 = 5316911983139663491615228241121378304 := by decide
theorem pow120 : (2 : Nat) ^ (40 + 40 + 40) = 1329227995784915872903807060280344576 := by decide
theorem ne_int {i j : Int} (h : ¬ (V.int i = V.int j)) : i ≠ j := fun e => h (by rw [e])
theorem ty_tup {K : PySem.W.Frag} {H : Hp} {a : Addr} {xs : List V} (h : SqT K H a xs) : TyX K H (.ref a) (.type "tuple") := by
  rcases h with (h | ⟨o, h⟩) | ⟨o, _, _, h, hc, _⟩
  · exact .base (.tup h)
  · exact .fTuple h
  · exact .kTuple h hc
section
variable {K : PySem.W.Frag} {H : Hp}
theorem dpa_len : ∀ {vs : List V} {ds : List PyData}, DpAll K H vs ds → vs.length = ds.length
  | [], _, h => by cases h; rfl
  | v :: vs, _, h => by
    cases h with
    | cons _ b => rw [List.length_cons, List.length_cons, dpa_len b]
theorem dpa_get : ∀ {vs : List V} {ds : List PyData} {i : Nat} {e : PyData}, DpAll K H vs ds → ds[i]? = some e → ∃ v, vs[i]? = some v ∧ Dp K H v e
  | [], _, i, e, h, he => by cases h; cases he
  | v :: vs, _, 0, e, h, he => by
    cases h with
    | cons a _ => cases he; exact ⟨v, rfl, a⟩
  | v :: vs, _, i + 1, e, h, he => by
    cases h with
    | cons _ b => exact dpa_get (vs := vs) (i := i) b he
end
/-! ### x is True, x is not True, x any value -/
def rIsT (c : Bool) : R2 := fun x y H Q => y = .bl c ∧ Q (.bl (decide (x = .bl c))) H
theorem plain_bl (c : Bool) {x : V} {u : Value} (r : RelV x u) : plainIs u (.bool c) = true := by
  cases x <;> first | (cases r; rfl) | (obtain ⟨t, rfl⟩ := r; rfl)
section
variable {X : Cx}
theorem op_isT (c : Bool) : OpR X (compareOp .Is) (rIsT c) := by
  intro pins s σ H x y v u Q I rx ry h
  obtain ⟨rfl, q⟩ := h
  cases (show u = Value.bool c from ry)
  by_cases e : x = .bl c
  · subst e
    cases (show v = Value.bool c from rx)
    exact wpAny_is_self (plain_bl c rx) ⟨.bl true, H, I, rfl, by simpa using q⟩
  · refine wpAny_is_other (plain_bl c rx) (fun z => e ?_) ⟨.bl false, H, I, rfl, by simpa [e] using q⟩
    subst z
    exact RelV.inj rx rfl
theorem op_notT (c : Bool) : OpR X (compareOp .IsNot) (fun x y H Q => y = .bl c ∧ Q (.bl (!decide (x = .bl c))) H) := by
  intro pins s σ H x y v u Q I rx ry h
  obtain ⟨rfl, q⟩ := h
  cases (show u = Value.bool c from ry)
  by_cases e : x = .bl c
  · subst e
    cases (show v = Value.bool c from rx)
    exact wpAny_isNot_self (plain_bl c rx) ⟨.bl false, H, I, rfl, by simpa using q⟩
  · refine wpAny_isNot_other (plain_bl c rx) (fun z => e ?_) ⟨.bl true, H, I, rfl, by simpa [e] using q⟩
    subst z
    exact RelV.inj rx rfl
end

/-! ### data without lists and dicts -/
mutual
def NL : PyData → Prop
  | .none => True
  | .bool _ => True
  | .int _ => True
  | .str _ => True
  | .list _ => False
  | .tuple ds => NLs ds
  | .dict _ => False
def NLs : List PyData → Prop
  | [] => True
  | d :: ds => NL d ∧ NLs ds
end
section
variable {K : PySem.W.Frag} {H H' : Hp}
mutual
theorem dp_nl (e : TF H H') : ∀ (d : PyData) (v : V), NL d → Dp K H v d → Dp K H' v d
  | .none, _, _, h => by cases h; exact .non
  | .bool _, _, _, h => by cases h; exact .bl _
  | .int _, _, _, h => by cases h; exact .int _
  | .str _, _, _, h => by cases h; exact .str _
  | .list _, _, r, _ => r.elim
  | .dict _, _, r, _ => r.elim
  | .tuple ds, _, r, h => by
    cases h with
    | tup a b => exact .tup (e.sq a) (dpa_nl e ds _ r b)
theorem dpa_nl (e : TF H H') : ∀ (ds : List PyData) (vs : List V), NLs ds → DpAll K H vs ds → DpAll K H' vs ds
  | [], _, _, h => by cases h; exact .nil
  | d :: ds, _, r, h => by
    cases h with
    | cons a b => exact .cons (dp_nl e d _ r.1 a) (dpa_nl e ds _ r.2 b)
end
end
end KF
set_option maxRecDepth 100000
set_option maxHeartbeats 4000000
/-! A caught error that is kept under a name behind its try. -/
namespace KD
open PySem PySem.Spec PyProof.Rows L2
/-- a caught error that is kept: its class, its dict -/
def CxO (cl : Value) (dx : Option Addr) (ae : Addr) : HO := .ext fun hp => ∃ (ob : Obj) (fv : Array Value), hp.get? ae = some ob ∧ Zc cl dx ob ∧ ob.data = .fields fv
theorem cxo_ok {P : Program} {w : World} {G : Hp} {hp : Heap} {ae : Addr} {cl : Value} {dx : Option Addr} {ob : Obj} {fv : Array Value} (there : hp.get? ae = some ob) (zz : Zc cl dx ob) (dd : ob.data = .fields fv) : ObjOk P w G hp ae (CxO cl dx ae) :=
  ⟨⟨ob, fv, there, zz, dd⟩, ⟨ob, there⟩, fun _ _ ⟨o1, f1, y1, y2⟩ kp => ⟨o1, f1, kp o1 y1, y2⟩⟩
section
variable {X : Cx} {pins : List (Addr × Obj)} {σ : L2.St} {G : Hp} {s : Shared}
theorem track {ae : Addr} {cl : Value} {dx : Option Addr} {ob : Obj} {fv : Array Value} (J : Inv X pins σ G s) (there : s.heap.get? ae = some ob) (zz : Zc cl dx ob) (dd : ob.data = .fields fv) (na : G ae = none)
    (n0 : X.s_0.heap.get? ae = none) (nL : ae ≠ X.env.locals) (np : ∀ p ∈ X.pn ++ pins, p.1 ≠ ae) : Inv X pins σ (upd G ae (CxO cl dx ae)) s := by
  have ne0 : ∀ b o, X.s_0.heap.get? b = some o → b ≠ ae := fun b o eb z => by
    rw [z, n0] at eb
    cases eb
  refine ⟨J.ok, J.os, J.bare, ⟨J.base.keep, J.base.slot, fun b o eb n hx => ?_, J.base.there, fun b xs t => ?_, fun b o u t => ?_, fun b ps t => ?_⟩, J.loc, J.cell, ?_, fun x c ec => ?_, fun p hp => ?_, fun b u eb => ?_, J.len⟩
  · rw [upd_ne (ne0 b o eb)]
    exact J.base.free b o eb n hx
  · have y := J.base.tups b xs t
    rw [upd_ne (ne_of_none y na)]
    exact y
  · have y := J.base.frzs b o u t
    rw [upd_ne (ne_of_none y na)]
    exact y
  · obtain ⟨m, y⟩ := J.base.tbls b ps t
    exact ⟨m, by rw [upd_ne (ne_of_none y na)]; exact y⟩
  · rw [upd_ne (Ne.symm nL)]
    exact J.free
  · have nc : c ≠ ae := fun z => by
      obtain ⟨v, o, ho, hd⟩ := J.cell x c ec
      rw [z, there] at ho
      cases ho
      rw [dd] at hd
      cases hd
    rw [upd_ne nc]
    exact J.freeC x c ec
  · obtain ⟨q1, q2, q3, q4, q5⟩ := J.pin p hp
    exact ⟨q1, by rw [upd_ne (np p hp)]; exact q2, q3, q4, q5⟩
  · by_cases hb : b = ae
    · subst hb
      rw [upd_same] at eb
      cases eb
      exact cxo_ok there zz dd
    · rw [upd_ne hb] at eb
      exact (J.hok b u eb).stay (fun _ _ _ q => q) (fun c q => by rw [upd_ne (ne_of_none q na)]; exact q) fun c xs q => by rw [upd_ne (ne_of_none q na)]; exact q
end
/-- the clause's wish, the error kept behind it -/
def wKeep (K : PySem.W.Frag) (c : Value) (i : Nat) (ts : Addr → Value → Option Addr → TS) (Wo : WX) (D : Ends) : WX := fun cl dx σ G =>
  ∃ b, PySem.W.exmOne K cl c = some b ∧ (b = true → ∀ ae, G ae = none → ts ae cl dx { nx := fun σ' G' => D.nx (σ'.set i none) (upd G' ae (CxO cl dx ae)), rt := fun _ _ => False, bk := fun _ _ => False, ct := fun _ _ => False } (σ.set i (some (.ref ae))) G) ∧ (b = false → Wo cl dx σ G)
section
variable {X : Cx} {x n : Str} {c : Value} {i : Nat} {body su : List Stmt} {b1 : Stmt} {np pa pb : Pos} {tb : WX → TS} {ts : Addr → Value → Option Addr → TS} {Wo : WX}
theorem ps_try_keep (stk : X.stack = X.env :: X.outer) (fr : X.env.frame = some X.env.locals) (hex : X.ex = []) (nd : X.N.Nodup) (ni : X.N[i]? = some n) (lo : X.env.kindOf n = some .local) (nm : Names X x c) (tk : Takes X Wo)
    (hb : ∀ (W : WX) (pn : List (Addr × Obj)) (xe : Value → Shared → Prop), Takes (X.tr pn xe) W → PassesOwn (model X.prog X.w) X.A X.env xe → PSs (X.tr pn xe) body (tb W))
    (hsu : ∀ (ae : Addr) (ob : Obj) (cl : Value) (dx : Option Addr) (pn : List (Addr × Obj)), Zc cl dx ob → (∃ vs, ob.data = .fields vs) → PSs (X.suite ae ((ae, ob) :: pn)) (b1 :: su) (ts ae cl dx)) :
    PS X (.Try body [.ExceptHandler (some (.Name x np)) (some n) (b1 :: su) pb] [] [] pa) (fun D σ G => tb (wKeep X.K c i ts Wo D) D σ G) := by
  refine ⟨fun pins s σ G D I h => ?_⟩
  have ok := I.ok
  have frs2 : X.A.frames = some (X.env :: X.outer) := by rw [ok.frames, stk]
  refine wpAny_Try_except ?_
  have start := (hb (wKeep X.K c i ts Wo D) (X.pn ++ pins) (fun e s1 => wpAny (model X.prog X.w) X.A (noteFrame e X.env) (fun _ s2 => wpAny (model X.prog X.w) X.A (setFlight e none) (fun _ s3 =>
    wpAny (model X.prog X.w) X.A (handleBy e X.env [.ExceptHandler (some (.Name x np)) (some n) (b1 :: su) pb]) (SP X pins D) X.xe s3) X.xe s2) X.xe s1) (fun u s' xx => ?caught) PassesOwn.looking).run [] s σ G D (I.toTry _) h
  · refine wpAny_mono start (fun f t1 hsp => ?_) (fun e t1 he => he)
    cases f with
    | next =>
      obtain ⟨σ1, G1, J1, q⟩ := hsp
      exact wpAny_execs_nil ⟨σ1, G1, J1.ofTry ok, q⟩
    | brk =>
      obtain ⟨σ1, G1, J1, q⟩ := hsp
      exact ⟨σ1, G1, J1.ofTry ok, q⟩
    | cont =>
      obtain ⟨σ1, G1, J1, q⟩ := hsp
      exact ⟨σ1, G1, J1.ofTry ok, q⟩
    | ret u =>
      obtain ⟨v, σ1, G1, J1, rr, q⟩ := hsp
      exact ⟨v, σ1, G1, J1.ofTry ok, rr, q⟩
  case caught =>
    obtain ⟨ae, Bs, sM, pins1, σ1, G1, cl, dx, rfl, J0, nb, up, sky0, na, os, ag, b, hb1, hyes, hno⟩ := xx
    have J : Inv X pins σ1 G1 sM := J0.ofTry ok
    have sky1 : Sky Bs (X.env :: X.outer) ae (Zc cl dx) X.env.locals s'.heap := by rw [← stk]; exact sky0
    show wpAny (model X.prog X.w) X.A (noteFrame (.ref ae) X.env) _ _ _
    refine Sky.land Zc.steady frs2 fr sky1 fun h3 fl3 up3 => ?_
    have J3 : Inv X pins σ1 G1 { s' with heap := h3 } := J.landed nb fl3.1 (up.trans up3) os ag
    obtain ⟨o3, v3, at3, z3, d3⟩ := fl3.there
    have apart : ∀ {hp : Heap} {o : Obj} {vs : Array Value}, hp.FunFrames Bs (X.env :: X.outer) → hp.get? ae = some o → o.data = .fields vs → ae ∉ frs (X.env :: X.outer) := fun {hp o vs} ff e dd hm => by
      obtain ⟨_, o', e', hnf⟩ := ff.mem hm
      rw [e] at e'
      cases e'
      exact hnf _ dd
    have nfr := apart fl3.2.2.1 at3 d3
    have inFr : ∀ p : Addr, p ∈ frs (X.env :: X.outer) → p = X.env.locals ∨ p ∈ X.fs := fun p hm => by
      obtain ⟨ev, hev, q⟩ := List.mem_filterMap.mp hm
      rcases List.mem_cons.mp hev with z | z
      · rw [z, fr] at q
        exact .inl (Option.some.inj q).symm
      · exact .inr (List.mem_filterMap.mpr ⟨ev, z, q⟩)
    have nL : ae ≠ X.env.locals := fun z => nfr (List.mem_filterMap.mpr ⟨X.env, List.mem_cons_self, by rw [fr, z]⟩)
    have nF : ae ∉ X.fs := fun hm => by
      obtain ⟨ev, hev, q⟩ := List.mem_filterMap.mp hm
      exact nfr (List.mem_filterMap.mpr ⟨ev, List.mem_cons_of_mem _ hev, q⟩)
    have notB : Bs.get? ae = none := fl3.2.1
    have n0 : X.s_0.heap.get? ae = none := by
      cases e : X.s_0.heap.get? ae with
      | none => rfl
      | some o =>
        obtain ⟨o2, e2⟩ := J.base.there ae o e (by rw [hex]; exact fun z => nomatch z)
        have e3 := nb ae o2 e2 (by show ae ∉ frs X.stack; rw [stk]; exact nfr)
        rw [notB] at e3
        cases e3
    have npin : ∀ p ∈ X.pn ++ pins, p.1 ≠ ae := fun p hp z => by
      obtain ⟨q1, q2, q3, q4, q5⟩ := J.pin p hp
      have e3 := nb p.1 p.2 q1 (by
        show p.1 ∉ frs X.stack
        rw [stk]
        exact fun hm => (inFr p.1 hm).elim q3 q4)
      rw [z, notB] at e3
      cases e3
    have S3 := J3.suite at3 d3 na nL nF
    refine wpAny_handleBy_cons (codeAny_handlers_test ?_) (fun z => by cases z)
    have LT : PySem.W.Looks (model X.prog X.w) h3 (typeOf (.ref ae)) cl := fun A Q E s k q => wpAny_typeOf_ref (k _ _ at3) (by rw [z3.1]; exact q)
    have LK := PySem.W.exm_one (M := model X.prog X.w) J3.kIn LT hb1
    have test : ∀ {Q : Value → Shared → Prop} {E : Value → Shared → Prop}, Q c { s' with heap := h3 } → wpAny (model X.prog X.w) (X.A.mark (some (.ref ae))) (eval (.Name x np) X.env) Q E { s' with heap := h3 } := fun {Q E} q => by
      obtain ⟨g1, g2, g3 | ⟨g3, g4, g5⟩⟩ := nm
      · exact ld_glob (X := X.suite ae ((ae, o3) :: (X.pn ++ pins))) S3 g1 g3 q g2
      · exact ld_blt (X := X.suite ae ((ae, o3) :: (X.pn ++ pins))) S3 g1 g3 g4 q g5 g2
    refine test (LK.here ?_)
    cases b with
    | true =>
      refine codeAny_handlers_suite_as (HandSPX.lands_againZ fl3 fun h4 fl4 up4 => ?_)
      have J4 : Inv X pins σ1 G1 { s' with heap := h4 } := J.landed nb fl4.1 ((up.trans up3).trans up4) os ag
      obtain ⟨o4, v4, at4, z4, d4⟩ := fl4.there
      have S4 := J4.suite at4 d4 na nL nF
      refine store_ok (X := X.suite ae ((ae, o4) :: (X.pn ++ pins))) (v := .ref ae) S4 nd ni (.inl lo) rfl (fun s5 S5 => ?_) (.inr lo)
      refine wpAny_mono ((hsu ae o4 cl dx (X.pn ++ pins) z4 ⟨_, d4⟩).run [] s5 _ G1 _ S5 (hyes rfl ae na)) (fun f s6 hsp => ?_) (fun _ _ z => False.elim z)
      cases f with
      | next =>
        obtain ⟨σ6, G6, S6, q6⟩ := hsp
        obtain ⟨p1, p2, p3, p4, p5⟩ := S6.pin (ae, o4) (List.mem_append_left _ List.mem_cons_self)
        have T6 := track (S6.unsuite ok) p1 z4 d4 p2 n0 nL npin
        exact gone_ok T6 nd ni lo fun s7 J7 => ⟨_, _, J7, q6⟩
      | brk =>
        obtain ⟨σ6, G6, S6, q6⟩ := hsp
        exact q6.elim
      | cont =>
        obtain ⟨σ6, G6, S6, q6⟩ := hsp
        exact q6.elim
      | ret u =>
        obtain ⟨v6, σ6, G6, S6, r6, q6⟩ := hsp
        exact q6.elim
    | false =>
      show wpAny _ X.A (handleBy (.ref ae) X.env []) _ _ _
      refine wpAny_handleBy_nil ?_
      obtain ⟨k1, k2, k3, o5, v5, T5, oT, ts', he5, hz5, hd5, h5, hr5⟩ := id fl3
      unfold PySem.passOn
      refine wpAny_bind (wpAny_field he5 hd5 h5 ?_)
      rw [if_neg (show ¬ ((Value.ref T5 == Value.none) = true) from by simp)]
      have fin2 : wpAny (model X.prog X.w) X.A (setFlight (.ref ae) X.env.frame) (fun _ s4 => wpAny (model X.prog X.w) X.A (throw (.ref ae) : Sem Flow) (SP X pins D) X.xe s4) X.xe { s' with heap := h3 } := by
        rw [fr]
        refine HandSPX.setFlight_upZ fl3 fun h4 hh4 up4 => wpAny_throw (tk _ _ ?_)
        exact ⟨ae, Bs, sM, pins, σ1, G1, cl, dx, rfl, J, nb, (up.trans up3).trans up4, .inr (.inr (by rw [stk]; exact hh4)), na, os, ag, hno rfl⟩
      first
        | exact wpAny_bind (wpAny_pure (wpAny_bind fin2))
        | exact wpAny_bind fin2
end
/-! ### what is asked of it -/
def rIsC (K : PySem.W.Frag) : List V → Hp → VK → Prop := fun xs G Q => ∃ (D ae dx : Addr) (c : V) (cv : Value) (b : Bool) (fs : List (Str × V)), xs = [.ref ae, c] ∧ ExcC K D ∧ G ae = some (CxO (.ref D) (some dx) ae) ∧ G dx = some (.xd fs) ∧ ClsV c cv ∧
  PySem.W.kitOne K (.ref D) cv = some b ∧ Q (.bl b) G
def rIsCT (K : PySem.W.Frag) : List V → Hp → VK → Prop := fun xs G Q => ∃ (D ae dx tp : Addr) (cs : List V) (us : List Value) (b : Bool) (fs : List (Str × V)), xs = [.ref ae, .ref tp] ∧ ExcC K D ∧ G ae = some (CxO (.ref D) (some dx) ae) ∧ G dx = some (.xd fs) ∧ G tp = some (.tup cs) ∧
  Paired ClsV cs us ∧ PySem.W.kitAny K (.ref D) us = some b ∧ Q (.bl b) G
section
variable {X : Cx} {pins : List (Addr × Obj)} {σ : L2.St} {G : Hp} {s : Shared}
theorem inst_kept {D ae dx : Addr} {fs : List (Str × V)} (J : Inv X pins σ G s) (ha : G ae = some (CxO (.ref D) (some dx) ae)) (hd : G dx = some (.xd fs)) :
    ∃ ob od, PySem.W.InstAt s.heap ae ob D (some od) ∧ ∀ n, ∃ m, PySem.W.lookIn n od = some m ∧ RelO (fs.lookup n) m := by
  obtain ⟨⟨ob, fv, g1, g2, g3⟩, _⟩ := J.hok ae _ ha
  have hx : ObjOk X.prog X.w G s.heap dx (.xd fs) := J.hok dx _ hd
  obtain ⟨mA, hns, hr⟩ := hx
  obtain ⟨od, hod, look⟩ := lookIn_ns hns
  exact ⟨ob, od, ⟨g1, g2.1, by unfold PySem.W.notCls; rw [g3] <;> rfl, by rw [g2.2]; exact hod⟩, fun n => ⟨mA n, look n, hr n⟩⟩
theorem call_isC : CallR X (.builtin "isinstance") (rIsC X.K) := by
  intro pins s σ G xs us Q I r h
  obtain ⟨D, ae, dx, c, cv, b, fs, rfl, C, ha, hd, hcv, e, q⟩ := h
  obtain ⟨v1, v2, rfl, q1, q2⟩ := vals2 r
  have e2 := hcv.eq q2
  subst e2
  cases (show v1 = Value.ref ae from q1)
  obtain ⟨ob, od, J, _⟩ := inst_kept I ha hd
  obtain ⟨cd, hcd, _⟩ := PySem.W.any_some C.hd
  exact PySem.W.kia_one (PySem.W.kitx_exc (by rw [hcd]; rfl) C.hg C.hk C.hs C.ha C.hn C.ht C.hm) I.kIn J e (fun z => nomatch z) fun tk => ⟨.bl b, G, I.tok tk, rfl, q⟩
theorem call_isCT : CallR X (.builtin "isinstance") (rIsCT X.K) := by
  intro pins s σ G xs us Q I r h
  obtain ⟨D, ae, dx, tp, cs, ws, b, fs, rfl, C, ha, hd, hT, k, e, q⟩ := h
  obtain ⟨v1, v2, rfl, q1, q2⟩ := vals2 r
  cases (show v2 = Value.ref tp from q2)
  cases (show v1 = Value.ref ae from q1)
  obtain ⟨ob, od, J, _⟩ := inst_kept I ha hd
  obtain ⟨cd, hcd, _⟩ := PySem.W.any_some C.hd
  obtain ⟨_, its, rv, o, g1, g2, n, g3⟩ := (show ObjOk X.prog X.w G s.heap tp (.tup cs) from I.hok tp _ hT)
  have e3 := ClsV.all k rv
  subst e3
  obtain ⟨oc, od2, dt, sl⟩ := o
  simp only at g2 g3
  subst g2 g3
  exact PySem.W.kia_tup (PySem.W.kitx_exc (by rw [hcd]; rfl) C.hg C.hk C.hs C.ha C.hn C.ht C.hm) I.kIn J g1 e (fun z => nomatch z) fun tk => ⟨.bl b, G, I.tok tk, rfl, q⟩
/-- e.f, e the kept error -/
def tXk (K : PySem.W.Frag) (f : Str) (te : TE) : TE := fun σ G Q => te σ G fun y G1 => ∃ (ae C dx : Addr) (fs : List (Str × V)) (v : V), y = .ref ae ∧ G1 ae = some (CxO (.ref C) (some dx) ae) ∧ XfC K C ∧ PySem.W.findIn K (.ref C) f = some none ∧ G1 dx = some (.xd fs) ∧ fs.lookup f = some v ∧ Q v G1
theorem pe_xk {e : Expr} {te : TE} {pos : Pos} {f : Str} (he : PE X e te) (hb : attributeBase e f X.env (eval e X.env) = eval e X.env := by rfl) : PE X (.Attribute e f pos) (tXk X.K f te) := by
  refine ⟨fun pins s σ G Q I h => ?_⟩
  refine attr_of hb (thn (he.run pins s σ G _ I h) fun u s1 hh => ?_)
  obtain ⟨y, G1, I1, rx, ae, C, dx, fs, v, ex, ha, T, hno, hd, l, q⟩ := hh
  subst ex
  obtain rfl : u = Value.ref ae := rx
  obtain ⟨ob, od, J, look⟩ := inst_kept I1 ha hd
  obtain ⟨m, hl, hr⟩ := look f
  obtain ⟨u2, hu, ru⟩ := RelO.some_of (v := v) (o := m) (by rw [← l]; exact hr)
  exact HandSPX.exc_get I1.kIn J T.ga T.gg T.exC (PySem.W.findObj_own T.hdC hno rfl (by rw [hl, hu])) (handed_of ru) ⟨v, G1, I1.tok _, ru, q⟩
end
end KD
set_option maxRecDepth 100000
set_option maxHeartbeats 4000000
/-! Calls by name, the names the other way about. -/
namespace KG
open PySem PySem.Spec PyProof.Rows L2
section
variable {X : Cx} {CX : CXT} {k : Nat} {f : Addr} {fd : FuncData} {ps ks : List Str} {sp : Sp} {E : XK} {x : Str} {p pos : Pos} {kws : List Keyword} {tk : TA} {g : List Value → List Value → List Value} {gV : List V → List V → List V}
theorem pe_callKw (F : FnOk X.prog X.w X.K X.mg X.base CX k f fd ps sp) (hr : Room k X.A) (hg : Gl X x) (hm : X.mg x = some (.ref f)) (hk : PySem.W.keepIn X.K (.ref f) = true) (hb : KBinds X.K fd ps ks g gV) (hx : Passes CX X E)
    (hkw : PK X kws tk) (hall : (backToKw pos (keywordEach kws X.env)).all (·.1.isSome) = true := by rfl) (hks : (backToKw pos (keywordEach kws X.env)).filterMap (·.1) = ks := by rfl)
    (hdb : (x == ("__debug__" : Str)) = false := by decide)
    (hpl : ((backTo pos (starEach [] X.env)).any (·.1) || (backToKw pos (keywordEach kws X.env)).any (·.1.isNone)) = false := by rfl) :
    PE X (.Call (.Name x p) [] kws pos) (tCallK sp gV E tNil tk) := by
  refine ⟨fun pins s σ H Q I h => ?_⟩
  refine wpAny_Call_Name_kw (ld_glob I hg hm ?_ hdb)
  refine PySem.W.callWith_KW0 (h₀ := X.base) I.ok.mod.kin hk hall ?_ hpl
  refine thn (hkw.run pos pins s σ H _ I h) fun ws s2 ⟨zs, H2, I2, rz, q2⟩ => ⟨I2.kIn, ?_⟩
  rw [hks]
  exact run_fnk (us := []) (vs := []) F hr hb hx I2 .nil rz q2
end
section
variable {x : Str} {ps ks : List Str} {f : Addr} {fd : FuncData}
def kR {α : Type} (us ws : List α) : List α := if us.isEmpty then ws.reverse else []
theorem vals_app : ∀ {vs us : List V} {ws zs : List Value}, Vals vs ws → Vals us zs → Vals (vs ++ us) (ws ++ zs)
  | _, _, _, _, .nil, h => h
  | _, _, _, _, .cons a t, h => .cons a (vals_app t h)
theorem vals_rev : ∀ {vs : List V} {ws : List Value}, Vals vs ws → Vals vs.reverse ws.reverse
  | _, _, .nil => .nil
  | _, _, .cons a t => by
    rw [List.reverse_cons, List.reverse_cons]
    exact vals_app (vals_rev t) (.cons a .nil)
theorem kb_rev {K : PySem.W.Frag} {qual : Str} {params : Arguments} {body : List Stmt} {scope : Scope} {kws : List (Str × V)} (F : FunD K x qual params body scope [] kws f fd) (hp : ps.length ≠ 0)
    (h : ∀ (kV doc pm : Value) (an : Option Addr) (cdv ct : Value) (ws : List Value), ws.length = ps.length → bindArgs (PySem.W.fnOf x qual params body scope .none kV doc pm an cdv ct) ⟨[], ks.zip ws⟩ = pure (ps.zip ws.reverse)) : KBinds K fd ps ks kR kR := by
  obtain ⟨oc, od, dV, kV, doc, pm, an, cdv, ct, osl, rfl, lk, hcd, hD, hK⟩ := F.ex
  rcases hD with ⟨_, rfl⟩ | ⟨e, _⟩
  · refine ⟨fun s us ws _ hl => ?_, fun {vs us zs ws} r rz => ?_⟩
    · cases us with
      | nil =>
        have hl2 : ws.length = ps.length := by
          have : ws.reverse.length = ps.length := hl
          rw [List.length_reverse] at this
          exact this
        exact .of_eq (h kV doc pm an cdv ct ws hl2)
      | cons a b => exact absurd hl.symm hp
    · cases r with
      | nil => exact vals_rev rz
      | cons _ _ => exact .nil
  · exact absurd rfl e
end
end KG
set_option maxRecDepth 100000
set_option maxHeartbeats 0
namespace K61
open PySem PySem.Spec PyProof.Rows L2
def top (i : Nat) : Stmt := PySem.Challenge.pw_latepresses_k61_packed.main.body.getD i (.Pass ⟨0, 0, 0, 0⟩)
abbrev s_packed : Stmt := top 6
abbrev s_unpacked : Stmt := top 7
abbrev s_law_well : Stmt := top 9
abbrev s_law_draw : Stmt := top 10
abbrev s_law_pieces : Stmt := top 11
abbrev s_law_together : Stmt := top 12
abbrev s_law_same : Stmt := top 13
abbrev s_law_asked : Stmt := top 14
abbrev s_law_right : Stmt := top 15
abbrev s_law : Stmt := top 16
abbrev s_GameError_init : Stmt := inClass (top 1) 0
abbrev FnQ (K : PySem.W.Frag) (x q : Str) (st : Stmt) (f : Addr) (fd : FuncData) : Prop := FunD K x q (defArgs st) (defBody st) (defScope st) [] [] f fd
def fdAt (K : PySem.W.Frag) (a : Addr) : FuncData := match K.lookup a with
  | some ⟨_, _, .func fd, _⟩ => fd
  | _ => PySem.W.fnOf "" "" (defArgs (top 0)) [] (defScope (top 0)) .none .none .none .none none .none .none
theorem fdAt_eq {K : PySem.W.Frag} {a : Addr} {x q : Str} {st : Stmt} {fd : FuncData} (F : FnQ K x q st a fd) : FnQ K x q st a (fdAt K a) := by
  obtain ⟨oc, od, dV, kV, doc, pm, an, cdv, ct, osl, e, lk, r⟩ := F.ex
  have h : fdAt K a = fd := by
    unfold fdAt
    rw [lk]
  rw [h]
  exact F
def d_packed : He.DefD := ⟨("packed", none), "packed", "packed", defArgs s_packed, defBody s_packed, defScope s_packed, [], []⟩
def d_unpacked : He.DefD := ⟨("unpacked", none), "unpacked", "unpacked", defArgs s_unpacked, defBody s_unpacked, defScope s_unpacked, [], []⟩
def d_law_well : He.DefD := ⟨("_law_well", none), "_law_well", "_law_well", defArgs s_law_well, defBody s_law_well, defScope s_law_well, [], []⟩
def d_law_draw : He.DefD := ⟨("_law_draw", none), "_law_draw", "_law_draw", defArgs s_law_draw, defBody s_law_draw, defScope s_law_draw, [], []⟩
def d_law_pieces : He.DefD := ⟨("_law_pieces", none), "_law_pieces", "_law_pieces", defArgs s_law_pieces, defBody s_law_pieces, defScope s_law_pieces, [], []⟩
def d_law_together : He.DefD := ⟨("_law_together", none), "_law_together", "_law_together", defArgs s_law_together, defBody s_law_together, defScope s_law_together, [], []⟩
def d_law_same : He.DefD := ⟨("_law_same", none), "_law_same", "_law_same", defArgs s_law_same, defBody s_law_same, defScope s_law_same, [], []⟩
def d_law_asked : He.DefD := ⟨("_law_asked", none), "_law_asked", "_law_asked", defArgs s_law_asked, defBody s_law_asked, defScope s_law_asked, [], []⟩
def d_law_right : He.DefD := ⟨("_law_right", none), "_law_right", "_law_right", defArgs s_law_right, defBody s_law_right, defScope s_law_right, [], []⟩
def d_law : He.DefD := ⟨("law", none), "law", "law", defArgs s_law, defBody s_law, defScope s_law, [], []⟩
def d_GameError_init : He.DefD := ⟨("GameError", some "__init__"), "__init__", "GameError.__init__", defArgs s_GameError_init, defBody s_GameError_init, defScope s_GameError_init, [], []⟩
def loose0 : List Str := ["packed", "unpacked", "_law_well", "_law_draw", "_law_pieces", "_law_together", "_law_same", "_law_asked", "_law_right", "GameError", "InvalidPress", "InvalidNumber", "InvalidTick"]
def loose : List Str := loose0
def fn : List He.DefD := [d_packed, d_unpacked, d_law_well, d_law_draw, d_law_pieces, d_law_together, d_law_same, d_law_asked, d_law_right, d_law, d_GameError_init]
def fa : List He.Fa := [.glo "packed", .glo "unpacked", .glo "_law_well", .glo "_law_draw", .glo "_law_pieces", .glo "_law_together", .glo "_law_same", .glo "_law_asked", .glo "_law_right", .glo "law", .free "len", .free "int", .free "isinstance", .free "range", .free "min", .free "max", .free "str", .free "bool", .free "tuple", .free "list", .free "zip", .free "ValueError", .free "repr", .free "abs", .glo "GameError", .glo "InvalidPress", .glo "InvalidNumber", .glo "InvalidTick"]
def tupA (K : PySem.W.Frag) (a : Addr) (vs : List He.Dv) : Bool := match K.lookup a with
  | some ⟨.type c, _, .seq its _, _⟩ => decide (c = "tuple") && (decide (its.size ≤ sizeLine) && He.relAll (vs.map (He.Dv.v K)) its.toList)
  | _ => false
theorem tupA_ok {K : PySem.W.Frag} {a : Addr} {vs : List He.Dv} (h : tupA K a vs = true) (H : Hp) : SqT K H a (vs.map (He.Dv.v K)) := by
  unfold tupA at h
  split at h
  · rename_i c dd its n sl q
    obtain ⟨h1, h2⟩ := He.ba h
    obtain ⟨h3, h4⟩ := He.ba h2
    exact .inr ⟨_, its, n, q, congrArg Value.type (of_decide_eq_true h1), rfl, of_decide_eq_true h3, He.relAll_ok h4⟩
  · cases h
/-- where a written dict's value lies -/
def dtA (K : PySem.W.Frag) (x k : Str) : Addr := match PySem.W.nsIn K (He.ga K x) k with
  | some (some (.ref a)) => a
  | _ => 0
def dtB (K : PySem.W.Frag) (x : Str) (q : Str × List He.Dv) : Bool := decide (PySem.W.nsIn K (He.ga K x) q.1 = some (some (.ref (dtA K x q.1)))) && tupA K (dtA K x q.1) q.2
def tabs : List He.Tab := []
/-- the class object over ValueError -/
def okC (K : PySem.W.Frag) (C : Addr) : Bool := match K.lookup C with
  | some ⟨.type "type", _, .cls cd, sl⟩ => (match cd.mro, sl.toList with
    | .ref C' :: bm, [_, _, _, _, some (.builtin n), _] => decide (C' = C) && (decide (n = "ValueError.__new__") && (!cd.hasDel && (cd.hasDict && PySem.HandSPX.refsVE bm)))
    | _, _ => false)
  | _ => false
theorem okC_ok {K : PySem.W.Frag} {C : Addr} (h : okC K C = true) :
    ∃ nm q N bs bm sn sub ab col dd k0 k1 k2 k3 k5, K.lookup C = some (excClassObj nm q C N bs bm true sn sub ab col dd k0 k1 k2 k3 k5 "ValueError.__new__") ∧ PySem.HandSPX.refsVE bm = true := by
  unfold okC at h
  split at h
  · rename_i dv cd sl ho
    split at h
    · rename_i C' bm k0 k1 k2 k3 n k5 hm hs
      simp only [Bool.and_eq_true, decide_eq_true_eq, Bool.not_eq_true'] at h
      obtain ⟨h1, h2, h3, h4, h5⟩ := h
      subst h1 h2
      obtain ⟨nm, bs, mro, ns, qn, hd, sn, sub, ab, col, del⟩ := cd
      dsimp only at hm h3 h4
      subst hm h3 h4
      have hsl : sl = #[k0, k1, k2, k3, some (.builtin "ValueError.__new__"), k5] := by
        obtain ⟨l⟩ := sl
        simp only at hs
        rw [hs]
      subst hsl
      exact ⟨nm, qn, ns, bs, bm, sn, sub, ab, col, dv, k0, k1, k2, k3, k5, ho, h5⟩
    · cases h
  · cases h
def iAd (K : PySem.W.Frag) : Addr := He.fAd K ("GameError", some "__init__")
def eqV (a b : Option (Option Value)) : Bool := decide (a = b)
def eqB (a b : Option Bool) : Bool := decide (a = b)
/-- all that is asked of one class -/
def exC (K : PySem.W.Frag) (C : Addr) : Bool :=
  okC K C && (eqV (PySem.W.findIn K (.ref C) "__setattr__") (some (some (.builtin "object.__setattr__"))) && (eqB (PySem.W.subIn K (.ref C) (.type "BaseException")) (some true) && (decide (PySem.W.typeIn K (.ref C) = some (.type "type")) &&
  (PySem.W.keepIn K (.ref C) && (eqV (PySem.W.findIn K (.ref C) "__init__") (some (some (.ref (iAd K)))) && (eqV (PySem.W.findIn K (.ref C) "value") (some none) &&
  (eqV (PySem.W.findIn K (.ref C) "__getattribute__") (some (some (.builtin "BaseException.__getattribute__"))) && (eqV (PySem.W.findIn K (.ref C) "__getattr__") (some none) && (PySem.W.hasDictIn K C &&
  (eqV (PySem.W.findIn K (.ref C) "__class__") (some (some (.builtin "object.__class__"))) && (eqB (PySem.W.mroIn K C (.type "object")) (some true) && (eqB (PySem.W.exmOne K (.ref C) (.ref (He.ga K "GameError"))) (some true) &&
  eqB (PySem.W.kitOne K (.ref C) (.type "ValueError")) (some true)))))))))))))
def exG (K : PySem.W.Frag) : Bool :=
  eqV (PySem.W.specialIn K (.builtin "object.__class__") "__get__") (some (some (.builtin "getset_descriptor.__get__"))) && (eqB (PySem.W.takesIn K (.builtin "object.__class__")) (some true) &&
  (decide (PySem.W.typeIn K (.ref (iAd K)) = some (.type "function")) && (match PySem.W.findCls K (.type "ValueError") (.type "type") "__init__" with
    | some (.val (.builtin s)) => decide (s = "ValueError.__init__")
    | _ => false)))
def nots : List Str := ["InvalidPress", "InvalidTick"]
def exAll (K : PySem.W.Frag) : Bool := exG K && (exC K (He.ga K "InvalidNumber") && (eqB (PySem.W.kitOne K (.ref (He.ga K "InvalidNumber")) (.ref (He.ga K "InvalidNumber"))) (some true) &&
  nots.all fun y => eqB (PySem.W.kitOne K (.ref (He.ga K "InvalidNumber")) (.ref (He.ga K y))) (some false)))
def exs (K : PySem.W.Frag) : Bool := exAll K && (true)
abbrev R : PySem.W.OpenRow := PySem.W.OpenLaw.row PySem.Challenge.rw_latepresses_k61_packed
abbrev hk : PySem.W.Hook := He.hookX 6 fa fn tabs [] exs
def ob (s : PySem.W.SharedT) : He.AlX := He.obsX 6 fa fn tabs [] exs (HandSHeadRun.getT s)
theorem ob_eq (s : PySem.W.SharedT) : ob s = hk.obs s.abs := He.obsX_eq (HandSHeadRun.getT_eq s)
theorem run0 (w : World) : HandSHeadRun.RunEq R (PySem.W.view R.prog [16]) hk ob 20000 loose (w.withFollow "special-get-raises" false) := by
  intro os
  kernel_rfl
theorem run1 (w : World) : HandSHeadRun.RunEq R (PySem.W.view R.prog [16]) hk ob 20000 loose (w.withFollow "special-get-raises" true) := by
  intro os
  kernel_rfl
theorem run (w : World) : HandSHeadRun.RunEq R (PySem.W.view R.prog [16]) hk ob 20000 loose w :=
  PySem.W.byRow2 "special-get-raises" (P := fun w => HandSHeadRun.RunEq R (PySem.W.view R.prog [16]) hk ob 20000 loose w) run0 run1 w
structure Txt (K : PySem.W.Frag) (w : World) (mg : Str → Option Value) : Prop where
  F_packed : FnQ K "packed" "packed" s_packed (He.fAd K ("packed", none)) (fdAt K (He.fAd K ("packed", none)))
  b_packed : Binds K (fdAt K (He.fAd K ("packed", none))) ["rows"] []
  F_unpacked : FnQ K "unpacked" "unpacked" s_unpacked (He.fAd K ("unpacked", none)) (fdAt K (He.fAd K ("unpacked", none)))
  b_unpacked : Binds K (fdAt K (He.fAd K ("unpacked", none))) ["told"] []
  F_law_well : FnQ K "_law_well" "_law_well" s_law_well (He.fAd K ("_law_well", none)) (fdAt K (He.fAd K ("_law_well", none)))
  b_law_well : Binds K (fdAt K (He.fAd K ("_law_well", none))) ["script", "place"] []
  F_law_draw : FnQ K "_law_draw" "_law_draw" s_law_draw (He.fAd K ("_law_draw", none)) (fdAt K (He.fAd K ("_law_draw", none)))
  b_law_draw : Binds K (fdAt K (He.fAd K ("_law_draw", none))) ["well", "many"] []
  F_law_pieces : FnQ K "_law_pieces" "_law_pieces" s_law_pieces (He.fAd K ("_law_pieces", none)) (fdAt K (He.fAd K ("_law_pieces", none)))
  b_law_pieces : Binds K (fdAt K (He.fAd K ("_law_pieces", none))) ["well"] []
  F_law_together : FnQ K "_law_together" "_law_together" s_law_together (He.fAd K ("_law_together", none)) (fdAt K (He.fAd K ("_law_together", none)))
  b_law_together : Binds K (fdAt K (He.fAd K ("_law_together", none))) ["pieces"] []
  F_law_same : FnQ K "_law_same" "_law_same" s_law_same (He.fAd K ("_law_same", none)) (fdAt K (He.fAd K ("_law_same", none)))
  b_law_same : Binds K (fdAt K (He.fAd K ("_law_same", none))) ["got", "due"] []
  F_law_asked : FnQ K "_law_asked" "_law_asked" s_law_asked (He.fAd K ("_law_asked", none)) (fdAt K (He.fAd K ("_law_asked", none)))
  b_law_asked : Binds K (fdAt K (He.fAd K ("_law_asked", none))) ["pieces", "named"] []
  F_law_right : FnQ K "_law_right" "_law_right" s_law_right (He.fAd K ("_law_right", none)) (fdAt K (He.fAd K ("_law_right", none)))
  b_law_right : Binds K (fdAt K (He.fAd K ("_law_right", none))) ["well"] []
  F_law : FnQ K "law" "law" s_law (He.fAd K ("law", none)) (fdAt K (He.fAd K ("law", none)))
  b_law : Binds K (fdAt K (He.fAd K ("law", none))) ["script"] []
  F_GameError_init : FnQ K "__init__" "GameError.__init__" s_GameError_init (He.fAd K ("GameError", some "__init__")) (fdAt K (He.fAd K ("GameError", some "__init__")))
  b_GameError_init : Binds K (fdAt K (He.fAd K ("GameError", some "__init__"))) ["self", "value"] []
  g_packed : mg "packed" = some (.ref (He.ga K "packed"))
  g_unpacked : mg "unpacked" = some (.ref (He.ga K "unpacked"))
  g_law_well : mg "_law_well" = some (.ref (He.ga K "_law_well"))
  g_law_draw : mg "_law_draw" = some (.ref (He.ga K "_law_draw"))
  g_law_pieces : mg "_law_pieces" = some (.ref (He.ga K "_law_pieces"))
  g_law_together : mg "_law_together" = some (.ref (He.ga K "_law_together"))
  g_law_same : mg "_law_same" = some (.ref (He.ga K "_law_same"))
  g_law_asked : mg "_law_asked" = some (.ref (He.ga K "_law_asked"))
  g_law_right : mg "_law_right" = some (.ref (He.ga K "_law_right"))
  g_law : mg "law" = some (.ref (He.ga K "law"))
  n_len : mg "len" = none
  n_int : mg "int" = none
  n_isinstance : mg "isinstance" = none
  n_range : mg "range" = none
  n_min : mg "min" = none
  n_max : mg "max" = none
  n_str : mg "str" = none
  n_bool : mg "bool" = none
  n_tuple : mg "tuple" = none
  n_list : mg "list" = none
  n_zip : mg "zip" = none
  n_ValueError : mg "ValueError" = none
  n_repr : mg "repr" = none
  n_abs : mg "abs" = none
  g_GameError : mg "GameError" = some (.ref (He.ga K "GameError"))
  g_InvalidPress : mg "InvalidPress" = some (.ref (He.ga K "InvalidPress"))
  g_InvalidNumber : mg "InvalidNumber" = some (.ref (He.ga K "InvalidNumber"))
  g_InvalidTick : mg "InvalidTick" = some (.ref (He.ga K "InvalidTick"))
  ex : exAll K = true
theorem txt_of {K : PySem.W.Frag} {w : World} {h h0 : Heap} {mg : Str → Option Value} (X : K.In h) (G : h.Ns mainGlobals mg) (c : He.SaysX fa fn tabs [] exs w h0 K) : Txt K w mg := by
  have cd := c.t.d
  have e0 : exs K = true := c.more
  unfold exs at e0
  obtain ⟨x0, e0⟩ := He.ba e0
  obtain ⟨fd_packed, f_packed⟩ := cd.def_ 0 (d := d_packed) rfl
  obtain ⟨fd_unpacked, f_unpacked⟩ := cd.def_ 1 (d := d_unpacked) rfl
  obtain ⟨fd_law_well, f_law_well⟩ := cd.def_ 2 (d := d_law_well) rfl
  obtain ⟨fd_law_draw, f_law_draw⟩ := cd.def_ 3 (d := d_law_draw) rfl
  obtain ⟨fd_law_pieces, f_law_pieces⟩ := cd.def_ 4 (d := d_law_pieces) rfl
  obtain ⟨fd_law_together, f_law_together⟩ := cd.def_ 5 (d := d_law_together) rfl
  obtain ⟨fd_law_same, f_law_same⟩ := cd.def_ 6 (d := d_law_same) rfl
  obtain ⟨fd_law_asked, f_law_asked⟩ := cd.def_ 7 (d := d_law_asked) rfl
  obtain ⟨fd_law_right, f_law_right⟩ := cd.def_ 8 (d := d_law_right) rfl
  obtain ⟨fd_law, f_law⟩ := cd.def_ 9 (d := d_law) rfl
  obtain ⟨fd_GameError_init, f_GameError_init⟩ := cd.def_ 10 (d := d_GameError_init) rfl
  exact {
    F_packed := fdAt_eq f_packed
    b_packed := (fdAt_eq (st := s_packed) f_packed).bindsN fun _ _ _ _ _ _ us hl => match us, hl with | [_], _ => rfl
    F_unpacked := fdAt_eq f_unpacked
    b_unpacked := (fdAt_eq (st := s_unpacked) f_unpacked).bindsN fun _ _ _ _ _ _ us hl => match us, hl with | [_], _ => rfl
    F_law_well := fdAt_eq f_law_well
    b_law_well := (fdAt_eq (st := s_law_well) f_law_well).bindsN fun _ _ _ _ _ _ us hl => match us, hl with | [_, _], _ => rfl
    F_law_draw := fdAt_eq f_law_draw
    b_law_draw := (fdAt_eq (st := s_law_draw) f_law_draw).bindsN fun _ _ _ _ _ _ us hl => match us, hl with | [_, _], _ => rfl
    F_law_pieces := fdAt_eq f_law_pieces
    b_law_pieces := (fdAt_eq (st := s_law_pieces) f_law_pieces).bindsN fun _ _ _ _ _ _ us hl => match us, hl with | [_], _ => rfl
    F_law_together := fdAt_eq f_law_together
    b_law_together := (fdAt_eq (st := s_law_together) f_law_together).bindsN fun _ _ _ _ _ _ us hl => match us, hl with | [_], _ => rfl
    F_law_same := fdAt_eq f_law_same
    b_law_same := (fdAt_eq (st := s_law_same) f_law_same).bindsN fun _ _ _ _ _ _ us hl => match us, hl with | [_, _], _ => rfl
    F_law_asked := fdAt_eq f_law_asked
    b_law_asked := (fdAt_eq (st := s_law_asked) f_law_asked).bindsN fun _ _ _ _ _ _ us hl => match us, hl with | [_, _], _ => rfl
    F_law_right := fdAt_eq f_law_right
    b_law_right := (fdAt_eq (st := s_law_right) f_law_right).bindsN fun _ _ _ _ _ _ us hl => match us, hl with | [_], _ => rfl
    F_law := fdAt_eq f_law
    b_law := (fdAt_eq (st := s_law) f_law).bindsN fun _ _ _ _ _ _ us hl => match us, hl with | [_], _ => rfl
    F_GameError_init := fdAt_eq f_GameError_init
    b_GameError_init := (fdAt_eq (st := s_GameError_init) f_GameError_init).bindsN fun _ _ _ _ _ _ us hl => match us, hl with | [_, _], _ => rfl
    g_packed := He.glo_ok X G (cd.fact 0 (f := .glo "packed") rfl)
    g_unpacked := He.glo_ok X G (cd.fact 1 (f := .glo "unpacked") rfl)
    g_law_well := He.glo_ok X G (cd.fact 2 (f := .glo "_law_well") rfl)
    g_law_draw := He.glo_ok X G (cd.fact 3 (f := .glo "_law_draw") rfl)
    g_law_pieces := He.glo_ok X G (cd.fact 4 (f := .glo "_law_pieces") rfl)
    g_law_together := He.glo_ok X G (cd.fact 5 (f := .glo "_law_together") rfl)
    g_law_same := He.glo_ok X G (cd.fact 6 (f := .glo "_law_same") rfl)
    g_law_asked := He.glo_ok X G (cd.fact 7 (f := .glo "_law_asked") rfl)
    g_law_right := He.glo_ok X G (cd.fact 8 (f := .glo "_law_right") rfl)
    g_law := He.glo_ok X G (cd.fact 9 (f := .glo "law") rfl)
    n_len := He.free_ok X G (cd.fact 10 (f := .free "len") rfl)
    n_int := He.free_ok X G (cd.fact 11 (f := .free "int") rfl)
    n_isinstance := He.free_ok X G (cd.fact 12 (f := .free "isinstance") rfl)
    n_range := He.free_ok X G (cd.fact 13 (f := .free "range") rfl)
    n_min := He.free_ok X G (cd.fact 14 (f := .free "min") rfl)
    n_max := He.free_ok X G (cd.fact 15 (f := .free "max") rfl)
    n_str := He.free_ok X G (cd.fact 16 (f := .free "str") rfl)
    n_bool := He.free_ok X G (cd.fact 17 (f := .free "bool") rfl)
    n_tuple := He.free_ok X G (cd.fact 18 (f := .free "tuple") rfl)
    n_list := He.free_ok X G (cd.fact 19 (f := .free "list") rfl)
    n_zip := He.free_ok X G (cd.fact 20 (f := .free "zip") rfl)
    n_ValueError := He.free_ok X G (cd.fact 21 (f := .free "ValueError") rfl)
    n_repr := He.free_ok X G (cd.fact 22 (f := .free "repr") rfl)
    n_abs := He.free_ok X G (cd.fact 23 (f := .free "abs") rfl)
    g_GameError := He.glo_ok X G (cd.fact 24 (f := .glo "GameError") rfl)
    g_InvalidPress := He.glo_ok X G (cd.fact 25 (f := .glo "InvalidPress") rfl)
    g_InvalidNumber := He.glo_ok X G (cd.fact 26 (f := .glo "InvalidNumber") rfl)
    g_InvalidTick := He.glo_ok X G (cd.fact 27 (f := .glo "InvalidTick") rfl)
    ex := x0
  }
end K61
set_option maxRecDepth 100000
set_option maxHeartbeats 2000000
/-! Pieces put together, and their presses: by lists alone. -/
namespace K61
open PySem PySem.Spec PyProof.Rows L2 KF
abbrev Pc := Int × List Int
def stp (acc : List Pc) (m : Int) (p : List Int) : List Pc := match acc.getLast? with
  | some e => if e.2 = p then acc.dropLast ++ [(m + e.1, p)] else acc ++ [(m, p)]
  | none => [(m, p)]
def grp (acc : List Pc) (rs : List (List Int)) : List Pc := rs.foldl (fun a r => stp a 1 r) acc
def tog (acc : List Pc) (ps : List Pc) : List Pc := ps.foldl (fun a e => stp a e.1 e.2) acc
def flat (ps : List Pc) : List (List Int) := ps.flatMap fun e => List.replicate e.1.toNat e.2
theorem stp_nil (m : Int) (p : List Int) : stp [] m p = [(m, p)] := rfl
theorem stp_app (acc : List Pc) (e : Pc) (m : Int) (p : List Int) : stp (acc ++ [e]) m p = if e.2 = p then acc ++ [(m + e.1, p)] else acc ++ [e] ++ [(m, p)] := by
  unfold stp
  rw [List.getLast?_append]
  simp
theorem last_cases (acc : List Pc) : acc = [] ∨ ∃ a e, acc = a ++ [e] := by
  rcases List.eq_nil_or_concat acc with h | ⟨a, e, h⟩
  · exact .inl h
  · exact .inr ⟨a, e, by rw [h, List.concat_eq_append]⟩
theorem stp_last (acc : List Pc) (m : Int) (p : List Int) : ∃ a k, stp acc m p = a ++ [(k, p)] := by
  rcases last_cases acc with rfl | ⟨a, e, rfl⟩
  · exact ⟨[], m, rfl⟩
  · rw [stp_app]
    split
    · exact ⟨_, _, rfl⟩
    · exact ⟨_, _, rfl⟩
theorem stp_stp (acc : List Pc) (m n : Int) (p : List Int) : stp (stp acc m p) n p = stp acc (m + n) p := by
  rcases last_cases acc with rfl | ⟨a, e, rfl⟩
  · rw [stp_nil, stp_nil, ← List.nil_append [(m, p)], stp_app, if_pos rfl, Int.add_comm]
    rfl
  · rw [stp_app, stp_app]
    split
    · rw [stp_app, if_pos rfl]
      have : n + (m + e.1) = m + n + e.1 := by omega
      rw [this]
    · rw [stp_app, if_pos rfl, Int.add_comm]
theorem grp_rep (acc : List Pc) (k : Nat) (p : List Int) : grp acc (List.replicate (k + 1) p) = stp acc ((k : Int) + 1) p := by
  induction k generalizing acc with
  | zero => simp [grp]
  | succ k ih =>
    rw [List.replicate_succ]
    show grp (stp acc 1 p) (List.replicate (k + 1) p) = _
    rw [ih, stp_stp]
    have : (1 : Int) + ((k : Int) + 1) = ((k + 1 : Nat) : Int) + 1 := by omega
    rw [this]
theorem grp_app (acc : List Pc) (a b : List (List Int)) : grp acc (a ++ b) = grp (grp acc a) b := by
  unfold grp
  rw [List.foldl_append]
theorem flat_cons (e : Pc) (ps : List Pc) : flat (e :: ps) = List.replicate e.1.toNat e.2 ++ flat ps := rfl
theorem flat_app (a b : List Pc) : flat (a ++ b) = flat a ++ flat b := by
  unfold flat
  rw [List.flatMap_append]
theorem flat_one (e : Pc) : flat [e] = List.replicate e.1.toNat e.2 := by
  simp [flat]
theorem grp_flat (ps : List Pc) (acc : List Pc) (h : ∀ e ∈ ps, 1 ≤ e.1) : grp acc (flat ps) = tog acc ps := by
  induction ps generalizing acc with
  | nil => rfl
  | cons e ps ih =>
    rw [flat_cons, grp_app]
    have h1 := h e List.mem_cons_self
    obtain ⟨k, hk⟩ : ∃ k : Nat, e.1.toNat = k + 1 := ⟨e.1.toNat - 1, by omega⟩
    rw [hk, grp_rep, ih _ fun q hq => h q (List.mem_cons_of_mem _ hq)]
    have : (k : Int) + 1 = e.1 := by omega
    rw [this]
    rfl
theorem flat_stp (acc : List Pc) (m : Int) (p : List Int) (hm : 1 ≤ m) (h : ∀ e ∈ acc, 1 ≤ e.1) : flat (stp acc m p) = flat acc ++ List.replicate m.toNat p := by
  rcases last_cases acc with rfl | ⟨a, e, rfl⟩
  · rw [stp_nil, flat_one]
    rfl
  · rw [stp_app]
    have he := h e (List.mem_append_right _ (List.mem_singleton.mpr rfl))
    split
    · rename_i heq
      rw [flat_app, flat_app, flat_one, flat_one, heq, List.append_assoc, List.replicate_append_replicate]
      have : (m + e.1).toNat = e.1.toNat + m.toNat := by omega
      rw [this]
    · rw [flat_app, flat_one]
theorem pos_stp {acc : List Pc} {m : Int} {p : List Int} (hm : 1 ≤ m) (h : ∀ e ∈ acc, 1 ≤ e.1) : ∀ e ∈ stp acc m p, 1 ≤ e.1 := by
  rcases last_cases acc with rfl | ⟨a, e, rfl⟩
  · intro q hq
    rw [stp_nil] at hq
    rw [List.mem_singleton.mp hq]
    exact hm
  · intro q hq
    rw [stp_app] at hq
    have he := h e (List.mem_append_right _ (List.mem_singleton.mpr rfl))
    split at hq
    · rcases List.mem_append.mp hq with hq | hq
      · exact h q (List.mem_append_left _ hq)
      · rw [List.mem_singleton.mp hq]
        show 1 ≤ m + e.1
        omega
    · rcases List.mem_append.mp hq with hq | hq
      · exact h q hq
      · rw [List.mem_singleton.mp hq]
        exact hm
theorem flat_tog (ps : List Pc) (acc : List Pc) (h : ∀ e ∈ ps, 1 ≤ e.1) (ha : ∀ e ∈ acc, 1 ≤ e.1) : flat (tog acc ps) = flat acc ++ flat ps ∧ ∀ e ∈ tog acc ps, 1 ≤ e.1 := by
  induction ps generalizing acc with
  | nil => exact ⟨by simp [tog, flat], ha⟩
  | cons e ps ih =>
    have h1 := h e List.mem_cons_self
    have h2 := ih (stp acc e.1 e.2) (fun q hq => h q (List.mem_cons_of_mem _ hq)) (pos_stp h1 ha)
    refine ⟨?_, h2.2⟩
    show flat (tog (stp acc e.1 e.2) ps) = _
    rw [h2.1, flat_stp _ _ _ h1 ha, flat_cons, List.append_assoc]
theorem len_stp (acc : List Pc) (m : Int) (p : List Int) : (stp acc m p).length ≤ acc.length + 1 := by
  rcases last_cases acc with rfl | ⟨a, e, rfl⟩
  · exact Nat.le_refl _
  · rw [stp_app]
    split <;> simp
/-- numbers and rows at most so great -/
structure Sml (B : Int) (ps : List Pc) : Prop where
  num : ∀ e ∈ ps, -1000001 ≤ e.1 ∧ e.1 ≤ B
  row : ∀ e ∈ ps, e.2.length ≤ 4
theorem sml_stp {B : Int} {acc : List Pc} {m : Int} {p : List Int} (h : Sml B acc) (hm : 1 ≤ m) (hp : p.length ≤ 4) (ha : ∀ e ∈ acc, 1 ≤ e.1) (hB : 0 ≤ B) : Sml (B + m) (stp acc m p) := by
  rcases last_cases acc with rfl | ⟨a, e, rfl⟩
  · rw [stp_nil]
    refine ⟨fun q hq => ?_, fun q hq => ?_⟩
    · rw [List.mem_singleton.mp hq]
      show -1000001 ≤ m ∧ m ≤ B + m
      omega
    · rw [List.mem_singleton.mp hq]
      exact hp
  · have he := h.num e (List.mem_append_right _ (List.mem_singleton.mpr rfl))
    have he1 := ha e (List.mem_append_right _ (List.mem_singleton.mpr rfl))
    rw [stp_app]
    split
    · refine ⟨fun q hq => ?_, fun q hq => ?_⟩
      · rcases List.mem_append.mp hq with hq | hq
        · have := h.num q (List.mem_append_left _ hq)
          omega
        · rw [List.mem_singleton.mp hq]
          show -1000001 ≤ m + e.1 ∧ m + e.1 ≤ B + m
          omega
      · rcases List.mem_append.mp hq with hq | hq
        · exact h.row q (List.mem_append_left _ hq)
        · rw [List.mem_singleton.mp hq]
          exact hp
    · refine ⟨fun q hq => ?_, fun q hq => ?_⟩
      · rcases List.mem_append.mp hq with hq | hq
        · have := h.num q hq
          omega
        · rw [List.mem_singleton.mp hq]
          show -1000001 ≤ m ∧ m ≤ B + m
          omega
      · rcases List.mem_append.mp hq with hq | hq
        · exact h.row q hq
        · rw [List.mem_singleton.mp hq]
          exact hp
theorem sml_tog {ps : List Pc} {acc : List Pc} {B : Int} (h : ∀ e ∈ ps, 1 ≤ e.1 ∧ e.1 ≤ 14 ∧ e.2.length ≤ 4) (ha : ∀ e ∈ acc, 1 ≤ e.1) (hs : Sml B acc) (hB : 0 ≤ B) : Sml (B + 14 * ps.length) (tog acc ps) ∧ (tog acc ps).length ≤ acc.length + ps.length := by
  induction ps generalizing acc B with
  | nil =>
    refine ⟨?_, Nat.le_refl _⟩
    have e : B + 14 * (([] : List Pc).length : Int) = B := by simp
    rw [e]
    exact hs
  | cons e ps ih =>
    have h1 := h e List.mem_cons_self
    have h2 := ih (fun q hq => h q (List.mem_cons_of_mem _ hq)) (pos_stp h1.1 ha) (sml_stp hs h1.1 h1.2.2 ha hB) (by omega)
    have h3 := len_stp acc e.1 e.2
    refine ⟨⟨fun q hq => ?_, h2.1.row⟩, ?_⟩
    · have := h2.1.num q hq
      rw [List.length_cons]
      omega
    · have := h2.2
      rw [List.length_cons]
      show (tog (stp acc e.1 e.2) ps).length ≤ _
      omega
theorem flat_len {ps : List Pc} (h : ∀ e ∈ ps, e.1 ≤ 14) : (flat ps).length ≤ 14 * ps.length := by
  induction ps with
  | nil => exact Nat.le_refl _
  | cons e ps ih =>
    have h1 := h e List.mem_cons_self
    have h2 := ih fun q hq => h q (List.mem_cons_of_mem _ hq)
    rw [flat_cons, List.length_append, List.length_replicate, List.length_cons]
    omega
theorem flat_row {ps : List Pc} (h : ∀ e ∈ ps, e.2.length ≤ 4) : ∀ r ∈ flat ps, r.length ≤ 4 := fun r hr => by
  unfold flat at hr
  rw [List.mem_flatMap] at hr
  obtain ⟨e, he, hr⟩ := hr
  rw [(List.mem_replicate.mp hr).2]
  exact h e he
/-! ### as data -/
def rpy (r : List Int) : PyData := .tuple (r.map .int)
def pcy (e : Pc) : PyData := .tuple [.int e.1, rpy e.2]
theorem eqv_ints : ∀ r s : List Int, PyData.eqvAll (r.map .int) (s.map .int) = decide (r = s)
  | [], [] => by simp [PyData.eqvAll]
  | [], _ :: _ => by simp [PyData.eqvAll]
  | _ :: _, [] => by simp [PyData.eqvAll]
  | a :: r, b :: s => by
    rw [List.map_cons, List.map_cons, PyData.eqvAll, eqv_ints r s]
    by_cases h1 : a = b
    · by_cases h2 : r = s
      · simp [h1, h2, PyData.eqv]
      · simp [h1, h2, PyData.eqv]
    · simp [h1, PyData.eqv]
theorem eqv_rpy (r s : List Int) : PyData.eqv (rpy r) (rpy s) = decide (r = s) := by
  unfold rpy
  rw [PyData.eqv, eqv_ints]
theorem can_ints : ∀ r : List Int, PyData.canLayAll0 (r.map .int) = true
  | [] => by simp [PyData.canLayAll0]
  | a :: r => by rw [List.map_cons, PyData.canLayAll0, can_ints r]; simp [PyData.canLay0]
theorem dep_ints : ∀ r : List Int, PyData.depthAll (r.map .int) ≤ 1
  | [] => by simp [PyData.depthAll]
  | a :: r => by
    rw [List.map_cons, PyData.depthAll]
    have := dep_ints r
    simp [PyData.depth]
    omega
theorem shaped_rpy (r : List Int) : SeqAt.shaped (rpy r) = true := by
  unfold SeqAt.shaped rpy
  rw [Bool.and_eq_true]
  constructor
  · simp only [PyData.canLay0, can_ints]
  · have := dep_ints r
    refine decide_eq_true ?_
    rw [PyData.depth]
    omega
end K61
set_option maxRecDepth 100000
set_option maxHeartbeats 2000000
/-! The error of a wrong number. -/
namespace K61
open PySem PySem.Spec PyProof.Rows L2 KF KD
structure CF (K : PySem.W.Frag) (C : Addr) : Prop where
  oex : OexC K C
  ini : PySem.W.findIn K (.ref C) "__init__" = some (some (.ref (iAd K)))
  noV : PySem.W.findIn K (.ref C) "value" = some none
  xf : XfC K C
  exc : ExcC K C
  game : PySem.W.exmOne K (.ref C) (.ref (He.ga K "GameError")) = some true
  ve : PySem.W.kitOne K (.ref C) (.type "ValueError") = some true
theorem and2 {a b : Bool} (h : (a && b) = true) : a = true ∧ b = true := Bool.and_eq_true_iff.mp h
section
variable {K : PySem.W.Frag}
theorem cf_of (h : exAll K = true) : CF K (He.ga K "InvalidNumber") := by
  obtain ⟨hg, h⟩ := and2 h
  obtain ⟨hc, _⟩ := and2 h
  obtain ⟨g1, hg⟩ := and2 hg
  obtain ⟨g2, hg⟩ := and2 hg
  obtain ⟨h1, hc⟩ := and2 hc
  obtain ⟨h2, hc⟩ := and2 hc
  obtain ⟨h3, hc⟩ := and2 hc
  obtain ⟨h4, hc⟩ := and2 hc
  obtain ⟨h5, hc⟩ := and2 hc
  obtain ⟨h6, hc⟩ := and2 hc
  obtain ⟨h7, hc⟩ := and2 hc
  obtain ⟨h8, hc⟩ := and2 hc
  obtain ⟨h9, hc⟩ := and2 hc
  obtain ⟨h10, hc⟩ := and2 hc
  obtain ⟨h11, hc⟩ := and2 hc
  obtain ⟨h12, hc⟩ := and2 hc
  obtain ⟨h13, h14⟩ := and2 hc
  exact ⟨⟨okC_ok h1, of_decide_eq_true h2, of_decide_eq_true h3, of_decide_eq_true h4, h5⟩, of_decide_eq_true h6, of_decide_eq_true h7,
    ⟨of_decide_eq_true h8, of_decide_eq_true h9, of_decide_eq_true h3, h10⟩, ⟨of_decide_eq_true h8, of_decide_eq_true h9, of_decide_eq_true h3, h10, of_decide_eq_true h11, of_decide_eq_true g1, of_decide_eq_true g2, of_decide_eq_true h12⟩,
    of_decide_eq_true h13, of_decide_eq_true h14⟩
theorem tI_of (h : exAll K = true) : PySem.W.typeIn K (.ref (iAd K)) = some (.type "function") := by
  obtain ⟨hg, _⟩ := and2 h
  obtain ⟨_, hg⟩ := and2 hg
  obtain ⟨_, hg⟩ := and2 hg
  obtain ⟨g3, _⟩ := and2 hg
  exact of_decide_eq_true g3
theorem vV_of (h : exAll K = true) : PySem.W.findCls K (.type "ValueError") (.type "type") "__init__" = some (.val (.builtin "ValueError.__init__")) := by
  obtain ⟨hg, _⟩ := and2 h
  obtain ⟨_, hg⟩ := and2 hg
  obtain ⟨_, hg⟩ := and2 hg
  obtain ⟨_, g4⟩ := and2 hg
  split at g4
  · rename_i s e
    rw [e, of_decide_eq_true g4]
  · cases g4
theorem num_is (h : exAll K = true) : PySem.W.kitOne K (.ref (He.ga K "InvalidNumber")) (.ref (He.ga K "InvalidNumber")) = some true := by
  obtain ⟨_, h⟩ := and2 h
  obtain ⟨_, h⟩ := and2 h
  exact of_decide_eq_true (and2 h).1
theorem num_not (h : exAll K = true) {y : Str} (hy : y ∈ nots) : PySem.W.kitOne K (.ref (He.ga K "InvalidNumber")) (.ref (He.ga K y)) = some false := by
  obtain ⟨_, h⟩ := and2 h
  obtain ⟨_, h⟩ := and2 h
  exact of_decide_eq_true (List.all_eq_true.mp (and2 h).2 y hy)
end
def spInit (K : PySem.W.Frag) : Sp := fun vs H Q _ => ∃ (a C : Addr) (n : Int), vs = [.ref a, .int n] ∧ OexC K C ∧ PySem.W.findIn K (.ref C) "value" = some none ∧ H a = some (exo a C none) ∧ n.natAbs < 2 ^ 63 ∧
  ∀ dx, H dx = none → dx ≠ a → Q .non (upd (upd H dx (exd dx [(("value" : Str), .int n)])) a (exo a C (some dx)))
section
variable {P : Program} {w : World} {K : PySem.W.Frag} {mg : Str → Option Value} {base : Heap}
theorem scI : FnScope ["self", "value"] ["self", "value"] (defScope s_GameError_init) := ⟨rfl, rfl, rfl, by decide +kernel, rfl, by decide +kernel, by decide +kernel⟩
theorem ok_init (T : Txt K w mg) : FnOk P w K mg base CX0 1 (iAd K) (fdAt K (iAd K)) ["self", "value"] (spInit K) := by
  refine T.F_GameError_init.ok scI (fun vs H Q E h => ?_) (fun cdv A outer s H vs Q E hr h => ?_)
  · obtain ⟨a, C, v, rfl, _⟩ := h
    rfl
  · obtain ⟨a, C, n, rfl, hO, hV, ha, hn, k⟩ := h
    refine ⟨_, PSs.nox (pss_cons (ps_expr (pe_veinit (by rfl) T.n_ValueError (vV_of T.ex) (pa_cons (pv 0) (pa_cons (pe_callB SkE.call_repr_int (by rfl) T.n_repr PyProof.Rows.Boot.«repr» (pa_cons (pv 1) pa_nil)) pa_nil))))
      (pss_one (ps_ost (pv 0) (pv 1)))), ?_⟩
    have hlog : n.natAbs.log2 < 1920 := Nat.lt_of_lt_of_le (PySem.Flt.log2_lt_of (by decide) hn) (by decide)
    refine ⟨_, rfl, _, rfl, n, rfl, hlog, ⟨a, C, [.str _], rfl, (show 1 ≤ 1000 by decide), hO, ha, ?_⟩⟩
    exact ⟨_, rfl, _, rfl, a, C, rfl, hO, hV, .inl ⟨ha, fun dx n ne => k dx n ne⟩⟩
theorem made {C : Addr} (c : CF K C) {H : Hp} {n : Int} {E : XK} (hn : n.natAbs < 2 ^ 63) (k : ∀ dx, H dx = none → E (.ref C) (some dx) (upd H dx (.xd [(("value" : Str), .int n)]))) (a : Addr) (ha : H a = none) :
    spInit K [.ref a, .int n] (upd H a (exo a C none)) (fun z H2 => z = .non ∧ ∃ (dx : Addr) (fs : List (Str × V)), H2 a = some (exo a C (some dx)) ∧ H2 dx = some (exd dx fs) ∧ H dx = none ∧ E (.ref C) (some dx) (upd (del H2 a) dx (.xd fs))) (fun _ _ _ => False) := by
  refine ⟨a, C, n, rfl, c.oex, c.noV, upd_same, hn, fun dx nd ne => ⟨rfl, dx, _, upd_same, by rw [upd_ne ne, upd_same], ?_, ?_⟩⟩
  · rw [upd_ne ne] at nd
    exact nd
  · have hdn : H dx = none := by
      rw [upd_ne ne] at nd
      exact nd
    have e : upd (del (upd (upd (upd H a (exo a C none)) dx (exd dx [(("value" : Str), .int n)])) a (exo a C (some dx))) a) dx (.xd [(("value" : Str), .int n)]) = upd H dx (.xd [(("value" : Str), .int n)]) := by
      funext b
      by_cases h1 : b = dx
      · rw [h1, upd_same, upd_same]
      · rw [upd_ne h1, upd_ne h1]
        by_cases h2 : b = a
        · rw [h2, del_same, ha]
        · rw [del_ne h2, upd_ne h2, upd_ne h1, upd_ne h2]
    rw [e]
    exact k dx hdn
end
end K61
set_option maxRecDepth 100000
set_option maxHeartbeats 4000000
/-! The program: packed, unpacked. -/
namespace K61
open PySem PySem.Spec PyProof.Rows L2 KF KD
section
variable {K : PySem.W.Frag} {H H' : Hp}
mutual
theorem dp_same (e : Same H H') : ∀ (d : PyData) (v : V), Dp K H v d → Dp K H' v d
  | .none, _, h => by cases h; exact .non
  | .bool _, _, h => by cases h; exact .bl _
  | .int _, _, h => by cases h; exact .int _
  | .str _, _, h => by cases h; exact .str _
  | .dict _, _, h => by cases h
  | .list ds, _, h => by
    cases h with
    | lst a b => exact .lst (e.seq a) (dpa_same e ds _ b)
  | .tuple ds, _, h => by
    cases h with
    | tup a b => exact .tup ((same_tf e).sq a) (dpa_same e ds _ b)
theorem dpa_same (e : Same H H') : ∀ (ds : List PyData) (vs : List V), DpAll K H vs ds → DpAll K H' vs ds
  | [], _, h => by cases h; exact .nil
  | d :: ds, _, h => by
    cases h with
    | cons a b => exact .cons (dp_same e d _ a) (dpa_same e ds _ b)
end
theorem dpa_app : ∀ {xs ys : List V} {ds es : List PyData}, DpAll K H xs ds → DpAll K H ys es → DpAll K H (xs ++ ys) (ds ++ es)
  | _, _, _, _, .nil, h => h
  | _, _, _, _, .cons a t, h => .cons a (dpa_app t h)
theorem dpa_split : ∀ {vs : List V} {ds es : List PyData}, DpAll K H vs (ds ++ es) → ∃ xs ys, vs = xs ++ ys ∧ DpAll K H xs ds ∧ DpAll K H ys es
  | vs, [], es, h => ⟨[], vs, rfl, .nil, h⟩
  | _, d :: ds, es, h => by
    cases h with
    | cons a t =>
      obtain ⟨xs, ys, e, h1, h2⟩ := dpa_split (ds := ds) t
      exact ⟨_ :: xs, ys, by rw [e]; rfl, .cons a h1, h2⟩
theorem dpa_last {vs : List V} {ds : List PyData} {d : PyData} (h : DpAll K H vs (ds ++ [d])) : ∃ xs x, vs = xs ++ [x] ∧ DpAll K H xs ds ∧ Dp K H x d := by
  obtain ⟨xs, ys, e, h1, h2⟩ := dpa_split h
  cases h2 with
  | cons a t =>
    cases t
    exact ⟨xs, _, e, h1, a⟩
theorem dp_pc {v : V} {e : Pc} (h : Dp K H v (pcy e)) : ∃ p y, v = .ref p ∧ SqT K H p [.int e.1, y] ∧ Dp K H y (rpy e.2) := by
  unfold pcy at h
  cases h with
  | tup a b =>
    cases b with
    | cons b1 b2 =>
      cases b1
      cases b2 with
      | cons c1 c2 =>
        cases c2
        exact ⟨_, _, rfl, a, c1⟩
theorem pc_dp {p : Addr} {y : V} {e : Pc} (h : SqT K H p [.int e.1, y]) (hy : Dp K H y (rpy e.2)) : Dp K H (.ref p) (pcy e) := .tup h (.cons (.int _) (.cons hy .nil))
theorem nl_ints : ∀ r : List Int, NLs (r.map .int)
  | [] => trivial
  | _ :: r => ⟨trivial, nl_ints r⟩
theorem nl_rpy (r : List Int) : NL (rpy r) := nl_ints r
theorem nl_pcy (e : Pc) : NL (pcy e) := ⟨trivial, nl_rpy _, trivial⟩
theorem nl_pcs : ∀ ps : List Pc, NLs (ps.map pcy)
  | [] => trivial
  | e :: ps => ⟨nl_pcy e, nl_pcs ps⟩
theorem nl_rps : ∀ rs : List (List Int), NLs (rs.map rpy)
  | [] => trivial
  | e :: ps => ⟨nl_rpy e, nl_rps ps⟩
end
theorem at_last {xs : List V} {x : V} : atI (xs ++ [x]) (-1) = some x := by
  unfold atI ixN
  rw [if_neg (by decide), List.length_append, List.length_singleton, if_pos (by omega)]
  have e : ((-1 : Int) + ((xs.length + 1 : Nat) : Int)).toNat = xs.length := by omega
  show (some ((-1 : Int) + ((xs.length + 1 : Nat) : Int)).toNat).bind _ = _
  rw [e]
  show (xs ++ [x])[xs.length]? = _
  rw [List.getElem?_append_right (Nat.le_refl _)]
  simp
theorem ix_last {xs : List V} {x : V} : ixN (xs ++ [x]).length (-1) = some xs.length := by
  unfold ixN
  rw [if_neg (by decide), List.length_append, List.length_singleton, if_pos (by omega)]
  have e : ((-1 : Int) + ((xs.length + 1 : Nat) : Int)).toNat = xs.length := by omega
  rw [e]
theorem set_last {xs : List V} {x y : V} : (xs ++ [x]).set xs.length y = xs ++ [y] := by
  rw [List.set_append]
  simp
theorem seq_cut {a b : TS} {D : Ends} {σ : L2.St} {H : Hp} (Pv : L2.St → Hp → Prop) (hb : ∀ σ' H', Pv σ' H' → b D σ' H') (ha : ∀ R : L2.St → Hp → Prop, (∀ σ' H', Pv σ' H' → R σ' H') → a { D with nx := R } σ H) : tSeq a b D σ H := ha _ hb
theorem at_mem {α : Type} (f : α → V) (xs : List α) {x : Int} (h0 : 0 ≤ x) (h1 : x < xs.length) : ∃ y, y ∈ xs ∧ atI (xs.map f) x = some (f y) := by
  obtain ⟨j, rfl⟩ : ∃ j : Nat, x = (j : Int) := ⟨x.toNat, by omega⟩
  have hj : j < xs.length := by omega
  exact ⟨xs[j], List.getElem_mem hj, atI_nat (by rw [List.getElem?_map, List.getElem?_eq_getElem hj]; rfl)⟩
theorem ix_nat {n : Nat} {z : Int} (h0 : 0 ≤ z) (h1 : z < n) : ixN n z = some z.toNat := by
  unfold ixN
  rw [if_pos h0, if_pos h1]
theorem dp_ints {K : PySem.W.Frag} {H : Hp} : ∀ {ns : List Int} {xs : List V}, DpAll K H xs (ns.map PyData.int) → xs = ns.map V.int
  | [], _, h => by cases h; rfl
  | n :: ns, _, h => by
    cases h with
    | cons a t =>
      cases a
      rw [dp_ints t]
      rfl
theorem dp_row {K : PySem.W.Frag} {H : Hp} {v : V} {ns : List Int} (h : Dp K H v (rpy ns)) : ∃ q, v = .ref q ∧ SqT K H q (ns.map V.int) := by
  unfold rpy at h
  cases h with
  | tup a b =>
    rw [dp_ints b] at a
    exact ⟨_, rfl, a⟩
theorem ints_dp {K : PySem.W.Frag} {H : Hp} : ∀ ns : List Int, DpAll K H (ns.map V.int) (ns.map PyData.int)
  | [] => .nil
  | _ :: ns => .cons (.int _) (ints_dp ns)
theorem row_dp {K : PySem.W.Frag} {H : Hp} {q : Addr} {ns : List Int} (h : SqT K H q (ns.map V.int)) : Dp K H (.ref q) (rpy ns) := .tup h (ints_dp ns)
theorem cut_last {xs : List V} {x : V} : cutV (xs ++ [x]) none (some (-1)) = xs := by
  unfold cutV
  rw [HT.sIx_none]
  have e : HT.sIx (xs ++ [x]).length (xs ++ [x]).length (some (-1)) = xs.length := by
    unfold HT.sIx
    rw [List.length_append, List.length_singleton]
    dsimp only
    rw [if_pos (by decide)]
    omega
  rw [e, List.drop_zero, Nat.sub_zero, List.take_append_of_le_length (Nat.le_refl _), List.take_length]
theorem cut_to {xs : List V} {k : Nat} (h : k ≤ xs.length) : cutV xs none (some (k : Int)) = xs.take k := by
  unfold cutV
  rw [HT.sIx_none, HT.sIx_nat, Nat.min_eq_left h, List.drop_zero, Nat.sub_zero]
theorem cut_from {xs : List V} {k : Nat} (h : k ≤ xs.length) : cutV xs (some (k : Int)) none = xs.drop k := by
  unfold cutV
  rw [HT.sIx_none, HT.sIx_nat, Nat.min_eq_left h]
  exact List.take_of_length_le (by rw [List.length_drop]; exact Nat.le_refl _)
section
variable {P : Program} {w : World} {K : PySem.W.Frag} {mg : Str → Option Value} {base : Heap}
def spPk (K : PySem.W.Frag) : Sp := fun vs H Q _ => ∃ (v : V) (rs : List (List Int)), vs = [v] ∧ Dp K H v (.tuple (rs.map rpy)) ∧ rs.length ≤ 1000 ∧ ∀ u H', Same H H' → Dp K H' u (.tuple ((grp [] rs).map pcy)) → Q u H'
theorem scPk : FnScope ["rows", "told", "presses"] ["rows"] (defScope s_packed) := ⟨rfl, rfl, rfl, by decide +kernel, rfl, by decide +kernel, by decide +kernel⟩
theorem ok_packed (T : Txt K w mg) : FnOk P w K mg base CX0 1 (He.fAd K ("packed", none)) (fdAt K (He.fAd K ("packed", none))) ["rows"] (spPk K) := by
  refine T.F_packed.ok scPk (fun vs H Q E h => ?_) (fun cdv A outer s H vs Q E hr h => ?_)
  · obtain ⟨v, rs, rfl, _⟩ := h
    rfl
  · obtain ⟨v, rs, rfl, hd, hl, k⟩ := h
    refine ⟨_, PSs.nox (pss_cons (ps_set (i := 1) scPk.nd rfl (Or.inl rfl) (pe_lst pa_nil))
      (pss_cons (ps_for PassesOwn.never rfl (pi_tup (pv 0)) (pg_name (i := 2) scPk.nd rfl (Or.inl rfl)) (pss_one (ps_if (PW.pt (pw_and (pt_truth (pv 1) (by intro _; rfl)) (pw_and1 (pt_cmpR (op_eqD hr.units) (pe_ix (r := rIxT K) ix_tup (pe_ix (r := rIxL K) ix_list (pv 1) (pe_un un_neg pe_int) (fun _ _ => rfl)) pe_int (fun _ _ => rfl)) (pv 2) (nomark _))))) (pss_one (ps_asg (pe_tup (pa_cons (pe_op op_add (pe_ix (r := rIxT K) ix_tup (pe_ix (r := rIxL K) ix_list (pv 1) (pe_un un_neg pe_int) (fun _ _ => rfl)) pe_int (fun _ _ => rfl)) pe_int) (pa_cons (pv 2) pa_nil))) (pg_sub (pv 1) (pe_un un_neg pe_int) set_list))) (pss_one (ps_expr (pe_bm PySem.F.plainAttrs_list PySem.F.slot_list_append PySem.F.type_list_append mt_append (pv 1) (pa_cons (pe_tup (pa_cons pe_int (pa_cons (pv 2) pa_nil))) pa_nil)))))))
      (pss_one (ps_ret (pe_callTy call_tuple_of (by rfl) T.n_tuple PyProof.Rows.Boot.«tuple» (pa_cons (pv 1) pa_nil)))))), ?_⟩
    cases hd with
    | @tup a xs _ sq dp =>
      have hxl := dpa_len dp
      rw [List.length_map] at hxl
      refine ⟨(show 0 ≤ sizeLine by decide), fun L nL => ?_⟩
      have sL := new_same (o := .lst []) nL
      refine ⟨_, rfl, a, rfl, ⟨_, (same_tf sL).sq sq⟩, ?_⟩
      refine for_it (walk_tup (K := K) (a := a) (xs := xs)) (fun i σ H' => ∃ (v2 : Option V) (vs : List V), σ = [some (.ref a), some (.ref L), v2] ∧ H' L = some (.lst vs) ∧ DpAll K H' vs ((grp [] (rs.take i)).map pcy) ∧ vs.length ≤ i ∧ Same H H') ⟨_, [], rfl, upd_same, .nil, Nat.le_refl _, sL⟩ (fun i σ H' _ h => (same_tf h.choose_spec.choose_spec.2.2.2.2).sq sq) (fun i x σ H' H2 hi h y => ?_) (fun σ H2 h => ?_)
      · obtain ⟨v2, vs, rfl, hL, dv, hvl, sm⟩ := h
        obtain ⟨rfl, hx⟩ := y
        have hir : i < rs.length := by omega
        have he : rs[i]? = some rs[i] := List.getElem?_eq_getElem hir
        obtain ⟨v, e1, d1⟩ := dpa_get dp (show (rs.map rpy)[i]? = some (rpy rs[i]) by rw [List.getElem?_map, he]; rfl)
        replace hx : xs[i]? = some x := hx
        rw [e1] at hx
        obtain rfl : v = x := Option.some.inj hx
        have dx := dp_same sm _ _ d1
        have hstep : grp [] (rs.take (i + 1)) = stp (grp [] (rs.take i)) 1 rs[i] := by
          rw [List.take_add_one, he]
          unfold grp
          rw [List.foldl_append]
          rfl
        have nHL : ∀ b o, H b = some o → b ≠ L := fun b o z => ne_of_none z nL
        have app : ∀ (xx : List Pc), grp [] (rs.take (i + 1)) = xx ++ [(1, rs[i])] → DpAll K H2 vs (xx.map pcy) → ∀ p, H2 p = none →
            ∃ (v2 : Option V) (vs' : List V), [some (V.ref a), some (V.ref L), some v] = [some (V.ref a), some (V.ref L), v2] ∧ (upd (upd H2 p (.tup [.int 1, v])) L (.lst (vs ++ [.ref p]))) L = some (.lst vs') ∧
              DpAll K (upd (upd H2 p (.tup [.int 1, v])) L (.lst (vs ++ [.ref p]))) vs' ((grp [] (rs.take (i + 1))).map pcy) ∧ vs'.length ≤ i + 1 ∧ Same H (upd (upd H2 p (.tup [.int 1, v])) L (.lst (vs ++ [.ref p]))) := fun xx e dxx p np => by
          have s2 := new_same (o := .tup [.int 1, v]) np
          have tf2 : TF (upd H2 p (.tup [.int 1, v])) (upd (upd H2 p (.tup [.int 1, v])) L (.lst (vs ++ [.ref p]))) := Frm.tf Frm.of_upd (s2 _ _ hL)
          refine ⟨_, _, rfl, upd_same, ?_, by rw [List.length_append, List.length_singleton]; omega, fun b o z => by rw [upd_ne (nHL b o z)]; exact s2 _ _ (sm _ _ z)⟩
          rw [e, List.map_append]
          refine dpa_app (dpa_nl tf2 _ _ (nl_pcs _) (dpa_same s2 _ _ dxx)) (.cons (pc_dp (tf2.sq (SqT.of upd_same)) (dp_nl tf2 _ _ (nl_rpy _) (dp_same s2 _ _ dx))) .nil)
        rcases last_cases (grp [] (rs.take i)) with hg | ⟨g, e, hg⟩
        · rw [hg] at dv hstep
          cases dv
          refine ⟨_, rfl, false, .inl ⟨_, SqL.of hL, by rfl⟩, iteF (iteF ?_)⟩
          refine ⟨_, rfl, .inl ⟨rfl, _, SqL.of hL⟩, _, rfl, (show 2 ≤ sizeLine by decide), fun p np => ?_⟩
          have s2 := new_same (o := .tup [.int 1, v]) np
          exact ⟨L, _, _, rfl, rfl, s2 _ _ hL, by decide, app [] hstep .nil p np⟩
        · rw [hg] at dv hstep
          rw [stp_app] at hstep
          have dv0 := dv
          rw [List.map_append] at dv
          obtain ⟨us, u, rfl, du, de⟩ := dpa_last dv
          obtain ⟨p, y, rfl, sp, dy⟩ := dp_pc de
          refine ⟨_, rfl, true, .inl ⟨_, SqL.of hL, by simp⟩, iteT ?_⟩
          refine ⟨_, rfl, _, rfl, L, _, _, _, rfl, rfl, SqL.of hL, at_last, p, _, _, _, rfl, rfl, sp, atI_nat (j := 1) rfl, _, rfl, rpy e.2, rpy rs[i], dy, dx, shaped_rpy _, shaped_rpy _, _, rfl, ?_⟩
          rw [eqv_rpy]
          refine ite2 (fun z => ?_) (fun z => ?_)
          · have hq := of_decide_eq_true z
            rw [if_pos hq] at hstep
            refine ⟨_, rfl, _, rfl, L, _, _, _, rfl, rfl, SqL.of hL, at_last, p, _, _, _, rfl, rfl, sp, atI_nat (j := 0) rfl, _, _, rfl, rfl, _, rfl, (show 2 ≤ sizeLine by decide), fun q nq => ?_⟩
            have s2 := new_same (o := .tup [.int (e.1 + 1), v]) nq
            refine ⟨_, rfl, _, rfl, L, _, _, us.length, rfl, rfl, s2 _ _ hL, ix_last, ?_⟩
            rw [set_last]
            have tf2 : TF (upd H2 q (.tup [.int (e.1 + 1), v])) (upd (upd H2 q (.tup [.int (e.1 + 1), v])) L (.lst (us ++ [.ref q]))) := Frm.tf Frm.of_upd (s2 _ _ hL)
            refine ⟨_, _, rfl, upd_same, ?_, by rw [List.length_append, List.length_singleton] at hvl ⊢; omega, fun b o z => by rw [upd_ne (nHL b o z)]; exact s2 _ _ (sm _ _ z)⟩
            rw [hstep, List.map_append]
            refine dpa_app (dpa_nl tf2 _ _ (nl_pcs _) (dpa_same s2 _ _ du)) (.cons (pc_dp (e := (1 + e.1, rs[i])) (tf2.sq ?_) (dp_nl tf2 _ _ (nl_rpy _) (dp_same s2 _ _ dx))) .nil)
            rw [Int.add_comm]
            exact SqT.of upd_same
          · have hq : ¬ e.2 = rs[i] := fun w => z (decide_eq_true w)
            rw [if_neg hq] at hstep
            refine ⟨_, rfl, .inl ⟨rfl, _, SqL.of hL⟩, _, rfl, (show 2 ≤ sizeLine by decide), fun q nq => ?_⟩
            have s2 := new_same (o := .tup [.int 1, v]) nq
            exact ⟨L, _, _, rfl, rfl, s2 _ _ hL, Nat.lt_of_lt_of_le (show (us ++ [V.ref p]).length < 1001 by omega) (by decide), app (g ++ [e]) hstep dv0 q nq⟩
      · obtain ⟨v2, vs, rfl, hL, dv, hvl, sm⟩ := h
        have hfl : rs.take xs.length = rs := List.take_of_length_le (by omega)
        rw [hfl] at dv
        refine ⟨_, rfl, L, vs, rfl, .inl ⟨SqL.of hL, fun l nl => ?_⟩⟩
        have sl := new_same (o := .tup vs) nl
        exact k _ _ (sm.trans sl) (.tup (SqT.of upd_same) (dpa_same sl _ _ dv))
end
end K61
set_option maxRecDepth 100000
set_option maxHeartbeats 4000000
/-! tuple * 0, tuple * 1. -/
namespace K61
open PySem PySem.Spec PyProof.Rows L2
theorem tuple_mul1 (l : Addr) (items : Array Value) (n : Nat) (dd : Option Addr) (sl : Array (Option Value)) (u : Tok) :
    Meets (Builtin.«tuple.__mul__» ⟨[.ref l, .int 1 u], []⟩) (fun _ R s => s.heap.get? l = some { cls := .type "tuple", dict := dd, data := .seq items n, slots := sl } ∧ R (.ok (.ret (Value.ref l))) s) :=
  .of_wp fun prog w A R s h => by
    obtain ⟨hp, g, d, tk, os⟩ := s
    obtain ⟨hl, h⟩ := h
    have f1 := AutoSeq1.idx_int
    wp_walk using wpAny_loadPart' hl
    exact ⟨_, rfl, h⟩
theorem tuple_mul0 (l : Addr) (items : Array Value) (n : Nat) (dd : Option Addr) (sl : Array (Option Value)) (u : Tok) (hi : items.isEmpty = false) :
    Meets (Builtin.«tuple.__mul__» ⟨[.ref l, .int 0 u], []⟩) (fun _ R s => s.heap.get? l = some { cls := .type "tuple", dict := dd, data := .seq items n, slots := sl } ∧
      R (.ok (.ret (Value.ref s.heap.objs.size))) { s with heap := s.heap.push { cls := Value.type "tuple", data := Data.seq #[] }, toks := s.toks }) :=
  .of_wp fun prog w A R s h => by
    obtain ⟨hp, g, d, tk, os⟩ := s
    obtain ⟨hl, h⟩ := h
    have f1 := AutoSeq1.idx_int
    wp_walk using wpAny_loadPart' hl
    exact ⟨_, rfl, h⟩
def rRep01 (K : PySem.W.Frag) : R2 := fun x y H Q => ∃ l k xs, x = .ref l ∧ y = .int k ∧ SqT K H l xs ∧ xs ≠ [] ∧ (k = 0 ∨ k = 1) ∧ (k = 1 → Q (.ref l) H) ∧ (k = 0 → ∀ p, H p = none → Q (.ref p) (upd H p (.tup [])))
section
variable {X : Cx}
theorem op_rep01 : OpR X (binaryOp .Mult) (rRep01 X.K) := by
  intro pins s σ H x y v u Q I rx ry h
  obtain ⟨l, k, xs, rfl, rfl, hT, hne, hk, q1, q0⟩ := h
  cases rx
  obtain ⟨t, rfl⟩ := ry
  obtain ⟨its, r, ⟨⟨cls, dd, data, sl⟩, ho, hc, n, hd⟩, hs⟩ := I.tuple hT
  simp only at hc hd
  subst hc hd
  have hle : its.length = xs.length := r.length.symm
  have hn : its ≠ [] := fun e => hne (by
    rw [e] at hle
    exact List.eq_nil_of_length_eq_zero hle.symm)
  have hi : its.toArray.isEmpty = false := by
    cases its with
    | nil => exact absurd rfl hn
    | cons a b => rfl
  rcases hk with rfl | rfl
  · refine wpAny_binaryOp_repeat_ref (T := "tuple") (U := "int") (by decide) ⟨_, ho, rfl⟩ (fun s' => typeIs_int s' 0 t) noFill_tuple_mul F.fills_int_mul F.slot_int_rmul repeat_tuple F.slot_int_index.lookup
      (call_meets F.slot_int_rmul (typeIs_int s 0 t) F.entry_int_rmul (F.args_int_rmul_2 _ _) (int_rmul_tuple 0 t l its.toArray n dd sl)
        ⟨ho, rfl, ⟨_, ho, rfl⟩, call_meets F.slot_tuple_mul ⟨_, ho, rfl⟩ F.entry_tuple_mul (F.args_tuple_mul_2 _ _) (tuple_mul0 l its.toArray n dd sl t hi) ⟨ho, ?_⟩⟩)
    refine ⟨.ref s.heap.objs.size, _, I.laid (t' := s.toks) (o := .tup []) (fun b ob q => Heap.get?_push_of_some _ q) (Nat.le_refl _) ?_, rfl, q0 rfl _ (I.hok.fresh (Nat.le_refl _))⟩
    exact ⟨by decide, [], .nil, IsTup.new _ _⟩
  · exact wpAny_binaryOp_repeat_ref (T := "tuple") (U := "int") (by decide) ⟨_, ho, rfl⟩ (fun s' => typeIs_int s' 1 t) noFill_tuple_mul F.fills_int_mul F.slot_int_rmul repeat_tuple F.slot_int_index.lookup
      (call_meets F.slot_int_rmul (typeIs_int s 1 t) F.entry_int_rmul (F.args_int_rmul_2 _ _) (int_rmul_tuple 1 t l its.toArray n dd sl)
        ⟨ho, rfl, ⟨_, ho, rfl⟩, call_meets F.slot_tuple_mul ⟨_, ho, rfl⟩ F.entry_tuple_mul (F.args_tuple_mul_2 _ _) (tuple_mul1 l its.toArray n dd sl t) ⟨ho, ⟨.ref l, H, I, rfl, q1 rfl⟩⟩⟩)
end
end K61
set_option maxRecDepth 100000
set_option maxHeartbeats 4000000
/-! The law's draws. -/
namespace K61
open PySem PySem.Spec PyProof.Rows L2 KF KD
/-! ### great powers -/
def CPowW (i j : Int) : Prop := 0 ≤ j ∧ j ≤ 1000 ∧ i.natAbs < 2 ^ 1000
theorem op_powW {X : Cx} : OpR X (binaryOp .Pow) (rI CPowW fun i j => .int (i ^ j.toNat)) := opI fun i j _ _ _ _ _ hc q => by
  refine PyProof.Rows.pow_int hc.1 ?_ q
  have hb : Builtin.Int.intBits i ≤ 1000 := by
    have h := PySem.Flt.log2_lt_of (by decide) hc.2.2
    unfold Builtin.Int.intBits
    split <;> omega
  have h1 : (Builtin.Int.intBits i : Int) ≤ 1000 := by omega
  have h2 := Int.mul_le_mul h1 hc.2.1 hc.1 (by decide)
  exact Int.le_trans h2 (by decide)
/-- a row of draws at d, good for n more -/
def Dk (H : Hp) (d : Addr) (n : Nat) : Prop := ∃ r m c : Int, H d = some (.lst [.int r, .int m, .int c]) ∧ 0 ≤ m ∧ m < 10000000000000000000000000000000 ∧ 0 ≤ c ∧ c + n ≤ 1000000000000
theorem Dk.le {H : Hp} {d : Addr} {n k : Nat} (h : Dk H d n) (hk : k ≤ n) : Dk H d k := by
  obtain ⟨r, m, c, h0, h1, h2, h3, h4⟩ := h
  exact ⟨r, m, c, h0, h1, h2, h3, by omega⟩
theorem Dk.lst {H : Hp} {d : Addr} {n : Nat} (h : Dk H d n) : ∃ xs, H d = some (.lst xs) := by
  obtain ⟨r, m, c, h0, _⟩ := h
  exact ⟨_, h0⟩
theorem Dk.same {H H' : Hp} {d : Addr} {n : Nat} (h : Dk H d n) (e : Same H H') : Dk H' d n := by
  obtain ⟨r, m, c, h0, h1⟩ := h
  exact ⟨r, m, c, e _ _ h0, h1⟩
theorem Dk.ne {H : Hp} {d p : Addr} {n : Nat} (h : Dk H d n) (np : H p = none) : p ≠ d := fun z => by
  obtain ⟨xs, hx⟩ := h.lst
  rw [z, hx] at np
  cases np
theorem Dk.upd {H : Hp} {d p : Addr} {n : Nat} {o : HO} (h : Dk H d n) (np : p ≠ d) : Dk (upd H p o) d n := by
  obtain ⟨r, m, c, h0, h1⟩ := h
  exact ⟨r, m, c, by rw [upd_ne np.symm]; exact h0, h1⟩
section
variable {P : Program} {w : World} {K : PySem.W.Frag} {mg : Str → Option Value} {base : Heap}
/-! ### _law_well -/
def spWell (K : PySem.W.Frag) : Sp := fun vs H Q _ => ∃ (a : Addr) (ns : List Int) (k : Nat), vs = [.ref a, .int (k : Int)] ∧ SqL K H a (ns.map V.int) ∧ k ≤ 100 ∧ ns.length ≤ 100 ∧ ∀ l H', Same H H' → H l = none → Dk H' l 900000000000 → Q (.ref l) H'
theorem scD : FnScope ["script", "place", "cell"] ["script", "place"] (defScope s_law_well) := ⟨rfl, rfl, rfl, by decide +kernel, rfl, by decide +kernel, by decide +kernel⟩
theorem ok_law_well (T : Txt K w mg) : FnOk P w K mg base CX0 1 (He.fAd K ("_law_well", none)) (fdAt K (He.fAd K ("_law_well", none))) ["script", "place"] (spWell K) := by
  refine T.F_law_well.ok scD (fun vs H Q E h => ?_) (fun cdv A outer s H vs Q E hr h => ?_)
  · obtain ⟨a, ns, k, rfl, _⟩ := h
    rfl
  · obtain ⟨a, ns, k, rfl, hS, hk, hn, kk⟩ := h
    refine ⟨_, PSs.nox (pss_cons (ps_set (i := 2) scD.nd rfl (Or.inl rfl) (pe_ifExp (pt_cmpR op_lt (pv 1) (pe_callB (r := Evl.rLenS K) call_len_seq (by rfl) T.n_len PyProof.Rows.Boot.«len» (pa_cons (pv 0) pa_nil)) (nomark _)) (pe_callTy call_int1 (by rfl) T.n_int PyProof.Rows.Boot.«int» (pa_cons (pe_ix (r := rIxL K) ix_list (pv 0) (pv 1) (fun _ _ => rfl)) pa_nil)) (pe_op op_add (pe_op op_mul (pv 1) pe_int) (pe_op op_mul (pe_callB (r := Evl.rLenS K) call_len_seq (by rfl) T.n_len PyProof.Rows.Boot.«len» (pa_cons (pv 0) pa_nil)) pe_int))))
      (pss_one (ps_ret (pe_lst (pa_cons (pe_callB (call_max2 rfl) (by rfl) T.n_max PyProof.Rows.Boot.«max» (pa_cons pe_int (pa_cons (pe_op op_sub (pe_callB call_abs (by rfl) T.n_abs PyProof.Rows.Boot.«abs» (pa_cons (pv 2) pa_nil)) (pe_op op_pow pe_int pe_int)) pa_nil))) (pa_cons (pe_op op_mod (pe_callTy call_int1 (by rfl) T.n_int PyProof.Rows.Boot.«int» (pa_cons (pe_op op_add (pe_op op_add (pe_op op_mul (pv 2) pe_int) (pe_op op_mul (pv 1) pe_int)) pe_int) pa_nil)) (pe_op op_add (pe_op op_pow pe_int pe_int) pe_int)) (pa_cons pe_int pa_nil))))))), ?_⟩
    have fin : ∀ (r z : Int) (l : Addr), H l = none → Q (.ref l) (upd H l (.lst [.int r, .int (z % (10 ^ (24 : Int).toNat + 7)), .int 0])) := fun r z l n => by
      have e0 : (10 : Int) ^ (24 : Int).toNat + 7 = 1000000000000000000000007 := by decide
      have e1 := Int.emod_nonneg z (show (1000000000000000000000007 : Int) ≠ 0 by decide)
      have e2 := Int.emod_lt_of_pos z (show (0 : Int) < 1000000000000000000000007 by decide)
      rw [e0]
      exact kk l _ (fun b o e => by rw [upd_ne (ne_of_none e n)]; exact e) n ⟨r, _, _, upd_same, e1, by omega, by omega, by omega⟩
    have m1 : ∀ i : Int, CMul i 52711 := fun i => .inr ⟨by decide, by decide⟩
    have m2 : ∀ i : Int, CMul i 6700417 := fun i => .inr ⟨by decide, by decide⟩
    have m3 : ∀ i : Int, CMul i 7919 := fun i => .inr ⟨by decide, by decide⟩
    have m4 : ∀ i : Int, CMul i 104729 := fun i => .inr ⟨by decide, by decide⟩
    refine ⟨_, rfl, _, rfl, a, _, rfl, .inl hS, _, _, rfl, rfl, _, rfl, ite2 (fun z => ?_) (fun z => ?_)⟩
    · have hk2 := of_decide_eq_true z
      have hk3 : k < ns.length := by
        rw [List.length_map] at hk2
        omega
      refine ⟨_, rfl, _, rfl, a, _, _, _, rfl, rfl, hS, atI_nat (v := .int ns[k]) (by rw [List.getElem?_map, List.getElem?_eq_getElem hk3]; rfl), .inl ⟨_, rfl, ?_⟩⟩
      refine ⟨_, rfl, _, rfl, _, _, rfl, rfl, ⟨by decide, by decide, by decide⟩, _, _, rfl, rfl, _, _, rfl, ?_⟩
      refine ⟨_, rfl, _, _, rfl, rfl, m1 _, _, rfl, _, _, rfl, rfl, m2 _, _, _, rfl, rfl, _, _, rfl, rfl, .inl ⟨_, rfl, ?_⟩⟩
      exact ⟨_, _, rfl, rfl, ⟨by decide, by decide, by decide⟩, _, _, rfl, rfl, _, _, rfl, rfl, (show (0 : Int) < 10 ^ (24 : Int).toNat + 7 by decide), (show 3 ≤ sizeLine by decide), fun l n => fin _ _ l n⟩
    · refine ⟨_, rfl, _, _, rfl, rfl, m3 _, _, rfl, a, _, rfl, .inl hS, _, _, rfl, rfl, m4 _, _, _, rfl, rfl, ?_⟩
      refine ⟨_, rfl, _, rfl, _, _, rfl, rfl, ⟨by decide, by decide, by decide⟩, _, _, rfl, rfl, _, _, rfl, ?_⟩
      refine ⟨_, rfl, _, _, rfl, rfl, m1 _, _, rfl, _, _, rfl, rfl, m2 _, _, _, rfl, rfl, _, _, rfl, rfl, .inl ⟨_, rfl, ?_⟩⟩
      exact ⟨_, _, rfl, rfl, ⟨by decide, by decide, by decide⟩, _, _, rfl, rfl, _, _, rfl, rfl, (show (0 : Int) < 10 ^ (24 : Int).toNat + 7 by decide), (show 3 ≤ sizeLine by decide), fun l n => fin _ _ l n⟩
/-! ### _law_draw -/
def spDraw : Sp := fun vs H Q _ => ∃ (d : Addr) (m : Int) (n : Nat), vs = [.ref d, .int m] ∧ 0 < m ∧ m < 1000000000000 ∧ Dk H d (n + 1) ∧ ∀ (x : Int) H', 0 ≤ x → x < m → Frm d H H' → Dk H' d n → Q (.int x) H'
theorem scT : FnScope ["well", "many", "drawn", "mixed"] ["well", "many"] (defScope s_law_draw) := ⟨rfl, rfl, rfl, by decide +kernel, rfl, by decide +kernel, by decide +kernel⟩
theorem ok_law_draw (T : Txt K w mg) : FnOk P w K mg base CX0 1 (He.fAd K ("_law_draw", none)) (fdAt K (He.fAd K ("_law_draw", none))) ["well", "many"] spDraw := by
  refine T.F_law_draw.ok scT (fun vs H Q E h => ?_) (fun cdv A outer s H vs Q E hr h => ?_)
  · obtain ⟨d, m, n, rfl, _⟩ := h
    rfl
  · obtain ⟨d, m, n, rfl, hm0, hm1, ⟨r, mm, c, hd, a1, a2, a3, a4⟩, k⟩ := h
    refine ⟨_, PSs.nox (pss_cons (ps_if (pt_cmpR op_gt (pe_ix (r := rIxL K) ix_list (pv 0) pe_int (fun _ _ => rfl)) pe_int (nomark _)) (pss_cons (ps_set (i := 2) scT.nd rfl (Or.inl rfl) (pe_op op_mod (pe_callTy call_int1 (by rfl) T.n_int PyProof.Rows.Boot.«int» (pa_cons (pe_ix (r := rIxL K) ix_list (pv 0) pe_int (fun _ _ => rfl)) pa_nil)) (pv 1)))
      (pss_cons (ps_asg (pe_op op_fdivW (pe_ix (r := rIxL K) ix_list (pv 0) pe_int (fun _ _ => rfl)) (pv 1)) (pg_sub (pv 0) pe_int set_list))
      (pss_one (ps_ret (pv 2))))) pss_nil)
      (pss_cons (ps_asg (pe_op op_add (pe_ix (r := rIxL K) ix_list (pv 0) pe_int (fun _ _ => rfl)) pe_int) (pg_sub (pv 0) pe_int set_list))
      (pss_cons (ps_set (i := 3) scT.nd rfl (Or.inl rfl) (pe_op op_mod (pe_op op_powW (pe_callTy call_int1 (by rfl) T.n_int PyProof.Rows.Boot.«int» (pa_cons (pe_op op_add (pe_ix (r := rIxL K) ix_list (pv 0) pe_int (fun _ _ => rfl)) (pe_op op_mulW pe_int (pe_ix (r := rIxL K) ix_list (pv 0) pe_int (fun _ _ => rfl)))) pa_nil)) pe_int) (pe_op op_add (pe_op op_pow pe_int pe_int) pe_int)))
      (pss_cons (ps_set (i := 3) scT.nd rfl (Or.inl rfl) (pe_op op_mod (pe_op op_powW (pe_callTy call_int1 (by rfl) T.n_int PyProof.Rows.Boot.«int» (pa_cons (pe_op op_add (pv 3) (pe_op op_mulW pe_int (pe_ix (r := rIxL K) ix_list (pv 0) pe_int (fun _ _ => rfl)))) pa_nil)) pe_int) (pe_op op_add (pe_op op_pow pe_int pe_int) pe_int)))
      (pss_one (ps_ret (pe_op op_mod (pe_callTy call_int1 (by rfl) T.n_int PyProof.Rows.Boot.«int» (pa_cons (pe_op op_fdivW (pv 3) pe_int) pa_nil)) (pv 1)))))))), ?_⟩
    have hW : CDivW 0 m := wide_div hm0 (small_ab (n := 40) (by omega) (by rw [pow40]; omega)) (by decide) (by decide)
    refine ⟨_, rfl, _, _, _, _, rfl, rfl, SqL.of hd, at_of (j := 0) rfl rfl, _, _, rfl, rfl, _, rfl, ite2 (fun z => ?_) (fun z => ?_)⟩
    · refine ⟨_, rfl, _, _, _, _, rfl, rfl, SqL.of hd, at_of (j := 0) rfl rfl, .inl ⟨_, rfl, _, rfl, _, _, rfl, rfl, hm0, ?_⟩⟩
      refine ⟨_, rfl, _, _, _, _, rfl, rfl, SqL.of hd, at_of (j := 0) rfl rfl, _, rfl, _, _, rfl, rfl, hW, _, rfl, _, _, _, 0, rfl, rfl, hd, rfl, _, rfl, ?_⟩
      exact k _ _ (Int.emod_nonneg _ (by omega)) (Int.emod_lt_of_pos _ hm0) Frm.of_upd ⟨_, mm, c, upd_same, a1, a2, a3, by omega⟩
    · have hd1 : (upd H d (.lst [.int r, .int mm, .int (c + 1)])) d = some (.lst [.int r, .int mm, .int (c + 1)]) := upd_same
      refine ⟨_, rfl, _, _, _, _, rfl, rfl, SqL.of hd, at_of (j := 2) rfl rfl, _, _, rfl, rfl, _, rfl, _, _, _, 2, rfl, rfl, hd, rfl, ?_⟩
      have b1 : CMulW 1000003 (c + 1) := wide_mul (a := 40) (b := 40) (by decide) (small_ab (by omega) (by rw [pow40]; omega)) (by decide) (by decide) (by decide)
      have b2 : CMulW 77347 (c + 1) := wide_mul (a := 40) (b := 40) (by decide) (small_ab (by omega) (by rw [pow40]; omega)) (by decide) (by decide) (by decide)
      have x0a : (mm + 1000003 * (c + 1)).natAbs < 2 ^ 1000 := Nat.lt_of_lt_of_le (small_ab (n := 110) (i := mm + 1000003 * (c + 1)) (by omega) (by rw [show (2 : Int) ^ 110 = 1298074214633706907132624082305024 by decide]; omega)) (Nat.pow_le_pow_right (by decide) (by decide))
      have e34 : (10 : Int) ^ (25 : Int).toNat + 13 = 10000000000000000000000013 := by decide
      have e36 : (10 : Int) ^ (24 : Int).toNat + 7 = 1000000000000000000000007 := by decide
      refine ⟨_, rfl, _, _, _, _, rfl, rfl, SqL.of hd1, at_of (j := 1) rfl rfl, _, rfl, _, _, _, _, rfl, rfl, SqL.of hd1, at_of (j := 2) rfl rfl, _, _, rfl, rfl, b1, _, _, rfl, rfl, .inl ⟨_, rfl, ?_⟩⟩
      refine ⟨_, _, rfl, rfl, ⟨by decide, by decide, x0a⟩, _, _, rfl, rfl, ⟨by decide, by decide, by decide⟩, _, _, rfl, rfl, _, _, rfl, rfl, (show (0 : Int) < 10 ^ (25 : Int).toNat + 13 by decide), ?_⟩
      obtain ⟨x1, hx1⟩ : ∃ x1, x1 = (mm + 1000003 * (c + 1)) ^ (3 : Int).toNat % (10 ^ (25 : Int).toNat + 13) := ⟨_, rfl⟩
      have y1 := Int.emod_nonneg ((mm + 1000003 * (c + 1)) ^ (3 : Int).toNat) (show (10000000000000000000000013 : Int) ≠ 0 by decide)
      have y2 := Int.emod_lt_of_pos ((mm + 1000003 * (c + 1)) ^ (3 : Int).toNat) (show (0 : Int) < 10000000000000000000000013 by decide)
      rw [← e34] at y1 y2
      show L2.tSeq _ _ _ (List.set _ 3 (some (V.int ((mm + 1000003 * (c + 1)) ^ (3 : Int).toNat % (10 ^ (25 : Int).toNat + 13))))) _
      rw [← hx1] at y1 y2 ⊢
      rw [e34] at y2
      have x1a : (x1 + 77347 * (c + 1)).natAbs < 2 ^ 1000 := Nat.lt_of_lt_of_le (small_ab (n := 120) (i := x1 + 77347 * (c + 1)) (by omega) (by rw [show (2 : Int) ^ 120 = 1329227995784915872903807060280344576 by decide]; omega)) (Nat.pow_le_pow_right (by decide) (by decide))
      refine ⟨_, rfl, _, rfl, _, _, _, _, rfl, rfl, SqL.of hd1, at_of (j := 2) rfl rfl, _, _, rfl, rfl, b2, _, _, rfl, rfl, .inl ⟨_, rfl, ?_⟩⟩
      refine ⟨_, _, rfl, rfl, ⟨by decide, by decide, x1a⟩, _, _, rfl, rfl, ⟨by decide, by decide, by decide⟩, _, _, rfl, rfl, _, _, rfl, rfl, (show (0 : Int) < 10 ^ (24 : Int).toNat + 7 by decide), ?_⟩
      refine ⟨_, rfl, _, _, rfl, rfl, wide_div (b := 30) (by decide) (by decide) (by decide) (by decide), .inl ⟨_, rfl, _, rfl, _, _, rfl, rfl, hm0, ?_⟩⟩
      exact k _ _ (Int.emod_nonneg _ (by omega)) (Int.emod_lt_of_pos _ hm0) Frm.of_upd ⟨r, mm, c + 1, upd_same, a1, a2, by omega, by omega⟩
end
end K61
set_option maxRecDepth 100000
set_option maxHeartbeats 4000000
/-! The law: pieces put together. -/
namespace KF
open PySem PySem.Spec PyProof.Rows L2
section
variable {X : Cx}
def rNeNil (K : PySem.W.Frag) (c : Bool) : R2 := fun x y H Q => ∃ ds, Dp K H x (.list ds) ∧ Dp K H y (.list []) ∧ PyData.canLayAll0 ds = true ∧ Q (.bl (c == ds.isEmpty)) H
theorem eqv_nil (ds : List PyData) : PyData.eqv (.list ds) (.list []) = ds.isEmpty := by
  cases ds <;> simp [PyData.eqv, PyData.eqvAll]
theorem op_neNil (hu : X.A.units + 64 < cLine) : OpR X (compareOp .NotEq) (rNeNil X.K false) := by
  intro pins s σ H x y v u Q I rx ry h
  obtain ⟨ds, hd, he, hc, q⟩ := h
  obtain ⟨as, r1⟩ := Dp.reads I _ x v hd rx
  obtain ⟨bs, r2⟩ := Dp.reads I _ y u he ry
  have e : (PyData.list []).depth = 1 := by simp [PyData.depth, PyData.depthAll]
  refine SeqAt.compareNe_reads r1 r2 (by simpa [PyData.canLay0] using hc) (by simp [PyData.canLay0, PyData.canLayAll0]) (by rw [e]; have := Nat.min_le_right (PyData.list ds).depth 1; omega) ⟨.bl _, H, I, rfl, ?_⟩
  rw [eqv_nil]
  simpa using q
end
end KF
namespace K61
open PySem PySem.Spec PyProof.Rows L2 KF KD
theorem can_pcs : ∀ ps : List Pc, PyData.canLayAll0 (ps.map pcy) = true
  | [] => by simp [PyData.canLayAll0]
  | e :: ps => by
    rw [List.map_cons, PyData.canLayAll0, can_pcs ps]
    unfold pcy rpy
    simp [PyData.canLay0, PyData.canLayAll0, can_ints]
section
variable {P : Program} {w : World} {K : PySem.W.Frag} {mg : Str → Option Value} {base : Heap}
def spTo (K : PySem.W.Frag) : Sp := fun vs H Q _ => ∃ (a : Addr) (xs : List V) (ps : List Pc), vs = [.ref a] ∧ SqL K H a xs ∧ DpAll K H xs (ps.map pcy) ∧ ps.length ≤ 1000 ∧ ∀ u H', Same H H' → Dp K H' u (.tuple ((tog [] ps).map pcy)) → Q u H'
theorem scTo : FnScope ["pieces", "found", "many", "presses"] ["pieces"] (defScope s_law_together) := ⟨rfl, rfl, rfl, by decide +kernel, rfl, by decide +kernel, by decide +kernel⟩
theorem ok_law_together (T : Txt K w mg) : FnOk P w K mg base CX0 1 (He.fAd K ("_law_together", none)) (fdAt K (He.fAd K ("_law_together", none))) ["pieces"] (spTo K) := by
  refine T.F_law_together.ok scTo (fun vs H Q E h => ?_) (fun cdv A outer s H vs Q E hr h => ?_)
  · obtain ⟨a, xs, ps, rfl, _⟩ := h
    rfl
  · obtain ⟨a, xs, ps, rfl, sq, dp, hl, k⟩ := h
    refine ⟨_, PSs.nox (pss_cons (ps_set (i := 1) scTo.nd rfl (Or.inl rfl) (pe_lst pa_nil))
      (pss_cons (ps_for PassesOwn.never rfl (pi_list (pv 0)) (pg_tup (by rfl) (pgs_cons (pg_name (i := 2) scTo.nd rfl (Or.inl rfl)) (pgs_cons (pg_name (i := 3) scTo.nd rfl (Or.inl rfl)) pgs_nil))) (pss_cons (ps_if (PW.pt (pw_and (pt_cmpR (r := rNeNil K false) (op_neNil hr.units) (pv 1) (pe_lst pa_nil) (nomark _)) (pw_and1 (pt_cmpR (op_eqD hr.units) (pe_ix (r := rIxT K) ix_tup (pe_ix (r := rIxL K) ix_list (pv 1) (pe_un un_neg pe_int) (fun _ _ => rfl)) pe_int (fun _ _ => rfl)) (pv 3) (nomark _))))) (pss_cons (ps_set (i := 2) scTo.nd rfl (Or.inl rfl) (pe_op op_add (pv 2) (pe_ix (r := rIxT K) ix_tup (pe_ix (r := rIxL K) ix_list (pv 1) (pe_un un_neg pe_int) (fun _ _ => rfl)) pe_int (fun _ _ => rfl))))
      (pss_one (ps_set (i := 1) scTo.nd rfl (Or.inl rfl) (pe_slice sl_list (pv 1) po_none (po_some (pe_un un_neg pe_int)))))) pss_nil)
      (pss_one (ps_expr (pe_bm PySem.F.plainAttrs_list PySem.F.slot_list_append PySem.F.type_list_append mt_append (pv 1) (pa_cons (pe_tup (pa_cons (pv 2) (pa_cons (pv 3) pa_nil))) pa_nil))))))
      (pss_one (ps_ret (pe_callTy call_tuple_of (by rfl) T.n_tuple PyProof.Rows.Boot.«tuple» (pa_cons (pv 1) pa_nil)))))), ?_⟩
    have hxl := dpa_len dp
    rw [List.length_map] at hxl
    refine ⟨(show 0 ≤ sizeLine by decide), fun L0 nL => ?_⟩
    have sL := new_same (o := .lst []) nL
    refine ⟨_, rfl, a, rfl, ⟨_, sL.seq sq⟩, ?_⟩
    refine for_it (walk_list (K := K) (a := a) (xs := xs)) (fun i σ H' => ∃ (v2 v3 : Option V) (L : Addr) (vs : List V), σ = [some (.ref a), some (.ref L), v2, v3] ∧ H' L = some (.lst vs) ∧ H L = none ∧ DpAll K H' vs ((tog [] (ps.take i)).map pcy) ∧ vs.length ≤ i ∧ Same H H') ⟨_, _, L0, [], rfl, upd_same, nL, .nil, Nat.le_refl _, sL⟩ (fun i σ H' _ h => h.choose_spec.choose_spec.choose_spec.choose_spec.2.2.2.2.2.seq sq) (fun i x σ H' H2 hi h y => ?_) (fun σ H2 h => ?_)
    · obtain ⟨v2, v3, L, vs, rfl, hL, nL, dv, hvl, sm⟩ := h
      obtain ⟨rfl, hx⟩ := y
      have hir : i < ps.length := by omega
      have he : ps[i]? = some ps[i] := List.getElem?_eq_getElem hir
      obtain ⟨v, e1, d1⟩ := dpa_get dp (show (ps.map pcy)[i]? = some (pcy ps[i]) by rw [List.getElem?_map, he]; rfl)
      replace hx : xs[i]? = some x := hx
      rw [e1] at hx
      cases hx
      obtain ⟨p, y, rfl, sp, dy⟩ := dp_pc (dp_same sm _ _ d1)
      have hstep : tog [] (ps.take (i + 1)) = stp (tog [] (ps.take i)) ps[i].1 ps[i].2 := by
        rw [List.take_add_one, he]
        unfold tog
        rw [List.foldl_append]
        rfl
      refine ⟨p, _, rfl, sp, rfl, _, _, rfl, _, _, rfl, rfl, ?_⟩
      have app : ∀ (L1 : Addr) (us : List V) (xx : List Pc) (m : Int) (H3 : Hp), tog [] (ps.take (i + 1)) = xx ++ [(m, ps[i].2)] → Same H H3 → H L1 = none → H3 L1 = some (.lst us) → DpAll K H3 us (xx.map pcy) → Dp K H3 y (rpy ps[i].2) → us.length ≤ i →
          ∀ q, H3 q = none → ∃ (v2 v3 : Option V) (L : Addr) (vs : List V), [some (V.ref a), some (V.ref L1), some (V.int m), some y] = [some (V.ref a), some (V.ref L), v2, v3] ∧ (upd (upd H3 q (.tup [.int m, y])) L1 (.lst (us ++ [.ref q]))) L = some (.lst vs) ∧ H L = none ∧
            DpAll K (upd (upd H3 q (.tup [.int m, y])) L1 (.lst (us ++ [.ref q]))) vs ((tog [] (ps.take (i + 1))).map pcy) ∧ vs.length ≤ i + 1 ∧ Same H (upd (upd H3 q (.tup [.int m, y])) L1 (.lst (us ++ [.ref q]))) := fun L1 us xx m H3 e s3 n1 h1 du dy3 hul q nq => by
        have s2 := new_same (o := .tup [.int m, y]) nq
        have tf2 := Frm.tf (Frm.of_upd (o := .lst (us ++ [.ref q]))) (s2 _ _ h1)
        refine ⟨_, _, _, _, rfl, upd_same, n1, ?_, by rw [List.length_append, List.length_singleton]; omega, fun b o z => by rw [upd_ne (ne_of_none z n1)]; exact s2 _ _ (s3 _ _ z)⟩
        rw [e, List.map_append]
        exact dpa_app (dpa_nl tf2 _ _ (nl_pcs _) (dpa_same s2 _ _ du)) (.cons (pc_dp (e := (m, ps[i].2)) (tf2.sq (SqT.of upd_same)) (dp_nl tf2 _ _ (nl_rpy _) (dp_same s2 _ _ dy3))) .nil)
      have lenL : ∀ us : List V, us.length ≤ i → us.length < sizeLine := fun us h => Nat.lt_of_lt_of_le (show us.length < 1001 by omega) (by decide)
      refine ⟨_, rfl, (show 0 ≤ sizeLine by decide), fun z0 nz => ?_⟩
      have s0 := new_same (o := .lst []) nz
      refine ⟨(tog [] (ps.take i)).map pcy, .lst (SqL.of (s0 _ _ hL)) (dpa_same s0 _ _ dv), .lst (SqL.of upd_same) .nil, can_pcs _, _, rfl, ?_⟩
      rcases last_cases (tog [] (ps.take i)) with hg | ⟨g, e, hg⟩
      · rw [hg] at dv hstep ⊢
        refine ite2 (fun z => absurd z (by decide)) (fun _ => ?_)
        refine iteF ?_
        cases dv
        refine ⟨_, rfl, .inl ⟨rfl, _, SqL.of (s0 _ _ hL)⟩, _, rfl, _, rfl, (show 2 ≤ sizeLine by decide), fun q nq => ?_⟩
        have s2 := new_same (o := .tup [.int ps[i].1, y]) nq
        exact ⟨L, _, _, rfl, rfl, s2 _ _ (s0 _ _ hL), by decide, app L [] [] _ _ hstep (sm.trans s0) nL (s0 _ _ hL) .nil (dp_same s0 _ _ dy) (Nat.zero_le _) q nq⟩
      · rw [hg] at dv hstep ⊢
        refine ite2 (fun _ => ?_) (fun z => absurd (by simp) z)
        rw [stp_app] at hstep
        have dv0 := dv
        rw [List.map_append] at dv
        obtain ⟨us, u, rfl, du, de⟩ := dpa_last dv
        obtain ⟨p2, y2, rfl, sp2, dy2⟩ := dp_pc de
        have dy0 := dp_same s0 _ _ dy
        have hL0 := s0 _ _ hL
        have sp20 := (same_tf s0).sq sp2
        refine ⟨_, rfl, _, rfl, L, _, _, _, rfl, rfl, SqL.of hL0, at_last, p2, _, _, _, rfl, rfl, sp20, atI_nat (j := 1) rfl, _, rfl, rpy e.2, rpy ps[i].2, dp_same s0 _ _ dy2, dy0, shaped_rpy _, shaped_rpy _, _, rfl, ?_⟩
        rw [eqv_rpy]
        refine ite2 (fun z => ?_) (fun z => ?_)
        · have hq := of_decide_eq_true z
          rw [if_pos hq] at hstep
          refine ⟨_, rfl, _, rfl, _, rfl, L, _, _, _, rfl, rfl, SqL.of hL0, at_last, p2, _, _, _, rfl, rfl, sp20, atI_nat (j := 0) rfl, _, _, rfl, rfl, ?_⟩
          refine ⟨_, rfl, _, rfl, _, rfl, L, _, rfl, SqL.of hL0, fun r nr => ?_⟩
          rw [cut_last]
          have sr := new_same (o := .lst us) nr
          have s0r := s0.trans sr
          have hL1 : (upd (upd H2 z0 (.lst [])) r (.lst us)) r = some (.lst us) := upd_same
          refine ⟨_, rfl, .inl ⟨rfl, _, SqL.of hL1⟩, _, rfl, _, rfl, (show 2 ≤ sizeLine by decide), fun q nq => ?_⟩
          have s2 := new_same (o := .tup [.int (ps[i].1 + e.1), y]) nq
          rw [List.length_append, List.length_singleton] at hvl
          have nHr : H r = none := by
            cases hh : H r with
            | none => rfl
            | some o => rw [sm.trans s0 _ _ hh] at nr; cases nr
          exact ⟨r, _, _, rfl, rfl, s2 _ _ hL1, lenL us (by omega), app r us g _ _ hstep (sm.trans s0r) nHr hL1 (dpa_same s0r _ _ du) (dp_same s0r _ _ dy) (by omega) q nq⟩
        · have hq : ¬ e.2 = ps[i].2 := fun w => z (decide_eq_true w)
          rw [if_neg hq] at hstep
          refine ⟨_, rfl, .inl ⟨rfl, _, SqL.of hL0⟩, _, rfl, _, rfl, (show 2 ≤ sizeLine by decide), fun q nq => ?_⟩
          have s2 := new_same (o := .tup [.int ps[i].1, y]) nq
          exact ⟨L, _, _, rfl, rfl, s2 _ _ hL0, lenL _ hvl, app L _ (g ++ [e]) _ _ hstep (sm.trans s0) nL hL0 (dpa_same s0 _ _ dv0) dy0 hvl q nq⟩
    · obtain ⟨v2, v3, L, vs, rfl, hL, nL, dv, hvl, sm⟩ := h
      have hfl : ps.take xs.length = ps := List.take_of_length_le (by omega)
      rw [hfl] at dv
      refine ⟨_, rfl, L, vs, rfl, .inl ⟨SqL.of hL, fun l nl => ?_⟩⟩
      have sl := new_same (o := .tup vs) nl
      exact k _ _ (sm.trans sl) (.tup (SqT.of upd_same) (dpa_same sl _ _ dv))
end
end K61
set_option maxRecDepth 100000
set_option maxHeartbeats 4000000
/-! Equal, and of one kind. -/
namespace K61
open PySem PySem.Spec PyProof.Rows L2 KF KD
theorem walk_zipT {K : PySem.W.Frag} {a b : Addr} {xs ys : List V} {n : Nat} (hn : n = min xs.length ys.length) : Walk (RZ.ItzT K a b) n (fun H => SqT K H a xs ∧ SqT K H b ys) (YPair (fun i => xs[i]?) (fun i => ys[i]?)) := by
  subst hn
  refine ⟨fun i _ hi q => ?_, fun _ q => ⟨xs, ys, q.1, q.2, by omega⟩, fun i H v H' _ q y => ?_⟩
  · have h1 : i < xs.length := by omega
    have h2 : i < ys.length := by omega
    exact ⟨xs, ys, xs[i], ys[i], q.1, q.2, by simp [h1], by simp [h2]⟩
  · obtain ⟨T, x, z, h1, h2, h3, h4, h5⟩ := y
    exact ⟨T, x, z, h1, h2, h3, h4 xs q.1, h5 ys q.2⟩
theorem ty_lst {K : PySem.W.Frag} {H : Hp} {a : Addr} {xs : List V} (h : SqL K H a xs) : TyX K H (.ref a) (.type "list") := by
  rcases h with (h | ⟨o, h⟩) | ⟨o, _, _, h, hc, _⟩
  · exact .base (.lst h)
  · exact .base (.frz h)
  · exact .kList h hc
def AlOk : Nat → PyData → Prop
  | _, .none => True
  | _, .bool _ => True
  | _, .int _ => True
  | _, .str _ => True
  | n + 1, .tuple ds => ds.length ≤ 1100 ∧ ∀ e ∈ ds, AlOk n e
  | n + 1, .list ds => ds.length ≤ 1100 ∧ ∀ e ∈ ds, AlOk n e
  | _, _ => False
def spSame (K : PySem.W.Frag) (n : Nat) : Sp := fun vs H Q _ => ∃ (v1 v2 : V) (d : PyData), vs = [v1, v2] ∧ Dp K H v1 d ∧ Dp K H v2 d ∧ AlOk n d ∧ ∀ H', Same H H' → Q (.bl true) H'
def spSm (K : PySem.W.Frag) : Nat → Sp
  | 0 => fun _ _ _ _ => False
  | n + 1 => spSame K n
section
variable {P : Program} {w : World} {K : PySem.W.Frag} {mg : Str → Option Value} {base : Heap}
theorem scSm : FnScope ["got", "due", "kind", "one", "two"] ["got", "due"] (defScope s_law_same) := ⟨rfl, rfl, rfl, by decide +kernel, rfl, by decide +kernel, by decide +kernel⟩
theorem ok_law_same (T : Txt K w mg) : ∀ n : Nat, FnOk P w K mg base CX0 n (He.fAd K ("_law_same", none)) (fdAt K (He.fAd K ("_law_same", none))) ["got", "due"] (spSm K n)
  | 0 => ⟨fun _ _ _ _ z => z.elim, fun _ _ _ _ _ _ _ _ _ _ _ _ _ z => z.elim⟩
  | n + 1 => by
    have G := ok_law_same T n
    refine T.F_law_same.ok scSm (fun vs H Q E h => ?_) (fun cdv A outer s H vs Q E hr h => ?_)
    · obtain ⟨v1, v2, d, rfl, _⟩ := h
      rfl
    · obtain ⟨v1, v2, d, rfl, h1, h2, hp, k⟩ := h
      refine ⟨_, PSs.nox (pss_cons (ps_if (PW.pt (pw_or (pt_val (pe_callB (r := rIsi K) call_isi (by rfl) T.n_isinstance PyProof.Rows.Boot.«isinstance» (pa_cons (pv 1) (pa_cons (pe_bltn (v := .ty "tuple") (by rfl) T.n_tuple PyProof.Rows.Boot.«tuple» rfl) pa_nil)))) (pw_or1 (pt_val (pe_callB (r := rIsi K) call_isi (by rfl) T.n_isinstance PyProof.Rows.Boot.«isinstance» (pa_cons (pv 1) (pa_cons (pe_bltn (v := .ty "list") (by rfl) T.n_list PyProof.Rows.Boot.«list» rfl) pa_nil))))))) (pss_cons (ps_set (i := 2) scSm.nd rfl (Or.inl rfl) (pe_ifExp (pt_val (pe_callB (r := rIsi K) call_isi (by rfl) T.n_isinstance PyProof.Rows.Boot.«isinstance» (pa_cons (pv 1) (pa_cons (pe_bltn (v := .ty "tuple") (by rfl) T.n_tuple PyProof.Rows.Boot.«tuple» rfl) pa_nil)))) (pe_callB (r := rIsi K) call_isi (by rfl) T.n_isinstance PyProof.Rows.Boot.«isinstance» (pa_cons (pv 0) (pa_cons (pe_bltn (v := .ty "tuple") (by rfl) T.n_tuple PyProof.Rows.Boot.«tuple» rfl) pa_nil))) (pe_callB (r := rIsi K) call_isi (by rfl) T.n_isinstance PyProof.Rows.Boot.«isinstance» (pa_cons (pv 0) (pa_cons (pe_bltn (v := .ty "list") (by rfl) T.n_list PyProof.Rows.Boot.«list» rfl) pa_nil)))))
      (pss_cons (ps_if (PW.pt (pw_or (pt_not (pt_val (pv 2))) (pw_or1 (pt_cmpR op_ne (pe_callB (r := Evl.rLenS K) call_len_seq (by rfl) T.n_len PyProof.Rows.Boot.«len» (pa_cons (pv 0) pa_nil)) (pe_callB (r := Evl.rLenS K) call_len_seq (by rfl) T.n_len PyProof.Rows.Boot.«len» (pa_cons (pv 1) pa_nil)) (nomark _))))) (pss_one (ps_ret pe_bl)) pss_nil)
      (pss_cons (ps_for PassesOwn.never rfl (RZ.pi_zipA (by rfl) T.n_zip (pa_cons (pv 0) (pa_cons (pv 1) pa_nil))) (pg_tup (by rfl) (pgs_cons (pg_name (i := 3) scSm.nd rfl (Or.inl rfl)) (pgs_cons (pg_name (i := 4) scSm.nd rfl (Or.inl rfl)) pgs_nil))) (pss_one (ps_if (pt_not (pt_val (pe_call G (hr.mono (by omega)) (by rfl) T.g_law_same (T.F_law_same).kp T.b_law_same .nil pass0 (pa_cons (pv 3) (pa_cons (pv 4) pa_nil))))) (pss_one (ps_ret pe_bl)) pss_nil)))
      (pss_one (ps_ret pe_bl))))) pss_nil)
      (pss_cons (ps_if (pt_cmpR op_isN (pv 1) pe_non (nomark _)) (pss_one (ps_ret (pe_cmpR op_isN (pv 0) pe_non (nomark _)))) pss_nil)
      (pss_cons (ps_if (pt_val (pe_callB (r := rIsi K) call_isi (by rfl) T.n_isinstance PyProof.Rows.Boot.«isinstance» (pa_cons (pv 1) (pa_cons (pe_bltn (v := .ty "bool") (by rfl) T.n_bool PyProof.Rows.Boot.«bool» rfl) pa_nil)))) (pss_one (ps_ret (pe_and (pe_callB (r := rIsi K) call_isi (by rfl) T.n_isinstance PyProof.Rows.Boot.«isinstance» (pa_cons (pv 0) (pa_cons (pe_bltn (v := .ty "bool") (by rfl) T.n_bool PyProof.Rows.Boot.«bool» rfl) pa_nil))) (pe_one (pe_cmpR op_eq (pv 0) (pv 1) (nomark _)))))) pss_nil)
      (pss_cons (ps_if (pt_val (pe_callB (r := rIsi K) call_isi (by rfl) T.n_isinstance PyProof.Rows.Boot.«isinstance» (pa_cons (pv 1) (pa_cons (pe_bltn (v := .ty "str") (by rfl) T.n_str PyProof.Rows.Boot.«str» rfl) pa_nil)))) (pss_one (ps_ret (pe_and (pe_callB (r := rIsi K) call_isi (by rfl) T.n_isinstance PyProof.Rows.Boot.«isinstance» (pa_cons (pv 0) (pa_cons (pe_bltn (v := .ty "str") (by rfl) T.n_str PyProof.Rows.Boot.«str» rfl) pa_nil))) (pe_one (pe_cmpR op_eq (pv 0) (pv 1) (nomark _)))))) pss_nil)
      (pss_one (ps_ret (pe_and (pe_callB (r := rIsi K) call_isi (by rfl) T.n_isinstance PyProof.Rows.Boot.«isinstance» (pa_cons (pv 0) (pa_cons (pe_bltn (v := .ty "int") (by rfl) T.n_int PyProof.Rows.Boot.«int» rfl) pa_nil))) (pe_and (pe_not (pe_callB (r := rIsi K) call_isi (by rfl) T.n_isinstance PyProof.Rows.Boot.«isinstance» (pa_cons (pv 0) (pa_cons (pe_bltn (v := .ty "bool") (by rfl) T.n_bool PyProof.Rows.Boot.«bool» rfl) pa_nil)))) (pe_one (pe_cmpR op_eq (pv 0) (pv 1) (nomark _))))))))))), ?_⟩
      cases d with
      | none =>
        cases h1
        cases h2
        refine ⟨_, rfl, _, _, _, _, _, rfl, .ty "tuple", .base .non, kit_ty (r := false) (by decide +kernel), _, rfl, iteF ⟨_, rfl, _, _, _, _, _, rfl, .ty "list", .base .non, kit_ty (r := false) (by decide +kernel), _, rfl, iteF ?_⟩⟩
        exact ⟨_, rfl, rfl, _, rfl, ite2 (fun _ => ⟨_, rfl, rfl, k _ (Same.refl _)⟩) (fun z => (z rfl).elim)⟩
      | bool c =>
        cases h1
        cases h2
        refine ⟨_, rfl, _, _, _, _, _, rfl, .ty "tuple", .base (.bl c), kit_ty (r := false) (by decide +kernel), _, rfl, iteF ⟨_, rfl, _, _, _, _, _, rfl, .ty "list", .base (.bl c), kit_ty (r := false) (by decide +kernel), _, rfl, iteF ?_⟩⟩
        refine ⟨_, rfl, rfl, _, rfl, ite2 (fun z => nomatch (of_decide_eq_true z)) (fun _ => ?_)⟩
        refine ⟨_, rfl, _, _, _, _, _, rfl, .ty "bool", .base (.bl c), kit_ty (r := true) (by decide +kernel), _, rfl, iteT ?_⟩
        refine ⟨_, rfl, _, _, _, _, _, rfl, .ty "bool", .base (.bl c), kit_ty (r := true) (by decide +kernel), _, rfl, iteT ⟨_, rfl, _, rfl, by rfl, ?_⟩⟩
        rw [decide_eq_true (rfl : V.bl c = V.bl c)]
        exact k _ (Same.refl _)
      | str x =>
        cases h1
        cases h2
        refine ⟨_, rfl, _, _, _, _, _, rfl, .ty "tuple", .base (.str x), kit_ty (r := false) (by decide +kernel), _, rfl, iteF ⟨_, rfl, _, _, _, _, _, rfl, .ty "list", .base (.str x), kit_ty (r := false) (by decide +kernel), _, rfl, iteF ?_⟩⟩
        refine ⟨_, rfl, rfl, _, rfl, ite2 (fun z => nomatch (of_decide_eq_true z)) (fun _ => ?_)⟩
        refine ⟨_, rfl, _, _, _, _, _, rfl, .ty "bool", .base (.str x), kit_ty (r := false) (by decide +kernel), _, rfl, iteF ?_⟩
        refine ⟨_, rfl, _, _, _, _, _, rfl, .ty "str", .base (.str x), kit_ty (r := true) (by decide +kernel), _, rfl, iteT ?_⟩
        refine ⟨_, rfl, _, _, _, _, _, rfl, .ty "str", .base (.str x), kit_ty (r := true) (by decide +kernel), _, rfl, iteT ⟨_, rfl, _, rfl, by rfl, ?_⟩⟩
        rw [decide_eq_true (rfl : V.str x = V.str x)]
        exact k _ (Same.refl _)
      | int i =>
        cases h1
        cases h2
        refine ⟨_, rfl, _, _, _, _, _, rfl, .ty "tuple", .base (.int i), kit_ty (r := false) (by decide +kernel), _, rfl, iteF ⟨_, rfl, _, _, _, _, _, rfl, .ty "list", .base (.int i), kit_ty (r := false) (by decide +kernel), _, rfl, iteF ?_⟩⟩
        refine ⟨_, rfl, rfl, _, rfl, ite2 (fun z => nomatch (of_decide_eq_true z)) (fun _ => ?_)⟩
        refine ⟨_, rfl, _, _, _, _, _, rfl, .ty "bool", .base (.int i), kit_ty (r := false) (by decide +kernel), _, rfl, iteF ?_⟩
        refine ⟨_, rfl, _, _, _, _, _, rfl, .ty "str", .base (.int i), kit_ty (r := false) (by decide +kernel), _, rfl, iteF ?_⟩
        refine ⟨_, rfl, _, _, _, _, _, rfl, .ty "int", .base (.int i), kit_ty (r := true) (by decide +kernel), _, rfl, iteT ?_⟩
        refine ⟨_, rfl, _, _, _, _, _, rfl, .ty "bool", .base (.int i), kit_ty (r := false) (by decide +kernel), _, rfl, _, rfl, iteT ⟨_, rfl, _, rfl, by rfl, ?_⟩⟩
        rw [decide_eq_true (rfl : V.int i = V.int i)]
        exact k _ (Same.refl _)
      | dict ds => cases h1
      | list ds =>
        cases n with
        | zero => exact hp.elim
        | succ m =>
          cases h1 with
          | @lst p xs _ q1 a1 =>
            cases h2 with
            | @lst q ys _ q2 a2 =>
              have l1 := dpa_len a1
              have l2 := dpa_len a2
              have hlen : ds.length ≤ 1100 := hp.1
              refine ⟨_, rfl, _, _, _, _, _, rfl, .ty "tuple", ty_lst q2, kit_ty (r := false) (by decide +kernel), _, rfl, iteF ⟨_, rfl, _, _, _, _, _, rfl, .ty "list", ty_lst q2, kit_ty (r := true) (by decide +kernel), _, rfl, iteT ?_⟩⟩
              refine ⟨_, rfl, _, _, _, _, _, rfl, .ty "tuple", ty_lst q2, kit_ty (r := false) (by decide +kernel), _, rfl, iteF ⟨_, rfl, _, _, _, _, _, rfl, .ty "list", ty_lst q1, kit_ty (r := true) (by decide +kernel), ?_⟩⟩
              refine ⟨_, rfl, _, rfl, iteF ?_⟩
              refine ⟨_, rfl, _, _, rfl, .inl q1, _, rfl, _, _, rfl, .inl q2, rfl, _, rfl, ?_⟩
              rw [l1, l2, decide_eq_true (rfl : V.int (ds.length : Int) = V.int (ds.length : Int))]
              refine iteF ?_
              refine ⟨_, rfl, _, rfl, p, q, xs, ys, rfl, .inl ⟨q1, q2, ?_⟩⟩
              refine for_it (walk_zip (K := K) (a := p) (b := q) (xs := xs) (ys := ys) rfl) (fun i σ H' => ∃ v3 v4, σ = [some (.ref p), some (.ref q), some (.bl true), v3, v4] ∧ Same H H') ⟨_, _, rfl, Same.refl _⟩ (fun i σ H' _ h => ⟨h.choose_spec.choose_spec.2.seq q1, h.choose_spec.choose_spec.2.seq q2⟩) (fun i x σ H' H2 hi h y => ?_) (fun σ H2 h => ?_)
              · obtain ⟨v3, v4, rfl, sm⟩ := h
                obtain ⟨T1, x1, y1, rfl, nT, rfl, hx, hy⟩ := y
                have hi2 : i < ds.length := by omega
                have he : ds[i]? = some ds[i] := List.getElem?_eq_getElem hi2
                obtain ⟨w1, e1, d1⟩ := dpa_get a1 he
                obtain ⟨w2, e2, d2⟩ := dpa_get a2 he
                replace hx : xs[i]? = some x1 := hx
                replace hy : ys[i]? = some y1 := hy
                rw [e1] at hx
                rw [e2] at hy
                obtain rfl : w1 = x1 := Option.some.inj hx
                obtain rfl : w2 = y1 := Option.some.inj hy
                have sT := new_same (o := .tup [w1, w2]) nT
                refine ⟨T1, _, rfl, SqT.of upd_same, rfl, _, _, rfl, _, _, rfl, rfl, ?_⟩
                exact ⟨_, rfl, _, rfl, w1, w2, ds[i], rfl, dp_same (sm.trans sT) _ _ d1, dp_same (sm.trans sT) _ _ d2, hp.2 _ (List.getElem_mem hi2), fun H3 s3 => ⟨true, rfl, iteF ⟨_, _, rfl, (sm.trans sT).trans s3⟩⟩⟩
              · obtain ⟨v3, v4, rfl, sm⟩ := h
                exact k _ sm
      | tuple ds =>
        cases n with
        | zero => exact hp.elim
        | succ m =>
          cases h1 with
          | @tup p xs _ q1 a1 =>
            cases h2 with
            | @tup q ys _ q2 a2 =>
              have l1 := dpa_len a1
              have l2 := dpa_len a2
              have hlen : ds.length ≤ 1100 := hp.1
              refine ⟨_, rfl, _, _, _, _, _, rfl, .ty "tuple", ty_tup q2, kit_ty (r := true) (by decide +kernel), _, rfl, iteT ?_⟩
              refine ⟨_, rfl, _, _, _, _, _, rfl, .ty "tuple", ty_tup q2, kit_ty (r := true) (by decide +kernel), _, rfl, iteT ⟨_, rfl, _, _, _, _, _, rfl, .ty "tuple", ty_tup q1, kit_ty (r := true) (by decide +kernel), ?_⟩⟩
              refine ⟨_, rfl, _, rfl, iteF ?_⟩
              refine ⟨_, rfl, _, _, rfl, .inr q1, _, rfl, _, _, rfl, .inr q2, rfl, _, rfl, ?_⟩
              rw [l1, l2, decide_eq_true (rfl : V.int (ds.length : Int) = V.int (ds.length : Int))]
              refine iteF ?_
              refine ⟨_, rfl, _, rfl, p, q, xs, ys, rfl, .inr ⟨q1, q2, ?_⟩⟩
              refine for_it (walk_zipT (K := K) (a := p) (b := q) (xs := xs) (ys := ys) rfl) (fun i σ H' => ∃ v3 v4, σ = [some (.ref p), some (.ref q), some (.bl true), v3, v4] ∧ Same H H') ⟨_, _, rfl, Same.refl _⟩ (fun i σ H' _ h => ⟨(same_tf h.choose_spec.choose_spec.2).sq q1, (same_tf h.choose_spec.choose_spec.2).sq q2⟩) (fun i x σ H' H2 hi h y => ?_) (fun σ H2 h => ?_)
              · obtain ⟨v3, v4, rfl, sm⟩ := h
                obtain ⟨T1, x1, y1, rfl, nT, rfl, hx, hy⟩ := y
                have hi2 : i < ds.length := by omega
                have he : ds[i]? = some ds[i] := List.getElem?_eq_getElem hi2
                obtain ⟨w1, e1, d1⟩ := dpa_get a1 he
                obtain ⟨w2, e2, d2⟩ := dpa_get a2 he
                replace hx : xs[i]? = some x1 := hx
                replace hy : ys[i]? = some y1 := hy
                rw [e1] at hx
                rw [e2] at hy
                obtain rfl : w1 = x1 := Option.some.inj hx
                obtain rfl : w2 = y1 := Option.some.inj hy
                have sT := new_same (o := .tup [w1, w2]) nT
                refine ⟨T1, _, rfl, SqT.of upd_same, rfl, _, _, rfl, _, _, rfl, rfl, ?_⟩
                exact ⟨_, rfl, _, rfl, w1, w2, ds[i], rfl, dp_same (sm.trans sT) _ _ d1, dp_same (sm.trans sT) _ _ d2, hp.2 _ (List.getElem_mem hi2), fun H3 s3 => ⟨true, rfl, iteF ⟨_, _, rfl, (sm.trans sT).trans s3⟩⟩⟩
              · obtain ⟨v3, v4, rfl, sm⟩ := h
                exact k _ sm
end
end K61
set_option maxRecDepth 100000
set_option maxHeartbeats 4000000
/-! The program: unpacked. -/
namespace K61
open PySem PySem.Spec PyProof.Rows L2 KF KD
/-- the first wrong number -/
def BadP (ps : List Pc) (m : Int) : Prop := ∃ pre q suf, ps = pre ++ (m, q) :: suf ∧ m < 1 ∧ ∀ e ∈ pre, 1 ≤ e.1
theorem dpa_rep {K : PySem.W.Frag} {H : Hp} {v : V} {d : PyData} (h : Dp K H v d) : ∀ n : Nat, DpAll K H (List.replicate n v) (List.replicate n d)
  | 0 => .nil
  | n + 1 => .cons h (dpa_rep h n)
theorem rep_flat {α : Type} (x : α) : ∀ n : Nat, (List.replicate n [x]).flatten = List.replicate n x
  | 0 => rfl
  | n + 1 => by
    rw [List.replicate_succ, List.replicate_succ, List.flatten_cons, rep_flat x n]
    rfl
section
variable {P : Program} {w : World} {K : PySem.W.Frag} {mg : Str → Option Value} {base : Heap}
def spUn (K : PySem.W.Frag) : Sp := fun vs H Q E => ∃ (v : V) (ps : List Pc), vs = [v] ∧ Dp K H v (.tuple (ps.map pcy)) ∧ ps.length ≤ 20 ∧ (∀ e ∈ ps, -1000001 ≤ e.1 ∧ e.1 ≤ 200) ∧
  (∀ u H', Same H H' → (∀ e ∈ ps, 1 ≤ e.1) → Dp K H' u (.tuple ((flat ps).map rpy)) → Q u H') ∧
  ∀ H' dx m, Same H H' → BadP ps m → H' dx = none → E (.ref (He.ga K "InvalidNumber")) (some dx) (upd H' dx (.xd [(("value" : Str), .int m)]))
theorem scUn : FnScope ["told", "rows", "many", "presses"] ["told"] (defScope s_unpacked) := ⟨rfl, rfl, rfl, by decide +kernel, rfl, by decide +kernel, by decide +kernel⟩
theorem ok_unpacked (T : Txt K w mg) : FnOk P w K mg base (L2.CX P w) 3 (He.fAd K ("unpacked", none)) (fdAt K (He.fAd K ("unpacked", none))) ["told"] (spUn K) := by
  have c0 := cf_of T.ex
  have tI := tI_of T.ex
  have GI : FnOk P w K mg base CX0 1 (iAd K) (fdAt K (iAd K)) ["self", "value"] (spInit K) := ok_init T
  have bI : Binds K (fdAt K (iAd K)) ["self", "value"] [] := T.b_GameError_init
  refine T.F_unpacked.ok scUn (fun vs H Q E h => ?_) (fun cdv A outer s H vs Q E hr h => ?_)
  · obtain ⟨v, ps, rfl, _⟩ := h
    rfl
  · obtain ⟨v, ps, rfl, hd, hl, hm, kq, ke⟩ := h
    have hr1 : Room 2 _ := hr.mono (by decide)
    refine ⟨_, (pss_cons (ps_set (i := 1) scUn.nd rfl (Or.inl rfl) (pe_lst pa_nil))
      (pss_cons (ps_for (passes_of rfl) rfl (pi_tup (pv 0)) (pg_tup (by rfl) (pgs_cons (pg_name (i := 2) scUn.nd rfl (Or.inl rfl)) (pgs_cons (pg_name (i := 3) scUn.nd rfl (Or.inl rfl)) pgs_nil))) (pss_cons (ps_if (pt_cmpR op_lt (pv 2) pe_int (nomark _)) (pss_one (ps_raise rfl (takes_of rfl rfl rfl rfl) (pmk_oex c0.oex c0.ini tI GI hr1 bI .nil pass0 (by rfl) T.g_InvalidNumber (pa_cons (pv 2) pa_nil)))) pss_nil) (pss_one (ps_expr (pe_bm PySem.F.plainAttrs_list PySem.F.slot_list_extend PySem.F.type_list_extend mt_extend (pv 1) (pa_cons (pe_op op_rep (pe_lst (pa_cons (pv 3) pa_nil)) (pv 2)) pa_nil))))))
      (pss_one (ps_ret (pe_callTy call_tuple_of (by rfl) T.n_tuple PyProof.Rows.Boot.«tuple» (pa_cons (pv 1) pa_nil)))))), ?_⟩
    cases hd with
    | @tup a xs _ sq dp =>
      have hxl := dpa_len dp
      rw [List.length_map] at hxl
      refine ⟨(show 0 ≤ sizeLine by decide), fun L nL => ?_⟩
      have sL := new_same (o := .lst []) nL
      refine ⟨_, rfl, a, rfl, ⟨_, (same_tf sL).sq sq⟩, ?_⟩
      refine for_it (walk_tup (K := K) (a := a) (xs := xs)) (fun i σ H' => ∃ (v2 v3 : Option V) (vs : List V), σ = [some (.ref a), some (.ref L), v2, v3] ∧ H' L = some (.lst vs) ∧ DpAll K H' vs ((flat (ps.take i)).map rpy) ∧ (∀ e ∈ ps.take i, 1 ≤ e.1) ∧ vs.length ≤ 200 * i ∧ Same H H') ⟨_, _, [], rfl, upd_same, .nil, by simp, Nat.le_refl _, sL⟩ (fun i σ H' _ h => (same_tf h.choose_spec.choose_spec.choose_spec.2.2.2.2.2).sq sq) (fun i x σ H' H2 hi h y => ?_) (fun σ H2 h => ?_)
      · obtain ⟨v2, v3, vs, rfl, hL, dv, hpos, hvl, sm⟩ := h
        obtain ⟨rfl, hx⟩ := y
        have hir : i < ps.length := by omega
        have he : ps[i]? = some ps[i] := List.getElem?_eq_getElem hir
        have hem := hm ps[i] (List.getElem_mem hir)
        obtain ⟨v, e1, d1⟩ := dpa_get dp (show (ps.map pcy)[i]? = some (pcy ps[i]) by rw [List.getElem?_map, he]; rfl)
        replace hx : xs[i]? = some x := hx
        rw [e1] at hx
        cases hx
        obtain ⟨p, y, rfl, sp, dy⟩ := dp_pc (dp_same sm _ _ d1)
        have hfl1 : flat (ps.take (i + 1)) = flat (ps.take i) ++ List.replicate ps[i].1.toNat ps[i].2 := by
          rw [List.take_add_one, he, flat_app]
          show _ ++ flat [ps[i]] = _
          rw [flat_one]
        refine ⟨p, _, rfl, sp, rfl, _, _, rfl, _, _, rfl, rfl, ?_⟩
        refine ⟨_, rfl, _, _, rfl, rfl, _, rfl, ite2 (fun z => ?_) (fun z => ?_)⟩
        · have hlt := of_decide_eq_true z
          refine ⟨_, rfl, (show 1 ≤ 1000 by decide), ?_⟩
          refine made c0 (by omega) (fun dx hdx => ke H2 dx _ sm ⟨ps.take i, ps[i].2, ps.drop (i + 1), ?_, hlt, hpos⟩ hdx)
          have := List.take_append_drop i ps
          rw [List.drop_eq_getElem_cons hir] at this
          exact this.symm
        · have hge : 1 ≤ ps[i].1 := by
            have : ¬ ps[i].1 < 1 := fun w => z (decide_eq_true w)
            omega
          refine ⟨_, rfl, .inl ⟨rfl, _, SqL.of hL⟩, _, rfl, (show 1 ≤ sizeLine by decide), fun q nq => ?_⟩
          have s2 := new_same (o := .lst [y]) nq
          refine ⟨_, rfl, q, _, [y], rfl, rfl, upd_same, by omega, by omega, Nat.le_trans (show _ ≤ 200 by simp; omega) (by decide), fun r nr => ?_⟩
          rw [rep_flat]
          have s3 := new_same (o := .lst (List.replicate ps[i].1.toNat y)) nr
          refine ⟨L, r, _, _, rfl, rfl, s3 _ _ (s2 _ _ hL), upd_same, Nat.le_trans (show _ ≤ 4200 by rw [List.length_replicate]; omega) (by decide), ?_⟩
          have s23 := s2.trans s3
          have hL3 := s23 _ _ hL
          have tf := Frm.tf (Frm.of_upd (o := .lst (vs ++ List.replicate ps[i].1.toNat y))) hL3
          refine ⟨_, _, _, rfl, upd_same, ?_, fun e hm2 => ?_, by rw [List.length_append, List.length_replicate]; omega, fun b o z => by rw [upd_ne (ne_of_none z nL)]; exact s23 _ _ (sm _ _ z)⟩
          · rw [hfl1, List.map_append, List.map_replicate]
            exact dpa_app (dpa_nl tf _ _ (nl_rps _) (dpa_same s23 _ _ dv)) (dpa_rep (dp_nl tf _ _ (nl_rpy _) (dp_same s23 _ _ dy)) _)
          · rw [List.take_add_one, he] at hm2
            rcases List.mem_append.mp hm2 with hm2 | hm2
            · exact hpos e hm2
            · have e3 : e = ps[i] := by simpa using hm2
              rw [e3]
              exact hge
      · obtain ⟨v2, v3, vs, rfl, hL, dv, hpos, hvl, sm⟩ := h
        have hfl : ps.take xs.length = ps := List.take_of_length_le (by omega)
        rw [hfl] at dv hpos
        refine ⟨_, rfl, L, vs, rfl, .inl ⟨SqL.of hL, fun l nl => ?_⟩⟩
        have sl := new_same (o := .tup vs) nl
        exact kq _ _ (sm.trans sl) hpos (.tup (SqT.of upd_same) (dpa_same sl _ _ dv))
end
end K61
set_option maxRecDepth 100000
set_option maxHeartbeats 4000000
/-! The law: drawn pieces. -/
namespace K61
open PySem PySem.Spec PyProof.Rows L2 KF KD
section
variable {P : Program} {w : World} {K : PySem.W.Frag} {mg : Str → Option Value} {base : Heap}
def PcsOk (n : Nat) (ps : List Pc) : Prop := ∀ e ∈ ps, 1 ≤ e.1 ∧ e.1 ≤ 14 ∧ e.2.length = n
def spPcs (K : PySem.W.Frag) : Sp := fun vs H Q _ => ∃ (d : Addr) (n : Nat), vs = [.ref d] ∧ Dk H d (n + 200) ∧ ∀ (L : Addr) (xs : List V) (ps : List Pc) H', Frm d H H' → Dk H' d n → H' L = some (.lst xs) → L ≠ d → DpAll K H' xs (ps.map pcy) → ps.length ≤ 8 → (∀ e ∈ ps, 1 ≤ e.1 ∧ e.1 ≤ 14 ∧ e.2.length ≤ 4) → Q (.ref L) H'
theorem scPc : FnScope ["well", "size", "found", "turn", "presses", "kind", "key", "seat"] ["well"] (defScope s_law_pieces) := ⟨rfl, rfl, rfl, by decide +kernel, rfl, by decide +kernel, by decide +kernel⟩
theorem ok_law_pieces (T : Txt K w mg) : FnOk P w K mg base CX0 2 (He.fAd K ("_law_pieces", none)) (fdAt K (He.fAd K ("_law_pieces", none))) ["well"] (spPcs K) := by
  refine T.F_law_pieces.ok scPc (fun vs H Q E h => ?_) (fun cdv A outer s H vs Q E hr h => ?_)
  · obtain ⟨d, n, rfl, _⟩ := h
    rfl
  · obtain ⟨d, n, rfl, hD, kk⟩ := h
    refine ⟨_, PSs.nox (pss_cons (ps_par (i := 1) (j := 2) (by rfl) scPc.nd rfl rfl (by decide) rfl rfl (pa_cons (pe_op op_add pe_int (pe_call (ok_law_draw T) (hr.mono (by decide)) (by rfl) T.g_law_draw (T.F_law_draw).kp T.b_law_draw .nil pass0 (pa_cons (pv 0) (pa_cons pe_int pa_nil)))) (pa_cons (pe_lst pa_nil) pa_nil)) (by rfl))
      (pss_cons (ps_for PassesOwn.never rfl (pi_range1 (by rfl) T.n_range (pa_cons (pe_ix (r := rIxL K) ix_list (pe_lst (pa_cons pe_int (pa_cons pe_int (pa_cons pe_int (pa_cons pe_int (pa_cons pe_int (pa_cons pe_int pa_nil))))))) (pe_call (ok_law_draw T) (hr.mono (by decide)) (by rfl) T.g_law_draw (T.F_law_draw).kp T.b_law_draw .nil pass0 (pa_cons (pv 0) (pa_cons pe_int pa_nil))) (fun _ _ => rfl)) pa_nil)) (pg_name (i := 3) scPc.nd rfl (Or.inl rfl)) (pss_cons (ps_par (i := 4) (j := 5) (by rfl) scPc.nd rfl rfl (by decide) rfl rfl (pa_cons (pe_lc (own := [("seat", 7)]) (g := gName 7) (tt := tYes) (by rfl) scPc.nd (pi_range1 (by rfl) T.n_range (pa_cons (pv 1) pa_nil)) (blkOk_by (own := [("seat", 7)]) (N := ["well", "size", "found", "turn", "presses", "kind", "key", "seat"]) (sc := defScope s_law_pieces) (by decide +kernel)) (fun _ _ _ _ _ => pg_name (i := 7) scPc.nd rfl (Or.inl rfl)) (fun _ _ _ _ _ => pts_nil) (fun _ _ _ _ _ => (pe_call (ok_law_draw T) (hr.mono (by decide)) (by rfl) T.g_law_draw (T.F_law_draw).kp T.b_law_draw .nil pass0 (pa_cons (pv 0) (pa_cons pe_int pa_nil))))) (pa_cons (pe_call (ok_law_draw T) (hr.mono (by decide)) (by rfl) T.g_law_draw (T.F_law_draw).kp T.b_law_draw .nil pass0 (pa_cons (pv 0) (pa_cons pe_int pa_nil))) pa_nil)) (by rfl))
      (pss_cons (ps_if (PW.pt (pw_and (pt_cmpR (r := rNeNil K false) (op_neNil hr.units) (pv 2) (pe_lst pa_nil) (nomark _)) (pw_and1 (pt_cmpR op_gt (pv 5) pe_int (nomark _))))) (pss_cons (ps_set (i := 6) scPc.nd rfl (Or.inl rfl) (pe_ix (r := rIxL K) ix_list (pv 4) pe_int (fun _ _ => rfl)))
      (pss_cons (ps_set (i := 4) scPc.nd rfl (Or.inl rfl) (pe_callTy call_list_of (by rfl) T.n_list PyProof.Rows.Boot.«list» (pa_cons (pe_ix (r := rIxT K) ix_tup (pe_ix (r := rIxL K) ix_list (pv 2) (pe_un un_neg pe_int) (fun _ _ => rfl)) pe_int (fun _ _ => rfl)) pa_nil)))
      (pss_one (ps_if (pt_cmpR op_eq (pv 5) pe_int (nomark _)) (pss_one (ps_asg (pv 6) (pg_sub (pv 4) (pe_call (ok_law_draw T) (hr.mono (by decide)) (by rfl) T.g_law_draw (T.F_law_draw).kp T.b_law_draw .nil pass0 (pa_cons (pv 0) (pa_cons (pv 1) pa_nil))) set_list))) pss_nil)))) pss_nil)
      (pss_one (ps_expr (pe_bm PySem.F.plainAttrs_list PySem.F.slot_list_append PySem.F.type_list_append mt_append (pv 2) (pa_cons (pe_tup (pa_cons (pe_op op_add pe_int (pe_call (ok_law_draw T) (hr.mono (by decide)) (by rfl) T.g_law_draw (T.F_law_draw).kp T.b_law_draw .nil pass0 (pa_cons (pv 0) (pa_cons (pe_ix (r := rIxL K) ix_list (pe_lst (pa_cons pe_int (pa_cons pe_int (pa_cons pe_int pa_nil)))) (pe_call (ok_law_draw T) (hr.mono (by decide)) (by rfl) T.g_law_draw (T.F_law_draw).kp T.b_law_draw .nil pass0 (pa_cons (pv 0) (pa_cons pe_int pa_nil))) (fun _ _ => rfl)) pa_nil)))) (pa_cons (pe_callTy call_tuple_of (by rfl) T.n_tuple PyProof.Rows.Boot.«tuple» (pa_cons (pv 4) pa_nil)) pa_nil))) pa_nil)))))))
      (pss_one (ps_ret (pv 2))))), ?_⟩
    refine ⟨_, rfl, d, 4, n + 199, rfl, by decide, by decide, hD, fun x0 H1 a1 a2 f1 D1 => ⟨_, _, rfl, rfl, (show 0 ≤ sizeLine by decide), fun L nL => ⟨_, _, rfl, ?_⟩⟩⟩
    have sL := new_same (o := .lst []) nL
    have hLd := D1.ne nL
    have D1' := D1.same sL
    refine ⟨(show 6 ≤ sizeLine by decide), fun p np => ⟨_, rfl, d, 6, n + 198, rfl, by decide, by decide, D1'.same (new_same np), fun x1 H2 b1 b2 f2 D2 => ?_⟩⟩
    have hpd := D1'.ne np
    obtain ⟨m, hm, hat⟩ := at_mem V.int [3, 8, 5, 1, 2, 0] b1 (by simpa using b2)
    have hm8 : 0 ≤ m ∧ m ≤ 8 := by
      simp at hm
      omega
    refine ⟨p, _, _, _, rfl, rfl, SqL.of (f2 p _ hpd upd_same), hat, m, rfl, by omega, by omega, ?_⟩
    have f02 : Frm d H H2 := ((f1.trans (Frm.of_new nL)).trans (Frm.of_new np)).trans f2
    have hL2 : H2 L = some (.lst []) := f2 L _ hLd (new_same np _ _ upd_same)
    have nLH : ∀ b o, b ≠ d → H b = some o → b ≠ L := fun b o hb z e => by
      rw [← e, f1 b o hb z] at nL
      cases nL
    refine for_range (lo := 0) (n := m.toNat) (fun i σ H' => ∃ (v3 v4 v5 v6 v7 : Option V) (xs : List V) (ps : List Pc), σ = [some (.ref d), some (.int (1 + x0)), some (.ref L), v3, v4, v5, v6, v7] ∧ H' L = some (.lst xs) ∧ DpAll K H' xs (ps.map pcy) ∧ ps.length = i ∧ PcsOk (1 + x0).toNat ps ∧ Frm d H H' ∧ Dk H' d (n + 198 - 20 * i))
      ⟨_, _, _, _, _, [], [], rfl, hL2, .nil, rfl, (fun e he => nomatch he), f02, D2⟩ (fun i σ H' hi h => ?_) (fun σ H4 h => ?_)
    · obtain ⟨v3, v4, v5, v6, v7, xs, ps, rfl, hL, dv, hpl, hok, fr, DD⟩ := h
      have hi8 : i < 8 := by omega
      have hxl := dpa_len dv
      rw [List.length_map] at hxl
      refine ⟨_, rfl, 1 + x0, rfl, by omega, by omega, fun D hD => ?_⟩
      have hDd := DD.ne hD
      have hDL : D ≠ L := fun z => by rw [z, hL] at hD; cases hD
      refine lc_range (lo := 0) (n := (1 + x0).toNat) (fun j H5 => ∃ ns : List Int, H5 D = some (.lst (ns.map V.int)) ∧ ns.length = j ∧ Frm d H' H5 ∧ Dk H5 d (n + 198 - 20 * i - j)) ⟨[], upd_same, rfl, Frm.of_new hD, DD.upd hDd⟩ (fun j H5 hj h => ?_) (fun H5 h => ?_)
      · obtain ⟨ns, hD5, hnl, f5, D5⟩ := h
        have hj4 : j < 4 := by omega
        refine ⟨rfl, ?_⟩
        dsimp only [tYes]
        rw [if_pos rfl]
        refine ⟨_, rfl, d, 64, n + 197 - 20 * i - j, rfl, by decide, by decide, D5.le (by omega), fun z H6 z0 z1 f6 D6 => ?_⟩
        refine ⟨_, f6 D _ hDd hD5, by rw [List.length_map]; exact Nat.lt_of_lt_of_le (show ns.length < 100 by omega) (by decide), ns ++ [z], ?_, by rw [List.length_append, hnl]; rfl, fun b o hb w => ?_, (D6.upd hDd).le (by omega)⟩
        · rw [upd_same, List.map_append]
          rfl
        · rw [upd_ne (ne_of_none w hD)]
          exact f6 b o hb (f5 b o hb w)
      obtain ⟨ns, hD5, hnl, f5, D5⟩ := h
      refine ⟨_, rfl, d, 4, n + 192 - 20 * i, rfl, by decide, by decide, D5.le (by omega), fun kd H6 k0 k1 f6 D6 => ⟨_, _, rfl, ?_⟩⟩
      have hD6 := f6 D _ hDd hD5
      have f06 : Frm d H' H6 := f5.trans f6
      have hL6 := f06 L _ hLd hL
      obtain ⟨dxs, hdx⟩ := DD.lst
      have dv6 := dpa_nl (f06.tf hdx) _ _ (nl_pcs _) dv
      dsimp only
      refine seq_cut (fun σ H7 => ∃ (w3 w6 w7 : Option V) (D7 : Addr) (ns7 : List Int), σ = [some (.ref d), some (.int (1 + x0)), some (.ref L), w3, some (.ref D7), some (.int kd), w6, w7] ∧ H7 D7 = some (.lst (ns7.map V.int)) ∧ D7 ≠ L ∧ D7 ≠ d ∧ ns7.length = (1 + x0).toNat ∧ H7 L = some (.lst xs) ∧ DpAll K H7 xs (ps.map pcy) ∧ Frm d H H7 ∧ Dk H7 d (n + 190 - 20 * i)) (fun σ H7 h => ?_) (fun R hR => ?_)
      · obtain ⟨w3, w6, w7, D7, ns7, rfl, h7, h7L, h7d, hn7, hL7, dv7, f7, D7k⟩ := h
        refine ⟨_, rfl, .inl ⟨rfl, _, SqL.of hL7⟩, _, rfl, (show 3 ≤ sizeLine by decide), fun p3 np3 => ⟨_, rfl, d, 3, n + 189 - 20 * i, rfl, by decide, by decide, (D7k.same (new_same np3)).le (by omega), fun u H8 u0 u1 f8 D8 => ?_⟩⟩
        have hp3 := D7k.ne np3
        obtain ⟨m2, hm2, hat2⟩ := at_mem V.int [1, 3, 14] u0 (by simpa using u1)
        have hm14 : 1 ≤ m2 ∧ m2 ≤ 14 := by
          simp at hm2
          omega
        refine ⟨p3, _, _, _, rfl, rfl, SqL.of (f8 p3 _ hp3 upd_same), hat2, d, m2, n + 188 - 20 * i, rfl, by omega, by omega, D8.le (by omega), fun v H9 q0 q1 f9 D9 => ⟨_, _, rfl, rfl, ?_⟩⟩
        have f79 : Frm d H7 H9 := ((Frm.of_new np3).trans f8).trans f9
        have h9 := f79 D7 _ h7d h7
        refine ⟨_, rfl, D7, _, rfl, .inl ⟨SqL.of h9, fun t nt => ⟨(show 2 ≤ sizeLine by decide), fun q nq => ?_⟩⟩⟩
        have st := new_same (o := .tup (ns7.map V.int)) nt
        have sq := new_same (o := .tup [.int (1 + v), .ref t]) nq
        have sx := st.trans sq
        have hL9 := f79 L _ hLd hL7
        refine ⟨L, _, _, rfl, rfl, sx _ _ hL9, Nat.lt_of_lt_of_le (show xs.length < 100 by omega) (by decide), ?_⟩
        obtain ⟨dx7, hdx7⟩ := D7k.lst
        have dv9 := dpa_same sx _ _ (dpa_nl (f79.tf hdx7) _ _ (nl_pcs _) dv7)
        have tf := Frm.tf (Frm.of_upd (o := .lst (xs ++ [.ref q]))) (sx _ _ hL9)
        refine ⟨_, _, _, _, _, xs ++ [.ref q], ps ++ [(1 + v, ns7)], rfl, upd_same, ?_, by rw [List.length_append, hpl]; rfl, fun e he => ?_, fun b o hb w => ?_, ((D9.same sx).upd hLd).le (by omega)⟩
        · rw [List.map_append]
          exact dpa_app (dpa_nl tf _ _ (nl_pcs _) dv9) (.cons (pc_dp (e := (1 + v, ns7)) (tf.sq (SqT.of upd_same)) (row_dp (tf.sq ((same_tf sq).sq (SqT.of upd_same))))) .nil)
        · rcases List.mem_append.mp he with he | he
          · exact hok e he
          · rw [List.mem_singleton.mp he]
            exact ⟨by show 1 ≤ 1 + v; omega, by show 1 + v ≤ 14; omega, hn7⟩
        · rw [upd_ne (nLH b o hb w)]
          exact sx _ _ (f79 b o hb (f7 b o hb w))
      · have frH6 : Frm d H H6 := fr.trans f06
        have keep := fun (w3 w6 : Option V) (H7 : Hp) (s7 : Same H6 H7) => hR [some (.ref d), some (.int (1 + x0)), some (.ref L), w3, some (.ref D), some (.int kd), w6, v7] H7 ⟨_, _, _, D, ns, rfl, s7 _ _ hD6, hDL, hDd, hnl, s7 _ _ hL6, dpa_same s7 _ _ dv6, frH6.trans (Frm.of_same s7), (D6.same s7).le (by omega)⟩
        refine ⟨_, rfl, (show 0 ≤ sizeLine by decide), fun z0 nz => ?_⟩
        have s0 := new_same (o := .lst []) nz
        refine ⟨ps.map pcy, .lst (SqL.of (s0 _ _ hL6)) (dpa_same s0 _ _ dv6), .lst (SqL.of upd_same) .nil, can_pcs _, _, rfl, ?_⟩
        rcases last_cases ps with hg | ⟨g, e, hg⟩
        · rw [hg]
          refine ite2 (fun z => absurd z (by decide)) (fun _ => ?_)
          exact iteF (keep _ _ _ s0)
        · have hoke := hok e (by rw [hg]; exact List.mem_append_right _ (List.mem_singleton.mpr rfl))
          have dv60 := dpa_same s0 _ _ dv6
          rw [hg, List.map_append] at dv60
          obtain ⟨us, u, hxs, du, de⟩ := dpa_last dv60
          obtain ⟨p2, y2, rfl, sp2, dy2⟩ := dp_pc de
          obtain ⟨q2, rfl, sq2⟩ := dp_row dy2
          have hL60 := s0 _ _ hL6
          rw [hxs] at hL60
          refine ite2 (fun _ => ?_) (fun z => absurd (by rw [hg]; simp) z)
          refine ⟨_, rfl, _, _, rfl, rfl, _, rfl, ite2 (fun z => ?_) (fun z => keep _ _ _ s0)⟩
          have hne : 0 < ns.length := by omega
          refine ⟨_, rfl, D, _, _, _, rfl, rfl, SqL.of (s0 _ _ hD6), atI_nat (j := 0) (v := .int ns[0]) (by rw [List.getElem?_map, List.getElem?_eq_getElem hne]; rfl), ?_⟩
          refine ⟨_, rfl, _, rfl, L, _, _, _, rfl, rfl, SqL.of hL60, at_last, p2, _, _, _, rfl, rfl, sp2, atI_nat (j := 1) rfl, q2, _, rfl, .inr sq2, fun l nl => ?_⟩
          have sl := new_same (o := .lst (e.2.map V.int)) nl
          have s0l := s0.trans sl
          have hld : l ≠ d := (D6.same s0).ne nl
          have hlL : l ≠ L := fun w => by rw [w, hL60] at nl; cases nl
          have fin : ∀ (w3 : Option V) (ns7 : List Int) (H8 : Hp), H8 l = some (.lst (ns7.map V.int)) → ns7.length = (1 + x0).toNat → (∀ b o, b ≠ d → b ≠ l → (upd (upd H6 z0 (.lst [])) l (.lst (e.2.map V.int))) b = some o → H8 b = some o) → Dk H8 d (n + 190 - 20 * i) →
              R [some (.ref d), some (.int (1 + x0)), some (.ref L), w3, some (.ref l), some (.int kd), some (.int ns[0]), v7] H8 := fun w3 ns7 H8 h8 hn f8 k8 => by
            obtain ⟨xd, hxd⟩ := D6.lst
            have hxd2 := s0l _ _ hxd
            have tf : TF (upd (upd H6 z0 (.lst [])) l (.lst (e.2.map V.int))) H8 := fun c zs w => by
              rcases w with w | ⟨u, w⟩
              · exact .inl (f8 c _ (fun q => by rw [q, hxd2] at w; cases w) (fun q => by rw [q, upd_same] at w; cases w) w)
              · exact .inr ⟨u, f8 c _ (fun q => by rw [q, hxd2] at w; cases w) (fun q => by rw [q, upd_same] at w; cases w) w⟩
            refine hR _ _ ⟨_, _, _, l, ns7, rfl, h8, hlL, hld, hn, f8 L _ hLd hlL.symm (s0l _ _ hL6), dpa_nl tf _ _ (nl_pcs _) (dpa_same s0l _ _ dv6), fun b o hb w => f8 b o hb (fun w2 => ?_) (s0l _ _ (frH6 b o hb w)), k8⟩
            rw [w2] at w
            have := s0 _ _ (frH6 l o hld w)
            rw [nl] at this
            cases this
          refine ⟨_, rfl, by rfl, _, rfl, ite2 (fun z3 => ?_) (fun z3 => ?_)⟩
          · refine ⟨_, rfl, _, rfl, _, rfl, _, rfl, d, 1 + x0, n + 191 - 20 * i, rfl, by omega, by omega, (D6.same s0l).le (by omega), fun w H8 w0 w1 f8 D8 => ?_⟩
            have h8 := f8 l _ hld upd_same
            refine ⟨l, _, _, w.toNat, rfl, rfl, h8, ix_nat w0 (by rw [List.length_map]; have := hoke.2.2; omega), ?_⟩
            rw [← List.map_set]
            refine fin _ (e.2.set w.toNat ns[0]) _ upd_same (by rw [List.length_set]; exact hoke.2.2) (fun b o hb hbl q => by rw [upd_ne hbl]; exact f8 b o hb q) ((D8.upd hld).le (by omega))
          · exact fin _ e.2 _ upd_same hoke.2.2 (fun b o hb hbl q => q) ((D6.same s0l).le (by omega))
    · obtain ⟨v3, v4, v5, v6, v7, xs, ps, rfl, hL, dv, hpl, hok, fr, DD⟩ := h
      exact ⟨_, rfl, kk L xs ps _ fr (DD.le (by omega)) hL hLd dv (by omega) fun e he => ⟨(hok e he).1, (hok e he).2.1, by rw [(hok e he).2.2]; omega⟩⟩
end
end K61
set_option maxRecDepth 100000
set_option maxHeartbeats 4000000
namespace KD
open PySem PySem.Spec PyProof.Rows L2
def tCallKS (sp : Sp) (gV : List V → List V → List V) (E : L2.St → XK) (t tk : TA) : TE := fun σ H Q => t σ H fun vs H1 => tk σ H1 fun zs H2 => sp (gV vs zs) H2 Q (E σ)
section
variable {X : Cx} {CX : CXT} {k : Nat} {f : Addr} {fd : FuncData} {ps ks : List Str} {sp : Sp} {E : L2.St → XK} {x : Str} {p pos : Pos} {kws : List Keyword} {tk : TA} {g : List Value → List Value → List Value} {gV : List V → List V → List V}
theorem pe_callKwS (F : FnOk X.prog X.w X.K X.mg X.base CX k f fd ps sp) (hr : Room k X.A) (hg : Gl X x) (hm : X.mg x = some (.ref f)) (hk : PySem.W.keepIn X.K (.ref f) = true) (hb : KBinds X.K fd ps ks g gV) (hx : ∀ σ, PassesAt CX X σ (E σ))
    (hkw : PK X kws tk) (hall : (backToKw pos (keywordEach kws X.env)).all (·.1.isSome) = true := by rfl) (hks : (backToKw pos (keywordEach kws X.env)).filterMap (·.1) = ks := by rfl)
    (hdb : (x == ("__debug__" : Str)) = false := by decide)
    (hpl : ((backTo pos (starEach [] X.env)).any (·.1) || (backToKw pos (keywordEach kws X.env)).any (·.1.isNone)) = false := by rfl) :
    PE X (.Call (.Name x p) [] kws pos) (tCallKS sp gV E tNil tk) := by
  refine ⟨fun pins s σ H Q I h => ?_⟩
  refine wpAny_Call_Name_kw (ld_glob I hg hm ?_ hdb)
  refine PySem.W.callWith_KW0 (h₀ := X.base) I.ok.mod.kin hk hall ?_ hpl
  refine thn (hkw.run pos pins s σ H _ I h) fun ws s2 ⟨zs, H2, I2, rz, q2⟩ => ⟨I2.kIn, ?_⟩
  rw [hks]
  have q3 : sp (gV [] zs) H2 Q (E σ) := q2
  have r2 := hb.rel .nil rz
  have hl : (g [] ws).length = ps.length := by rw [← r2.length]; exact F.len _ _ _ _ q3
  refine wpAny_call (codeAny_mono (F.run X.A X.stack s2 H2 ⟨[], ks.zip ws⟩ (g [] ws) (gV [] zs) Q (E σ) hr I2.env0 (hb.to s2 [] ws I2.kIn hl) r2 q3) fun r s' hq => ?_)
  cases r with
  | error e => exact hx σ pins H2 s2 e s' I2 hq
  | ok fl =>
    cases fl with
    | ret u => exact I2.after hq
    | next => exact False.elim hq
    | brk => exact False.elim hq
    | cont => exact False.elim hq
def kR {α : Type} (us ws : List α) : List α := if us.isEmpty then ws.reverse else []
theorem vals_app : ∀ {vs us : List V} {ws zs : List Value}, Vals vs ws → Vals us zs → Vals (vs ++ us) (ws ++ zs)
  | _, _, _, _, .nil, h => h
  | _, _, _, _, .cons a t, h => .cons a (vals_app t h)
theorem vals_rev : ∀ {vs : List V} {ws : List Value}, Vals vs ws → Vals vs.reverse ws.reverse
  | _, _, .nil => .nil
  | _, _, .cons a t => by
    rw [List.reverse_cons, List.reverse_cons]
    exact vals_app (vals_rev t) (.cons a .nil)
theorem kb_rev {K : PySem.W.Frag} {qual : Str} {params : Arguments} {body : List Stmt} {scope : Scope} {kws : List (Str × V)} (F : FunD K x qual params body scope [] kws f fd) (hp : ps.length ≠ 0)
    (h : ∀ (kV doc pm : Value) (an : Option Addr) (cdv ct : Value) (ws : List Value), ws.length = ps.length → bindArgs (PySem.W.fnOf x qual params body scope .none kV doc pm an cdv ct) ⟨[], ks.zip ws⟩ = pure (ps.zip ws.reverse)) : KBinds K fd ps ks kR kR := by
  obtain ⟨oc, od, dV, kV, doc, pm, an, cdv, ct, osl, rfl, lk, hcd, hD, hK⟩ := F.ex
  rcases hD with ⟨_, rfl⟩ | ⟨e, _⟩
  · refine ⟨fun s us ws _ hl => ?_, fun {vs us zs ws} r rz => ?_⟩
    · cases us with
      | nil =>
        have hl2 : ws.length = ps.length := by
          have : ws.reverse.length = ps.length := hl
          rw [List.length_reverse] at this
          exact this
        exact .of_eq (h kV doc pm an cdv ct ws hl2)
      | cons a b => exact absurd hl.symm hp
    · cases r with
      | nil => exact vals_rev rz
      | cons _ _ => exact .nil
  · exact absurd rfl e
end
end KD
/-! The law: what is raised. -/
namespace K61
open PySem PySem.Spec PyProof.Rows L2 KF KD
def dTold (rs : List (List Int)) : PyData := .tuple [.str "told", .tuple (rs.map rpy)]
def dBad (m : Int) : PyData := .tuple [.list [.bool true, .bool true, .bool false, .bool false], .int m]
section
variable {P : Program} {w : World} {K : PySem.W.Frag} {mg : Str → Option Value} {base : Heap}
def spAs (K : PySem.W.Frag) : Sp := fun vs H Q _ => ∃ (v : V) (b : Bool) (ps : List Pc), vs = [v, .bl b] ∧ Dp K H v (.tuple (ps.map pcy)) ∧ ps.length ≤ 20 ∧ (∀ e ∈ ps, -1000001 ≤ e.1 ∧ e.1 ≤ 200) ∧
  (∀ u H', Same H H' → (∀ e ∈ ps, 1 ≤ e.1) → Dp K H' u (dTold (flat ps)) → Q u H') ∧ ∀ u H' m, Same H H' → BadP ps m → Dp K H' u (dBad m) → Q u H'
theorem scAs : FnScope ["pieces", "named", "caught", "got", "kinds", "e"] ["pieces", "named"] (defScope s_law_asked) := ⟨rfl, rfl, rfl, by decide +kernel, rfl, by decide +kernel, by decide +kernel⟩
theorem ok_law_asked (T : Txt K w mg) : FnOk P w K mg base CX0 4 (He.fAd K ("_law_asked", none)) (fdAt K (He.fAd K ("_law_asked", none))) ["pieces", "named"] (spAs K) := by
  have c0 := cf_of T.ex
  have kb : KBinds K (fdAt K (He.fAd K ("unpacked", none))) ["told"] ["told"] kR kR := kb_rev T.F_unpacked (by decide) fun _ _ _ _ _ _ ws hl => match ws, hl with | [_], _ => rfl
  refine T.F_law_asked.ok scAs (fun vs H Q E h => ?_) (fun cdv A outer s H vs Q E hr h => ?_)
  · obtain ⟨v, b, ps, rfl, _⟩ := h
    rfl
  · obtain ⟨v, b, ps, rfl, hd, hl, hm, kg, kbd⟩ := h
    have hr3 : Room 3 _ := hr
    refine ⟨_, PSs.nox (pss_cons (ps_asg (pe_tup (pa_cons pe_non (pa_cons pe_non pa_nil))) (pg_tup (by rfl) (pgs_cons (pg_name (i := 2) scAs.nd rfl (Or.inl rfl)) (pgs_cons (pg_name (i := 3) scAs.nd rfl (Or.inl rfl)) pgs_nil))))
      (pss_cons (ps_try_keep (i := 5) (tb := fun W => tAsg (tIf (tB (tVar 1)) (tCallKS (spUn K) kR (WE W) tNil (tCons (tVar 0) tNil)) (tCallS (spUn K) (WE W) (tCons (tVar 0) tNil))) (gName 3)) (ts := fun _ _ _ => tAsg (tVar 5) (gName 2)) (Wo := fun _ _ _ _ => False) rfl rfl rfl scAs.nd rfl rfl ⟨rfl, by decide, Or.inl T.g_GameError⟩ takes0 (fun W pn xe tk _ => pss_one (ps_set (i := 3) scAs.nd rfl (Or.inl rfl) (pe_ifExp (pt_val (pv 1)) (pe_callKwS (ok_unpacked T) hr3 (by rfl) T.g_unpacked T.F_unpacked.kp kb (fun σ => passAt tk σ) (pk_cons (pv 0) pk_nil)) (pe_callS (ok_unpacked T) hr3 (by rfl) T.g_unpacked T.F_unpacked.kp T.b_unpacked (fun σ => passAt tk σ) (pa_cons (pv 0) pa_nil))))) (fun ae ob cl dx pn hz hf => pss_one (ps_set (i := 2) scAs.nd rfl (Or.inl rfl) (pv 5))))
      (pss_cons (ps_if (pt_cmpR op_isN (pv 2) pe_non (nomark _)) (pss_one (ps_ret (pe_tup (pa_cons pe_str (pa_cons (pv 3) pa_nil))))) pss_nil)
      (pss_cons (ps_set (i := 4) scAs.nd rfl (Or.inl rfl) (pe_lst (pa_cons (pe_callB call_isC (by rfl) T.n_isinstance PyProof.Rows.Boot.«isinstance» (pa_cons (pv 2) (pa_cons (pe_glob (v := .ref (He.ga K "InvalidNumber")) (by rfl) T.g_InvalidNumber rfl) pa_nil))) (pa_cons (pe_callB call_isC (by rfl) T.n_isinstance PyProof.Rows.Boot.«isinstance» (pa_cons (pv 2) (pa_cons (pe_bltn (v := .ty "ValueError") (by rfl) T.n_ValueError PyProof.Rows.Boot.«ValueError» rfl) pa_nil))) (pa_cons (pe_callB call_isC (by rfl) T.n_isinstance PyProof.Rows.Boot.«isinstance» (pa_cons (pv 2) (pa_cons (pe_glob (v := .ref (He.ga K "InvalidPress")) (by rfl) T.g_InvalidPress rfl) pa_nil))) pa_nil)))))
      (pss_one (ps_ret (pe_tup (pa_cons (pe_op op_cat (pv 4) (pe_lst (pa_cons (pe_callB call_isC (by rfl) T.n_isinstance PyProof.Rows.Boot.«isinstance» (pa_cons (pv 2) (pa_cons (pe_glob (v := .ref (He.ga K "InvalidTick")) (by rfl) T.g_InvalidTick rfl) pa_nil))) pa_nil))) (pa_cons (pe_xk (pv 2)) pa_nil))))))))), ?_⟩
    refine ⟨(show 2 ≤ sizeLine by decide), fun p np => ⟨p, _, rfl, SqT.of upd_same, rfl, _, _, rfl, _, _, rfl, rfl, ?_⟩⟩
    have sp := new_same (o := .tup [.non, .non]) np
    have hd1 := dp_same sp _ _ hd
    refine ⟨_, rfl, b, rfl, ?_⟩
    cases b
    · refine iteF ⟨_, rfl, v, ps, rfl, hd1, hl, hm, fun u H1 s1 pos du => ⟨_, rfl, rfl, _, rfl, iteT ⟨_, rfl, (show 2 ≤ sizeLine by decide), fun q nq => kg _ _ ((sp.trans s1).trans (new_same nq)) pos (.tup (SqT.of upd_same) (.cons (.str _) (.cons (dp_same (new_same nq) _ _ du) .nil)))⟩⟩, fun H1 dx m s1 bad hdx => ?_⟩
      refine ⟨true, c0.game, fun _ ae hae => ⟨_, rfl, ?_⟩, fun q => Bool.noConfusion q⟩
      have ndx : dx ≠ ae := fun z => by rw [z, upd_same] at hae; cases hae
      have sx := new_same (o := .xd [(("value" : Str), .int m)]) hdx
      have sae := new_same (o := CxO (.ref (He.ga K "InvalidNumber")) (some dx) ae) hae
      have s9 := ((sp.trans s1).trans sx).trans sae
      have hAe : (upd (upd H1 dx (.xd [(("value" : Str), .int m)])) ae (CxO (.ref (He.ga K "InvalidNumber")) (some dx) ae)) ae = some (CxO (.ref (He.ga K "InvalidNumber")) (some dx) ae) := upd_same
      have hDx := sae _ _ (show (upd H1 dx (.xd [(("value" : Str), .int m)])) dx = some (.xd [(("value" : Str), .int m)]) from upd_same)
      refine ⟨_, rfl, rfl, _, rfl, ite2 (fun z => nomatch (of_decide_eq_true z)) (fun _ => ?_)⟩
      refine ⟨_, rfl, He.ga K "InvalidNumber", ae, dx, _, _, true, _, rfl, c0.exc, hAe, hDx, .own _, num_is T.ex, _, rfl, He.ga K "InvalidNumber", ae, dx, _, _, true, _, rfl, c0.exc, hAe, hDx, .ty _, c0.ve, _, rfl, He.ga K "InvalidNumber", ae, dx, _, _, false, _, rfl, c0.exc, hAe, hDx, .own _, num_not T.ex (y := "InvalidPress") (by decide +kernel), (show 3 ≤ sizeLine by decide), fun kp nkp => ?_⟩
      have s10 := new_same (o := .lst [.bl true, .bl true, .bl false]) nkp
      refine ⟨_, rfl, _, rfl, He.ga K "InvalidNumber", ae, dx, _, _, false, _, rfl, c0.exc, s10 _ _ hAe, s10 _ _ hDx, .own _, num_not T.ex (y := "InvalidTick") (by decide +kernel), (show 1 ≤ sizeLine by decide), fun lp nlp => ?_⟩
      have s11 := new_same (o := .lst [.bl false]) nlp
      refine ⟨kp, lp, _, _, rfl, rfl, s11 _ _ upd_same, upd_same, (show 4 ≤ sizeLine by decide), fun cp ncp => ?_⟩
      have s12 := new_same (o := .lst ([.bl true, .bl true, .bl false] ++ [.bl false])) ncp
      refine ⟨_, rfl, ae, He.ga K "InvalidNumber", dx, _, _, rfl, s12 _ _ (s11 _ _ (s10 _ _ hAe)), c0.xf, c0.noV, s12 _ _ (s11 _ _ (s10 _ _ hDx)), rfl, (show 2 ≤ sizeLine by decide), fun q nq => ?_⟩
      have s13 := new_same (o := .tup [.ref cp, .int m]) nq
      exact kbd _ _ m ((((s9.trans s10).trans s11).trans s12).trans s13) bad (.tup (SqT.of upd_same) (.cons (.lst (SqL.of (s13 _ _ upd_same)) (.cons (.bl _) (.cons (.bl _) (.cons (.bl _) (.cons (.bl _) .nil))))) (.cons (.int _) .nil)))
    · refine iteT ⟨_, rfl, v, ps, rfl, hd1, hl, hm, fun u H1 s1 pos du => ⟨_, rfl, rfl, _, rfl, iteT ⟨_, rfl, (show 2 ≤ sizeLine by decide), fun q nq => kg _ _ ((sp.trans s1).trans (new_same nq)) pos (.tup (SqT.of upd_same) (.cons (.str _) (.cons (dp_same (new_same nq) _ _ du) .nil)))⟩⟩, fun H1 dx m s1 bad hdx => ?_⟩
      refine ⟨true, c0.game, fun _ ae hae => ⟨_, rfl, ?_⟩, fun q => Bool.noConfusion q⟩
      have ndx : dx ≠ ae := fun z => by rw [z, upd_same] at hae; cases hae
      have sx := new_same (o := .xd [(("value" : Str), .int m)]) hdx
      have sae := new_same (o := CxO (.ref (He.ga K "InvalidNumber")) (some dx) ae) hae
      have s9 := ((sp.trans s1).trans sx).trans sae
      have hAe : (upd (upd H1 dx (.xd [(("value" : Str), .int m)])) ae (CxO (.ref (He.ga K "InvalidNumber")) (some dx) ae)) ae = some (CxO (.ref (He.ga K "InvalidNumber")) (some dx) ae) := upd_same
      have hDx := sae _ _ (show (upd H1 dx (.xd [(("value" : Str), .int m)])) dx = some (.xd [(("value" : Str), .int m)]) from upd_same)
      refine ⟨_, rfl, rfl, _, rfl, ite2 (fun z => nomatch (of_decide_eq_true z)) (fun _ => ?_)⟩
      refine ⟨_, rfl, He.ga K "InvalidNumber", ae, dx, _, _, true, _, rfl, c0.exc, hAe, hDx, .own _, num_is T.ex, _, rfl, He.ga K "InvalidNumber", ae, dx, _, _, true, _, rfl, c0.exc, hAe, hDx, .ty _, c0.ve, _, rfl, He.ga K "InvalidNumber", ae, dx, _, _, false, _, rfl, c0.exc, hAe, hDx, .own _, num_not T.ex (y := "InvalidPress") (by decide +kernel), (show 3 ≤ sizeLine by decide), fun kp nkp => ?_⟩
      have s10 := new_same (o := .lst [.bl true, .bl true, .bl false]) nkp
      refine ⟨_, rfl, _, rfl, He.ga K "InvalidNumber", ae, dx, _, _, false, _, rfl, c0.exc, s10 _ _ hAe, s10 _ _ hDx, .own _, num_not T.ex (y := "InvalidTick") (by decide +kernel), (show 1 ≤ sizeLine by decide), fun lp nlp => ?_⟩
      have s11 := new_same (o := .lst [.bl false]) nlp
      refine ⟨kp, lp, _, _, rfl, rfl, s11 _ _ upd_same, upd_same, (show 4 ≤ sizeLine by decide), fun cp ncp => ?_⟩
      have s12 := new_same (o := .lst ([.bl true, .bl true, .bl false] ++ [.bl false])) ncp
      refine ⟨_, rfl, ae, He.ga K "InvalidNumber", dx, _, _, rfl, s12 _ _ (s11 _ _ (s10 _ _ hAe)), c0.xf, c0.noV, s12 _ _ (s11 _ _ (s10 _ _ hDx)), rfl, (show 2 ≤ sizeLine by decide), fun q nq => ?_⟩
      have s13 := new_same (o := .tup [.ref cp, .int m]) nq
      exact kbd _ _ m ((((s9.trans s10).trans s11).trans s12).trans s13) bad (.tup (SqT.of upd_same) (.cons (.lst (SqL.of (s13 _ _ upd_same)) (.cons (.bl _) (.cons (.bl _) (.cons (.bl _) (.cons (.bl _) .nil))))) (.cons (.int _) .nil)))
end
end K61
set_option maxRecDepth 100000
set_option maxHeartbeats 4000000
/-! The law: packed and unpacked. -/
namespace K61
open PySem PySem.Spec PyProof.Rows L2 KF KD
theorem dpa_take {K : PySem.W.Frag} {H : Hp} : ∀ (k : Nat) {vs : List V} {ds : List PyData}, DpAll K H vs ds → DpAll K H (vs.take k) (ds.take k)
  | 0, _, _, _ => .nil
  | _ + 1, _, _, .nil => .nil
  | k + 1, _, _, .cons a t => .cons a (dpa_take k t)
theorem dpa_drop {K : PySem.W.Frag} {H : Hp} : ∀ (k : Nat) {vs : List V} {ds : List PyData}, DpAll K H vs ds → DpAll K H (vs.drop k) (ds.drop k)
  | 0, _, _, h => h
  | _ + 1, _, _, .nil => .nil
  | k + 1, _, _, .cons _ t => dpa_drop k t
theorem badP_no {ps : List Pc} {m : Int} (h : BadP ps m) (hp : ∀ e ∈ ps, 1 ≤ e.1) : False := by
  obtain ⟨pre, q, suf, e, h1, _⟩ := h
  have := hp (m, q) (by rw [e]; simp)
  have h3 : 1 ≤ m := this
  omega
theorem badP_uniq {ps : List Pc} {m m' : Int} (h : BadP ps m) (h' : BadP ps m') : m = m' := by
  obtain ⟨pre, q, suf, e, h1, h2⟩ := h
  obtain ⟨pre', q', suf', e', h1', h2'⟩ := h'
  rw [e] at e'
  clear e
  induction pre generalizing pre' with
  | nil =>
    cases pre' with
    | nil =>
      rw [List.nil_append, List.nil_append] at e'
      injection e' with e1 e2
      exact (Prod.mk.inj e1).1
    | cons x pre' =>
      rw [List.nil_append, List.cons_append] at e'
      injection e' with e1 e2
      have := h2' x List.mem_cons_self
      rw [← e1] at this
      have h3 : 1 ≤ m := this
      omega
  | cons x pre ih =>
    cases pre' with
    | nil =>
      rw [List.nil_append, List.cons_append] at e'
      injection e' with e1 e2
      have := h2 x List.mem_cons_self
      rw [e1] at this
      have h3 : 1 ≤ m' := this
      omega
    | cons y pre' =>
      rw [List.cons_append, List.cons_append] at e'
      injection e' with e1 e2
      exact ih (fun e he => h2 e (List.mem_cons_of_mem _ he)) pre' e2 (fun e he => h2' e (List.mem_cons_of_mem _ he))
theorem al_rpy (n : Nat) {r : List Int} (h : r.length ≤ 1100) : AlOk (n + 1) (rpy r) := ⟨by rw [List.length_map]; exact h, fun e he => by
  obtain ⟨i, _, rfl⟩ := List.mem_map.mp he
  cases n <;> trivial⟩
theorem al_pcy {e : Pc} (h : e.2.length ≤ 1100) : AlOk 2 (pcy e) := ⟨(show 2 ≤ 1100 by decide), fun q hq => by
  rcases List.mem_cons.mp hq with rfl | hq
  · trivial
  · rw [List.mem_singleton.mp hq]
    exact al_rpy 0 h⟩
theorem al_pcs {ps : List Pc} (h : ps.length ≤ 1100) (h2 : ∀ e ∈ ps, e.2.length ≤ 4) : AlOk 3 (.tuple (ps.map pcy)) := ⟨by rw [List.length_map]; exact h, fun q hq => by
  obtain ⟨e, he, rfl⟩ := List.mem_map.mp hq
  exact al_pcy (by have := h2 e he; omega)⟩
theorem al_rps {rs : List (List Int)} (n : Nat) (h : rs.length ≤ 1100) (h2 : ∀ e ∈ rs, e.length ≤ 4) : AlOk (n + 2) (.tuple (rs.map rpy)) := ⟨by rw [List.length_map]; exact h, fun q hq => by
  obtain ⟨e, he, rfl⟩ := List.mem_map.mp hq
  exact al_rpy n (by have := h2 e he; omega)⟩
theorem al_told {rs : List (List Int)} (h : rs.length ≤ 1100) (h2 : ∀ e ∈ rs, e.length ≤ 4) : AlOk 3 (dTold rs) := ⟨(show 2 ≤ 1100 by decide), fun q hq => by
  rcases List.mem_cons.mp hq with rfl | hq
  · trivial
  · rw [List.mem_singleton.mp hq]
    exact al_rps 0 h h2⟩
theorem al_bad (m : Int) : AlOk 3 (dBad m) := ⟨(show 2 ≤ 1100 by decide), fun q hq => by
  rcases List.mem_cons.mp hq with rfl | hq
  · refine ⟨(show 4 ≤ 1100 by decide), fun e he => ?_⟩
    simp only [List.mem_cons, List.not_mem_nil, or_false] at he
    rcases he with rfl | rfl | rfl | rfl <;> trivial
  · rw [List.mem_singleton.mp hq]
    trivial⟩
theorem catA_dp {K : PySem.W.Frag} {H : Hp} {x y : V} {ds es : List PyData} {Q : VK} (hx : Dp K H x (.tuple ds)) (hy : Dp K H y (.tuple es)) (hl : ds.length + es.length ≤ 10000) (q : ∀ u H', Same H H' → Dp K H' u (.tuple (ds ++ es)) → Q u H') : rCatA K x y H Q := by
  cases hx with
  | @tup a xs _ s1 d1 =>
    cases hy with
    | @tup b ys _ s2 d2 =>
      have l1 := dpa_len d1
      have l2 := dpa_len d2
      refine ⟨a, b, xs, ys, rfl, rfl, s1, s2, Nat.le_trans (show _ ≤ 10000 by omega) (by decide), fun e => ?_, fun _ e => ?_, fun _ _ p np => ?_⟩
      · subst e
        cases d1
        exact q _ H (Same.refl H) (.tup s2 d2)
      · subst e
        cases d2
        refine q _ H (Same.refl H) ?_
        rw [List.append_nil]
        exact .tup s1 d1
      · have s := new_same (o := .tup (xs ++ ys)) np
        exact q _ _ s (.tup (SqT.of upd_same) (dpa_app (dpa_same s _ _ d1) (dpa_same s _ _ d2)))
theorem rep01_dp {K : PySem.W.Frag} {H : Hp} {x : V} {k : Int} {es : List PyData} {Q : VK} (hx : Dp K H x (.tuple es)) (he : es ≠ []) (hk : 0 ≤ k ∧ k < 2) (q : ∀ u H', Same H H' → Dp K H' u (.tuple (if k = 1 then es else [])) → Q u H') : rRep01 K x (.int k) H Q := by
  cases hx with
  | @tup a xs _ s1 d1 =>
    refine ⟨a, k, xs, rfl, rfl, s1, fun e => ?_, by omega, fun e => ?_, fun e p np => ?_⟩
    · subst e
      cases d1
      exact he rfl
    · refine q _ H (Same.refl H) ?_
      rw [if_pos e]
      exact .tup s1 d1
    · refine q _ _ (new_same np) ?_
      rw [if_neg (by omega)]
      exact .tup (SqT.of upd_same) .nil
theorem passF {X : Cx} (σ : L2.St) : PassesAt (L2.CX X.prog X.w) X σ (fun _ _ _ => False) := fun _ _ _ e s' I c => by
  obtain ⟨_, _, _, _, _, _, _, _, _, _, _, _, h⟩ := c
  exact h.elim
section
variable {P : Program} {w : World} {K : PySem.W.Frag} {mg : Str → Option Value} {base : Heap}
def spRi : Sp := fun vs H Q _ => ∃ (d : Addr) (n : Nat), vs = [.ref d] ∧ Dk H d (n + 1000) ∧ ∀ H', Frm d H H' → Dk H' d n → Q (.bl true) H'
theorem scRi : FnScope ["well", "pieces", "turns", "many", "presses", "turn", "due", "by_name", "wrong", "spot", "bad"] ["well"] (defScope s_law_right) := ⟨rfl, rfl, rfl, by decide +kernel, rfl, by decide +kernel, by decide +kernel⟩
theorem ok_law_right (T : Txt K w mg) : FnOk P w K mg base CX0 6 (He.fAd K ("_law_right", none)) (fdAt K (He.fAd K ("_law_right", none))) ["well"] spRi := by
  have kb : KBinds K (fdAt K (He.fAd K ("packed", none))) ["rows"] ["rows"] kR kR := kb_rev T.F_packed (by decide) fun _ _ _ _ _ _ ws hl => match ws, hl with | [_], _ => rfl
  refine T.F_law_right.ok scRi (fun vs H Q E h => ?_) (fun cdv A outer s H vs Q E hr h => ?_)
  · obtain ⟨d, n, rfl, _⟩ := h
    rfl
  · obtain ⟨d, n, rfl, hD, kk⟩ := h
    have hr3 : Room 3 _ := hr.mono (by decide)
    refine ⟨_, PSs.nox (pss_cons (ps_par (i := 1) (j := 2) (by rfl) scRi.nd rfl rfl (by decide) rfl rfl (pa_cons (pe_call (ok_law_pieces T) (hr.mono (by decide)) (by rfl) T.g_law_pieces (T.F_law_pieces).kp T.b_law_pieces .nil pass0 (pa_cons (pv 0) pa_nil)) (pa_cons (pe_tup pa_nil) pa_nil)) (by rfl))
      (pss_cons (ps_for PassesOwn.never rfl (pi_list (pv 1)) (pg_tup (by rfl) (pgs_cons (pg_name (i := 3) scRi.nd rfl (Or.inl rfl)) (pgs_cons (pg_name (i := 4) scRi.nd rfl (Or.inl rfl)) pgs_nil))) (pss_one (ps_for PassesOwn.never rfl (pi_range1 (by rfl) T.n_range (pa_cons (pv 3) pa_nil)) (pg_name (i := 5) scRi.nd rfl (Or.inl rfl)) (pss_one (ps_set (i := 2) scRi.nd rfl (Or.inl rfl) (pe_op (show OpR _ _ (rCatA K) from op_catA) (pv 2) (pe_tup (pa_cons (pv 4) pa_nil))))))))
      (pss_cons (ps_par (i := 6) (j := 7) (by rfl) scRi.nd rfl rfl (by decide) rfl rfl (pa_cons (pe_call (ok_law_together T) (hr.mono (by decide)) (by rfl) T.g_law_together (T.F_law_together).kp T.b_law_together .nil pass0 (pa_cons (pv 1) pa_nil)) (pa_cons (pe_cmpR op_eq (pe_call (ok_law_draw T) (hr.mono (by decide)) (by rfl) T.g_law_draw (T.F_law_draw).kp T.b_law_draw .nil pass0 (pa_cons (pv 0) (pa_cons pe_int pa_nil))) pe_int (nomark _)) pa_nil)) (by rfl))
      (pss_cons (ps_if (pt_not (pt_val (pe_call (ok_law_same T 4) (hr.mono (by omega)) (by rfl) T.g_law_same (T.F_law_same).kp T.b_law_same .nil pass0 (pa_cons (pe_ifExp (pt_val (pv 7)) (KG.pe_callKw (ok_packed T) (hr.mono (by decide)) (by rfl) T.g_packed T.F_packed.kp kb pass0 (pk_cons (pv 2) pk_nil)) (pe_call (ok_packed T) (hr.mono (by decide)) (by rfl) T.g_packed (T.F_packed).kp T.b_packed .nil pass0 (pa_cons (pv 2) pa_nil))) (pa_cons (pv 6) pa_nil))))) (pss_one (ps_ret pe_bl)) pss_nil)
      (pss_cons (ps_par (i := 8) (j := 9) (by rfl) scRi.nd rfl rfl (by decide) rfl rfl (pa_cons (pe_un un_neg (pe_call (ok_law_draw T) (hr.mono (by decide)) (by rfl) T.g_law_draw (T.F_law_draw).kp T.b_law_draw .nil pass0 (pa_cons (pv 0) (pa_cons (pe_ix (r := rIxL K) ix_list (pe_lst (pa_cons pe_int (pa_cons (pe_op op_pow pe_int pe_int) pa_nil))) (pe_call (ok_law_draw T) (hr.mono (by decide)) (by rfl) T.g_law_draw (T.F_law_draw).kp T.b_law_draw .nil pass0 (pa_cons (pv 0) (pa_cons pe_int pa_nil))) (fun _ _ => rfl)) pa_nil)))) (pa_cons (pe_call (ok_law_draw T) (hr.mono (by decide)) (by rfl) T.g_law_draw (T.F_law_draw).kp T.b_law_draw .nil pass0 (pa_cons (pv 0) (pa_cons (pe_op op_add (pe_callB (r := Evl.rLenS K) call_len_seq (by rfl) T.n_len PyProof.Rows.Boot.«len» (pa_cons (pv 1) pa_nil)) pe_int) pa_nil))) pa_nil)) (by rfl))
      (pss_cons (ps_set (i := 10) scRi.nd rfl (Or.inl rfl) (pe_op (show OpR _ _ (rCatA K) from op_catA) (pe_op (show OpR _ _ (rCatA K) from op_catA) (pe_op (show OpR _ _ (rCatA K) from op_catA) (pe_callTy call_tuple_of (by rfl) T.n_tuple PyProof.Rows.Boot.«tuple» (pa_cons (pe_slice sl_list (pv 1) po_none (po_some (pv 9))) pa_nil)) (pe_tup (pa_cons (pe_tup (pa_cons (pv 8) (pa_cons (pe_tup (pa_cons pe_int pa_nil)) pa_nil))) pa_nil))) (pe_callTy call_tuple_of (by rfl) T.n_tuple PyProof.Rows.Boot.«tuple» (pa_cons (pe_slice sl_list (pv 1) (po_some (pv 9)) po_none) pa_nil))) (pe_op (show OpR _ _ (rRep01 K) from op_rep01) (pe_tup (pa_cons (pe_tup (pa_cons (pe_op op_sub (pv 8) pe_int) (pa_cons (pe_tup (pa_cons pe_int pa_nil)) pa_nil))) pa_nil)) (pe_call (ok_law_draw T) (hr.mono (by decide)) (by rfl) T.g_law_draw (T.F_law_draw).kp T.b_law_draw .nil pass0 (pa_cons (pv 0) (pa_cons pe_int pa_nil))))))
      (pss_cons (ps_if (pt_not (pt_val (pe_call (ok_law_same T 4) (hr.mono (by omega)) (by rfl) T.g_law_same (T.F_law_same).kp T.b_law_same .nil pass0 (pa_cons (pe_call (ok_law_asked T) (hr.mono (by decide)) (by rfl) T.g_law_asked (T.F_law_asked).kp T.b_law_asked .nil pass0 (pa_cons (pv 10) (pa_cons (pv 7) pa_nil))) (pa_cons (pe_tup (pa_cons (pe_lst (pa_cons pe_bl (pa_cons pe_bl (pa_cons pe_bl (pa_cons pe_bl pa_nil))))) (pa_cons (pv 8) pa_nil))) pa_nil))))) (pss_one (ps_ret pe_bl)) pss_nil)
      (pss_one (ps_ret (pe_and (pe_call (ok_law_same T 4) (hr.mono (by omega)) (by rfl) T.g_law_same (T.F_law_same).kp T.b_law_same .nil pass0 (pa_cons (pe_call (ok_law_asked T) (hr.mono (by decide)) (by rfl) T.g_law_asked (T.F_law_asked).kp T.b_law_asked .nil pass0 (pa_cons (pe_callTy call_tuple_of (by rfl) T.n_tuple PyProof.Rows.Boot.«tuple» (pa_cons (pv 1) pa_nil)) (pa_cons (pv 7) pa_nil))) (pa_cons (pe_tup (pa_cons pe_str (pa_cons (pv 2) pa_nil))) pa_nil))) (pe_one (pe_call (ok_law_same T 4) (hr.mono (by omega)) (by rfl) T.g_law_same (T.F_law_same).kp T.b_law_same .nil pass0 (pa_cons (pe_callS (E := fun _ _ _ _ => False) (ok_unpacked T) hr3 (by rfl) T.g_unpacked T.F_unpacked.kp T.b_unpacked passF (pa_cons (pv 6) pa_nil)) (pa_cons (pv 2) pa_nil)))))))))))))), ?_⟩
    refine ⟨_, rfl, d, n + 800, rfl, hD, fun L xs ps H1 f1 D1 hL hLd dv hpl hok => ⟨(show 0 ≤ sizeLine by decide), fun T0 nT0 => ⟨_, _, rfl, ?_⟩⟩⟩
    have sT0 := new_same (o := .tup []) nT0
    have hxl := dpa_len dv
    rw [List.length_map] at hxl
    have hpos : ∀ e ∈ ps, 1 ≤ e.1 := fun e he => (hok e he).1
    have hfl : (flat ps).length ≤ 112 := Nat.le_trans (flat_len fun e he => (hok e he).2.1) (by omega)
    have hfr : ∀ r ∈ flat ps, r.length ≤ 4 := flat_row fun e he => (hok e he).2.2
    have htog := flat_tog ps [] hpos (fun e he => nomatch he)
    have hsm := sml_tog (acc := []) (B := 0) hok (fun e he => nomatch he) ⟨fun e he => (nomatch he), fun e he => (nomatch he)⟩ (by decide)
    have hgrp := grp_flat ps [] hpos
    dsimp only
    refine seq_cut (fun σ H2 => ∃ (v3 v4 v5 : Option V) (T : V), σ = [some (.ref d), some (.ref L), some T, v3, v4, v5, none, none, none, none, none] ∧ Dp K H2 T (.tuple ((flat ps).map rpy)) ∧ Same H1 H2) (fun σ H2 h => ?_) (fun R hR => ?_)
    rotate_left
    · refine ⟨_, rfl, L, rfl, ⟨_, sT0.seq (SqL.of hL)⟩, ?_⟩
      refine for_it (walk_list (K := K) (a := L) (xs := xs)) (fun i σ H' => ∃ (v3 v4 v5 : Option V) (T : V), σ = [some (.ref d), some (.ref L), some T, v3, v4, v5, none, none, none, none, none] ∧ Dp K H' T (.tuple ((flat (ps.take i)).map rpy)) ∧ Same H1 H') ⟨_, _, _, _, rfl, .tup (SqT.of upd_same) .nil, sT0⟩ (fun i σ H' _ h => h.choose_spec.choose_spec.choose_spec.choose_spec.2.2.seq (SqL.of hL)) (fun i x σ H' H2 hi h y => ?_) (fun σ H2 h => ?_)
      · obtain ⟨v3, v4, v5, T, rfl, dT, sm⟩ := h
        obtain ⟨rfl, hx⟩ := y
        have hir : i < ps.length := by omega
        have he : ps[i]? = some ps[i] := List.getElem?_eq_getElem hir
        obtain ⟨v, e1, d1⟩ := dpa_get dv (show (ps.map pcy)[i]? = some (pcy ps[i]) by rw [List.getElem?_map, he]; rfl)
        replace hx : xs[i]? = some x := hx
        rw [e1] at hx
        obtain rfl : v = x := Option.some.inj hx
        obtain ⟨p, y, rfl, sp, dy⟩ := dp_pc (dp_same sm _ _ d1)
        have hoki := hok ps[i] (List.getElem_mem hir)
        refine ⟨p, _, rfl, sp, rfl, _, _, rfl, _, _, rfl, rfl, ?_⟩
        refine ⟨_, rfl, ps[i].1, rfl, by omega, by omega, ?_⟩
        have hfi : (flat (ps.take i)).length ≤ 112 := Nat.le_trans (flat_len fun e he => (hok e (List.mem_of_mem_take he)).2.1) (by rw [List.length_take]; omega)
        refine for_range (lo := 0) (n := ps[i].1.toNat) (fun j σ H3 => ∃ (v5 : Option V) (T : V), σ = [some (.ref d), some (.ref L), some T, some (.int ps[i].1), some y, v5, none, none, none, none, none] ∧ Dp K H3 T (.tuple ((flat (ps.take i) ++ List.replicate j ps[i].2).map rpy)) ∧ Same H2 H3) ⟨_, _, rfl, by rw [List.replicate_zero, List.append_nil]; exact dT, Same.refl _⟩ (fun j σ H3 hj h => ?_) (fun σ H3 h => ?_)
        · obtain ⟨v5', T', rfl, dT', sm'⟩ := h
          refine ⟨_, rfl, _, rfl, (show 1 ≤ sizeLine by decide), fun q nq => ?_⟩
          have sq := new_same (o := .tup [y]) nq
          refine catA_dp (dp_same sq _ _ dT') (.tup (SqT.of upd_same) (.cons (dp_same sq _ _ (dp_same sm' _ _ dy)) .nil)) ?_ (fun u H5 s5 du => ⟨_, u, rfl, ?_, (sm'.trans sq).trans s5⟩)
          · rw [List.length_map, List.length_append, List.length_replicate]
            show _ + 1 ≤ 10000
            omega
          · rw [List.replicate_succ', ← List.append_assoc, List.map_append]
            exact du
        · obtain ⟨v5', T', rfl, dT', sm'⟩ := h
          refine ⟨_, _, _, T', rfl, ?_, sm.trans sm'⟩
          rw [List.take_add_one, he, flat_app]
          show Dp K H3 T' (.tuple ((flat (ps.take i) ++ flat [ps[i]]).map rpy))
          rw [flat_one]
          exact dT'
      · obtain ⟨v3, v4, v5, T, rfl, dT, sm⟩ := h
        have hf2 : ps.take xs.length = ps := List.take_of_length_le (by omega)
        rw [hf2] at dT
        exact hR _ _ ⟨_, _, _, T, rfl, dT, sm⟩
    obtain ⟨v3, v4, v5, T, rfl, dT, s12⟩ := h
    refine ⟨_, rfl, L, xs, ps, rfl, s12.seq (SqL.of hL), dpa_same s12 _ _ dv, by omega, fun due H3 s3 ddue => ⟨_, rfl, d, 2, n + 799, rfl, by decide, by decide, (D1.same s12).same s3, fun z H4 z0 z1 f4 D4 => ⟨by rfl, _, _, rfl, ?_⟩⟩⟩
    generalize decide (V.int z = V.int 0) = b
    obtain ⟨xd, hxd⟩ := (D1.same s12).same s3 |>.lst
    have t34 := f4.tf hxd
    have hL4 := f4 L _ hLd (s3 _ _ (s12 _ _ hL))
    have dv4 := dpa_nl t34 _ _ (nl_pcs _) (dpa_same s3 _ _ (dpa_same s12 _ _ dv))
    have dT4 := dp_nl t34 _ _ (show NL (.tuple ((flat ps).map rpy)) from nl_rps _) (dp_same s3 _ _ dT)
    have dd4 := dp_nl t34 _ _ (show NL (.tuple ((tog [] ps).map pcy)) from nl_pcs _) ddue
    have f04 : Frm d H H4 := ((f1.trans (Frm.of_same s12)).trans (Frm.of_same s3)).trans f4
    clear s12 dT hL dv ddue s3 f4 hxd t34 D1 f1 hD nT0 sT0
    dsimp only
    refine seq_cut (fun σ H5 => σ = [some (.ref d), some (.ref L), some T, v3, v4, v5, some due, some (.bl b), none, none, none] ∧ Same H4 H5) (fun σ H5 h => ?_) (fun R hR => ?_)
    rotate_left
    · refine ⟨_, rfl, b, rfl, ?_⟩
      cases b
      · refine iteF ⟨_, rfl, T, flat ps, rfl, dT4, by omega, fun u H5 s5 du => ⟨_, rfl, u, due, _, rfl, du, ?_, ?_, fun H6 s6 => ⟨true, rfl, iteF (hR _ _ ⟨rfl, s5.trans s6⟩)⟩⟩⟩
        · rw [hgrp]
          exact dp_same s5 _ _ dd4
        · rw [hgrp]
          exact al_pcs (by have := hsm.2; simp at this; omega) hsm.1.row
      · refine iteT ⟨_, rfl, T, flat ps, rfl, dT4, by omega, fun u H5 s5 du => ⟨_, rfl, u, due, _, rfl, du, ?_, ?_, fun H6 s6 => ⟨true, rfl, iteF (hR _ _ ⟨rfl, s5.trans s6⟩)⟩⟩⟩
        · rw [hgrp]
          exact dp_same s5 _ _ dd4
        · rw [hgrp]
          exact al_pcs (by have := hsm.2; simp at this; omega) hsm.1.row
    obtain ⟨rfl, s45⟩ := h
    replace dv4 : DpAll K H4 xs (ps.map pcy) := dv4
    replace dd4 : Dp K H4 due (.tuple ((tog [] ps).map pcy)) := dd4
    obtain ⟨xd, hxd⟩ := D4.lst
    have up : ∀ {Hk : Hp}, Frm d H4 Hk → Hk L = some (.lst xs) ∧ DpAll K Hk xs (ps.map pcy) ∧ Dp K Hk T (.tuple ((flat ps).map rpy)) ∧ Dp K Hk due (.tuple ((tog [] ps).map pcy)) := fun f =>
      ⟨f L _ hLd hL4, dpa_nl (f.tf hxd) _ _ (nl_pcs _) dv4, dp_nl (f.tf hxd) _ _ (show NL (.tuple ((flat ps).map rpy)) from nl_rps _) dT4, dp_nl (f.tf hxd) _ _ (show NL (.tuple ((tog [] ps).map pcy)) from nl_pcs _) dd4⟩
    have F5 := Frm.of_same (d := d) s45
    refine ⟨_, rfl, _, _, rfl, rfl, ⟨by decide, by decide, by decide⟩, (show 2 ≤ sizeLine by decide), fun p np => ⟨_, rfl, d, 2, n + 798, rfl, by decide, by decide, (D4.same s45).same (new_same np), fun x H6 x0 x1 f6 D6 => ?_⟩⟩
    have hpd := (D4.same s45).ne np
    obtain ⟨m, hm, hat⟩ := at_mem V.int [1, (10 : Int) ^ (6 : Int).toNat] x0 (by simpa using x1)
    have hm2 : 0 < m ∧ m ≤ 1000000 := by
      rw [show (10 : Int) ^ (6 : Int).toNat = 1000000 by decide] at hm
      simp at hm
      omega
    have F6 := (F5.trans (Frm.of_new np)).trans f6
    refine ⟨p, _, _, _, rfl, rfl, SqL.of (f6 p _ hpd upd_same), hat, d, m, n + 797, rfl, hm2.1, by omega, D6, fun w H7 w0 w1 f7 D7 => ?_⟩
    have F7 := F6.trans f7
    obtain ⟨hL7, _⟩ := up F7
    refine ⟨_, rfl, _, rfl, _, rfl, L, _, rfl, .inl (SqL.of hL7), _, _, rfl, rfl, d, (xs.length : Int) + 1, n + 796, rfl, by omega, by omega, D7, fun z2 H8 y0 y1 f8 D8 => ⟨_, _, rfl, ?_⟩⟩
    have F8 := F7.trans f8
    obtain ⟨k, rfl⟩ : ∃ k : Nat, z2 = (k : Int) := ⟨z2.toNat, by omega⟩
    have hk : k ≤ xs.length := by omega
    obtain ⟨hL8, dv8, _⟩ := up F8
    refine ⟨_, rfl, _, rfl, _, rfl, L, xs, rfl, SqL.of hL8, fun r1 nr1 => ?_⟩
    rw [cut_to hk]
    have sr1 := new_same (o := .lst (xs.take k)) nr1
    refine ⟨r1, _, rfl, .inl ⟨SqL.of upd_same, fun t1 nt1 => ?_⟩⟩
    have st1 := sr1.trans (new_same (o := .tup (xs.take k)) nt1)
    have dt1 := dpa_take k (dpa_same st1 _ _ dv8)
    refine ⟨_, rfl, (show 1 ≤ sizeLine by decide), fun a1 n1 => ⟨(show 2 ≤ sizeLine by decide), fun a2 n2 => ⟨(show 1 ≤ sizeLine by decide), fun a3 n3 => ?_⟩⟩⟩
    have e1 := new_same (o := .tup [.int 1]) n1
    have e2 := new_same (o := .tup [.int (-w), .ref a1]) n2
    have e3 := new_same (o := .tup [.ref a2]) n3
    refine catA_dp (ds := (ps.map pcy).take k) (es := [pcy (-w, [1])]) (.tup ((same_tf ((e1.trans e2).trans e3)).sq (SqT.of upd_same)) (dpa_same ((e1.trans e2).trans e3) _ _ dt1)) (.tup (SqT.of upd_same) (.cons (pc_dp (e := (-w, [1])) ((same_tf e3).sq (SqT.of upd_same)) (row_dp ((same_tf (e2.trans e3)).sq (SqT.of upd_same)))) .nil)) (by simp; omega) (fun u1 H9 s9 du1 => ?_)
    have F9 := F8.trans (Frm.of_same ((st1.trans ((e1.trans e2).trans e3)).trans s9))
    obtain ⟨hL9, dv9, _⟩ := up F9
    refine ⟨_, rfl, _, rfl, _, rfl, L, xs, rfl, SqL.of hL9, fun r2 nr2 => ?_⟩
    rw [cut_from hk]
    have sr2 := new_same (o := .lst (xs.drop k)) nr2
    refine ⟨r2, _, rfl, .inl ⟨SqL.of upd_same, fun t2 nt2 => ?_⟩⟩
    have st2 := sr2.trans (new_same (o := .tup (xs.drop k)) nt2)
    refine catA_dp (dp_same st2 _ _ du1) (.tup (SqT.of upd_same) (dpa_drop k (dpa_same st2 _ _ dv9))) (by simp; omega) (fun u2 H10 s10 du2 => ?_)
    have F10 := F9.trans (Frm.of_same (st2.trans s10))
    refine ⟨_, rfl, _, _, rfl, rfl, (show 1 ≤ sizeLine by decide), fun b1 m1 => ⟨(show 2 ≤ sizeLine by decide), fun b2 m2 => ⟨(show 1 ≤ sizeLine by decide), fun b3 m3 => ?_⟩⟩⟩
    have g1 := new_same (o := .tup [.int 2]) m1
    have g2 := new_same (o := .tup [.int (-w - 1), .ref b1]) m2
    have g3 := new_same (o := .tup [.ref b2]) m3
    have D10 := (((((((D8.same st1).same e1).same e2).same e3).same s9).same st2).same s10)
    refine ⟨_, rfl, d, 2, n + 795, rfl, by decide, by decide, ((D10.same g1).same g2).same g3, fun y H11 y2 y3 f11 D11 => ?_⟩
    have F11 := ((F10.trans (Frm.of_same ((g1.trans g2).trans g3))).trans f11)
    obtain ⟨xd2, hxd2⟩ := (((D10.same g1).same g2).same g3).lst
    have tf11 := f11.tf hxd2
    have ebs : (ps.map pcy).take k ++ [pcy (-w, [1])] ++ (ps.map pcy).drop k = (ps.take k ++ [(-w, [1])] ++ ps.drop k).map pcy := by
      rw [List.map_append, List.map_append, List.map_take, List.map_drop]
      rfl
    rw [ebs] at du2
    have du2' := dp_nl tf11 (PyData.tuple (List.map pcy (ps.take k ++ ([(-w, [1])] : List Pc) ++ ps.drop k))) u2 (show NL (PyData.tuple (List.map pcy (ps.take k ++ ([(-w, [1])] : List Pc) ++ ps.drop k))) from nl_pcs _) (dp_same ((g1.trans g2).trans g3) _ _ du2)
    refine rep01_dp (es := [pcy (-w - 1, [2])]) (.tup (tf11.sq (SqT.of upd_same)) (.cons (dp_nl tf11 _ _ (nl_pcy _) (pc_dp (e := (-w - 1, [2])) ((same_tf g3).sq (SqT.of upd_same)) (row_dp ((same_tf (g2.trans g3)).sq (SqT.of upd_same))))) .nil)) (by simp) ⟨y2, y3⟩ (fun u3 H12 s12 du3 => ?_)
    obtain ⟨tl, htl, htl2⟩ : ∃ tl : List Pc, (if y = 1 then [pcy (-w - 1, [2])] else []) = tl.map pcy ∧ (tl = [] ∨ tl = [(-w - 1, [2])]) := by
      split
      · exact ⟨_, rfl, .inr rfl⟩
      · exact ⟨[], rfl, .inl rfl⟩
    rw [htl] at du3
    have htl3 : tl.length ≤ 1 := by rcases htl2 with rfl | rfl <;> simp
    refine catA_dp (dp_same s12 _ _ du2') du3 (by simp; omega) (fun u4 H13 s13 du4 => ?_)
    have F13 := F11.trans (Frm.of_same (s12.trans s13))
    rw [← List.map_append] at du4
    generalize hbps : ps.take k ++ [(-w, [1])] ++ ps.drop k ++ tl = bps at du4
    have hbl : bps.length ≤ 20 := by
      rw [← hbps]
      simp
      omega
    have hbm : ∀ e ∈ bps, -1000001 ≤ e.1 ∧ e.1 ≤ 200 := fun e he => by
      rw [← hbps] at he
      rcases List.mem_append.mp he with he | he
      · rcases List.mem_append.mp he with he | he
        · rcases List.mem_append.mp he with he | he
          · have := hok e (List.mem_of_mem_take he)
            omega
          · rw [List.mem_singleton.mp he]
            show -1000001 ≤ -w ∧ -w ≤ 200
            omega
        · have := hok e (List.mem_of_mem_drop he)
          omega
      · rcases htl2 with rfl | rfl
        · cases he
        · rw [List.mem_singleton.mp he]
          show -1000001 ≤ -w - 1 ∧ -w - 1 ≤ 200
          omega
    have hbad : BadP bps (-w) := ⟨ps.take k, [1], ps.drop k ++ tl, by rw [← hbps]; simp, by omega, fun e he => hpos e (List.mem_of_mem_take he)⟩
    refine ⟨_, rfl, _, rfl, u4, b, bps, rfl, du4, hbl, hbm, fun _ _ _ pos => (badP_no hbad pos).elim, fun u5 H14 m s14 bd du5 => ?_⟩
    obtain rfl : m = -w := badP_uniq bd hbad
    refine ⟨(show 4 ≤ sizeLine by decide), fun c1 nc1 => ⟨_, rfl, (show 2 ≤ sizeLine by decide), fun c2 nc2 => ?_⟩⟩
    have i1 := new_same (o := .lst [.bl true, .bl true, .bl false, .bl false]) nc1
    have i2 := new_same (o := .tup [.ref c1, .int (-w)]) nc2
    refine ⟨u5, .ref c2, dBad (-w), rfl, dp_same (i1.trans i2) _ _ du5, .tup (SqT.of upd_same) (.cons (.lst (SqL.of (i2 _ _ upd_same)) (.cons (.bl _) (.cons (.bl _) (.cons (.bl _) (.cons (.bl _) .nil))))) (.cons (.int _) .nil)), al_bad _, fun H15 s15 => ⟨true, rfl, iteF ?_⟩⟩
    have F15 := F13.trans (Frm.of_same ((s14.trans (i1.trans i2)).trans s15))
    obtain ⟨hL15, dv15, dT15, dd15⟩ := up F15
    have hps20 : ∀ e ∈ ps, -1000001 ≤ e.1 ∧ e.1 ≤ 200 := fun e he => by
      have := hok e he
      omega
    refine ⟨_, rfl, L, xs, rfl, .inl ⟨SqL.of hL15, fun t3 nt3 => ?_⟩⟩
    have j1 := new_same (o := .tup xs) nt3
    refine ⟨_, rfl, .ref t3, b, ps, rfl, .tup (SqT.of upd_same) (dpa_same j1 _ _ dv15), by omega, hps20, fun u6 H16 s16 _ du6 => ?_, fun _ _ _ _ bd _ => (badP_no bd hpos).elim⟩
    have j16 := j1.trans s16
    refine ⟨_, rfl, (show 2 ≤ sizeLine by decide), fun q nq => ?_⟩
    have j2 := new_same (o := .tup [.str "told", T]) nq
    refine ⟨u6, .ref q, dTold (flat ps), rfl, dp_same j2 _ _ du6, .tup (SqT.of upd_same) (.cons (.str _) (.cons (dp_same (j16.trans j2) _ _ dT15) .nil)), al_told (by omega) hfr, fun H17 s17 => ⟨true, rfl, iteT ?_⟩⟩
    have j17 := (j16.trans j2).trans s17
    have hnum := hsm.1.num
    have hrow := hsm.1.row
    have hlen := hsm.2
    rw [List.length_nil] at hlen
    refine ⟨_, rfl, due, tog [] ps, rfl, dp_same j17 _ _ dd15, by omega, fun e he => by have := hnum e he; omega, fun u7 H18 s18 _ du7 => ?_, fun _ _ _ _ bd _ => (badP_no bd htog.2).elim⟩
    rw [htog.1, show flat ([] : List Pc) = [] from rfl, List.nil_append] at du7
    have j18 := j17.trans s18
    refine ⟨_, rfl, u7, T, _, rfl, du7, dp_same j18 _ _ dT15, al_rps 1 (by omega) hfr, fun H19 s19 => ?_⟩
    have j19 := j18.trans s19
    refine kk H19 ((f04.trans F15).trans (Frm.of_same j19)) ?_
    exact ((((((D11.same s12).same s13).same s14).same (i1.trans i2)).same s15).same j19).le (by omega)
end
end K61
set_option maxRecDepth 100000
set_option maxHeartbeats 4000000
/-! The law. -/
namespace K61
open PySem PySem.Spec PyProof.Rows L2 KF KD
section
variable {P : Program} {w : World} {K : PySem.W.Frag} {mg : Str → Option Value} {base : Heap}
def spLaw (K : PySem.W.Frag) : Sp := fun vs H Q _ => ∃ (a : Addr) (ns : List Int), vs = [.ref a] ∧ SqL K H a (ns.map V.int) ∧ ns.length ≤ 63 ∧ ∀ H', Q (.bl true) H'
theorem scLw : FnScope ["script", "place", "well", "turn"] ["script"] (defScope s_law) := ⟨rfl, rfl, rfl, by decide +kernel, rfl, by decide +kernel, by decide +kernel⟩
theorem ok_law (T : Txt K w mg) : FnOk P w K mg base CX0 7 (He.fAd K ("law", none)) (fdAt K (He.fAd K ("law", none))) ["script"] (spLaw K) := by
  refine T.F_law.ok scLw (fun vs H Q E h => ?_) (fun cdv A outer s H vs Q E hr h => ?_)
  · obtain ⟨a, ns, rfl, _⟩ := h
    rfl
  · obtain ⟨a, ns, rfl, hS, hln, kk⟩ := h
    refine ⟨_, PSs.nox (pss_cons (ps_for PassesOwn.never rfl (pi_range1 (by rfl) T.n_range (pa_cons (pe_callB (call_max2 rfl) (by rfl) T.n_max PyProof.Rows.Boot.«max» (pa_cons pe_int (pa_cons (pe_callB (call_min2 rfl) (by rfl) T.n_min PyProof.Rows.Boot.«min» (pa_cons pe_int (pa_cons (pe_callB (r := Evl.rLenS K) call_len_seq (by rfl) T.n_len PyProof.Rows.Boot.«len» (pa_cons (pv 0) pa_nil)) pa_nil))) pa_nil))) pa_nil)) (pg_name (i := 1) scLw.nd rfl (Or.inl rfl)) (pss_cons (ps_set (i := 2) scLw.nd rfl (Or.inl rfl) (pe_call (ok_law_well T) (hr.mono (by decide)) (by rfl) T.g_law_well (T.F_law_well).kp T.b_law_well .nil pass0 (pa_cons (pv 0) (pa_cons (pv 1) pa_nil))))
      (pss_one (ps_for PassesOwn.never rfl (pi_range1 (by rfl) T.n_range (pa_cons pe_int pa_nil)) (pg_name (i := 3) scLw.nd rfl (Or.inl rfl)) (pss_one (ps_if (pt_not (pt_val (pe_call (ok_law_right T) (hr.mono (by decide)) (by rfl) T.g_law_right (T.F_law_right).kp T.b_law_right .nil pass0 (pa_cons (pv 2) pa_nil)))) (pss_one (ps_ret pe_bl)) pss_nil))))))
      (pss_one (ps_ret pe_bl))), ?_⟩
    obtain ⟨M, hM, hM6⟩ : ∃ M : Int, M = (if (if (((ns.map V.int).length : Nat) : Int) < 20 then (((ns.map V.int).length : Nat) : Int) else 20) > 2 then (if (((ns.map V.int).length : Nat) : Int) < 20 then (((ns.map V.int).length : Nat) : Int) else 20) else 2) ∧ 0 ≤ M ∧ M ≤ 20 := by
      refine ⟨_, rfl, ?_⟩
      constructor
      · split
        · omega
        · omega
      · split
        · split <;> omega
        · omega
    refine ⟨_, rfl, a, _, rfl, .inl hS, _, _, rfl, _, _, rfl, M, by rw [hM], by omega, by omega, ?_⟩
    refine for_range (lo := 0) (n := M.toNat) (fun i σ H' => ∃ (v1 v2 v3 : Option V), σ = [some (.ref a), v1, v2, v3] ∧ Same H H') ⟨_, _, _, rfl, Same.refl _⟩ (fun i σ H0 hi hPv => ?_) (fun σ H0 hPv => kk H0)
    obtain ⟨v1, v2, v3, rfl, sH⟩ := hPv
    have hi6 : i < 20 := by omega
    refine ⟨_, rfl, _, rfl, a, ns, i, by rw [Int.zero_add]; rfl, sH.seq hS, by omega, by omega, fun d H1 s1 n1 D1 => ?_⟩
    refine ⟨3, rfl, by decide, by decide, ?_⟩
    refine for_range (lo := 0) (n := 3) (fun j σ H' => ∃ (v1 v3 : Option V), σ = [some (.ref a), v1, some (.ref d), v3] ∧ Same H0 H' ∧ Dk H' d (900000000000 - 1000 * j)) ⟨_, _, rfl, s1, D1⟩ (fun j σ H4 hj h => ?_) (fun σ H4 h => ?_)
    · obtain ⟨w1, w3, rfl, s4, D4⟩ := h
      exact ⟨_, rfl, d, 900000000000 - 1000 * (j + 1), rfl, D4.le (by omega), fun H5 f5 D5 => ⟨true, rfl, iteF ⟨_, _, rfl, frm_same s4 n1 f5, D5⟩⟩⟩
    · obtain ⟨w1, w3, rfl, s4, D4⟩ := h
      exact ⟨_, _, _, rfl, sH.trans s4⟩
end
end K61
set_option maxRecDepth 100000
set_option maxHeartbeats 0
open PySem PySem.W PySem.Calls PyProof.Rows
set_option maxHeartbeats 0 in
theorem PySem.Challenge.cw_latepresses_k61_packed_holds : PySem.Challenge.rw_latepresses_k61_packed.Holds := by
  w_on; o_law
  refine HandSHeadRun.head_any (r := K61.R) (q := view K61.R.prog [16]) (H := K61.hk) (ob := K61.ob) (M := 20000) (loose := K61.loose) (d := HandSHeadRun.topDef K61.R.prog 16) (kwd := []) K61.ob_eq
    (by kernel_rfl) (fun s => by kernel_rfl) K61.run (by kernel_rfl) (by kernel_rfl) (by kernel_rfl) (by rfl) (by first | assumption | decide +kernel) (by decide +kernel) ⟨rfl, rfl, rfl, rfl, rfl, by decide +kernel⟩ ?hw ?hc
  case hw => w_witness2
  case hc =>
    refine L2.walk_ofE (l := PySem.Challenge.rw_latepresses_k61_packed) (n := 63) (k := 7) (x := "script") (CX := L2.CX0) rfl (by decide) (by kernel_rfl) ⟨rfl, by decide, by decide⟩ ?F (fun _ _ _ _ z => z)
    intro w mg fa h Y G hmg0
    obtain ⟨K, KX, c⟩ := Y
    have hmg : mg ("law" : PySem.Str) = some (.ref fa) := by
      have e : (HandSHeadRun.topDef K61.R.prog 16).name = ("law" : PySem.Str) := by kernel_rfl
      rw [← e]
      exact hmg0
    have T := K61.txt_of KX G c
    have e := hmg.symm.trans T.g_law
    cases e
    exact ⟨K, K61.fdAt K (He.fAd K ("law", none)), K61.spLaw K, KX, fun s v => L2.FunD.bindsA (ps := ["script"]) T.F_law (fun _ _ _ _ _ _ us hl => match us, hl with | [_], _ => rfl) s [v] rfl, fun H a ns hl _ hS => ⟨a, ns, rfl, hS, hl, fun _ => rfl⟩, fun base _ _ => K61.ok_law T⟩
#print axioms PySem.Challenge.cw_latepresses_k61_packed_holds
